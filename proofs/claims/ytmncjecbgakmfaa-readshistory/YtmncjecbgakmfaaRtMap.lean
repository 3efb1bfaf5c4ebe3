/- A map that keeps touches, in memory; no function of the program. -/
import Derived.Test.YtmncjecbgakmfaaRtState
import Derived.Maps.OwnSet
import Derived.Maps.AppendAt
import Derived.DeepKeys5
namespace Go.Proofs.Ytmncjecbgakmfaa
open Go.RowKit Go.Maps
set_option linter.unusedVariables false
set_option linter.unusedSimpArgs false
set_option maxRecDepth 100000

/-- Whether a touch is among these. -/
def hasL (L : List Tc) (t : Tc) : Bool := L.any (tcEq t)
theorem hasL_iff {L : List Tc} {t : Tc} : hasL L t = true ↔ t ∈ L := by
  unfold hasL
  rw [List.any_eq_true]
  exact ⟨fun ⟨x, hx, e⟩ => by rw [tcEq_iff.1 e]; exact hx, fun h => ⟨t, h, tcEq_self t⟩⟩

/-- Whatever value, as an element of a map. -/
def hR (v : Value) : Option (DataW Value × List MemPlace) := some (.held v, [])
def kyT (p : Tc) : Lit := .string (keyBytes [.int .i64 p.kind, .int .u32 p.ino, .string p.name.data.toList, .int .i64 p.lo, .int .i64 p.hi])
theorem tcLaid : laidOutB Try.prog = true := by kernel_rfl
theorem tcWide : (match Try.prog.underlying 24 with | some (.array _ _) | some (.struct _) => true | _ => false) = true := by rw [Try.underlying24]
theorem keyedT : Keyed Try.prog 24 := Keyed.of_law (deep_law_laid tcLaid (m := 2) (by omega) (of_decide_eq_true (by kernel_rfl)) (by kernel_rfl) tcWide)
theorem lits_tc {p : Tc} (h : TcOk p) (d : Nat) : Try.prog.keyLits (d + 2) 24 (tcC p).toList = some [.int .i64 p.kind, .int .u32 p.ino, .string p.name.data.toList, .int .i64 p.lo, .int .i64 p.hi] := by
  have hc : Try.prog.cellsOf 24 = 5 := by kernel_rfl
  have h22 : Try.prog.cellsOf 22 = 1 := by kernel_rfl
  have h3 : Try.prog.cellsOf 3 = 1 := by kernel_rfl
  have h9 : Try.prog.cellsOf 9 = 1 := by kernel_rfl
  have w1 : (Lit.int .i64 p.kind).wf = true := WalkArith.wf_i64 ⟨h.k0, h.k1⟩
  have w2 : (Lit.int .u32 p.ino).wf = true := WalkArith.wf_u32 ⟨h.i0, h.i1⟩
  have w3 : (Lit.int .i64 p.lo).wf = true := WalkArith.wf_i64 ⟨h.l0, h.l1⟩
  have w4 : (Lit.int .i64 p.hi).wf = true := WalkArith.wf_i64 ⟨h.h0, h.h1⟩
  have hn := h.n1
  unfold Program.keyLits
  simp only [Try.underlying24, tcC, hc]
  simp [Program.keyLits, Try.underlying22, Try.underlying3, Try.underlying9, h22, h3, h9, w1, w2, w3, w4, hn]
theorem key_tc {p : Tc} (h : TcOk p) : keyOf Try.prog 24 (.agg (tcC p)) = some (kyT p) := by
  have h1 : (Try.prog.keyType 24 && (Value.agg (tcC p)).formed Try.prog 24) = true := by
    have a : Try.prog.keyType 24 = true := by kernel_rfl
    have hc : Try.prog.cellsOf 24 = 5 := by kernel_rfl
    rw [a]
    simp [tcC, Value.formed, Try.underlying24, hc]
  have h2 : Try.prog.types.size + 1 = (Try.prog.types.size - 1) + 2 := by
    have : 2 ≤ Try.prog.types.size := of_decide_eq_true (by kernel_rfl)
    omega
  have h3 := lits_tc h (Try.prog.types.size - 1)
  rw [← h2] at h3
  unfold keyOf
  rw [Try.underlying24]
  dsimp only
  rw [if_pos h1]
  show Option.map _ (Try.prog.keyLits (Try.prog.types.size + 1) 24 (tcC p).toList) = _
  rw [h3]
  rfl
theorem kyT_inj {p q : Tc} (hp : TcOk p) (hq : TcOk q) (h : kyT p = kyT q) : p = q := by
  have a := key_tc hp
  have b := key_tc hq
  rw [← h] at b
  have e := keyedT.inj a b
  obtain ⟨k, i, s, l, u⟩ := p
  obtain ⟨k', i', s', l', u'⟩ := q
  simp only [tcC, Value.agg.injEq, Array.mk.injEq, List.cons.injEq, Value.int.injEq, Value.string.injEq, true_and, and_true] at e
  obtain ⟨e1, e2, e3, e4, e5⟩ := e
  rw [e1, e2, e3, e4, e5]
theorem kyT_str (p : Tc) : WideAt.IsKeyLit (kyT p) := trivial

def entT (c : Tc) : Lit × DataW Value := (kyT c, .held (.agg #[]))
/-- The block 'b' is a map that has just the touches L. -/
def SpAt (w : World) (b : Nat) (L : List Tc) : Prop := ∃ es, w.ownsMap Try.prog 24 hR b L.length (.map es) ∧ es.Perm (L.map entT)

theorem own_exact {w : World} {P : Program} {k : TypeId} {R : Value → Option (DataW Value × List MemPlace)} {b n : Nat} {D : DataW Value} (h : w.ownsMap P k R b n D) : w.ownsMap P k R b (Maps.size D) D := by
  obtain ⟨es, cl, hb, F, hs, rfl⟩ := h
  exact ⟨es, cl, hb, F, by simp [Maps.size, length_sorted], rfl⟩
theorem SpAt.keep {w w' : World} {b : Nat} {L : List Tc} (h : SpAt w b L) (hb : w'.heap[b]? = w.heap[b]?) : SpAt w' b L := by
  obtain ⟨es, ⟨e, cl, h1, h2⟩, h3⟩ := h
  exact ⟨es, ⟨e, cl, hb.trans h1, h2⟩, h3⟩
theorem SpAt.isMap {w : World} {b : Nat} {L : List Tc} (h : SpAt w b L) : ∃ e cl, w.heap[b]? = some (.map e cl) := by
  obtain ⟨es, ⟨e, cl, h1, h2⟩, h3⟩ := h
  exact ⟨e, cl, h1⟩
theorem SpAt.lt {w : World} {b : Nat} {L : List Tc} (h : SpAt w b L) : b < w.heap.size := by
  obtain ⟨e, cl, h1⟩ := h.isMap
  exact (Array.getElem?_eq_some_iff.1 h1).1
theorem SpAt.made (w : World) : SpAt (w.alloc (.map #[] 0)) w.heap.size [] := ⟨[], World.ownsMap_made w _ _ _, List.Perm.refl _⟩
theorem same_key {p q : Lit} (hq : WideAt.IsKeyLit q) : p.sameKey q = true ↔ p = q := ⟨WideAt.sameKey_eq, fun e => by rw [e]; exact WideAt.sameKey_self hq⟩
theorem zeroU (w : World) : (zeroValue 62).run Try.prog w = .ok (.agg #[]) w := by
  have h : (Try.prog.info? 62).map (fun i => i.zero) = some (some (.agg #[])) := by kernel_rfl
  cases hi : Try.prog.info? 62 with
  | none => rw [hi] at h; cases h
  | some i =>
    rw [hi] at h
    simp only [Option.map_some, Option.some.injEq] at h
    simp [zeroValue, typeInfo, hi, h]

theorem es_in {es : List (Lit × DataW Value)} {L : List Tc} (hp : es.Perm (L.map entT)) (hL : ∀ t ∈ L, TcOk t) {p : Tc} (hpl : TcOk p) : (es.any fun x => x.1.sameKey (kyT p)) = hasL L p := by
  rw [Bool.eq_iff_iff, List.any_eq_true, hasL_iff]
  constructor
  · rintro ⟨x, hx, hk⟩
    obtain ⟨c, hc, rfl⟩ := List.mem_map.1 (hp.mem_iff.1 hx)
    have : c = p := kyT_inj (hL c hc) hpl ((same_key (kyT_str p)).1 hk)
    rw [← this]; exact hc
  · intro h
    exact ⟨entT p, hp.mem_iff.2 (List.mem_map.2 ⟨p, h, rfl⟩), (same_key (kyT_str p)).2 rfl⟩

theorem SpAt.look {w : World} {b : Nat} {L : List Tc} (h : SpAt w b L) (hL : ∀ t ∈ L, TcOk t) {p : Tc} (hpl : TcOk p) :
    (Instr.lookup 59 (.map (some b)) (.agg (tcC p)) true).run Try.prog w = .ok (.tuple #[.agg #[], .bool (hasL L p)]) w := by
  obtain ⟨es, ho, hp⟩ := h
  obtain ⟨v, ps, hr, hv⟩ := ho.look_ok keyedT Try.underlying59 (zeroU w) (zd := .held (.agg #[])) (zp := []) rfl (key_tc hpl)
  rw [hr]
  simp only [hR, Option.some.injEq, Prod.mk.injEq] at hv
  have hv := hv.1
  have h1 : Maps.has (.map es : DataW Value) (kyT p) = hasL L p := by
    rw [has_eq, es_in hp hL hpl]
  have h2 : DataW.atKey (.map es : DataW Value) (kyT p) (.held (.agg #[])) = .held (.agg #[]) := by
    unfold DataW.atKey
    dsimp only
    cases hf : es.find? (fun q => q.1.sameKey (kyT p)) with
    | none => rfl
    | some x =>
      obtain ⟨c, hc, rfl⟩ := List.mem_map.1 (hp.mem_iff.1 (List.mem_of_find?_eq_some hf))
      rfl
  rw [h1]
  rw [h2] at hv
  cases hv
  rfl

theorem filt_no {L : List Tc} (hL : ∀ t ∈ L, TcOk t) {p : Tc} (hpl : TcOk p) (hn : p ∉ L) : (L.map entT).filter (ChangeMaps.notKey (kyT p)) = L.map entT := by
  rw [List.filter_eq_self]
  intro x hx
  obtain ⟨c, hc, rfl⟩ := List.mem_map.1 hx
  show (!(kyT c).sameKey (kyT p)) = true
  cases hs : (kyT c).sameKey (kyT p) with
  | false => rfl
  | true =>
    have : c = p := kyT_inj (hL c hc) hpl ((same_key (kyT_str p)).1 hs)
    exact absurd (this ▸ hc) hn

theorem SpAt.put {w : World} {b : Nat} {L : List Tc} (h : SpAt w b L) (hL : ∀ t ∈ L, TcOk t) (hn : L.length < maxLen) {c : Tc} (hc : TcOk c) (hno : c ∉ L) :
    ∃ w', (Instr.mapUpdate 59 (.map (some b)) (.agg (tcC c)) (.agg #[])).run Try.prog w = .ok () w' ∧ SpAt w' b (L ++ [c]) ∧ w.mapTurned w' b := by
  obtain ⟨es, ho, hp⟩ := h
  obtain ⟨w', hr, ho', ht⟩ := ho.store keyedT Try.underlying59 hn (val := .agg #[]) (d := .held (.agg #[])) (ps := []) (key_tc hc) rfl
  refine ⟨w', hr, ?_, ht⟩
  have hpm : (ChangeMaps.putKey (kyT c) (.held (.agg #[])) es).Perm ((L ++ [c]).map entT) := by
    unfold ChangeMaps.putKey
    refine (WideShapes.insert_perm _ _).trans ?_
    refine (List.Perm.cons _ (hp.filter _)).trans ?_
    rw [filt_no hL hc hno, List.map_append]
    exact (List.perm_append_singleton (entT c) (L.map entT)).symm
  have hx := own_exact ho'
  rw [DataW.put_eq] at hx
  refine ⟨_, ?_, hpm⟩
  have e : Maps.size (.map (ChangeMaps.putKey (kyT c) (.held (.agg #[])) es) : DataW Value) = (L ++ [c]).length := by
    rw [size_eq, hpm.length_eq, List.length_map]
  rw [e] at hx
  exact hx
theorem SpAt.del {w : World} {b : Nat} {A R : List Tc} {p : Tc} (h : SpAt w b (A ++ p :: R)) (hL : ∀ t ∈ A ++ p :: R, TcOk t) (hnd : (A ++ p :: R).Nodup) (ty : TypeId) :
    ∃ w', (Builtin.delete_ #[59, 24] ty #[.map (some b), .agg (tcC p)]).run Try.prog w = .ok (.tuple #[]) w' ∧ SpAt w' b (A ++ R) ∧ w.mapTurned w' b := by
  have hp : TcOk p := hL p (by simp)
  obtain ⟨es, ho, hpm⟩ := h
  obtain ⟨w', hr, ho', ht⟩ := ho.drop keyedT Try.underlying59 (key_tc hp) ty
  refine ⟨w', hr, ?_, ht⟩
  have hA : p ∉ A := fun h => by
    have := (List.nodup_append.1 hnd).2.2
    exact this p h p (by simp) rfl
  have hR' : p ∉ R := fun h => by
    have := (List.nodup_append.1 hnd).2.1
    rw [List.nodup_cons] at this
    exact this.1 h
  have hpm' : (ChangeMaps.delKey (kyT p) es).Perm ((A ++ R).map entT) := by
    unfold ChangeMaps.delKey
    refine (hpm.filter _).trans ?_
    rw [List.map_append, List.filter_append, List.map_cons, List.filter_cons, filt_no (fun t ht => hL t (by simp [ht])) hp hA, filt_no (fun t ht => hL t (by simp [ht])) hp hR', List.map_append]
    have : ChangeMaps.notKey (kyT p) (entT p) = false := by
      show (!(kyT p).sameKey (kyT p)) = false
      rw [(same_key (kyT_str p)).2 rfl]; rfl
    rw [if_neg (by rw [this]; simp)]
  have hx := own_exact ho'
  rw [DataW.del_eq] at hx
  refine ⟨_, ?_, hpm'⟩
  have e : Maps.size (.map (ChangeMaps.delKey (kyT p) es) : DataW Value) = (A ++ R).length := by
    rw [size_eq, hpm'.length_eq, List.length_map]
  rw [e] at hx
  exact hx

end Go.Proofs.Ytmncjecbgakmfaa
