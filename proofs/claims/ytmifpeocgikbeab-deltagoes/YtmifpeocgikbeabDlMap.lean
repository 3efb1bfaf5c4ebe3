/- A map from places to changes, and a delta, in memory; no function of the program. -/
import Derived.Test.YtmifpeocgikbeabDlMath
import Derived.Maps.OwnSet
import Derived.Maps.AppendAt
import Derived.DeepKeys5
namespace Go.Proofs.Ytmifpeocgikbeab
open Go.RowKit Go.Maps
set_option linter.unusedVariables false
set_option linter.unusedSimpArgs false
set_option maxRecDepth 100000

/-- Whatever value, as an element of a map. -/
def hR (v : Value) : Option (DataW Value × List MemPlace) := some (.held v, [])
def kyL (p : Pl) : Lit := .string (keyBytes [.int .u32 p.ino, .int .i64 p.part, .string p.name.data.toList, .int .u32 p.chunk])
theorem dlLaid : laidOutB Try.prog = true := by kernel_rfl
theorem dlWide : (match Try.prog.underlying 25 with | some (.array _ _) | some (.struct _) => true | _ => false) = true := by rw [Try.underlying25]
theorem keyedP : Keyed Try.prog 25 := Keyed.of_law (deep_law_laid dlLaid (m := 2) (by omega) (of_decide_eq_true (by kernel_rfl)) (by kernel_rfl) dlWide)
theorem lits_pl {p : Pl} (h : PlOk p) (d : Nat) : Try.prog.keyLits (d + 2) 25 (plCells p).toList = some [.int .u32 p.ino, .int .i64 p.part, .string p.name.data.toList, .int .u32 p.chunk] := by
  have hc : Try.prog.cellsOf 25 = 4 := by kernel_rfl
  have h22 : Try.prog.cellsOf 23 = 1 := by kernel_rfl
  have h3 : Try.prog.cellsOf 3 = 1 := by kernel_rfl
  have h9 : Try.prog.cellsOf 9 = 1 := by kernel_rfl
  have w1 : (Lit.int .u32 p.ino).wf = true := WalkArith.wf_u32 ⟨h.i0, h.i1⟩
  have w2 : (Lit.int .i64 p.part).wf = true := WalkArith.wf_i64 ⟨h.p0, h.p1⟩
  have w4 : (Lit.int .u32 p.chunk).wf = true := WalkArith.wf_u32 ⟨h.c0, h.c1⟩
  have hn := h.n1
  unfold Program.keyLits
  simp only [Try.underlying25, plCells, hc]
  simp [Program.keyLits, Try.underlying23, Try.underlying3, Try.underlying9, h22, h3, h9, w1, w2, w4, hn]
theorem key_pl {p : Pl} (h : PlOk p) : keyOf Try.prog 25 (plV p) = some (kyL p) := by
  have h1 : (Try.prog.keyType 25 && (plV p).formed Try.prog 25) = true := by
    have a : Try.prog.keyType 25 = true := by kernel_rfl
    have hc : Try.prog.cellsOf 25 = 4 := by kernel_rfl
    rw [a]
    simp [plV, Value.formed, Try.underlying25, hc]
  have h2 : Try.prog.types.size + 1 = (Try.prog.types.size - 1) + 2 := by
    have : 2 ≤ Try.prog.types.size := of_decide_eq_true (by kernel_rfl)
    omega
  have h3 := lits_pl h (Try.prog.types.size - 1)
  rw [← h2] at h3
  unfold keyOf
  rw [Try.underlying25]
  dsimp only
  rw [if_pos h1]
  show Option.map _ (Try.prog.keyLits (Try.prog.types.size + 1) 25 (plCells p).toList) = _
  rw [h3]
  rfl
theorem kyL_inj {p q : Pl} (hp : PlOk p) (hq : PlOk q) (h : kyL p = kyL q) : p = q := by
  have a := key_pl hp
  have b := key_pl hq
  rw [← h] at b
  have e := keyedP.inj a b
  obtain ⟨i, k, s, c⟩ := p
  obtain ⟨i', k', s', c'⟩ := q
  simp only [plV, Value.agg.injEq, Array.mk.injEq, List.cons.injEq, Value.int.injEq, Value.string.injEq, true_and, and_true] at e
  obtain ⟨e1, e2, e3, e4⟩ := e
  rw [e1, e2, e3, e4]
theorem kyL_str (p : Pl) : WideAt.IsKeyLit (kyL p) := trivial

def entG (c : Cg) : Lit × DataW Value := (kyL c.pl, .held (.agg (cgC c)))
/-- The block 'b' is a map that has just the changes L. -/
def MpAt (w : World) (b : Nat) (L : List Cg) : Prop := ∃ es, w.ownsMap Try.prog 25 hR b L.length (.map es) ∧ es.Perm (L.map entG)

theorem own_exact {w : World} {P : Program} {k : TypeId} {R : Value → Option (DataW Value × List MemPlace)} {b n : Nat} {D : DataW Value} (h : w.ownsMap P k R b n D) : w.ownsMap P k R b (Maps.size D) D := by
  obtain ⟨es, cl, hb, F, hs, rfl⟩ := h
  exact ⟨es, cl, hb, F, by simp [Maps.size, length_sorted], rfl⟩
theorem MpAt.keep {w w' : World} {b : Nat} {L : List Cg} (h : MpAt w b L) (hb : w'.heap[b]? = w.heap[b]?) : MpAt w' b L := by
  obtain ⟨es, ⟨e, cl, h1, h2⟩, h3⟩ := h
  exact ⟨es, ⟨e, cl, hb.trans h1, h2⟩, h3⟩
theorem MpAt.lt {w : World} {b : Nat} {L : List Cg} (h : MpAt w b L) : b < w.heap.size := by
  obtain ⟨es, ⟨e, cl, h1, h2⟩, h3⟩ := h
  exact (Array.getElem?_eq_some_iff.1 h1).1
theorem MpAt.isMap {w : World} {b : Nat} {L : List Cg} (h : MpAt w b L) : ∃ e cl, w.heap[b]? = some (.map e cl) := by
  obtain ⟨es, ⟨e, cl, h1, h2⟩, h3⟩ := h
  exact ⟨e, cl, h1⟩
theorem MpAt.made (w : World) : MpAt (w.alloc (.map #[] 0)) w.heap.size [] := ⟨[], World.ownsMap_made w _ _ _, List.Perm.refl _⟩
theorem same_key {p q : Lit} (hq : WideAt.IsKeyLit q) : p.sameKey q = true ↔ p = q := ⟨WideAt.sameKey_eq, fun e => by rw [e]; exact WideAt.sameKey_self hq⟩

theorem es_mem {es : List (Lit × DataW Value)} {L : List Cg} (hp : es.Perm (L.map entG)) (hL : LOk L) {p : Pl} (hpl : PlOk p) {x : Lit × DataW Value} (hx : x ∈ es) (hk : x.1 = kyL p) : ∃ c, getL L p = some c ∧ x = entG c := by
  obtain ⟨c, hc, rfl⟩ := List.mem_map.1 (hp.mem_iff.1 hx)
  have e : c.pl = p := kyL_inj (hL.ok c hc).pl hpl hk
  exact ⟨c, (getL_some hL.rise).2 ⟨hc, e⟩, rfl⟩

theorem MpAt.look {w : World} {b : Nat} {L : List Cg} (h : MpAt w b L) (hL : LOk L) {p : Pl} (hpl : PlOk p) :
    (Instr.lookup 52 (.map (some b)) (plV p) true).run Try.prog w = .ok (.tuple #[.agg (cgC ((getL L p).getD cg0)), .bool (getL L p).isSome]) w := by
  obtain ⟨es, ho, hp⟩ := h
  obtain ⟨v, ps, hr, hv⟩ := ho.look_ok keyedP Try.underlying52 (zeroCg w) (zd := .held (.agg (cgC cg0))) (zp := []) rfl (key_pl hpl)
  rw [hr]
  simp only [hR, Option.some.injEq, Prod.mk.injEq] at hv
  have hv := hv.1
  have hmem : ∀ q ∈ L, q.pl = p → entG q ∈ es := fun q hq e => hp.mem_iff.2 (List.mem_map.2 ⟨q, hq, rfl⟩)
  cases hg : getL L p with
  | none =>
    have hno : ∀ x ∈ es, ¬ (x.1.sameKey (kyL p) = true) := by
      intro x hx hk
      obtain ⟨c, hc, _⟩ := es_mem hp hL hpl hx ((same_key (kyL_str p)).1 hk)
      rw [hg] at hc; cases hc
    have h1 : Maps.has (.map es : DataW Value) (kyL p) = false := by
      rw [has_eq, List.any_eq_false]; exact hno
    have h2 : DataW.atKey (.map es : DataW Value) (kyL p) (.held (.agg (cgC cg0))) = .held (.agg (cgC cg0)) := by
      unfold DataW.atKey
      dsimp only
      rw [List.find?_eq_none.2 hno]
    rw [h1]
    rw [h2] at hv
    cases hv
    rfl
  | some c =>
    obtain ⟨hc, e⟩ := (getL_some hL.rise).1 hg
    have hin := hmem c hc e
    have hsk : (entG c).1.sameKey (kyL p) = true := (same_key (kyL_str p)).2 (by rw [← e]; rfl)
    have h1 : Maps.has (.map es : DataW Value) (kyL p) = true := by
      rw [has_eq]; exact List.any_eq_true.2 ⟨_, hin, hsk⟩
    have h2 : DataW.atKey (.map es : DataW Value) (kyL p) (.held (.agg (cgC cg0))) = .held (.agg (cgC c)) := by
      unfold DataW.atKey
      dsimp only
      cases hf : es.find? (fun q => q.1.sameKey (kyL p)) with
      | none => exact absurd hsk (List.find?_eq_none.1 hf _ hin)
      | some x =>
        obtain ⟨c', hc', rfl⟩ := es_mem hp hL hpl (List.mem_of_find?_eq_some hf) ((same_key (kyL_str p)).1 (List.find?_some (p := fun q : Lit × DataW Value => q.1.sameKey (kyL p)) hf))
        rw [hg] at hc'
        cases hc'
        rfl
    rw [h1]
    rw [h2] at hv
    cases hv
    rfl

theorem filt {L : List Cg} (hL : LOk L) {p : Pl} (hpl : PlOk p) : (L.map entG).filter (ChangeMaps.notKey (kyL p)) = (delL L p).map entG := by
  unfold delL
  rw [List.filter_map]
  congr 1
  refine List.filter_congr fun c hc => ?_
  show (!(kyL c.pl).sameKey (kyL p)) = !plEq c.pl p
  congr 1
  rw [Bool.eq_iff_iff, same_key (kyL_str p), plEq_iff]
  exact ⟨fun e => kyL_inj (hL.ok c hc).pl hpl e, fun e => by rw [e]⟩

theorem MpAt.put {w : World} {b : Nat} {L : List Cg} (h : MpAt w b L) (hL : LOk L) (hn : L.length < maxLen) {c : Cg} (hc : CgOk c) :
    ∃ w', (Instr.mapUpdate 52 (.map (some b)) (plV c.pl) (.agg (cgC c))).run Try.prog w = .ok () w' ∧ MpAt w' b (setL L c) ∧ w.mapTurned w' b := by
  obtain ⟨es, ho, hp⟩ := h
  obtain ⟨w', hr, ho', ht⟩ := ho.store keyedP Try.underlying52 hn (val := .agg (cgC c)) (d := .held (.agg (cgC c))) (ps := []) (key_pl hc.pl) rfl
  refine ⟨w', hr, ?_, ht⟩
  have hpm : (ChangeMaps.putKey (kyL c.pl) (.held (.agg (cgC c))) es).Perm ((setL L c).map entG) := by
    unfold ChangeMaps.putKey
    refine (WideShapes.insert_perm _ _).trans ?_
    refine (List.Perm.cons _ (hp.filter _)).trans ?_
    rw [filt hL hc.pl]
    exact ((insC_perm c (delL L c.pl)).map entG).symm
  have hx := own_exact ho'
  rw [DataW.put_eq] at hx
  refine ⟨_, ?_, hpm⟩
  have e : Maps.size (.map (ChangeMaps.putKey (kyL c.pl) (.held (.agg (cgC c))) es) : DataW Value) = (setL L c).length := by
    rw [size_eq, hpm.length_eq, List.length_map]
  rw [e] at hx
  exact hx
theorem MpAt.del {w : World} {b : Nat} {L : List Cg} (h : MpAt w b L) (hL : LOk L) {p : Pl} (hp : PlOk p) (ty : TypeId) :
    ∃ w', (Builtin.delete_ #[52, 25] ty #[.map (some b), plV p]).run Try.prog w = .ok (.tuple #[]) w' ∧ MpAt w' b (delL L p) ∧ w.mapTurned w' b := by
  obtain ⟨es, ho, hpm⟩ := h
  obtain ⟨w', hr, ho', ht⟩ := ho.drop keyedP Try.underlying52 (key_pl hp) ty
  refine ⟨w', hr, ?_, ht⟩
  have hpm' : (ChangeMaps.delKey (kyL p) es).Perm ((delL L p).map entG) := by
    unfold ChangeMaps.delKey
    rw [← filt hL hp]
    exact hpm.filter _
  have hx := own_exact ho'
  rw [DataW.del_eq] at hx
  refine ⟨_, ?_, hpm'⟩
  have e : Maps.size (.map (ChangeMaps.delKey (kyL p) es) : DataW Value) = (delL L p).length := by
    rw [size_eq, hpm'.length_eq, List.length_map]
  rw [e] at hx
  exact hx
theorem MpAt.len {w : World} {b : Nat} {L : List Cg} (h : MpAt w b L) (ty : TypeId) : (Builtin.len_ #[52] ty #[.map (some b)]).run Try.prog w = .ok (.int .i64 L.length) w := by
  obtain ⟨es, ho, hp⟩ := h
  have := ho.len Try.underlying52 ty
  rwa [size_eq, hp.length_eq, List.length_map] at this

/-! ### A delta -/
/-- What a block of a delta is: its map, a block of its type, a row of what Puts found. -/
def isD (b : Nat) (w : World) (k : Nat) : Prop := k = b ∨ (∃ cs fr, w.heap[k]? = some (.cells cs 55 fr)) ∨ (∃ cs fr, w.heap[k]? = some (.cells cs 59 fr))
/-- What a call on a delta may change. -/
structure KeepD (b : Nat) (w w' : World) : Prop where
  os : w'.os = w.os
  tape : w'.tape = w.tape
  output : w'.output = w.output
  size : w.heap.size ≤ w'.heap.size
  block : ∀ k, k < w.heap.size → ¬ isD b w k → w'.heap[k]? = w.heap[k]?
theorem isD_keep {b k : Nat} {w w' : World} (h : ¬ isD b w k) (e : w'.heap[k]? = w.heap[k]?) : ¬ isD b w' k := fun hd => h (by
  unfold isD at hd ⊢
  rw [e] at hd; exact hd)
theorem KeepD.refl (b : Nat) (w : World) : KeepD b w w := ⟨rfl, rfl, rfl, Nat.le_refl _, fun _ _ _ => rfl⟩
theorem KeepD.trans {b : Nat} {A B C : World} (h : KeepD b A B) (k : KeepD b B C) : KeepD b A C :=
  ⟨k.os.trans h.os, k.tape.trans h.tape, k.output.trans h.output, Nat.le_trans h.size k.size, fun i hi hn => (k.block i (Nat.lt_of_lt_of_le hi h.size) (isD_keep hn (h.block i hi hn))).trans (h.block i hi hn)⟩
theorem KeepD.of_below {b : Nat} {w w' : World} (h : Below w.heap.size w w') : KeepD b w w' := ⟨h.os, h.tape, h.output, h.size, fun k hk _ => h.block k hk⟩
theorem KeepD.drew {b : Nat} {w w' : World} (h : KeepD b w w') : KeepD b w w'.drew := ⟨h.os, h.tape, h.output, h.size, h.block⟩

theorem own_keep {w w' : World} {base n k : Nat} {e : TypeId} {v : Value} {xs : List Value} (h : w.ownsRow base e k v n xs) (hs : w.heap.size ≤ w'.heap.size) (hb : ∀ q, v.ownBlock = some q → q < w.heap.size → w'.heap[q]? = w.heap[q]?) : w'.ownsRow base e k v n xs := by
  obtain ⟨h1, h2 | ⟨g, cap, cur, rfl, h3, h4, h5⟩⟩ := h
  · exact ⟨h1, .inl h2⟩
  · exact ⟨h1, .inr ⟨g, cap, cur, rfl, h3, (hb g rfl (Array.getElem?_eq_some_iff.1 h4).1).trans h4, h5⟩⟩
theorem own_shape {base n k : Nat} {w : World} {v : Value} {e : TypeId} {xs : List Value} (h : w.ownsRow base e k v n xs) : ∃ a c, v = .slice a n c := by
  obtain ⟨h1, ⟨rfl, h2⟩ | ⟨g, cap, cur, rfl, _⟩⟩ := h
  · exact ⟨none, 0, by rw [h2]⟩
  · exact ⟨_, _, rfl⟩
theorem own_row {base n k : Nat} {w : World} {v : Value} {e : TypeId} {xs : List Value} (h : w.ownsRow base e k v n xs) {q : Nat} (hq : v.ownBlock = some q) : ∃ cs, w.heap[q]? = some (.cells cs e (0, 0)) := by
  obtain ⟨h1, ⟨rfl, h2⟩ | ⟨g, cap, cur, rfl, _, h4, _⟩⟩ := h
  · cases hq
  · cases hq; exact ⟨cur, h4⟩
theorem wp_app {w w' : World} {v' : Value} {o : Oper} {a : Act} {K : Act → World → Prop} {Q : Exit → Act → World → Prop} (s x : Operand) (t : TypeId)
    (ho : o.op = .call { callee := .builtin .append, args := #[s, x], argTypes := #[t, t] }) (v u : Value) (hs : a.eval s = v) (hx : a.eval x = u)
    (hr : (Builtin.append_ #[t, t] o.type #[v, u]).run Try.prog w = .ok v' w') (h : K (a.put o.dst v') w') : o.wp Try.prog a w K Q := by
  unfold Oper.wp execOp
  simp only [ho, resolve, invoke, builtin, Sem.run_bind, Sem.run_pure, Result.andThen_ok, List.map_toArray, List.map_cons, List.map_nil, hs, hx, hr]
  exact h

def dlC (m : Int) (b : Nat) (v : Value) : Array Value := #[.int .i64 m, .map (some b), v]
structure DlAt (w : World) (p b : Nat) (v : Value) (s : Dl) : Prop where
  row : w.heap[p]? = some (.cells (dlC s.most b v) 55 (0, 0))
  mp : MpAt w b s.L
  pus : w.ownsRow 0 59 51 v s.pus.length (s.pus.flatMap puL)
  ok : DlOk s
theorem DlAt.lt {w : World} {p b : Nat} {v : Value} {s : Dl} (h : DlAt w p b v s) : p < w.heap.size := (Array.getElem?_eq_some_iff.1 h.row).1
theorem DlAt.c0 {w : World} {p b : Nat} {v : Value} {s : Dl} (h : DlAt w p b v s) : w.cell? ⟨p, 0, none⟩ = some (.int .i64 s.most) := by rw [cell_of_row _ _ _ _ _ (0, 0) h.row]; rfl
theorem DlAt.c1 {w : World} {p b : Nat} {v : Value} {s : Dl} (h : DlAt w p b v s) : w.cell? ⟨p, 1, none⟩ = some (.map (some b)) := by rw [cell_of_row _ _ _ _ _ (0, 0) h.row]; rfl
theorem DlAt.c2 {w : World} {p b : Nat} {v : Value} {s : Dl} (h : DlAt w p b v s) : w.cell? ⟨p, 2, none⟩ = some v := by rw [cell_of_row _ _ _ _ _ (0, 0) h.row]; rfl
theorem DlAt.keep {w w' : World} {p b : Nat} {v : Value} {s : Dl} (h : DlAt w p b v s) (hs : w.heap.size ≤ w'.heap.size) (hk : ∀ k, k < w.heap.size → isD b w k → w'.heap[k]? = w.heap[k]?) : DlAt w' p b v s :=
  ⟨(hk p h.lt (.inr (.inl ⟨_, _, h.row⟩))).trans h.row, h.mp.keep (hk b h.mp.lt (.inl rfl)), own_keep h.pus hs (fun q hq hl => hk q hl (.inr (.inr (by obtain ⟨cs, e⟩ := own_row h.pus hq; exact ⟨cs, _, e⟩)))), h.ok⟩
theorem DlAt.below {w w' : World} {p b : Nat} {v : Value} {s : Dl} (h : DlAt w p b v s) (hb : Below w.heap.size w w') : DlAt w' p b v s := h.keep hb.size fun k hk _ => hb.block k hk
theorem DlAt.drew {w : World} {p b : Nat} {v : Value} {s : Dl} (h : DlAt w p b v s) : DlAt w.drew p b v s := ⟨h.row, h.mp.keep rfl, own_keep h.pus (Nat.le_refl _) (fun _ _ _ => rfl), h.ok⟩
theorem DlAt.bp {w : World} {p b : Nat} {v : Value} {s : Dl} (h : DlAt w p b v s) : b ≠ p := fun e => by
  obtain ⟨x, cl, hm⟩ := h.mp.isMap
  rw [e, h.row] at hm
  cases hm
theorem DlAt.shape {w : World} {p b : Nat} {v : Value} {s : Dl} (h : DlAt w p b v s) : ∃ a c, v = .slice a s.pus.length c := own_shape h.pus

end Go.Proofs.Ytmifpeocgikbeab
