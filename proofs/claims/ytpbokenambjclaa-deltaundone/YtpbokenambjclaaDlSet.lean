/- A set of places; a row of changes. -/
import Derived.Test.YtpbokenambjclaaDlAll2
import Derived.Test.YtpbokenambjclaaDlLaw
import Derived.Test.YtpbokenambjclaaMREF
namespace Go.Proofs.Ytpbokenambjclaa
open Go.RowKit Go.Maps
set_option linter.unusedVariables false
set_option linter.unusedSimpArgs false
set_option maxRecDepth 100000

def entB (c : Cg) : Lit × DataW Value := (kyL c.pl, .held (.bool true))
/-- The block 'b' is a set that has just the places of L. -/
def StAt (w : World) (b : Nat) (L : List Cg) : Prop := ∃ es, w.ownsMap Try.prog 24 hR b L.length (.map es) ∧ es.Perm (L.map entB)
theorem StAt.keep {w w' : World} {b : Nat} {L : List Cg} (h : StAt w b L) (hb : w'.heap[b]? = w.heap[b]?) : StAt w' b L := by
  obtain ⟨es, ⟨e, cl, h1, h2⟩, h3⟩ := h
  exact ⟨es, ⟨e, cl, hb.trans h1, h2⟩, h3⟩
theorem StAt.isMap {w : World} {b : Nat} {L : List Cg} (h : StAt w b L) : ∃ e cl, w.heap[b]? = some (.map e cl) := by
  obtain ⟨es, ⟨e, cl, h1, h2⟩, h3⟩ := h
  exact ⟨e, cl, h1⟩
theorem StAt.lt {w : World} {b : Nat} {L : List Cg} (h : StAt w b L) : b < w.heap.size := by
  obtain ⟨e, cl, h1⟩ := h.isMap
  exact (Array.getElem?_eq_some_iff.1 h1).1
theorem StAt.made (w : World) : StAt (w.alloc (.map #[] 0)) w.heap.size [] := ⟨[], World.ownsMap_made w _ _ _, List.Perm.refl _⟩
theorem filtB {L : List Cg} (hL : LOk L) {p : Pl} (hpl : PlOk p) : (L.map entB).filter (ChangeMaps.notKey (kyL p)) = (delL L p).map entB := by
  unfold delL
  rw [List.filter_map]
  congr 1
  refine List.filter_congr fun c hc => ?_
  show (!(kyL c.pl).sameKey (kyL p)) = !plEq c.pl p
  congr 1
  rw [Bool.eq_iff_iff, same_key (kyL_str p), plEq_iff]
  exact ⟨fun e => kyL_inj (hL.ok c hc).pl hpl e, fun e => by rw [e]⟩
theorem StAt.put {w : World} {b : Nat} {L : List Cg} (h : StAt w b L) (hL : LOk L) (hn : L.length < maxLen) {c : Cg} (hc : CgOk c) :
    ∃ w', (Instr.mapUpdate 57 (.map (some b)) (plV c.pl) (.bool true)).run Try.prog w = .ok () w' ∧ StAt w' b (setL L c) ∧ w.mapTurned w' b := by
  obtain ⟨es, ho, hp⟩ := h
  obtain ⟨w', hr, ho', ht⟩ := ho.store keyedP Try.underlying57 hn (val := .bool true) (d := .held (.bool true)) (ps := []) (key_pl hc.pl) rfl
  refine ⟨w', hr, ?_, ht⟩
  have hpm : (ChangeMaps.putKey (kyL c.pl) (.held (.bool true)) es).Perm ((setL L c).map entB) := by
    unfold ChangeMaps.putKey
    refine (WideShapes.insert_perm _ _).trans ?_
    refine (List.Perm.cons _ (hp.filter _)).trans ?_
    rw [filtB hL hc.pl]
    exact ((insC_perm c (delL L c.pl)).map entB).symm
  have hx := own_exact ho'
  rw [DataW.put_eq] at hx
  refine ⟨_, ?_, hpm⟩
  have e : Maps.size (.map (ChangeMaps.putKey (kyL c.pl) (.held (.bool true)) es) : DataW Value) = (setL L c).length := by
    rw [size_eq, hpm.length_eq, List.length_map]
  rw [e] at hx
  exact hx
theorem StAt.len {w : World} {b : Nat} {L : List Cg} (h : StAt w b L) (ty : TypeId) : (Builtin.len_ #[57] ty #[.map (some b)]).run Try.prog w = .ok (.int .i64 L.length) w := by
  obtain ⟨es, ho, hp⟩ := h
  have := ho.len Try.underlying57 ty
  rwa [size_eq, hp.length_eq, List.length_map] at this
theorem zeroBool (w : World) : (zeroValue 4).run Try.prog w = .ok (.bool false) w := by
  have h : (Try.prog.info? 4).map (fun i => (i.zero, i.size)) = some (some (.bool false), 1) := by kernel_rfl
  exact (zero_of_info h).1 w
theorem StAt.look {w : World} {b : Nat} {L : List Cg} (h : StAt w b L) (hL : LOk L) {c : Cg} (hc : c ∈ L) : (Instr.lookup 57 (.map (some b)) (plV c.pl) false).run Try.prog w = .ok (.bool true) w := by
  obtain ⟨es, ho, hp⟩ := h
  obtain ⟨v, ps, hr, hv⟩ := ho.lookup keyedP Try.underlying57 (zeroBool w) (zd := .held (.bool false)) (zp := []) rfl (key_pl (hL.ok c hc).pl)
  simp only [hR, Option.some.injEq, Prod.mk.injEq] at hv
  have hv := hv.1
  have hin : entB c ∈ es := hp.mem_iff.2 (List.mem_map.2 ⟨c, hc, rfl⟩)
  have h2 : DataW.atKey (.map es : DataW Value) (kyL c.pl) (.held (.bool false)) = .held (.bool true) := by
    unfold DataW.atKey
    dsimp only
    cases hf : es.find? (fun q => q.1.sameKey (kyL c.pl)) with
    | none => exact absurd ((same_key (kyL_str c.pl)).2 rfl) (List.find?_eq_none.1 hf _ hin)
    | some x =>
      obtain ⟨c', _, rfl⟩ := List.mem_map.1 (hp.mem_iff.1 (List.mem_of_find?_eq_some hf))
      rfl
  rw [h2] at hv
  cases hv
  exact hr
theorem DlAt.turned {w w' : World} {p b b2 : Nat} {v : Value} {s : Dl} (h : DlAt w p b v s) (ht : w.mapTurned w' b2) (hne : b2 ≠ b) : DlAt w' p b v s := by
  have hg := ht.grown
  obtain ⟨es, cl, es', cl', hm, _⟩ := ht
  refine h.keep hg.size fun k hk hd => hg.block k hk (fun e => ?_)
  cases e
  rcases hd with e | ⟨cs, fr, e⟩ | ⟨cs, fr, e⟩
  · exact hne e
  · rw [hm] at e; cases e
  · rw [hm] at e; cases e
theorem DlN.turned {B : Nat} {w0 w w' : World} {p b b2 : Nat} {s : Dl} (h : DlN B w0 w p b s) (ht : w.mapTurned w' b2) (hne : b2 ≠ b) (hB : B ≤ b2) : DlN B w0 w' p b s := by
  have hg := ht.grown
  obtain ⟨v, h1, h2⟩ := h.d
  exact ⟨h.bel.trans ⟨hg.os, hg.tape, hg.output, hg.size, fun k hk => hg.block k (by have := h.le; omega) (fun e => by cases e; omega)⟩, Nat.le_trans h.le hg.size, ⟨v, h1.turned ht hne, h2⟩, h.p, h.b⟩
theorem StAt.keepD {w w' : World} {b b2 : Nat} {L : List Cg} (h : StAt w b2 L) (k : KeepD b w w') (hne : b2 ≠ b) : StAt w' b2 L := by
  obtain ⟨e, cl, h1⟩ := h.isMap
  refine h.keep (k.block b2 h.lt (fun hd => ?_))
  rcases hd with e | ⟨cs, fr, e⟩ | ⟨cs, fr, e⟩
  · exact hne e
  · rw [h1] at e; cases e
  · rw [h1] at e; cases e
theorem DlN.all {B : Nat} {w0 w : World} {p b : Nat} {s : Dl} (h : DlN B w0 w p b s) (hN : s.L.length ≤ 1000) : Calls Try.prog 22 #[.pointer (some ⟨p, 0, none⟩)] w fun e w' =>
    ∃ u, e = .returned u ∧ w'.ownsRow w.heap.size 31 46 u s.L.length (s.L.flatMap cgL) ∧ Below w.heap.size w w' := by
  obtain ⟨v, h1, h2⟩ := h.d
  exact dall_any h1 hN

/-- One of a row of changes. -/
theorem flat_at {L : List Cg} (hL : ∀ c ∈ L, CgOk c) {i : Nat} (hi : i < L.length) (j : Nat) (hj : j < 46) : (L.flatMap cgL)[i * 46 + j]? = (cgL (L.getD i cg0))[j]? := by
  induction L generalizing i with
  | nil => simp at hi
  | cons c L ih =>
    have hc := cgL_len (hL c (by simp)).pt.ch.1
    rw [List.flatMap_cons]
    cases i with
    | zero =>
      rw [List.getElem?_append_left (by omega)]
      simp
    | succ i =>
      rw [List.getElem?_append_right (by omega), hc, show (i + 1) * 46 + j - 46 = i * 46 + j by omega]
      exact ih (fun x hx => hL x (by simp [hx])) (by simpa using hi)
structure RowG (w : World) (g : Nat) (L : List Cg) : Prop where
  at_ : ∀ i, i < L.length → w.rangeAt g (i * 46) (cgL (L.getD i cg0))
  lt : g < w.heap.size
theorem RowG.below {w w' : World} {g : Nat} {L : List Cg} (h : RowG w g L) (hb : Below w.heap.size w w') : RowG w' g L :=
  ⟨fun i hi j u hu => (World.cell?_of_block (hb.block g h.lt)).trans (h.at_ i hi j u hu), Nat.lt_of_lt_of_le h.lt hb.size⟩
theorem RowG.load {w : World} {g : Nat} {L : List Cg} (h : RowG w g L) {i : Nat} (hi : i < L.length) (hk : CgOk (L.getD i cg0)) : (Instr.loadAt 31 (.pointer (some ⟨g, i * 46, none⟩))).run Try.prog w = .ok (.agg (cgC (L.getD i cg0))) w :=
  run_loadAt_mid (P := Try.prog) w g (i * 46) 31 _ _ (h.at_ i hi) Try.underlying31 rfl (by rw [cgL_len hk.pt.ch.1]; exact size_cg)
theorem RowG.loadP {w : World} {g : Nat} {L : List Cg} (h : RowG w g L) {i : Nat} (hi : i < L.length) : (Instr.loadAt 24 (.pointer (some ⟨g, i * 46, none⟩))).run Try.prog w = .ok (plV (L.getD i cg0).pl) w := by
  have hr : w.rangeAt g (i * 46) (plCells (L.getD i cg0).pl).toList := fun j u hu => h.at_ i hi j u (by
    have : (cgL (L.getD i cg0)) = (plCells (L.getD i cg0).pl).toList ++ (cgL (L.getD i cg0)).drop 4 := rfl
    rw [this, List.getElem?_append_left (List.getElem?_eq_some_iff.1 hu).1]; exact hu)
  exact run_loadAt_mid w g (i * 46) 24 (plCells (L.getD i cg0).pl).toList _ hr Try.underlying24 rfl (by kernel_rfl)
theorem row_of {w : World} {base : Nat} {u : Value} {L : List Cg} (hL : ∀ c ∈ L, CgOk c) (h : w.ownsRow base 31 46 u L.length (L.flatMap cgL)) : ∃ a c, u = .slice a L.length c ∧ (0 < L.length → ∃ g, a = some ⟨g, 0, none⟩ ∧ RowG w g L ∧ base ≤ g ∧ (∃ cs, w.heap[g]? = some (.cells cs 31 (0, 0)) ∧ L.length * 46 ≤ cs.size)) := by
  obtain ⟨h1, ⟨rfl, h2⟩ | ⟨g, cap, cur, rfl, h3, h4, h5, h6, h7, h8⟩⟩ := h
  · exact ⟨none, 0, by rw [h2], fun h => by omega⟩
  · refine ⟨_, _, rfl, fun hp => ⟨g, rfl, ⟨fun i hi j u hu => ?_, (Array.getElem?_eq_some_iff.1 h4).1⟩, h3, cur, h4, by rw [h7]; exact Nat.mul_le_mul_right 46 h5⟩⟩
    have hk : CgOk (L.getD i cg0) := hL _ (by rw [List.getD_eq_getElem?_getD, List.getElem?_eq_getElem hi]; exact List.getElem_mem _)
    have hj : j < 46 := by have := (List.getElem?_eq_some_iff.1 hu).1; rwa [cgL_len hk.pt.ch.1] at this
    rw [cell_of_row _ _ _ _ _ (0, 0) h4, ← Array.getElem?_toList]
    have e := flat_at hL hi j hj
    rw [← h8, List.getElem?_take_of_lt (by
      have : (i + 1) * 46 ≤ L.length * 46 := Nat.mul_le_mul_right 46 hi
      omega)] at e
    rw [e]; exact hu
theorem getD_mem {L : List Cg} {i : Nat} (hi : i < L.length) : L.getD i cg0 ∈ L := by
  rw [List.getD_eq_getElem?_getD, List.getElem?_eq_getElem hi]; exact List.getElem_mem _
theorem getD_rise {L : List Cg} (h : Rise L) {i j : Nat} (hij : i < j) (hj : j < L.length) : cmpP (L.getD i cg0).pl (L.getD j cg0).pl = -1 := by
  rw [List.getD_eq_getElem?_getD, List.getD_eq_getElem?_getD, List.getElem?_eq_getElem (show i < L.length by omega), List.getElem?_eq_getElem hj]
  exact List.pairwise_iff_getElem.1 h i j (by omega) hj hij

end Go.Proofs.Ytpbokenambjclaa
