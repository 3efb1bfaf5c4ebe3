/- A set within a statement: what lies beside it; additions one after another. -/
import Derived.Test.YtmncjecbgakmfaaRtUndo
import Derived.Test.YtmncjecbgakmfaaRtRef2
import Derived.Test.YtmncjecbgakmfaaRtArg
namespace Go.Proofs.Ytmncjecbgakmfaa
open Go.RowKit Go.Maps
set_option linter.unusedVariables false
set_option linter.unusedSimpArgs false
set_option maxRecDepth 100000

/-- A set whose blocks are not below B, and none of G. -/
def SetF (B : Nat) (w0 w : World) (p b : Nat) (L : List Tc) (G : List Nat) : Prop :=
  ∃ v, SetAt w p b v L ∧ B ≤ p ∧ B ≤ b ∧ (∀ k, v.ownBlock = some k → B ≤ k) ∧ B ≤ w.heap.size ∧ Below B w0 w ∧ ∀ g ∈ G, g < w.heap.size ∧ g ≠ p ∧ g ≠ b ∧ v.ownBlock ≠ some g
/-- These blocks are as they were. -/
structure KeepG (G : List Nat) (w w' : World) : Prop where
  size : w.heap.size ≤ w'.heap.size
  block : ∀ g ∈ G, w'.heap[g]? = w.heap[g]?
theorem KeepG.refl (G : List Nat) (w : World) : KeepG G w w := ⟨Nat.le_refl _, fun _ _ => rfl⟩
theorem KeepG.trans {G : List Nat} {a b c : World} (h : KeepG G a b) (k : KeepG G b c) : KeepG G a c := ⟨Nat.le_trans h.size k.size, fun g hg => (k.block g hg).trans (h.block g hg)⟩
theorem KeepG.of_below {G : List Nat} {w w' : World} (h : Below w.heap.size w w') (hG : ∀ g ∈ G, g < w.heap.size) : KeepG G w w' := ⟨h.size, fun g hg => h.block g (hG g hg)⟩
theorem RdZ.keep {α : Type} {k : Nat} {enc : α → List Value} {w w' : World} {v : Value} {l : List α} (h : RdZ k enc w v l) (hs : w.heap.size ≤ w'.heap.size) (hb : ∀ q, v.ownBlock = some q → w'.heap[q]? = w.heap[q]?) : RdZ k enc w' v l := by
  obtain ⟨⟨a, cap, rfl, h1, h2, h3⟩, hz⟩ := h
  refine ⟨⟨a, cap, rfl, h1, h2, fun hne => ?_⟩, hz⟩
  obtain ⟨b, off, rfl, hlt, hc⟩ := h3 hne
  exact ⟨b, off, rfl, Nat.lt_of_lt_of_le hlt hs, fun i x j u hi hj => (World.cell?_of_block (hb b rfl)).trans (hc i x j u hi hj)⟩
theorem RdZ.keepG {α : Type} {k : Nat} {enc : α → List Value} {w w' : World} {v : Value} {l : List α} {G : List Nat} (h : RdZ k enc w v l) (hk : KeepG G w w') (hG : ∀ q, v.ownBlock = some q → q ∈ G) : RdZ k enc w' v l :=
  h.keep hk.size (fun q hq => hk.block q (hG q hq))

theorem SetF.below {B : Nat} {w0 w w' : World} {p b : Nat} {L : List Tc} {G : List Nat} (h : SetF B w0 w p b L G) (hb : Below w.heap.size w w') : SetF B w0 w' p b L G := by
  obtain ⟨v, h1, h2, h3, h4, h5, h6, h7⟩ := h
  exact ⟨v, h1.below hb, h2, h3, h4, Nat.le_trans h5 hb.size, h6.trans (hb.mono h5), fun g hg => ⟨Nat.lt_of_lt_of_le (h7 g hg).1 hb.size, (h7 g hg).2⟩⟩
theorem SetF.lt {B : Nat} {w0 w : World} {p b : Nat} {L : List Tc} {G : List Nat} (h : SetF B w0 w p b L G) : ∀ g ∈ G, g < w.heap.size := by
  obtain ⟨v, h1, h2, h3, h4, h5, h6, h7⟩ := h
  exact fun g hg => (h7 g hg).1
theorem SetF.bel {B : Nat} {w0 w : World} {p b : Nat} {L : List Tc} {G : List Nat} (h : SetF B w0 w p b L G) : Below B w0 w := by
  obtain ⟨v, h1, h2, h3, h4, h5, h6, h7⟩ := h
  exact h6
theorem SetF.up {B : Nat} {w0 w : World} {p b : Nat} {L : List Tc} {G : List Nat} (h : SetF B w0 w p b L G) : B ≤ w.heap.size := by
  obtain ⟨v, h1, h2, h3, h4, h5, h6, h7⟩ := h
  exact h5
/-- A row that was made beside the set. -/
theorem SetF.more {B : Nat} {w0 w w' : World} {p b : Nat} {L : List Tc} {G : List Nat} (h : SetF B w0 w p b L G) (hb : Below w.heap.size w w') (Q : List Nat) (hQ : ∀ q ∈ Q, w.heap.size ≤ q ∧ q < w'.heap.size) : SetF B w0 w' p b L (Q ++ G) := by
  have h' := h.below hb
  obtain ⟨v, h1, h2, h3, h4, h5, h6, h7⟩ := h
  refine ⟨v, h1.below hb, h2, h3, h4, Nat.le_trans h5 hb.size, h6.trans (hb.mono h5), fun g hg => ?_⟩
  rcases List.mem_append.1 hg with hg | hg
  · obtain ⟨q1, q2⟩ := hQ g hg
    refine ⟨q2, by have := h1.lt; omega, by have := h1.sp.lt; omega, fun e => ?_⟩
    obtain ⟨cs, e1⟩ := own_row h1.own e
    have := (Array.getElem?_eq_some_iff.1 e1).1
    omega
  · exact ⟨Nat.lt_of_lt_of_le (h7 g hg).1 hb.size, (h7 g hg).2⟩
theorem SetF.ofOut {B : Nat} {w0 w w' : World} {p b : Nat} {v : Value} {L L' : List Tc} {G : List Nat} (h1 : SetAt w p b v L) (h2 : B ≤ p) (h3 : B ≤ b) (h4 : ∀ k, v.ownBlock = some k → B ≤ k) (h5 : B ≤ w.heap.size) (h6 : Below B w0 w) (h7 : ∀ g ∈ G, g < w.heap.size ∧ g ≠ p ∧ g ≠ b ∧ v.ownBlock ≠ some g) (ho : AddOut w p b v L' w') :
    SetF B w0 w' p b L' G ∧ KeepG G w w' := by
  obtain ⟨v', k1, k2⟩ := ho
  obtain ⟨k3, k4⟩ := k2.below h2 h3 h4 h5
  refine ⟨⟨v', k1, h2, h3, k4, Nat.le_trans h5 k2.size, h6.trans k3, fun g hg => ?_⟩, k2.size, fun g hg => ?_⟩
  · obtain ⟨q1, q2, q3, q4⟩ := h7 g hg
    refine ⟨Nat.lt_of_lt_of_le q1 k2.size, q2, q3, fun e => ?_⟩
    rcases k2.own g e with e' | e'
    · exact q4 e'
    · omega
  · obtain ⟨q1, q2, q3, q4⟩ := h7 g hg
    exact k2.block g q1 q2 q3 q4
theorem SetF.add {B : Nat} {w0 w : World} {p b : Nat} {L : List Tc} {G : List Nat} (h : SetF B w0 w p b L G) (t : Tc) (ht : TcOk t) (hN : L.length ≤ 1000) : Calls Try.prog 15 #[ptr p, .agg (tcC t)] w fun e w' =>
    e = .returned (.int .i64 (ckE t)) ∧ SetF B w0 w' p b (addL L t) G ∧ KeepG G w w' := by
  obtain ⟨v, h1, h2, h3, h4, h5, h6, h7⟩ := h
  refine (add_any h1 t ht hN).mono ?_
  rintro e w' ⟨rfl, ho⟩
  exact ⟨rfl, SetF.ofOut h1 h2 h3 h4 h5 h6 h7 ho⟩
theorem SetF.undo {B : Nat} {w0 w : World} {p b : Nat} {L : List Tc} {G : List Nat} (h : SetF B w0 w p b L G) (m : Nat) (hm : m ≤ L.length) : Calls Try.prog 17 #[ptr p, .int .i64 m] w fun e w' =>
    e = .returned (.int .i64 0) ∧ SetF B w0 w' p b (L.take m) G ∧ KeepG G w w' := by
  obtain ⟨v, h1, h2, h3, h4, h5, h6, h7⟩ := h
  refine (undo_any h1 m hm).mono ?_
  rintro e w' ⟨rfl, ho⟩
  exact ⟨rfl, SetF.ofOut h1 h2 h3 h4 h5 h6 h7 ho⟩
theorem SetF.bad {B : Nat} {w0 w : World} {p b : Nat} {L : List Tc} {G : List Nat} (h : SetF B w0 w p b L G) (m : Int) (hm : m < 0 ∨ (L.length : Int) < m) : Calls Try.prog 17 #[ptr p, .int .i64 m] w fun e w' =>
    e = .returned (.int .i64 1) ∧ w = w' := by
  obtain ⟨v, h1, h2, h3, h4, h5, h6, h7⟩ := h
  exact undo_bad h1 m hm
theorem SetF.mark {B : Nat} {w0 w : World} {p b : Nat} {L : List Tc} {G : List Nat} (h : SetF B w0 w p b L G) : Calls Try.prog 28 #[ptr p] w fun e w' => e = .returned (.int .i64 L.length) ∧ w = w' := by
  obtain ⟨v, h1, _⟩ := h
  exact mark_any h1
theorem SetF.all {B : Nat} {w0 w : World} {p b : Nat} {L : List Tc} {G : List Nat} (h : SetF B w0 w p b L G) (hl : L.length ≤ 100000) : Calls Try.prog 27 #[ptr p] w fun e w' =>
    ∃ u, e = .returned u ∧ w'.ownsRow w.heap.size 24 5 u L.length (L.flatMap tcE) ∧ Below w.heap.size w w' := by
  obtain ⟨v, h1, _⟩ := h
  exact all_any h1 hl
theorem SetF.made {B : Nat} {w0 w w' : World} (hb0 : Below B w0 w) (hB : B ≤ w.heap.size) {p b : Nat} (hp : w.heap.size ≤ p) (hb : w.heap.size ≤ b) (h : SetAt w' p b (.slice none 0 0) []) (hk : Below w.heap.size w w') : SetF B w0 w' p b [] [] :=
  ⟨_, h, by omega, by omega, (fun k e => by cases e), Nat.le_trans hB hk.size, hb0.trans (hk.mono hB), (fun g hg => by cases hg)⟩

/-! ### Additions -/
def addAll (L ts : List Tc) : List Tc := ts.foldl addL L
theorem addL_pre (L : List Tc) (t : Tc) : L <+: addL L t := by
  unfold addL
  split
  · split
    · exact List.prefix_refl _
    · exact List.prefix_append _ _
  · exact List.prefix_refl _
theorem addL_len (L : List Tc) (t : Tc) : (addL L t).length ≤ L.length + 1 := by
  unfold addL
  split
  · split
    · omega
    · simp
  · omega
theorem addAll_pre (ts : List Tc) : ∀ L : List Tc, L <+: addAll L ts := by
  induction ts with
  | nil => exact fun L => List.prefix_refl _
  | cons t ts ih => exact fun L => (addL_pre L t).trans (ih (addL L t))
theorem addAll_len (ts : List Tc) : ∀ L : List Tc, (addAll L ts).length ≤ L.length + ts.length := by
  induction ts with
  | nil => exact fun L => Nat.le_refl _
  | cons t ts ih =>
    intro L
    have a := ih (addL L t)
    have b := addL_len L t
    show (addAll (addL L t) ts).length ≤ _
    simp only [List.length_cons]
    omega
theorem addL_same {L : List Tc} {t : Tc} (h : mayB t = true → t ∈ L) : addL L t = L := by
  unfold addL
  split
  · rw [if_pos (hasL_iff.2 (h ‹_›))]
  · rfl
theorem addAll_same {L : List Tc} : ∀ {ts : List Tc}, (∀ t ∈ ts, mayB t = true → t ∈ L) → addAll L ts = L
  | [], _ => rfl
  | t :: ts, h => by
    show addAll (addL L t) ts = L
    rw [addL_same (h t (by simp))]
    exact addAll_same (fun x hx => h x (by simp [hx]))
theorem addL_mem {L : List Tc} {t : Tc} (h : mayB t = true) : t ∈ addL L t := by
  unfold addL
  rw [if_pos h]
  split
  · exact hasL_iff.1 ‹_›
  · simp
theorem addAll_mem : ∀ (ts L : List Tc) (t : Tc), t ∈ ts → mayB t = true → t ∈ addAll L ts
  | x :: ts, L, t, ht, hm => by
    rcases List.mem_cons.1 ht with rfl | h
    · exact (addAll_pre ts (addL L t)).subset (addL_mem hm)
    · exact addAll_mem ts (addL L x) t h hm
theorem addAll_next {L ts : List Tc} {i : Nat} {x : Tc} (h : ts[i]? = some x) : addAll L (ts.take (i + 1)) = addL (addAll L (ts.take i)) x := by
  unfold addAll
  rw [take_next h, List.foldl_append]
  rfl
theorem addAll_app (L a b : List Tc) : addAll L (a ++ b) = addAll (addAll L a) b := List.foldl_append
/-- What was added again is there once. -/
theorem again (a b : List Tc) : addAll (addAll [] a) (a ++ b) = addAll (addAll [] a) b := by
  rw [addAll_app, addAll_same (fun t ht hm => addAll_mem a [] t ht hm)]
theorem undone (a b : List Tc) : (addAll (addAll [] a) (a ++ b)).take (addAll [] a).length = addAll [] a := by
  obtain ⟨r, e⟩ := addAll_pre (a ++ b) (addAll [] a)
  rw [← e, List.take_append_of_le_length (Nat.le_refl _), List.take_length]
theorem few (a b : List Tc) : (addAll (addAll [] a) (a ++ b)).length ≤ (addAll [] a).length + b.length := by
  rw [again]; exact addAll_len b _

end Go.Proofs.Ytmncjecbgakmfaa
