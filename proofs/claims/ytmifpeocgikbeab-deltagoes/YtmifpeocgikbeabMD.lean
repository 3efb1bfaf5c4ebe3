/- DlUndoM, DgMath, DgAllM: in one text. -/
import Derived.Test.YtmifpeocgikbeabDlMath
namespace Go.Proofs.Ytmifpeocgikbeab
open Go.RowKit
set_option linter.unusedVariables false
set_option linter.unusedSimpArgs false
set_option maxRecDepth 4000

/-- What is left when the last ones are undone. -/
def undoL (L : List Cg) (xs : List Pu) : List Cg := xs.foldl undo1 L
def undoS (s : Dl) (m : Nat) : Dl := ⟨s.most, undoL s.L (s.pus.drop m).reverse, s.pus.take m⟩
theorem undo1_len (L : List Cg) (x : Pu) : (undo1 L x).length ≤ L.length + 1 := by
  unfold undo1
  split
  · exact setL_len _ _
  · have := delL_len L x.pl; omega
theorem undoL_len (xs : List Pu) : ∀ L, (undoL L xs).length ≤ L.length + xs.length := by
  induction xs with
  | nil => intro L; exact Nat.le_refl _
  | cons x xs ih => intro L; have := ih (undo1 L x); have := undo1_len L x; unfold undoL at *; rw [List.foldl_cons, List.length_cons]; omega
theorem undoL_snoc (L : List Cg) (xs : List Pu) (x : Pu) : undoL L (xs ++ [x]) = undo1 (undoL L xs) x := by unfold undoL; rw [List.foldl_append]; rfl

/-- One more change put, as it is seen at a place. -/
def stepX (q : Pl) (a : Option Cg) (c : Cg) : Option Cg := if plEq c.pl q = true then some (match a with | none => c | some x => (joinX x c).1) else a
/-- What the changes put come to at a place. -/
def foldX (xs : List Cg) (q : Pl) : Option Cg := xs.foldl (stepX q) none
theorem foldX_snoc (xs : List Cg) (c : Cg) (q : Pl) : foldX (xs ++ [c]) q = stepX q (foldX xs q) c := by unfold foldX; rw [List.foldl_append]; rfl

structure Rel (s : Dl) (xs : List Cg) : Prop where
  len : xs.length = s.pus.length
  at_ : ∀ m, m ≤ xs.length → ∀ q, getL (undoS s m).L q = foldX (xs.take m) q
theorem Rel.now {s : Dl} {xs : List Cg} (h : Rel s xs) (q : Pl) : getL s.L q = foldX xs q := by
  have := h.at_ xs.length (Nat.le_refl _) q
  rw [List.take_length] at this
  rw [← this]
  unfold undoS
  rw [h.len, List.drop_length]
  rfl
theorem Rel.new (m : Int) : Rel (newS m) [] := ⟨rfl, fun k hk q => by
  have : k = 0 := by simpa using hk
  subst this
  rfl⟩
theorem Rel.put {s : Dl} {xs : List Cg} (h : Rel s xs) (hs : DlOk s) {c : Cg} (hc : CgOk c) (h0 : (putX s c).2 = 0) : Rel (putS s c) (xs ++ [c]) := by
  have hb := put_back hs hc h0
  have hk := putX_ok hs hc
  have hp := putX_pl h0
  have e : putS s c = ⟨s.most, setL s.L (putX s c).1, s.pus ++ [⟨c.pl, wasX s c.pl, isX s c.pl⟩]⟩ := by unfold putS; rw [if_pos h0]
  rw [e] at hb ⊢
  refine ⟨by simp [h.len], fun m hm q => ?_⟩
  rw [List.length_append, List.length_singleton] at hm
  by_cases hl : m ≤ xs.length
  · rw [List.take_append_of_le_length hl, ← h.at_ m hl q]
    unfold undoS
    dsimp only at hb ⊢
    rw [List.drop_append_of_le_length (by rw [← h.len]; exact hl), List.reverse_append, List.reverse_cons, List.reverse_nil, List.nil_append, List.cons_append, List.nil_append]
    show getL (undoL (undo1 _ _) _) q = _
    rw [hb]
  · obtain rfl : m = xs.length + 1 := by omega
    rw [show (xs ++ [c]).take (xs.length + 1) = xs ++ [c] from List.take_of_length_le (by simp), foldX_snoc, ← h.now q]
    unfold undoS
    dsimp only
    rw [List.drop_of_length_le (by rw [List.length_append, List.length_singleton, h.len]; exact Nat.le_refl _)]
    show getL (setL s.L (putX s c).1) q = _
    rw [getL_set hs.L hk, hp]
    unfold stepX
    split
    · rename_i eq
      have eq := plEq_iff.1 eq
      subst eq
      unfold putX behX at h0 ⊢
      cases h1 : ckOk c
      · rw [h1] at h0; cases h0
      · rw [h1] at h0
        unfold isX wasX at h0 ⊢
        cases hg : getL s.L c.pl with
        | none =>
          rw [hg] at h0
          dsimp only [Option.isSome, Option.getD] at h0 ⊢
          by_cases hm' : (s.L.length : Int) ≥ s.most
          · simp [hm'] at h0
          · simp [hm']
        | some x => simp
    · rfl
theorem Rel.undo {s : Dl} {xs : List Cg} (h : Rel s xs) {m : Nat} (hm : m ≤ xs.length) : Rel (undoS s m) (xs.take m) := by
  have hl := h.len
  refine ⟨by unfold undoS; simp [hl], fun j hj q => ?_⟩
  rw [List.length_take, Nat.min_eq_left hm] at hj
  rw [List.take_take, Nat.min_eq_left hj, ← h.at_ j (by omega) q]
  unfold undoS
  dsimp only
  have e : s.pus.drop j = (s.pus.take m).drop j ++ s.pus.drop m := by
    rw [← List.drop_append_of_le_length (by rw [List.length_take]; omega), List.take_append_drop]
  rw [e, List.reverse_append]
  unfold undoL
  rw [List.foldl_append]
/-- A list that rises and holds at each place what the changes come to is the delta's. -/
theorem Rel.all {s : Dl} {xs A : List Cg} (h : Rel s xs) (hs : DlOk s) (hA : LOk A) (ha : ∀ q, getL A q = foldX xs q) : A = s.L :=
  getL_ext hA hs.L fun q => (ha q).trans (h.now q).symm

theorem foldX_any (xs : List Cg) (q : Pl) : (foldX xs q).isSome = xs.any fun y => plEq y.pl q := by
  suffices h : ∀ (xs : List Cg) (a : Option Cg), (xs.foldl (stepX q) a).isSome = (a.isSome || xs.any fun y => plEq y.pl q) by
    have := h xs none
    simpa [foldX] using this
  intro xs
  induction xs with
  | nil => intro a; simp
  | cons x xs ih =>
    intro a
    rw [List.foldl_cons, ih, List.any_cons]
    unfold stepX
    cases hx : plEq x.pl q <;> simp

/-- Those of a delta whose places the first k changes name. -/
def upX (s : Dl) (xs : List Cg) (k : Nat) : List Cg := s.L.filter fun c => (xs.take k).any fun y => plEq y.pl c.pl
theorem upX_zero (s : Dl) (xs : List Cg) : upX s xs 0 = [] := by simp [upX]
theorem upX_mem {s : Dl} {xs : List Cg} {k : Nat} {c : Cg} : c ∈ upX s xs k ↔ c ∈ s.L ∧ ∃ y ∈ xs.take k, y.pl = c.pl := by
  unfold upX
  rw [List.mem_filter, List.any_eq_true]
  constructor
  · rintro ⟨h, y, hy, e⟩; exact ⟨h, y, hy, plEq_iff.1 e⟩
  · rintro ⟨h, y, hy, e⟩; exact ⟨h, y, hy, plEq_iff.2 e⟩
theorem upX_ok {s : Dl} (h : DlOk s) (xs : List Cg) (k : Nat) : LOk (upX s xs k) := ⟨h.L.rise.sublist List.filter_sublist, fun c hc => h.L.ok c (upX_mem.1 hc).1⟩
theorem upX_len {s : Dl} (xs : List Cg) (k : Nat) : (upX s xs k).length ≤ s.L.length := List.length_filter_le _ _
theorem upX_all {s : Dl} {xs : List Cg} (h : Rel s xs) (hs : DlOk s) : upX s xs xs.length = s.L := by
  unfold upX
  rw [List.take_length, List.filter_eq_self]
  intro c hc
  rw [← foldX_any, ← h.now, (getL_some hs.L.rise).2 ⟨hc, rfl⟩]
  rfl
/-- What stands at the place of a change that was put. -/
theorem Rel.there {s : Dl} {xs : List Cg} (h : Rel s xs) (hs : DlOk s) {c : Cg} (hc : c ∈ xs) : ∃ x, foldX xs c.pl = some x ∧ x ∈ s.L ∧ x.pl = c.pl ∧ CgOk x := by
  have h1 := foldX_any xs c.pl
  rw [show (xs.any fun y => plEq y.pl c.pl) = true from List.any_eq_true.2 ⟨c, hc, plEq_iff.2 rfl⟩] at h1
  obtain ⟨x, hx⟩ := Option.isSome_iff_exists.1 h1
  have h2 := h.now c.pl
  rw [hx] at h2
  obtain ⟨h3, h4⟩ := (getL_some hs.L.rise).1 h2
  exact ⟨x, hx, h3, h4, hs.L.ok x h3⟩
theorem take_mem_succ {xs : List Cg} {k : Nat} (hk : k < xs.length) {y : Cg} : y ∈ xs.take (k + 1) ↔ y ∈ xs.take k ∨ y = xs.getD k cg0 := by
  rw [List.take_add_one, List.mem_append, List.getD_eq_getElem?_getD, List.getElem?_eq_getElem hk]
  simp
theorem upX_same {s : Dl} {xs : List Cg} (hs : DlOk s) {k : Nat} (hk : k < xs.length) {x : Cg} (hx : x ∈ upX s xs k) (e : x.pl = (xs.getD k cg0).pl) : upX s xs (k + 1) = upX s xs k := by
  refine rise_ext (upX_ok hs xs (k + 1)).rise (upX_ok hs xs k).rise fun c => ?_
  rw [upX_mem, upX_mem]
  constructor
  · rintro ⟨h1, y, hy, h2⟩
    rcases (take_mem_succ hk).1 hy with hy | rfl
    · exact ⟨h1, y, hy, h2⟩
    · obtain ⟨hx1, z, hz, h3⟩ := upX_mem.1 hx
      have := rise_one hs.L.rise hx1 h1 (e.trans h2)
      subst this
      exact ⟨h1, z, hz, h3⟩
  · rintro ⟨h1, y, hy, h2⟩
    exact ⟨h1, y, (take_mem_succ hk).2 (.inl hy), h2⟩
theorem upX_more {s : Dl} {xs : List Cg} (hs : DlOk s) {k : Nat} (hk : k < xs.length) {x : Cg} (hx : x ∈ s.L) (e : x.pl = (xs.getD k cg0).pl) (hn : ∀ y ∈ upX s xs k, y.pl ≠ x.pl) : upX s xs (k + 1) = setL (upX s xs k) x := by
  refine rise_ext (upX_ok hs xs (k + 1)).rise (setL_ok (upX_ok hs xs k) (hs.L.ok x hx)).rise fun c => ?_
  rw [setL_mem, upX_mem]
  constructor
  · rintro ⟨h1, y, hy, h2⟩
    rcases (take_mem_succ hk).1 hy with hy | rfl
    · have hc : c ∈ upX s xs k := upX_mem.2 ⟨h1, y, hy, h2⟩
      exact .inr ⟨hc, hn c hc⟩
    · exact .inl (rise_one hs.L.rise h1 hx (h2.symm.trans e.symm))
  · rintro (rfl | ⟨hc, _⟩)
    · exact ⟨hx, _, (take_mem_succ hk).2 (.inr rfl), e.symm⟩
    · obtain ⟨h1, y, hy, h2⟩ := upX_mem.1 hc
      exact ⟨h1, y, (take_mem_succ hk).2 (.inl hy), h2⟩

/-- Where a place is put into a row that rises. -/
theorem ins_at {x : Cg} : ∀ {A : List Cg}, Rise A → (∀ y ∈ A, y.pl ≠ x.pl) → ∀ i, i ≤ A.length → (∀ j, j < i → cmpP (A.getD j cg0).pl x.pl = -1) → (i < A.length → cmpP (A.getD i cg0).pl x.pl ≠ -1) → A.take i ++ x :: A.drop i = insC x A
  | [], _, _, i, hi, _, _ => by simp [insC]
  | y :: r, hA, hne, 0, _, _, hhi => by
    have h1 := hhi (by simp)
    simp only [List.getD_cons_zero] at h1
    have h2 := cmp_other h1 (hne y (by simp))
    simp [insC, h2]
  | y :: r, hA, hne, i + 1, hi, hlo, hhi => by
    obtain ⟨hA1, hA2⟩ := List.pairwise_cons.1 hA
    have h0 := hlo 0 (by omega)
    simp only [List.getD_cons_zero] at h0
    have hno : cmpP x.pl y.pl ≠ -1 := fun h => cmp_irr _ (cmp_tr h0 h)
    have ih := ins_at (x := x) hA2 (fun z hz => hne z (by simp [hz])) i (by simpa using hi) (fun j hj => by have := hlo (j + 1) (by omega); simpa using this) (fun h => by have := hhi (by simpa using h); simpa using this)
    simp only [List.take_succ_cons, List.drop_succ_cons, List.cons_append, insC, if_neg hno, ih]
theorem set_at {x : Cg} {A : List Cg} (hA : Rise A) (hne : ∀ y ∈ A, y.pl ≠ x.pl) {i : Nat} (hi : i ≤ A.length) (hlo : ∀ j, j < i → cmpP (A.getD j cg0).pl x.pl = -1) (hhi : i < A.length → cmpP (A.getD i cg0).pl x.pl ≠ -1) : A.take i ++ x :: A.drop i = setL A x := by
  unfold setL
  rw [show delL A x.pl = A from by unfold delL; rw [List.filter_eq_self]; intro y hy; have := hne y hy; cases h : plEq y.pl x.pl; rfl; exact absurd (plEq_iff.1 h) this]
  exact ins_at hA hne i hi hlo hhi
theorem none_at {q : Pl} {A : List Cg} (hA : Rise A) {i : Nat} (hi : i ≤ A.length) (hlo : ∀ j, j < i → cmpP (A.getD j cg0).pl q = -1) (hhi : i < A.length → cmpP (A.getD i cg0).pl q ≠ -1 ∧ (A.getD i cg0).pl ≠ q) : ∀ y ∈ A, y.pl ≠ q := by
  intro y hy
  obtain ⟨j, hj, rfl⟩ := List.mem_iff_getElem.1 hy
  have ej : A[j] = A.getD j cg0 := by rw [List.getD_eq_getElem?_getD, List.getElem?_eq_getElem hj]; rfl
  rw [ej]
  by_cases h1 : j < i
  · exact cmp_ne (hlo j h1)
  · obtain ⟨h2, h3⟩ := hhi (by omega)
    by_cases h4 : j = i
    · rw [h4]; exact h3
    · have h5 : cmpP q (A.getD i cg0).pl = -1 := cmp_other h2 h3
      have h6 : cmpP (A.getD i cg0).pl (A.getD j cg0).pl = -1 := by
        have := List.pairwise_iff_getElem.1 hA i j (by omega) hj (by omega)
        rw [List.getD_eq_getElem?_getD, List.getD_eq_getElem?_getD, List.getElem?_eq_getElem hj, List.getElem?_eq_getElem (by omega : i < A.length)]
        exact this
      exact (cmp_ne (cmp_tr h5 h6)).symm

end Go.Proofs.Ytmifpeocgikbeab
