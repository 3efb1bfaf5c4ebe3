/- The contracts of page.innerMayBe, CheckNode. -/
import Derived.Test.YthgdbjpefjjeaaaGreatQCheck
namespace Go.Proofs.YthgdbjpefjjeaaaGreat
open Go.RowKit Go.Shelf
set_option linter.unusedVariables false
set_option linter.unusedSimpArgs false
set_option maxRecDepth 100000

def nodeE (n : Nd) : Int := if nodeOk n then 0 else 50

theorem leaf_any (w : World) (v : Value) (n : Nd) (h : NdAt w v n) (hlf : n.leaf = true) : Calls Tryz.prog 83 #[v] w fun e w' => e = .returned (.bool (nodeOk n)) ∧ Below w.heap.size w w' := by
  obtain ⟨a1, c1, a2, c2, a3, c3, rfl, hP, hS, hU, hb⟩ := h
  obtain ⟨lf, ps, ks, cs⟩ := n
  dsimp only at *
  subst hlf
  by_cases hf : leafFit ps.length ks.length cs.length = true
  · have hf' := hf
    unfold leafFit at hf'
    simp only [Bool.and_eq_true, decide_eq_true_iff] at hf'
    obtain ⟨hk, hc, h1, h10⟩ := hf'
    obtain rfl := List.eq_nil_of_length_eq_zero hk
    obtain rfl := List.eq_nil_of_length_eq_zero hc
    refine (leaf_yes w true a1 a2 a3 ps.length c1 c2 c3 h1 h10 ps hP).mono ?_
    rintro e w' ⟨rfl, hB⟩
    refine ⟨?_, hB⟩
    unfold nodeOk smallV
    simp [h1, h10]
  · have hf0 : leafFit ps.length ks.length cs.length = false := by simpa using hf
    refine (leaf_no w true a1 a2 a3 _ c1 _ c2 _ c3 hf0).mono ?_
    rintro e w' ⟨rfl, hB⟩
    refine ⟨?_, hB⟩
    congr 2
    symm
    unfold leafFit at hf
    simp only [Bool.and_eq_true, decide_eq_true_iff] at hf
    cases hn : nodeOk ⟨true, ps, ks, cs⟩ with
    | false => rfl
    | true =>
      obtain ⟨⟨h1, h2⟩, _, h4, h5⟩ := nodeOk_leaf hn rfl
      dsimp only at h1 h2 h4 h5
      exact absurd ⟨by rw [h4]; rfl, by rw [h5]; rfl, h1, h2⟩ hf

set_option maxHeartbeats 2000000 in
theorem inner_no (w : World) (lf : Bool) (a1 a2 a3 : Option Addr) (n1 c1 n2 c2 n3 c3 : Nat) (hm : n3 ≤ maxLen) (h : ¬ (n1 = 0 ∧ (2 ≤ n3 ∧ n3 ≤ 24) ∧ n2 + 1 = n3)) :
    Calls Tryz.prog 84 #[.agg #[.bool lf, .slice a1 n1 c1, .slice a2 n2 c2, .slice a3 n3 c3]] w fun e w' => e = .returned (.bool false) ∧ Below w.heap.size w w' := by
  unfold maxLen at hm
  have hw := fun W => within_any W n3 2 24
  by_cases h1 : n1 = 0
  · subst h1
    by_cases h2 : 2 ≤ n3 ∧ n3 ≤ 24
    · have e1 : (decide ((2 : Int) ≤ n3) && decide ((n3 : Int) ≤ 24)) = true := by simp; omega
      rw [e1] at hw
      have h3 : ¬ (n2 : Int) = n3 - 1 := by omega
      clear h e1
      go_enter Tryz.func84, Tryz.ntmps84
      go_wp2_with (go_at_call 100; refine (hw _).mono ?_; rintro e w' ⟨rfl, rfl⟩)
      go_ret
      exact ⟨rfl, (Below.refl _ _).alloc (Nat.le_refl _) _⟩
    · have e1 : (decide ((2 : Int) ≤ n3) && decide ((n3 : Int) ≤ 24)) = false := by simp; omega
      rw [e1] at hw
      clear h e1
      go_enter Tryz.func84, Tryz.ntmps84
      go_wp2_with (go_at_call 100; refine (hw _).mono ?_; rintro e w' ⟨rfl, rfl⟩)
      go_ret
      exact ⟨rfl, (Below.refl _ _).alloc (Nat.le_refl _) _⟩
  · have h1' : 0 < (n1 : Int) := by omega
    clear h
    go_enter Tryz.func84, Tryz.ntmps84
    go_wp2
    go_ret
    exact ⟨rfl, (Below.refl _ _).alloc (Nat.le_refl _) _⟩

set_option maxHeartbeats 2000000 in
theorem inner_yes (w : World) (lf : Bool) (a1 a2 a3 : Option Addr) (c1 n2 c2 n3 c3 : Nat) (h2 : 2 ≤ n3 ∧ n3 ≤ 24) (h3 : n2 + 1 = n3) (ks : List ByteArray) (cs : List Int) (hS : RdS w (.slice a2 n2 c2) ks) (hU : RdU w (.slice a3 n3 c3) cs) :
    Calls Tryz.prog 84 #[.agg #[.bool lf, .slice a1 0 c1, .slice a2 n2 c2, .slice a3 n3 c3]] w fun e w' => e = .returned (.bool (!hasZero cs && risingB ks)) ∧ Below w.heap.size w w' := by
  have hw := fun W => within_any W n3 2 24
  have e1 : (decide ((2 : Int) ≤ n3) && decide ((n3 : Int) ≤ 24)) = true := by simp; omega
  rw [e1] at hw
  have h3' : (n2 : Int) = n3 - 1 := by omega
  have hB0 := (Below.refl w.heap.size w).alloc (Nat.le_refl _) (.cells #[.bool lf, .slice a1 0 c1, .slice a2 n2 c2, .slice a3 n3 c3] 40)
  have hU0 : RdU _ (.slice a3 n3 c3) cs := RdE.below hU hB0
  have hS0 : RdS _ (.slice a2 n2 c2) ks := RdE.below hS hB0
  have hco := contains_any _ a3 n3 c3 cs hU0
  have hri := riseS _ a2 n2 c2 ks hS0
  rw [World.size_alloc] at hri
  clear e1 hU0 hS0
  cases hz : hasZero cs with
  | true =>
    rw [hz] at hco
    clear hri
    go_enter Tryz.func84, Tryz.ntmps84
    go_wp2_with (first | (go_at_call 100; refine (hw _).mono ?_; rintro e w' ⟨rfl, rfl⟩) | (go_at_call 103; refine hco.mono ?_; rintro e w' ⟨rfl, rfl⟩))
    go_ret
    exact ⟨rfl, hB0⟩
  | false =>
    rw [hz] at hco
    go_enter Tryz.func84, Tryz.ntmps84
    go_wp2_with (first | (go_at_call 100; refine (hw _).mono ?_; rintro e w' ⟨rfl, rfl⟩) | (go_at_call 103; refine hco.mono ?_; rintro e w' ⟨rfl, rfl⟩) | (go_at_call 104; refine (valuesS_any _ _ _ _).mono ?_; rintro e w' ⟨rfl, rfl⟩) | (go_at_call 101; refine hri.mono ?_; rintro e w5 ⟨rfl, hb5⟩))
    go_ret
    exact ⟨rfl, hB0.trans (hb5.mono (by omega))⟩

theorem zero_all (cs : List Int) : cs.all (fun k => k != 0) = !hasZero cs := by
  unfold hasZero
  induction cs with
  | nil => rfl
  | cons c cs ih => rw [List.all_cons, List.any_cons, ih]; cases h : (c == 0) <;> simp [bne, h]

theorem inner_any (w : World) (v : Value) (n : Nd) (h : NdAt w v n) (hlf : n.leaf = false) : Calls Tryz.prog 84 #[v] w fun e w' => e = .returned (.bool (nodeOk n)) ∧ Below w.heap.size w w' := by
  obtain ⟨a1, c1, a2, c2, a3, c3, rfl, hP, hS, hU, hb⟩ := h
  obtain ⟨lf, ps, ks, cs⟩ := n
  dsimp only at *
  subst hlf
  obtain ⟨_, u1, u2, _⟩ := hU.open
  by_cases hf : ps.length = 0 ∧ (2 ≤ cs.length ∧ cs.length ≤ 24) ∧ ks.length + 1 = cs.length
  · obtain ⟨h1, h2, h3⟩ := hf
    obtain rfl := List.eq_nil_of_length_eq_zero h1
    refine (inner_yes w false a1 a2 a3 c1 _ c2 _ c3 h2 h3 ks cs hS hU).mono ?_
    rintro e w' ⟨rfl, hB⟩
    refine ⟨?_, hB⟩
    unfold nodeOk
    dsimp only
    rw [zero_all]
    simp [h2, h3]
    cases hasZero cs <;> simp
  · refine (inner_no w false a1 a2 a3 _ c1 _ c2 _ c3 (by omega) hf).mono ?_
    rintro e w' ⟨rfl, hB⟩
    refine ⟨?_, hB⟩
    congr 2
    symm
    cases hn : nodeOk ⟨false, ps, ks, cs⟩ with
    | false => rfl
    | true =>
      obtain ⟨⟨h1, h2⟩, h3, _, h5⟩ := nodeOk_inner hn rfl
      dsimp only at h1 h2 h3 h5
      exact absurd ⟨by rw [h5]; rfl, ⟨h1, h2⟩, h3⟩ hf

set_option maxHeartbeats 2000000 in
theorem check_any (w : World) (v : Value) (n : Nd) (h : NdAt w v n) : Calls Tryz.prog 64 #[v] w fun e w' => e = .returned (.int .i64 (nodeE n)) ∧ Below w.heap.size w w' := by
  have h' := h
  obtain ⟨a1, c1, a2, c2, a3, c3, rfl, _, _, _, _⟩ := h
  have hB0 := (Below.refl w.heap.size w).alloc (Nat.le_refl _) (.cells #[.bool n.leaf, .slice a1 n.pairs.length c1, .slice a2 n.keys.length c2, .slice a3 n.kids.length c3] 40)
  have h0 := h'.below hB0
  have hlf := leaf_any _ _ n h0
  have hin := inner_any _ _ n h0
  unfold nodeE
  generalize nodeOk n = ok at *
  generalize n.leaf = lf at *
  generalize n.pairs.length = n1 at *
  generalize n.keys.length = n2 at *
  generalize n.kids.length = n3 at *
  clear h0 h'
  cases lf with
  | true =>
    replace hlf := hlf rfl
    clear hin
    cases ok with
    | true =>
      go_enter Tryz.func64, Tryz.ntmps64
      go_wp2_with (go_at_call 83; refine hlf.mono ?_; rintro e w5 ⟨rfl, hb5⟩)
      go_ret
      exact ⟨rfl, hB0.trans (hb5.mono hB0.size)⟩
    | false =>
      go_enter Tryz.func64, Tryz.ntmps64
      go_wp2_with (go_at_call 83; refine hlf.mono ?_; rintro e w5 ⟨rfl, hb5⟩; have hc5 := (hb5.cell (p := ⟨w.heap.size, 0, none⟩) (by simp)).trans (show _ = some (.bool true) by simp))
      go_ret
      exact ⟨rfl, hB0.trans (hb5.mono hB0.size)⟩
  | false =>
    replace hin := hin rfl
    clear hlf
    cases ok with
    | true =>
      go_enter Tryz.func64, Tryz.ntmps64
      go_wp2_with (go_at_call 84; refine hin.mono ?_; rintro e w5 ⟨rfl, hb5⟩)
      go_ret
      exact ⟨rfl, hB0.trans (hb5.mono hB0.size)⟩
    | false =>
      go_enter Tryz.func64, Tryz.ntmps64
      go_wp2_with (go_at_call 84; refine hin.mono ?_; rintro e w5 ⟨rfl, hb5⟩)
      go_ret
      exact ⟨rfl, hB0.trans (hb5.mono hB0.size)⟩

end Go.Proofs.YthgdbjpefjjeaaaGreat
