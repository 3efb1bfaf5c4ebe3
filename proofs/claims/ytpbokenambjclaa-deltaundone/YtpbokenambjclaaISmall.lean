/- The contracts of item.widthOf, within, mayBe, CheckInode, fixed, number. -/
import Derived.Test.YtpbokenambjclaaIState
import Derived.Test.YtpbokenambjclaaNumber
import Derived.BigQuiet
namespace Go.Proofs.Ytpbokenambjclaa
open Go.RowKit
set_option maxRecDepth 4000
set_option linter.unusedVariables false


/-- How many bytes a part's values have. -/
def wid (p : Int) : Int := if p = 1 then 6 else if p = 2 then 4 else if p = 3 then 32 else 0

theorem wid_0 {p : Int} (h1 : p ≠ 1) (h2 : p ≠ 2) (h3 : p ≠ 3) : wid p = 0 := by unfold wid; rw [if_neg h1, if_neg h2, if_neg h3]
theorem wid_cases (p : Int) : (p = 1 ∧ wid p = 6) ∨ (p = 2 ∧ wid p = 4) ∨ (p = 3 ∧ wid p = 32) ∨ (p ≠ 1 ∧ p ≠ 2 ∧ p ≠ 3 ∧ wid p = 0) := by
  by_cases h1 : p = 1
  · subst h1; exact .inl ⟨rfl, rfl⟩
  · by_cases h2 : p = 2
    · subst h2; exact .inr (.inl ⟨rfl, rfl⟩)
    · by_cases h3 : p = 3
      · subst h3; exact .inr (.inr (.inl ⟨rfl, rfl⟩))
      · exact .inr (.inr (.inr ⟨h1, h2, h3, wid_0 h1 h2 h3⟩))

def inB (n a b : Int) : Bool := decide (a ≤ n) && decide (n ≤ b)

set_option maxHeartbeats 400000 in
theorem within_any (w : World) (n a b : Int) : Calls Try.prog 89 #[.int .i64 n, .int .i64 a, .int .i64 b] w fun e w' => e = .returned (.bool (inB n a b)) ∧ w = w' := by
  unfold inB
  by_cases h1 : a ≤ n
  · by_cases h2 : n ≤ b
    · go_enter Try.func89, Try.ntmps89
      go_wp2
      go_ret
      exact ⟨by simp [h1, h2], rfl⟩
    · go_enter Try.func89, Try.ntmps89
      go_wp2
      go_ret
      exact ⟨by simp [h2], rfl⟩
  · go_enter Try.func89, Try.ntmps89
    go_wp2
    go_ret
    exact ⟨by rw [decide_eq_false (show ¬ a ≤ n by omega)]; rfl, rfl⟩

/-- Whether an inode may be. -/
def inoOk (k m l s : Int) : Bool := inB m 0 511 && (if k = 1 then inB l 1 15 && inB s 0 512 else if k = 2 then l == 1 && s == 0 else false)
def inoE (k m l s : Int) : Int := if inoOk k m l s then 0 else 11

theorem inoE_0 {k m l s : Int} (h : inoOk k m l s = true) : inoE k m l s = 0 := by unfold inoE; rw [h]; rfl
theorem inoE_11 {k m l s : Int} (h : inoOk k m l s = false) : inoE k m l s = 11 := by unfold inoE; rw [h]; rfl

set_option maxHeartbeats 1000000 in
theorem imayBe_any (w : World) (k m l s : Int) : Calls Try.prog 76 #[.agg #[.int .i64 k, .int .i64 m, .int .i64 l, .int .i64 s]] w fun e w' => e = .returned (.bool (inoOk k m l s)) ∧ Below w.heap.size w w' := by
  have hB : ∀ o, Below w.heap.size w (w.alloc o) := fun o => (Below.refl _ w).alloc (Nat.le_refl _) o
  cases h1 : inB m 0 511 with
  | false =>
    have c1 : ∀ W, Calls Try.prog 89 #[.int .i64 m, .int .i64 0, .int .i64 511] W fun e w' => e = .returned (.bool false) ∧ W = w' := fun W => by have := within_any W m 0 511; rwa [h1] at this
    rw [show inoOk k m l s = false from by unfold inoOk; rw [h1]; rfl]
    clear h1
    go_enter Try.func76, Try.ntmps76
    go_wp2_with fail
    refine (c1 _).mono ?_
    rintro e w' ⟨rfl, rfl⟩
    go_wp2_with fail
    go_ret
    exact ⟨rfl, hB _⟩
  | true =>
    have c1 : ∀ W, Calls Try.prog 89 #[.int .i64 m, .int .i64 0, .int .i64 511] W fun e w' => e = .returned (.bool true) ∧ W = w' := fun W => by have := within_any W m 0 511; rwa [h1] at this
    by_cases hk1 : k = 1
    · subst hk1
      cases h2 : inB l 1 15 with
      | false =>
        have c2 : ∀ W, Calls Try.prog 89 #[.int .i64 l, .int .i64 1, .int .i64 15] W fun e w' => e = .returned (.bool false) ∧ W = w' := fun W => by have := within_any W l 1 15; rwa [h2] at this
        rw [show inoOk 1 m l s = false from by unfold inoOk; rw [h1, h2]; rfl]
        clear h1 h2
        go_enter Try.func76, Try.ntmps76
        go_wp2_with fail
        refine (c1 _).mono ?_
        rintro e w' ⟨rfl, rfl⟩
        go_wp2_with fail
        refine (c2 _).mono ?_
        rintro e w' ⟨rfl, rfl⟩
        go_wp2_with fail
        go_ret
        exact ⟨rfl, hB _⟩
      | true =>
        have c2 : ∀ W, Calls Try.prog 89 #[.int .i64 l, .int .i64 1, .int .i64 15] W fun e w' => e = .returned (.bool true) ∧ W = w' := fun W => by have := within_any W l 1 15; rwa [h2] at this
        have c3 := fun W => within_any W s 0 512
        rw [show inoOk 1 m l s = inB s 0 512 from by unfold inoOk; rw [h1, h2]; simp]
        clear h1 h2
        generalize inB s 0 512 = b at *
        go_enter Try.func76, Try.ntmps76
        go_wp2_with fail
        refine (c1 _).mono ?_
        rintro e w' ⟨rfl, rfl⟩
        go_wp2_with fail
        refine (c2 _).mono ?_
        rintro e w' ⟨rfl, rfl⟩
        go_wp2_with fail
        refine (c3 _).mono ?_
        rintro e w' ⟨rfl, rfl⟩
        go_wp2_with fail
        go_ret
        exact ⟨rfl, hB _⟩
    · by_cases hk2 : k = 2
      · subst hk2
        by_cases h3 : l = 1
        · subst h3
          rw [show inoOk 2 m 1 s = (s == 0) from by unfold inoOk; rw [h1]; simp]
          clear h1 hk1
          go_enter Try.func76, Try.ntmps76
          go_wp2_with fail
          refine (c1 _).mono ?_
          rintro e w' ⟨rfl, rfl⟩
          go_wp2_with fail
          go_ret
          exact ⟨rfl, hB _⟩
        · rw [show inoOk 2 m l s = false from by unfold inoOk; rw [h1]; simp [h3]]
          clear h1 hk1
          go_enter Try.func76, Try.ntmps76
          go_wp2_with fail
          refine (c1 _).mono ?_
          rintro e w' ⟨rfl, rfl⟩
          go_wp2_with fail
          go_ret
          exact ⟨rfl, hB _⟩
      · rw [show inoOk k m l s = false from by unfold inoOk; rw [h1, if_neg hk1, if_neg hk2]; rfl]
        clear h1
        go_enter Try.func76, Try.ntmps76
        go_wp2_with fail
        refine (c1 _).mono ?_
        rintro e w' ⟨rfl, rfl⟩
        go_wp2_with fail
        go_ret
        exact ⟨rfl, hB _⟩

set_option maxHeartbeats 400000 in
theorem checkInode_any (w : World) (k m l s : Int) : Calls Try.prog 61 #[.agg #[.int .i64 k, .int .i64 m, .int .i64 l, .int .i64 s]] w fun e w' => e = .returned (.int .i64 (inoE k m l s)) ∧ Below w.heap.size w w' := by
  have hB : ∀ o, Below w.heap.size w (w.alloc o) := fun o => (Below.refl _ w).alloc (Nat.le_refl _) o
  cases h : inoOk k m l s with
  | false =>
    rw [inoE_11 h]
    go_enter Try.func61, Try.ntmps61
    go_wp2_with fail
    refine (imayBe_any _ _ _ _ _).mono ?_
    rintro e w1 ⟨rfl, hb1⟩
    rw [h]
    clear h
    go_wp2
    go_ret
    exact ⟨rfl, (hB _).trans (hb1.mono (hB _).size)⟩
  | true =>
    rw [inoE_0 h]
    go_enter Try.func61, Try.ntmps61
    go_wp2_with fail
    refine (imayBe_any _ _ _ _ _).mono ?_
    rintro e w1 ⟨rfl, hb1⟩
    rw [h]
    go_wp2
    go_ret
    exact ⟨rfl, (hB _).trans (hb1.mono (hB _).size)⟩

/-- A number that fits its bytes. -/
theorem fixE_in (n : Int) (k : Nat) (h1 : 1 ≤ k) (h2 : k ≤ 8) (h0 : 0 ≤ n) (hn : n < 2 ^ (8 * k)) : fixE n k = 0 := by
  unfold fixE
  rw [if_neg (by omega), Int.toNat_natCast]
  have : ((n : Int) / 2 ^ (8 * k) != 0) = false := by
    rw [bne_eq_false_iff_eq]
    exact Int.ediv_eq_zero_of_lt h0 hn
  rw [this]; rfl

theorem fixL_in (n : Int) (k : Nat) (h1 : 1 ≤ k) (h2 : k ≤ 8) (h0 : 0 ≤ n) (hn : n < 2 ^ (8 * k)) : fixL n k = fixB n.toNat k := by
  unfold fixL; rw [if_pos (fixE_in n k h1 h2 h0 hn)]; rfl

end Go.Proofs.Ytpbokenambjclaa
