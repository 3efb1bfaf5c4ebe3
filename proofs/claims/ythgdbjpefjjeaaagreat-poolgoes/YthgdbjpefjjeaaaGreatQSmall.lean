/- The contracts of page's small functions, and of the document's. -/
import Derived.Test.YthgdbjpefjjeaaaGreatQBase
import Derived.Test.YthgdbjpefjjeaaaGreatChildMath
import Derived.Test.YthgdbjpefjjeaaaGreatSeal
import Derived.Test.YthgdbjpefjjeaaaGreatUnseal
import Derived.Test.YthgdbjpefjjeaaaGreatFixed
import Derived.Test.YthgdbjpefjjeaaaGreatNumber
namespace Go.Proofs.YthgdbjpefjjeaaaGreat
open Go.RowKit
set_option linter.unusedVariables false
set_option linter.unusedSimpArgs false
set_option maxRecDepth 4000

/-- 'x <= y' of strings. -/
theorem le_three (s k : ByteArray) : (Op.bytesLess s.toList k.toList = true ∧ upTo k s = true) ∨ (s = k ∧ Op.bytesLess s.toList k.toList = false ∧ upTo k s = true) ∨ (Op.bytesLess s.toList k.toList = false ∧ (s.toList == k.toList) = false ∧ upTo k s = false) := by
  have h : (Op.bytesLess s.toList k.toList || s.toList == k.toList) = upTo k s := le_flip _ _
  cases h1 : Op.bytesLess s.toList k.toList with
  | true => exact .inl ⟨rfl, by rw [← h, h1]; rfl⟩
  | false =>
    cases h2 : (s.toList == k.toList) with
    | true => exact .inr (.inl ⟨toList_inj (eq_of_beq h2), rfl, by rw [← h, h1, h2]; rfl⟩)
    | false => exact .inr (.inr ⟨rfl, rfl, by rw [← h, h1, h2]; rfl⟩)

theorem within_any (w : World) (n a b : Int) : Calls Tryz.prog 100 #[.int .i64 n, .int .i64 a, .int .i64 b] w fun e w' => e = .returned (.bool (decide (a ≤ n) && decide (n ≤ b))) ∧ w = w' := by
  by_cases h1 : a ≤ n
  · by_cases h2 : n ≤ b
    · have e1 : (decide (a ≤ n) && decide (n ≤ b)) = true := by simp [h1, h2]
      rw [e1]; clear e1
      go_enter Tryz.func100, Tryz.ntmps100
      go_wp2
      go_ret
      exact ⟨rfl, rfl⟩
    · have e1 : (decide (a ≤ n) && decide (n ≤ b)) = false := by simp [h1, h2]
      rw [e1]; clear e1
      go_enter Tryz.func100, Tryz.ntmps100
      go_wp2
      go_ret
      exact ⟨rfl, rfl⟩
  · have e1 : (decide (a ≤ n) && decide (n ≤ b)) = false := by simp [h1]
    rw [e1]; clear e1
    go_enter Tryz.func100, Tryz.ntmps100
    go_wp2
    go_ret
    exact ⟨rfl, rfl⟩

def hasZero (l : List Int) : Bool := l.any (fun k => k == 0)

set_option maxHeartbeats 1000000 in
theorem index_any (w : World) (a : Option Addr) (n cap : Nat) (l : List Int) (h : RdU w (.slice a n cap) l) :
    Calls Tryz.prog 118 #[.slice a n cap, .int .u32 0] w fun e w' => ∃ r : Int, e = .returned (.int .i64 r) ∧ decide (0 ≤ r) = hasZero l ∧ w' = w := by
  obtain ⟨hl, hnc, hm, hI⟩ := h.open
  unfold maxLen at hm
  go_enter Tryz.func118, Tryz.ntmps118
  go_wp2
  go_loop [5, 8] (fun p i => ∃ k : Nat, k ≤ n ∧ i = .int .i64 k ∧ hasZero (l.take k) = false) (fun _ i => n - (intOf i).toNat)
  case atStart => exact ⟨0, Nat.zero_le _, rfl, rfl⟩
  case round =>
    obtain ⟨k, hk, rfl, hz⟩ := hrel
    by_cases hlt : k < n
    · obtain ⟨b, off, rfl, hb, hcs⟩ := hI (by omega)
      obtain ⟨s, hs⟩ := at_some hl hlt
      have hcx := hcs k s hs
      have hT := take_next hs
      have hmem : s ∈ l := List.mem_of_getElem? hs
      clear hcs hI
      by_cases h0 : s = 0
      · subst h0
        have HF : Hid (hasZero l = true) := List.any_eq_true.2 ⟨0, hmem, rfl⟩
        go_wp2
        go_ret
        exact ⟨_, rfl, by rw [HF.out]; simp, rfl⟩
      · have HF : Hid (hasZero (l.take (k + 1)) = false) := by
          unfold Hid; rw [hT]; unfold hasZero at hz ⊢; rw [List.any_append, hz]; simp [h0]
        have h0' : ¬ (0 : Int) = s := fun e => h0 e.symm
        clear hT hz
        go_wp2
        go_round
        case rel => exact ⟨k + 1, by omega, by go_num, HF.out⟩
        case measure => simp [intOf]; omega
    · obtain rfl : k = n := by omega
      rw [List.take_of_length_le (by omega)] at hz
      go_wp2
      go_ret
      exact ⟨_, rfl, by first | decide | simp_all, rfl⟩

theorem contains_any (w : World) (a : Option Addr) (n cap : Nat) (l : List Int) (h : RdU w (.slice a n cap) l) :
    Calls Tryz.prog 103 #[.slice a n cap, .int .u32 0] w fun e w' => e = .returned (.bool (hasZero l)) ∧ w' = w := by
  go_enter Tryz.func103, Tryz.ntmps103
  go_wp2_with (go_at_call 118; refine (index_any w a n cap l h).mono ?_; rintro e w' ⟨r, rfl, hr, rfl⟩)
  go_ret
  exact ⟨by rw [← hr]; rfl, rfl⟩

theorem fixed_ok (w : World) (x : Int) (k : Nat) (h0 : 0 ≤ x) (h1 : 1 ≤ k) (h8 : k ≤ 8) (hx : x < 2 ^ (8 * k)) : Calls Tryz.prog 89 #[.int .u64 x, .int .i64 k] w fun e w' => ∃ v, e = .returned v ∧ Own w' w.heap.size v (fixB x.toNat k) ∧ Below w.heap.size w w' := by
  have h64 : x < 2 ^ 64 := Int.lt_of_lt_of_le hx (by
    have : (2 : Nat) ^ (8 * k) ≤ 2 ^ 64 := Nat.pow_le_pow_right (by decide) (by omega)
    exact_mod_cast this)
  have hE : fixE x k = 0 := by
    unfold fixE
    rw [if_neg (by omega), Int.toNat_natCast, if_neg]
    rw [Int.ediv_eq_zero_of_lt h0 hx]; decide
  have hL : fixL x k = fixB x.toNat k := by unfold fixL; rw [hE, Int.toNat_natCast]; rfl
  have hf := fun W => fixed_any W x k h0 h64
  rw [hE, hL] at hf
  go_enter Tryz.func89, Tryz.ntmps89
  go_wp2_with (go_at_call 108; refine (hf w).mono ?_; rintro e w' ⟨v, rfl, ho, hb⟩)
  go_ret
  exact ⟨_, rfl, ho, hb⟩

theorem number_ok (w : World) (v : Value) (xs : List Int) (k : Nat) (h : Rd w v xs) (hy : Byt xs) (h1 : 1 ≤ k) (h8 : k ≤ 8) (hl : k ≤ xs.length) : Calls Tryz.prog 113 #[v, .int .i64 k] w fun e w' => e = .returned (.int .u64 (valB (xs.take k))) ∧ w' = w := by
  have hE : numE xs k = 0 := by unfold numE; rw [if_neg (by omega), if_neg (by omega)]
  have hV : numV xs k = (valB (xs.take k) : Int) := by unfold numV; rw [hE, Int.toNat_natCast]; rfl
  have hf := number_any w v xs k h hy
  rw [hE, hV] at hf
  go_enter Tryz.func113, Tryz.ntmps113
  go_wp2_with (go_at_call 122; refine hf.mono ?_; rintro e w' ⟨rfl, rfl⟩)
  go_ret
  exact ⟨rfl, rfl⟩

set_option maxHeartbeats 1000000 in
theorem contentOf_any (w : World) (v : Value) (xs : List Int) (h : Rd w v xs) (hy : Byt xs) :
    Calls Tryz.prog 76 #[v] w fun e w' => ∃ u, e = .returned (.tuple #[u, .int .i64 (opE xs)]) ∧ (opE xs = 0 → Own w' w.heap.size u (bodyB xs)) ∧ Below w.heap.size w w' := by
  obtain ⟨a, cap, rfl, hcap, hm, hnn, hne⟩ := h
  have hx : Rd w (.slice a xs.length cap) xs := ⟨a, cap, rfl, hcap, hm, hnn, hne⟩
  clear hnn hne
  by_cases h5 : xs.length = 512
  · have hu := unseal_any w _ xs hx hy (by omega)
    have hb : unE xs = 0 → unB xs = bodyB xs := fun e => by unfold unB; rw [if_pos e]
    have e1 : opE xs = unE xs := if_pos h5
    rw [e1]; clear e1
    rw [h5] at hu ⊢
    generalize unE xs = E at hb hu
    generalize unB xs = U at hb hu
    clear hx
    go_enter Tryz.func76, Tryz.ntmps76
    go_wp2_with (go_at_call 91; refine hu.mono ?_; rintro e w' ⟨u, rfl, ho, hbl⟩)
    go_ret2
    exact ⟨_, rfl, fun e => by rw [← hb e]; exact ho, hbl⟩
  · have e1 : opE xs = 10 := if_neg h5
    have h5' : ¬ (xs.length : Int) = 512 := by omega
    rw [e1]; clear e1
    generalize xs.length = n at *
    go_enter Tryz.func76, Tryz.ntmps76
    go_wp2
    go_ret2
    exact ⟨_, rfl, fun e => by omega, Below.refl _ _⟩

end Go.Proofs.YthgdbjpefjjeaaaGreat
