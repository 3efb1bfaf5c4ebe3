/- The sum as plain numbers: a register, a step of one bit, four bits at once by a table; no program's own text. -/
import Derived.Test.YtmpddbnggddmdaaBase
namespace Go.Proofs.Ytmpddbnggddmdaa
open Go.RowKit

/-- One step: the lowest bit falls out; if it was 1 the polynomial is laid over. -/
def bitS (r : Nat) : Nat := if r % 2 = 1 then (r / 2) ^^^ 2197175160 else r / 2
def iterS : Nat → Nat → Nat
  | 0, r => r
  | k + 1, r => iterS k (bitS r)
/-- A byte is laid over the lowest bits, then eight steps. -/
def byteS (r c : Nat) : Nat := iterS 8 (r ^^^ c)
def regS (xs : List Int) : Nat := xs.foldl (fun r c => byteS r c.toNat) 4294967295
def sumS (xs : List Int) : Nat := regS xs ^^^ 4294967295

theorem xor_lt32 {a b : Nat} (ha : a < 4294967296) (hb : b < 4294967296) : a ^^^ b < 4294967296 := Nat.xor_lt_two_pow (n := 32) ha hb
theorem bitS_lt {r : Nat} (h : r < 4294967296) : bitS r < 4294967296 := by
  unfold bitS
  split
  · exact xor_lt32 (by omega) (by decide)
  · omega
theorem iterS_lt (k : Nat) : ∀ {r : Nat}, r < 4294967296 → iterS k r < 4294967296 := by
  induction k with
  | zero => intro r h; exact h
  | succ k ih => intro r h; exact ih (bitS_lt h)
theorem iterS_succ (k : Nat) : ∀ r, iterS (k + 1) r = bitS (iterS k r) := by
  induction k with
  | zero => intro r; rfl
  | succ k ih => intro r; show iterS (k + 1) (bitS r) = _; rw [ih]; rfl
theorem iterS_add (j k : Nat) : ∀ r, iterS (j + k) r = iterS k (iterS j r) := by
  induction j with
  | zero => intro r; rw [Nat.zero_add]; rfl
  | succ j ih => intro r; rw [show j + 1 + k = (j + k) + 1 from by omega]; exact ih (bitS r)
theorem bitS_xor (a b : Nat) : bitS (a ^^^ b) = bitS a ^^^ bitS b := by
  unfold bitS
  rw [Nat.xor_div_two]
  have hm : (a ^^^ b) % 2 = a % 2 ^^^ b % 2 := by
    have h1 := Nat.xor_mod_two_pow (a := a) (b := b) (n := 1)
    simpa using h1
  rcases Nat.mod_two_eq_zero_or_one a with ha | ha <;> rcases Nat.mod_two_eq_zero_or_one b with hb | hb <;> rw [hm, ha, hb]
  · rfl
  · rw [if_pos (by decide), if_neg (by decide), if_pos rfl, Nat.xor_assoc]
  · rw [if_pos (by decide), if_pos rfl, if_neg (by decide), Nat.xor_assoc, Nat.xor_comm (b / 2), ← Nat.xor_assoc]
  · rw [if_neg (by decide), if_pos rfl, if_pos rfl, Nat.xor_assoc, Nat.xor_comm (b / 2), ← Nat.xor_assoc 2197175160, Nat.xor_self, Nat.zero_xor]
theorem iterS_xor (k : Nat) : ∀ a b, iterS k (a ^^^ b) = iterS k a ^^^ iterS k b := by
  induction k with
  | zero => intro a b; rfl
  | succ k ih => intro a b; show iterS k (bitS (a ^^^ b)) = _; rw [bitS_xor, ih]; rfl
theorem bitS_even (a : Nat) : bitS (2 * a) = a := by
  unfold bitS
  rw [if_neg (by omega)]
  omega
theorem iterS_four (r : Nat) : iterS 4 r = (r / 16) ^^^ iterS 4 (r % 16) := by
  have h : r = (2 * (2 * (2 * (2 * (r / 16))))) ^^^ (r % 16) := by
    have h1 := Nat.shiftLeft_add_eq_or_of_lt (i := 4) (b := r % 16) (by omega) (r / 16)
    have h2 : (r / 16) <<< 4 ^^^ (r % 16) = (r / 16) <<< 4 ||| (r % 16) := by
      apply Nat.eq_of_testBit_eq
      intro i
      rw [Nat.testBit_xor, Nat.testBit_or, Nat.testBit_shiftLeft]
      rcases Nat.lt_or_ge i 4 with hi | hi
      · simp [Nat.not_le.2 hi]
      · have : (r % 16).testBit i = false := Nat.testBit_lt_two_pow (Nat.lt_of_lt_of_le (show r % 16 < 2 ^ 4 by omega) (Nat.pow_le_pow_right (by decide) hi))
        simp [this]
    rw [show 2 * (2 * (2 * (2 * (r / 16)))) = (r / 16) <<< 4 from by rw [Nat.shiftLeft_eq]; omega, h2, ← h1, Nat.shiftLeft_eq]
    omega
  have e : iterS 4 r = iterS 4 ((2 * (2 * (2 * (2 * (r / 16))))) ^^^ (r % 16)) := congrArg (iterS 4) h
  rw [e, iterS_xor]
  congr 1
  show bitS (bitS (bitS (bitS _))) = _
  rw [bitS_even, bitS_even, bitS_even, bitS_even]
theorem regS_snoc (xs : List Int) (c : Int) : regS (xs ++ [c]) = byteS (regS xs) c.toNat := by simp [regS]
theorem byteS_lt {r c : Nat} (hr : r < 4294967296) (hc : c < 256) : byteS r c < 4294967296 := iterS_lt 8 (xor_lt32 hr (by omega))
theorem regS_lt (xs : List Int) (h : Byt xs) : regS xs < 4294967296 := by
  suffices hs : ∀ (xs : List Int) (r : Nat), Byt xs → r < 4294967296 → xs.foldl (fun r c => byteS r c.toNat) r < 4294967296 from hs xs _ h (by decide)
  intro xs
  induction xs with
  | nil => intro r _ hr; exact hr
  | cons c xs ih =>
    intro r hb hr
    have hc := hb c (by simp)
    exact ih _ (fun x hx => hb x (by simp [hx])) (byteS_lt hr (by omega))
theorem sumS_lt (xs : List Int) (h : Byt xs) : sumS xs < 4294967296 := xor_lt32 (regS_lt xs h) (by decide)
end Go.Proofs.Ytmpddbnggddmdaa
