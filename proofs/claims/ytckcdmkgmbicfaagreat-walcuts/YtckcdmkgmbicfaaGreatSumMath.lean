/- The sum, sealed and unsealed bytes, as plain numbers. -/
import Derived.Test.YtckcdmkgmbicfaaGreatBase
import Derived.Laws.BitsAllLaws
namespace Go.Proofs.YtckcdmkgmbicfaaGreat
open Go.RowKit
set_option linter.unusedVariables false
set_option maxRecDepth 4000

/-- One step: the lowest bit falls out; if it was 1 the polynomial is laid over. -/
def bitS (r : Nat) : Nat := if r % 2 = 1 then (r / 2) ^^^ 2197175160 else r / 2

def iterS : Nat → Nat → Nat
  | 0, r => r
  | k + 1, r => iterS k (bitS r)

/-- A byte is laid over the lowest bits, then eight steps. -/
def byteS (r c : Nat) : Nat := iterS 8 (r ^^^ c)

def regS (xs : List Int) : Nat := xs.foldl (fun r c => byteS r c.toNat) 4294967295

def sumS (xs : List Int) : Nat := regS xs ^^^ 4294967295

theorem xor_lt32 {a b : Nat} (ha : a < 4294967296) (hb : b < 4294967296) : a ^^^ b < 4294967296 := Nat.xor_lt_two_pow (n := 32) ha hb

theorem bitS_lt {r : Nat} (h : r < 4294967296) : bitS r < 4294967296 := by
  unfold bitS
  split
  · exact xor_lt32 (by omega) (by decide)
  · omega

theorem iterS_lt (k : Nat) : ∀ {r : Nat}, r < 4294967296 → iterS k r < 4294967296 := by
  induction k with
  | zero => intro r h; exact h
  | succ k ih => intro r h; exact ih (bitS_lt h)

theorem iterS_succ (k : Nat) : ∀ r, iterS (k + 1) r = bitS (iterS k r) := by
  induction k with
  | zero => intro r; rfl
  | succ k ih => intro r; show iterS (k + 1) (bitS r) = _; rw [ih]; rfl

theorem iterS_add (j k : Nat) : ∀ r, iterS (j + k) r = iterS k (iterS j r) := by
  induction j with
  | zero => intro r; rw [Nat.zero_add]; rfl
  | succ j ih => intro r; rw [show j + 1 + k = (j + k) + 1 from by omega]; exact ih (bitS r)

theorem bitS_xor (a b : Nat) : bitS (a ^^^ b) = bitS a ^^^ bitS b := by
  unfold bitS
  rw [Nat.xor_div_two]
  have hm : (a ^^^ b) % 2 = a % 2 ^^^ b % 2 := by
    have h1 := Nat.xor_mod_two_pow (a := a) (b := b) (n := 1)
    simpa using h1
  rcases Nat.mod_two_eq_zero_or_one a with ha | ha <;> rcases Nat.mod_two_eq_zero_or_one b with hb | hb <;> rw [hm, ha, hb]
  · rfl
  · rw [if_pos (by decide), if_neg (by decide), if_pos rfl, Nat.xor_assoc]
  · rw [if_pos (by decide), if_pos rfl, if_neg (by decide), Nat.xor_assoc, Nat.xor_comm (b / 2), ← Nat.xor_assoc]
  · rw [if_neg (by decide), if_pos rfl, if_pos rfl, Nat.xor_assoc, Nat.xor_comm (b / 2), ← Nat.xor_assoc 2197175160, Nat.xor_self, Nat.zero_xor]

theorem iterS_xor (k : Nat) : ∀ a b, iterS k (a ^^^ b) = iterS k a ^^^ iterS k b := by
  induction k with
  | zero => intro a b; rfl
  | succ k ih => intro a b; show iterS k (bitS (a ^^^ b)) = _; rw [bitS_xor, ih]; rfl

theorem bitS_even (a : Nat) : bitS (2 * a) = a := by
  unfold bitS
  rw [if_neg (by omega)]
  omega

theorem iterS_four (r : Nat) : iterS 4 r = (r / 16) ^^^ iterS 4 (r % 16) := by
  have h : r = (2 * (2 * (2 * (2 * (r / 16))))) ^^^ (r % 16) := by
    have h1 := Nat.shiftLeft_add_eq_or_of_lt (i := 4) (b := r % 16) (by omega) (r / 16)
    have h2 : (r / 16) <<< 4 ^^^ (r % 16) = (r / 16) <<< 4 ||| (r % 16) := by
      apply Nat.eq_of_testBit_eq
      intro i
      rw [Nat.testBit_xor, Nat.testBit_or, Nat.testBit_shiftLeft]
      rcases Nat.lt_or_ge i 4 with hi | hi
      · simp [Nat.not_le.2 hi]
      · have : (r % 16).testBit i = false := Nat.testBit_lt_two_pow (Nat.lt_of_lt_of_le (show r % 16 < 2 ^ 4 by omega) (Nat.pow_le_pow_right (by decide) hi))
        simp [this]
    rw [show 2 * (2 * (2 * (2 * (r / 16)))) = (r / 16) <<< 4 from by rw [Nat.shiftLeft_eq]; omega, h2, ← h1, Nat.shiftLeft_eq]
    omega
  have e : iterS 4 r = iterS 4 ((2 * (2 * (2 * (2 * (r / 16))))) ^^^ (r % 16)) := congrArg (iterS 4) h
  rw [e, iterS_xor]
  congr 1
  show bitS (bitS (bitS (bitS _))) = _
  rw [bitS_even, bitS_even, bitS_even, bitS_even]

theorem regS_snoc (xs : List Int) (c : Int) : regS (xs ++ [c]) = byteS (regS xs) c.toNat := by simp [regS]

theorem byteS_lt {r c : Nat} (hr : r < 4294967296) (hc : c < 256) : byteS r c < 4294967296 := iterS_lt 8 (xor_lt32 hr (by omega))

theorem regS_lt (xs : List Int) (h : Byt xs) : regS xs < 4294967296 := by
  suffices hs : ∀ (xs : List Int) (r : Nat), Byt xs → r < 4294967296 → xs.foldl (fun r c => byteS r c.toNat) r < 4294967296 from hs xs _ h (by decide)
  intro xs
  induction xs with
  | nil => intro r _ hr; exact hr
  | cons c xs ih =>
    intro r hb hr
    have hc := hb c (by simp)
    exact ih _ (fun x hx => hb x (by simp [hx])) (byteS_lt hr (by omega))

theorem sumS_lt (xs : List Int) (h : Byt xs) : sumS xs < 4294967296 := xor_lt32 (regS_lt xs h) (by decide)

theorem and_one32 (R : Nat) (h : R < 4294967296) : bits .and .u32 (R : Int) 1 = ((R % 2 : Nat) : Int) := by
  have := u32_and_nat R 1 h (by decide)
  rw [Nat.and_one_is_mod] at this
  exact this

theorem xor_poly (R : Nat) (h : R < 4294967296) : bits .xor .u32 ((R : Int) / 2) 2197175160 = ((R / 2 ^^^ 2197175160 : Nat) : Int) := by
  have := u32_xor ((R : Int) / 2) 2197175160 (by omega) (by omega) (by decide) (by decide)
  rw [this, show ((R : Int) / 2).toNat = R / 2 from by omega]
  rfl

theorem bitS_odd {R : Nat} (h : R < 4294967296) (ho : R % 2 = 1) : bits .xor .u32 ((R : Int) / 2) 2197175160 = ((bitS R : Nat) : Int) := by
  rw [xor_poly R h]; unfold bitS; rw [if_pos ho]

theorem bitS_ev {R : Nat} (ho : ¬ R % 2 = 1) : (R : Int) / 2 = ((bitS R : Nat) : Int) := by
  unfold bitS; rw [if_neg ho]; omega

/-- The table while it is filled: the first i stand. -/
def stepRow (i : Nat) : List Int := (List.range 16).map fun p => if p < i then (iterS 4 p : Int) else 0

theorem stepRow_length (i : Nat) : (stepRow i).length = 16 := by simp [stepRow]

theorem stepRow_set (i : Nat) (hi : i < 16) : (stepRow i).set i (iterS 4 i : Int) = stepRow (i + 1) := by
  apply List.ext_getElem
  · simp [stepRow]
  · intro p h1 h2
    simp only [stepRow, List.length_set, List.length_map, List.length_range] at h1
    simp only [stepRow, List.getElem_set, List.getElem_map, List.getElem_range]
    by_cases hp : i = p
    · subst hp
      rw [if_pos rfl, if_pos (by omega)]
    · rw [if_neg hp]
      by_cases hq : p < i
      · rw [if_pos hq, if_pos (by omega)]
      · rw [if_neg hq, if_neg (by omega)]

theorem regS_take (xs : List Int) (i : Nat) (hi : i < xs.length) : regS (xs.take (i + 1)) = byteS (regS (xs.take i)) (xs.getD i 0).toNat := by
  rw [List.take_succ_eq_append_getElem hi, regS_snoc]
  simp [List.getElem?_eq_getElem hi]

theorem xor_byte32 (R : Nat) (c : Int) (hR : R < 4294967296) (h0 : 0 ≤ c) (h1 : c ≤ 255) : bits .xor .u32 (R : Int) c = ((R ^^^ c.toNat : Nat) : Int) := by
  have := u32_xor (R : Int) c (by omega) (by omega) h0 (by omega)
  rw [this, Int.toNat_natCast]

theorem xor_all32 (R : Nat) (hR : R < 4294967296) : bits .xor .u32 IntKind.u32.max (R : Int) = ((R ^^^ 4294967295 : Nat) : Int) := by
  have := u32_xor 4294967295 (R : Int) (by decide) (by decide) (by omega) (by omega)
  rw [show IntKind.u32.max = 4294967295 from rfl, this, Int.toNat_natCast, Nat.xor_comm]
  rfl

theorem xor_all32' (R : Nat) (hR : R < 4294967296) : bits .xor .u32 (R : Int) 4294967295 = ((R ^^^ 4294967295 : Nat) : Int) := by
  have := u32_xor (R : Int) 4294967295 (by omega) (by omega) (by decide) (by decide)
  rw [this, Int.toNat_natCast]
  rfl

theorem xor_half32 (Y : Nat) (hY : Y < 4294967296) : bits .xor .u32 ((Y : Int) / 16) ((iterS 4 (Y % 16) : Nat) : Int) = ((Y / 16 ^^^ iterS 4 (Y % 16) : Nat) : Int) := by
  have h := iterS_lt 4 (r := Y % 16) (by omega)
  have := u32_xor_nat (Y / 16) (iterS 4 (Y % 16)) (by omega) h
  rw [← this]
  congr 1

theorem iterS_half (j X : Nat) : iterS (4 * (j + 1)) X = (iterS (4 * j) X / 16) ^^^ iterS 4 (iterS (4 * j) X % 16) := by
  rw [show 4 * (j + 1) = 4 * j + 4 from by omega, iterS_add, iterS_four]

/-- The four bytes of a number, the lowest one first; while they are laid the first i stand. -/
def lowRow (S i : Nat) : List Int := (List.range 4).map fun p => if p < i then ((S / 2 ^ (8 * p) % 256 : Nat) : Int) else 0

def sealB (xs : List Int) : List Int := lowRow (sumS xs) 4

theorem lowRow_length (S i : Nat) : (lowRow S i).length = 4 := by simp [lowRow]

theorem lowRow_set (S i : Nat) (hi : i < 4) : (lowRow S i).set i ((S / 2 ^ (8 * i) % 256 : Nat) : Int) = lowRow S (i + 1) := by
  apply List.ext_getElem
  · simp [lowRow]
  · intro p h1 h2
    simp only [lowRow, List.length_set, List.length_map, List.length_range] at h1
    simp only [lowRow, List.getElem_set, List.getElem_map, List.getElem_range]
    by_cases hp : i = p
    · subst hp
      rw [if_pos rfl, if_pos (by omega)]
    · rw [if_neg hp]
      by_cases hq : p < i
      · rw [if_pos hq, if_pos (by omega)]
      · rw [if_neg hq, if_neg (by omega)]

theorem sealB_length (xs : List Int) : (sealB xs).length = 4 := lowRow_length _ _

theorem sealB_byt (xs : List Int) : Byt (sealB xs) := by
  intro x hx
  simp only [sealB, lowRow, List.mem_map, List.mem_range] at hx
  obtain ⟨p, hp, rfl⟩ := hx
  rw [if_pos hp]
  omega

theorem low_four (S : Nat) (h : S < 4294967296) : lowRow S 4 = [(S : Int) % 256, (S : Int) / 256 % 256, (S : Int) / 65536 % 256, (S : Int) / 16777216] := by
  have e : lowRow S 4 = [((S / 2 ^ (8 * 0) % 256 : Nat) : Int), ((S / 2 ^ (8 * 1) % 256 : Nat) : Int), ((S / 2 ^ (8 * 2) % 256 : Nat) : Int), ((S / 2 ^ (8 * 3) % 256 : Nat) : Int)] := rfl
  rw [e]
  simp only [show (2 : Nat) ^ (8 * 0) = 1 from rfl, show (2 : Nat) ^ (8 * 1) = 256 from rfl, show (2 : Nat) ^ (8 * 2) = 65536 from rfl, show (2 : Nat) ^ (8 * 3) = 16777216 from rfl, List.cons.injEq, and_true]
  refine ⟨?_, ?_, ?_, ?_⟩ <;> omega

/-- The error's number, and the bytes. -/
def bodyB (xs : List Int) : List Int := xs.take (xs.length - 4)

def tailB (xs : List Int) : List Int := xs.drop (xs.length - 4)

def unE (xs : List Int) : Int := if xs.length < 4 then 10 else if tailB xs = sealB (bodyB xs) then 0 else 12

def unB (xs : List Int) : List Int := if unE xs = 0 then bodyB xs else []

theorem body_seal (xs : List Int) : bodyB (xs ++ sealB xs) = xs := by
  unfold bodyB
  rw [List.length_append, sealB_length, Nat.add_sub_cancel]
  exact List.take_left

theorem tail_seal (xs : List Int) : tailB (xs ++ sealB xs) = sealB xs := by
  unfold tailB
  rw [List.length_append, sealB_length, Nat.add_sub_cancel]
  exact List.drop_left

theorem unE_seal (xs : List Int) : unE (xs ++ sealB xs) = 0 := by
  unfold unE
  rw [if_neg (by rw [List.length_append, sealB_length]; omega), tail_seal, body_seal, if_pos rfl]

theorem unB_seal (xs : List Int) : unB (xs ++ sealB xs) = xs := by
  unfold unB
  rw [unE_seal, if_pos rfl, body_seal]

theorem seal_byt {xs : List Int} (h : Byt xs) : Byt (xs ++ sealB xs) := h.append (sealB_byt xs)

theorem body_tail (xs : List Int) : bodyB xs ++ tailB xs = xs := List.take_append_drop _ _

end Go.Proofs.YtckcdmkgmbicfaaGreat
