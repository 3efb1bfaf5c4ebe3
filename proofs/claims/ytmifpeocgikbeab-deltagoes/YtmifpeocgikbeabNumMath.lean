/- Numbers as bytes and back, as plain numbers. -/
import Derived.Test.YtmifpeocgikbeabBase
import Derived.Laws.BitsAllLaws
namespace Go.Proofs.Ytmifpeocgikbeab
open Go.RowKit
set_option linter.unusedVariables false
set_option maxRecDepth 4000

/-- The byte number j of a number, from the lowest one on. -/
def dig (N j : Nat) : Nat := N / 2 ^ (8 * j) % 256

/-- A number in k bytes, the highest one first. -/
def fixB (N k : Nat) : List Int := (List.range k).map fun p => (dig N (k - 1 - p) : Int)

/-- The row while it is filled from behind: the last i bytes stand. -/
def fixRow (N k i : Nat) : List Int := (List.range k).map fun p => if k ≤ p + i then (dig N (k - 1 - p) : Int) else 0

theorem fixB_length (N k : Nat) : (fixB N k).length = k := by simp [fixB]

theorem fixRow_length (N k i : Nat) : (fixRow N k i).length = k := by simp [fixRow]

theorem fixRow_zero (N k : Nat) : fixRow N k 0 = List.replicate k 0 := by
  apply List.ext_getElem
  · simp [fixRow]
  · intro p h1 h2
    simp [fixRow] at h1 ⊢
    omega

theorem fixRow_all (N k : Nat) : fixRow N k k = fixB N k := by
  apply List.ext_getElem
  · simp [fixRow, fixB]
  · intro p h1 h2
    simp [fixRow, fixB]

theorem fixRow_set (N k i : Nat) (hi : i < k) : (fixRow N k i).set (k - 1 - i) (dig N i : Int) = fixRow N k (i + 1) := by
  apply List.ext_getElem
  · simp [fixRow]
  · intro p h1 h2
    simp only [fixRow, List.length_set, List.length_map, List.length_range] at h1
    simp only [fixRow, List.getElem_set, List.getElem_map, List.getElem_range]
    by_cases hp : k - 1 - i = p
    · subst hp
      rw [if_pos rfl, if_pos (by omega), show k - 1 - (k - 1 - i) = i from by omega]
    · rw [if_neg hp]
      by_cases hq : k ≤ p + i
      · rw [if_pos hq, if_pos (by omega)]
      · rw [if_neg hq, if_neg (by omega)]

theorem dig_lt (N j : Nat) : dig N j < 256 := Nat.mod_lt _ (by decide)

theorem fixB_byt (N k : Nat) : Byt (fixB N k) := by
  intro x hx
  simp only [fixB, List.mem_map] at hx
  obtain ⟨p, _, rfl⟩ := hx
  have := dig_lt N (k - 1 - p)
  omega

/-- The error's number, and the bytes. -/
def fixE (n k : Int) : Int := if k < 1 ∨ 8 < k then 1 else if (n / 2 ^ (8 * k.toNat) != 0) = true then 2 else 0

def fixL (n k : Int) : List Int := if fixE n k = 0 then fixB n.toNat k.toNat else []

theorem div_nat (N i : Nat) : (N : Int) / 2 ^ (8 * i) = ((N / 2 ^ (8 * i) : Nat) : Int) := by
  rw [Int.natCast_ediv, Int.natCast_pow]
  rfl

theorem div_step (N i : Nat) (hN : N < 2 ^ 64) : IntKind.u64.wrap (((N : Int) / 2 ^ (8 * i)).tdiv 256) = (N : Int) / 2 ^ (8 * (i + 1)) := by
  rw [IntKind.wrap_u64, div_nat, div_nat, show 8 * (i + 1) = 8 * i + 8 from by omega, Nat.pow_add, ← Nat.div_div_eq_div_mul]
  have h1 : N / 2 ^ (8 * i) ≤ N := Nat.div_le_self _ _
  generalize N / 2 ^ (8 * i) = q at h1
  rw [Int.tdiv_eq_ediv_of_nonneg (by omega)]
  omega

theorem mod_step (N i : Nat) : ((N : Int) / 2 ^ (8 * i)).tmod 256 % 256 = (N : Int) / 2 ^ (8 * i) % 256 := by
  rw [div_nat]
  generalize N / 2 ^ (8 * i) = q
  rw [Int.tmod_eq_emod_of_nonneg (by omega)]
  omega

/-- The number of some bytes, the highest one first. -/
def valB (xs : List Int) : Nat := xs.foldl (fun a b => a * 256 + b.toNat) 0

def numE (xs : List Int) (k : Int) : Int := if k < 1 ∨ 8 < k then 1 else if (xs.length : Int) < k then 10 else 0

def numV (xs : List Int) (k : Int) : Int := if numE xs k = 0 then (valB (xs.take k.toNat) : Int) else 0

theorem valB_snoc (xs : List Int) (b : Int) : valB (xs ++ [b]) = valB xs * 256 + b.toNat := by simp [valB]

theorem valB_from (xs : List Int) (h : Byt xs) : ∀ a : Nat, xs.foldl (fun a b => a * 256 + b.toNat) a < (a + 1) * 256 ^ xs.length := by
  induction xs with
  | nil => intro a; simp
  | cons b xs ih =>
    intro a
    have h1 := ih (fun x hx => h x (by simp [hx])) (a * 256 + b.toNat)
    have h2 := h b (by simp)
    rw [List.foldl_cons, List.length_cons, Nat.pow_succ, Nat.mul_comm (256 ^ xs.length) 256, ← Nat.mul_assoc]
    exact Nat.lt_of_lt_of_le h1 (Nat.mul_le_mul_right _ (by omega))

theorem valB_lt (xs : List Int) (h : Byt xs) : valB xs < 256 ^ xs.length := by
  have := valB_from xs h 0
  simpa [valB] using this

theorem valB_take_lt (xs : List Int) (h : Byt xs) (i : Nat) (hi : i ≤ 7) : valB (xs.take i) < 72057594037927936 := by
  have h1 := valB_lt (xs.take i) (h.take i)
  have h2 : (xs.take i).length ≤ 7 := by have := List.length_take_le i xs; omega
  have h3 : 256 ^ (xs.take i).length ≤ 256 ^ 7 := Nat.pow_le_pow_right (by decide) h2
  have h4 : 256 ^ 7 = 72057594037927936 := by decide
  omega

theorem valB_succ (xs : List Int) (i : Nat) (hi : i < xs.length) : valB (xs.take (i + 1)) = valB (xs.take i) * 256 + (xs.getD i 0).toNat := by
  rw [List.take_succ_eq_append_getElem hi, valB_snoc]
  simp [List.getElem?_eq_getElem hi]

theorem or_step (V : Nat) (c : Int) (hV : V < 72057594037927936) (h0 : 0 ≤ c) (h1 : c ≤ 255) : bits .or .u64 ((V : Int) * 256) c = ((V * 256 + c.toNat : Nat) : Int) := by
  obtain ⟨C, rfl⟩ := Int.eq_ofNat_of_zero_le h0
  have e1 : (V : Int) * 256 = ((V * 256 : Nat) : Int) := by omega
  rw [e1, u64_or_nat _ _ (by omega) (by omega), Int.toNat_natCast]
  have := Nat.shiftLeft_add_eq_or_of_lt (i := 8) (b := C) (by omega) V
  rw [Nat.shiftLeft_eq] at this
  rw [← this]

theorem valB_fixB (N k : Nat) (h : N < 256 ^ k) : valB (fixB N k) = N := by
  suffices hs : ∀ k N, valB (fixB N k) = N % 256 ^ k by rw [hs, Nat.mod_eq_of_lt h]
  clear h N k
  intro k
  induction k with
  | zero => intro N; simp [fixB, valB, Nat.mod_one]
  | succ k ih =>
    intro N
    have e : fixB N (k + 1) = fixB (N / 256) k ++ [((N % 256 : Nat) : Int)] := by
      apply List.ext_getElem
      · simp [fixB]
      · intro p h1 h2
        simp only [fixB, List.length_map, List.length_range] at h1
        rw [List.getElem_append]
        by_cases hp : p < k
        · rw [dif_pos (by simpa [fixB] using hp)]
          simp only [fixB, List.getElem_map, List.getElem_range, dig]
          rw [show 8 * (k + 1 - 1 - p) = 8 + 8 * (k - 1 - p) from by omega, Nat.pow_add, ← Nat.div_div_eq_div_mul]
        · rw [dif_neg (by simpa [fixB] using hp)]
          obtain rfl : p = k := by omega
          simp [fixB, dig]
    rw [e, valB_snoc, ih, Int.toNat_natCast, Nat.pow_succ, Nat.mul_comm (256 ^ k) 256, Nat.mod_mul]
    omega

theorem fixE_width {n k : Int} (h : fixE n k = 0) : 1 ≤ k ∧ k ≤ 8 := by
  unfold fixE at h
  by_cases hk : k < 1 ∨ 8 < k
  · rw [if_pos hk] at h; cases h
  · omega

theorem fixE_fits {n k : Int} (h0 : 0 ≤ n) (h : fixE n k = 0) : n.toNat < 256 ^ k.toNat := by
  have hk := fixE_width h
  obtain ⟨N, rfl⟩ := Int.eq_ofNat_of_zero_le h0
  obtain ⟨K, rfl⟩ := Int.eq_ofNat_of_zero_le (show 0 ≤ k by omega)
  unfold fixE at h
  rw [if_neg (by omega)] at h
  cases hl : ((N : Int) / 2 ^ (8 * K) != 0) with
  | true => rw [Int.toNat_natCast, if_pos hl] at h; cases h
  | false =>
    have hz : (N : Int) / 2 ^ (8 * K) = 0 := bne_eq_false_iff_eq.1 hl
    rw [div_nat] at hz
    have hz' : N / 2 ^ (8 * K) = 0 := by omega
    rw [Int.toNat_natCast, Int.toNat_natCast, show (256 : Nat) = 2 ^ 8 from rfl, ← Nat.pow_mul]
    exact (Nat.div_eq_zero_iff_lt (Nat.pow_pos (by decide))).1 hz'

theorem back_num {n k : Int} (ys : List Int) (hk : 1 ≤ k ∧ k ≤ 8) (hn : n.toNat < 256 ^ k.toNat) : Hid (numV (fixB n.toNat k.toNat ++ ys) k = n.toNat ∧ numE (fixB n.toNat k.toNat ++ ys) k = 0) := by
  have hl := fixB_length n.toNat k.toNat
  have e1 : numE (fixB n.toNat k.toNat ++ ys) k = 0 := by
    unfold numE
    rw [if_neg (by omega), if_neg (by rw [List.length_append]; omega)]
  refine ⟨?_, e1⟩
  unfold numV
  rw [if_pos e1, List.take_append_of_le_length (by omega), List.take_of_length_le (by omega), valB_fixB _ _ hn]

theorem fixE_eight (n : Int) (h0 : 0 ≤ n) (h1 : n ≤ 18446744073709551615) : fixE n 8 = 0 := by
  unfold fixE
  rw [if_neg (by omega)]
  have e : n / 2 ^ (8 * (8 : Int).toNat) = 0 := by
    rw [show (2 : Int) ^ (8 * (8 : Int).toNat) = 18446744073709551616 from by decide]
    omega
  rw [e]
  rfl

end Go.Proofs.Ytmifpeocgikbeab
