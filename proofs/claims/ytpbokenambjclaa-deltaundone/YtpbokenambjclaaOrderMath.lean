/- Bytes are ordered as the numbers that they are. -/
import Derived.Test.YtpbokenambjclaaLaws
import Derived.Test.YtpbokenambjclaaNumMath
namespace Go.Proofs.Ytpbokenambjclaa
open Go.RowKit
set_option linter.unusedVariables false
set_option maxRecDepth 4000

theorem valB_fold (A : List Int) : ∀ a : Nat, A.foldl (fun a b => a * 256 + b.toNat) a = a * 256 ^ A.length + valB A := by
  induction A with
  | nil => intro a; simp [valB]
  | cons b A ih =>
    intro a
    have e : valB (b :: A) = (0 * 256 + b.toNat) * 256 ^ A.length + valB A := ih _
    rw [List.foldl_cons, ih, e, List.length_cons, Nat.pow_succ, Nat.zero_mul, Nat.zero_add, Nat.add_mul, Nat.mul_assoc, Nat.mul_comm 256 (256 ^ A.length), Nat.add_assoc]
theorem valB_cons (b : Int) (A : List Int) : valB (b :: A) = b.toNat * 256 ^ A.length + valB A := by
  have := valB_fold A (0 * 256 + b.toNat)
  show List.foldl _ (0 * 256 + b.toNat) A = _
  rw [this, Nat.zero_mul, Nat.zero_add]

theorem less_bytes : ∀ (A B : List Int), Byt A → Byt B → A.length = B.length → Op.bytesLess (toU A) (toU B) = decide (valB A < valB B)
  | [], [], _, _, _ => by simp [toU, Op.bytesLess, valB]
  | [], _ :: _, _, _, h => by simp at h
  | _ :: _, [], _, _, h => by simp at h
  | a :: A, b :: B, ha, hb, h => by
    have hl : A.length = B.length := by simpa using h
    have ih := less_bytes A B (fun x hx => ha x (by simp [hx])) (fun x hx => hb x (by simp [hx])) hl
    obtain ⟨a0, a1⟩ := ha a (by simp)
    obtain ⟨b0, b1⟩ := hb b (by simp)
    have hA := valB_lt A (fun x hx => ha x (by simp [hx]))
    have hB := valB_lt B (fun x hx => hb x (by simp [hx]))
    have e1 : (UInt8.ofNat a.toNat < UInt8.ofNat b.toNat) = (a < b) := by
      rw [UInt8.lt_iff_toNat_lt]; simp; omega
    have e2 : (UInt8.ofNat a.toNat == UInt8.ofNat b.toNat) = decide (a = b) := by
      rw [Bool.eq_iff_iff, beq_iff_eq, decide_eq_true_iff, ← UInt8.toNat_inj]; simp; omega
    show (decide (UInt8.ofNat a.toNat < UInt8.ofNat b.toNat) || (UInt8.ofNat a.toNat == UInt8.ofNat b.toNat && Op.bytesLess (toU A) (toU B))) = _
    rw [ih, e2, valB_cons, valB_cons, hl]
    simp only [e1]
    rw [hl] at hA
    generalize 256 ^ B.length = M at hA hB
    rw [Bool.eq_iff_iff]
    simp only [Bool.or_eq_true, Bool.and_eq_true, decide_eq_true_iff]
    obtain ⟨x, rfl⟩ := Int.eq_ofNat_of_zero_le a0
    obtain ⟨y, rfl⟩ := Int.eq_ofNat_of_zero_le b0
    simp only [Int.toNat_natCast]
    rcases Nat.lt_trichotomy x y with hxy | hxy | hxy
    · have : (x + 1) * M ≤ y * M := Nat.mul_le_mul_right _ hxy
      rw [Nat.add_mul, Nat.one_mul] at this
      exact ⟨fun _ => by omega, fun _ => .inl (by omega)⟩
    · subst hxy
      exact ⟨fun h => by rcases h with h | h <;> omega, fun h => .inr ⟨rfl, by omega⟩⟩
    · have : (y + 1) * M ≤ x * M := Nat.mul_le_mul_right _ hxy
      rw [Nat.add_mul, Nat.one_mul] at this
      exact ⟨fun h => by rcases h with h | h <;> omega, fun h => by omega⟩

/-- Two numbers in as many bytes: the strings of their bytes are ordered as they are. -/
theorem order_less (a b k : Int) (ha : 0 ≤ a) (hb : 0 ≤ b) (ea : fixE a k = 0) (eb : fixE b k = 0) : Op.bytesLess (strOfNums (fixL a k)).toList (strOfNums (fixL b k)).toList = decide (a < b) := by
  have la : fixL a k = fixB a.toNat k.toNat := by unfold fixL; rw [if_pos ea]
  have lb : fixL b k = fixB b.toNat k.toNat := by unfold fixL; rw [if_pos eb]
  rw [ByteArray.toList_eq, ByteArray.toList_eq, la, lb]
  show Op.bytesLess (toU _) (toU _) = _
  rw [less_bytes _ _ (fixB_byt _ _) (fixB_byt _ _) (by rw [fixB_length, fixB_length]), valB_fixB _ _ (fixE_fits ha ea), valB_fixB _ _ (fixE_fits hb eb), Bool.eq_iff_iff, decide_eq_true_iff, decide_eq_true_iff]
  omega
theorem order_eq (a b k : Int) (ha : 0 ≤ a) (hb : 0 ≤ b) (ea : fixE a k = 0) (eb : fixE b k = 0) : ((strOfNums (fixL a k)).toList == (strOfNums (fixL b k)).toList) = decide (a = b) := by
  have la : fixL a k = fixB a.toNat k.toNat := by unfold fixL; rw [if_pos ea]
  have lb : fixL b k = fixB b.toNat k.toNat := by unfold fixL; rw [if_pos eb]
  rw [la, lb, beq_strOf (fixB_byt _ _) (fixB_byt _ _), Bool.eq_iff_iff, decide_eq_true_iff, decide_eq_true_iff]
  constructor
  · intro h
    have := congrArg valB h
    rw [valB_fixB _ _ (fixE_fits ha ea), valB_fixB _ _ (fixE_fits hb eb)] at this
    omega
  · intro h; rw [h]

end Go.Proofs.Ytpbokenambjclaa
