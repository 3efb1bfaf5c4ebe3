/- Patches in plain words: what is laid, joined, trimmed; no function of the program. -/
import Derived.Test.YtmifpeocgikbeabIState
import Derived.Laws.BitsAllLaws
namespace Go.Proofs.Ytmifpeocgikbeab
open Go.RowKit
set_option linter.unusedVariables false
set_option linter.unusedSimpArgs false
set_option maxRecDepth 4000

/-- A patch, in plain words. -/
structure Pt where
  fresh : Bool
  mask : Nat
  bytes : List Int

structure PtOk (p : Pt) : Prop where
  lt : p.mask < 4294967296
  ch : Ch p.bytes

def pt0 : Pt := ⟨false, 0, zeroC⟩
theorem pt0_ok : PtOk pt0 := ⟨by decide, ch_zero⟩

/-- What becomes of a byte. -/
def layAt (b : List Int) (p : Pt) (i : Nat) : Int := if p.mask.testBit i then p.bytes.getD i 0 else if p.fresh then 0 else b.getD i 0
def layB (b : List Int) (p : Pt) : List Int := (List.range 32).map (layAt b p)
def trimP (p : Pt) : Pt := ⟨p.fresh, p.mask, layB zeroC p⟩
def joinP (a b : Pt) : Pt := if b.fresh then trimP b else ⟨a.fresh, a.mask ||| b.mask, layB (trimP a).bytes b⟩

theorem layB_len (b : List Int) (p : Pt) : (layB b p).length = 32 := by simp [layB]
theorem layB_get (b : List Int) (p : Pt) {i : Nat} (h : i < 32) : (layB b p).getD i 0 = layAt b p i := by
  unfold layB
  rw [List.getD_eq_getElem?_getD, List.getElem?_map, List.getElem?_range h]; rfl
theorem layAt_byt {b : List Int} (hb : Ch b) {p : Pt} (hp : PtOk p) (i : Nat) : 0 ≤ layAt b p i ∧ layAt b p i ≤ 255 := by
  unfold layAt
  split
  · exact hp.ch.2.getD i
  · split
    · omega
    · exact hb.2.getD i
theorem layB_ch {b : List Int} (hb : Ch b) {p : Pt} (hp : PtOk p) : Ch (layB b p) := by
  refine ⟨layB_len b p, fun x hx => ?_⟩
  unfold layB at hx
  obtain ⟨i, _, rfl⟩ := List.mem_map.1 hx
  exact layAt_byt hb hp i
theorem zeroC_get (i : Nat) : zeroC.getD i 0 = 0 := by
  unfold zeroC
  rw [List.getD_eq_getElem?_getD, List.getElem?_replicate]
  split <;> rfl
theorem ch_ext {a b : List Int} (ha : a.length = 32) (hb : b.length = 32) (h : ∀ i, i < 32 → a.getD i 0 = b.getD i 0) : a = b := by
  rw [ch_eq ha, ch_eq hb]
  exact List.map_congr_left fun i hi => h i (List.mem_range.1 hi)
theorem trimP_ok {p : Pt} (h : PtOk p) : PtOk (trimP p) := ⟨h.lt, layB_ch ch_zero h⟩
theorem or_lt32 {a b : Nat} (ha : a < 4294967296) (hb : b < 4294967296) : a ||| b < 4294967296 := Nat.or_lt_two_pow (n := 32) ha hb
theorem joinP_ok {a b : Pt} (ha : PtOk a) (hb : PtOk b) : PtOk (joinP a b) := by
  unfold joinP
  split
  · exact trimP_ok hb
  · exact ⟨or_lt32 ha.lt hb.lt, layB_ch (trimP_ok ha).ch hb⟩

theorem trimP_get (p : Pt) {i : Nat} (h : i < 32) : (trimP p).bytes.getD i 0 = if p.mask.testBit i then p.bytes.getD i 0 else 0 := by
  show (layB zeroC p).getD i 0 = _
  rw [layB_get _ _ h]
  unfold layAt
  rw [zeroC_get]
  split
  · rfl
  · split <;> rfl

/-- Lay of Join is Lay of both. -/
theorem lay_join (x : List Int) (a b : Pt) : layB x (joinP a b) = layB (layB x a) b := by
  apply ch_ext (layB_len _ _) (layB_len _ _)
  intro i hi
  rw [layB_get _ _ hi, layB_get _ _ hi]
  unfold joinP
  cases hf : b.fresh
  · rw [if_neg (by decide)]
    unfold layAt
    simp only [hf, Bool.false_eq_true, if_false, Nat.testBit_or]
    rw [layB_get _ _ hi, layB_get _ _ hi]
    unfold layAt
    simp only [hf, Bool.false_eq_true, if_false]
    rw [trimP_get a hi]
    cases ha : a.mask.testBit i <;> cases hb : b.mask.testBit i <;> simp [trimP]
  · rw [if_pos rfl]
    have e : (trimP b).fresh = b.fresh := rfl
    have m : (trimP b).mask = b.mask := rfl
    unfold layAt
    rw [e, m, hf, trimP_get b hi]
    cases hb : b.mask.testBit i <;> simp

/-- Which two of three are joined first does not matter. -/
theorem join_three (a b c : Pt) : joinP (joinP a b) c = joinP a (joinP b c) := by
  cases hc : c.fresh
  · cases hb : b.fresh
    · have e1 : joinP a b = ⟨a.fresh, a.mask ||| b.mask, layB (trimP a).bytes b⟩ := by unfold joinP; rw [hb]; rfl
      have e2 : joinP b c = ⟨false, b.mask ||| c.mask, layB (trimP b).bytes c⟩ := by unfold joinP; rw [hc, hb]; rfl
      rw [e1, e2]
      unfold joinP
      rw [hc]
      simp only [Bool.false_eq_true, if_false, Pt.mk.injEq, true_and]
      refine ⟨by rw [Nat.or_assoc], ?_⟩
      apply ch_ext (layB_len _ _) (layB_len _ _)
      intro i hi
      rw [layB_get _ _ hi, layB_get _ _ hi]
      unfold layAt
      rw [trimP_get _ hi, trimP_get _ hi]
      simp only [hc, Bool.false_eq_true, if_false, Nat.testBit_or]
      rw [layB_get _ _ hi, layB_get _ _ hi]
      unfold layAt
      rw [trimP_get _ hi, trimP_get _ hi]
      cases a.mask.testBit i <;> cases b.mask.testBit i <;> cases c.mask.testBit i <;> simp [hb, hc]
    · have e1 : joinP a b = trimP b := by unfold joinP; rw [hb]; rfl
      have e2 : joinP b c = ⟨true, b.mask ||| c.mask, layB (trimP b).bytes c⟩ := by unfold joinP; rw [hc, hb]; rfl
      rw [e1, e2]
      unfold joinP
      rw [hc]
      simp only [Bool.false_eq_true, if_false, if_true]
      show (⟨b.fresh, b.mask ||| c.mask, layB (trimP (trimP b)).bytes c⟩ : Pt) = ⟨true, b.mask ||| c.mask, layB zeroC ⟨true, b.mask ||| c.mask, layB (trimP b).bytes c⟩⟩
      rw [hb]
      congr 1
      apply ch_ext (layB_len _ _) (layB_len _ _)
      intro i hi
      rw [layB_get _ _ hi, layB_get _ _ hi]
      unfold layAt
      rw [trimP_get _ hi]
      have m : (trimP b).mask = b.mask := rfl
      rw [m, trimP_get _ hi]
      dsimp only
      rw [layB_get _ _ hi]
      unfold layAt
      rw [trimP_get _ hi]
      simp only [Nat.testBit_or, hc]
      cases b.mask.testBit i <;> cases c.mask.testBit i <;> simp
  · have e1 : joinP (joinP a b) c = trimP c := by unfold joinP; rw [hc]; rfl
    have e2 : joinP b c = trimP c := by unfold joinP; rw [hc]; rfl
    rw [e1, e2]
    unfold joinP
    have e : (trimP c).fresh = true := hc
    rw [e]
    simp only [if_true]
    unfold trimP
    congr 1
    apply ch_ext (layB_len _ _) (layB_len _ _)
    intro i hi
    rw [layB_get _ _ hi, layB_get _ _ hi]
    unfold layAt
    dsimp only
    rw [layB_get _ _ hi, zeroC_get]
    unfold layAt
    rw [zeroC_get]
    cases c.mask.testBit i <;> simp [hc]

/-- Two without a byte in common may be turned. -/
theorem lay_turn (x : List Int) (a b : Pt) (ha : a.fresh = false) (hb : b.fresh = false) (h : a.mask &&& b.mask = 0) : layB (layB x a) b = layB (layB x b) a ∧ joinP a b = joinP b a := by
  have hbit : ∀ i, (a.mask.testBit i && b.mask.testBit i) = false := fun i => by rw [← Nat.testBit_and, h]; exact Nat.zero_testBit i
  constructor
  · apply ch_ext (layB_len _ _) (layB_len _ _)
    intro i hi
    rw [layB_get _ _ hi, layB_get _ _ hi]
    unfold layAt
    rw [layB_get _ _ hi, layB_get _ _ hi]
    unfold layAt
    have := hbit i
    rw [ha, hb]
    cases e1 : a.mask.testBit i <;> cases e2 : b.mask.testBit i <;> simp_all
  · unfold joinP
    rw [ha, hb]
    simp only [Bool.false_eq_true, if_false, Pt.mk.injEq, true_and]
    refine ⟨Nat.or_comm _ _, ?_⟩
    apply ch_ext (layB_len _ _) (layB_len _ _)
    intro i hi
    rw [layB_get _ _ hi, layB_get _ _ hi]
    unfold layAt
    rw [trimP_get _ hi, trimP_get _ hi]
    have := hbit i
    rw [ha, hb]
    cases e1 : a.mask.testBit i <;> cases e2 : b.mask.testBit i <;> simp_all

/-! ### Masks -/
/-- The bits of so many bytes from one on. -/
def runM (o n : Nat) : Nat := 2 ^ o * (2 ^ n - 1)
theorem runM_bit (o n i : Nat) : (runM o n).testBit i = (decide (o ≤ i) && decide (i < o + n)) := by
  unfold runM
  rw [Nat.mul_comm, ← Nat.shiftLeft_eq, Nat.testBit_shiftLeft, Nat.testBit_two_pow_sub_one]
  by_cases h : o ≤ i
  · have : (i - o < n) = (i < o + n) := by apply propext; omega
    simp [h, this]
  · simp [h]
theorem runM_lt {o n : Nat} (h : o + n ≤ 32) : runM o n < 4294967296 := by
  have h1 : 2 ^ (o + n) ≤ 4294967296 := by rw [show (4294967296 : Nat) = 2 ^ 32 from rfl]; exact Nat.pow_le_pow_right (by decide) h
  have hp : 0 < 2 ^ o := Nat.pow_pos (by decide)
  have hq : 0 < 2 ^ n := Nat.pow_pos (by decide)
  rw [Nat.pow_add] at h1
  unfold runM
  exact Nat.lt_of_lt_of_le (Nat.mul_lt_mul_of_pos_left (by omega) hp) h1
theorem runM_0 (o : Nat) : runM o 0 = 0 := by simp [runM]
theorem runM_next (o n : Nat) : runM o (n + 1) = runM o n ||| 2 ^ (o + n) := by
  apply Nat.eq_of_testBit_eq
  intro i
  rw [Nat.testBit_or, runM_bit, runM_bit, Nat.testBit_two_pow, Bool.eq_iff_iff]
  simp only [Bool.or_eq_true, Bool.and_eq_true, decide_eq_true_eq]
  omega
/-- What 'bitsFrom' says. -/
theorem from_shift {o : Nat} (h : o ≤ 32) : (4294967295 * 2 ^ o) % 4294967296 = runM o (32 - o) := by
  unfold runM
  obtain ⟨d, hd⟩ : ∃ d, 32 = o + d := ⟨32 - o, by omega⟩
  rw [show 32 - o = d from by omega, show (4294967295 : Nat) = 2 ^ (o + d) - 1 from by rw [← hd], show (4294967296 : Nat) = 2 ^ (o + d) from by rw [← hd]]
  have hp : 0 < 2 ^ o := Nat.pow_pos (by decide)
  have hq : 0 < 2 ^ d := Nat.pow_pos (by decide)
  rw [Nat.pow_add]
  generalize 2 ^ o = A at *
  generalize 2 ^ d = D at *
  have e : (A * D - 1) * A = A * (D - 1) + A * D * (A - 1) := by
    obtain ⟨A, rfl⟩ : ∃ k, A = k + 1 := ⟨A - 1, by omega⟩
    obtain ⟨D, rfl⟩ : ∃ k, D = k + 1 := ⟨D - 1, by omega⟩
    simp only [Nat.add_sub_cancel]
    have : (A + 1) * (D + 1) - 1 = A * D + A + D := by rw [Nat.add_mul, Nat.mul_add]; omega
    rw [this]
    simp only [Nat.add_mul, Nat.mul_add, Nat.mul_one, Nat.one_mul]
    rw [Nat.mul_comm D A, Nat.mul_assoc A D A, Nat.mul_comm D A]
    omega
  rw [e, Nat.add_mul_mod_self_left]
  refine Nat.mod_eq_of_lt (Nat.mul_lt_mul_of_pos_left (by omega) hp)
theorem run_andNot {o n : Nat} (h : o + n ≤ 32) : runM o (32 - o) &&& (4294967295 - runM (o + n) (32 - (o + n))) = runM o n := by
  have e : 4294967295 - runM (o + n) (32 - (o + n)) = 2 ^ (o + n) - 1 := by
    unfold runM
    have : 2 ^ (o + n) * 2 ^ (32 - (o + n)) = 4294967296 := by rw [← Nat.pow_add, show o + n + (32 - (o + n)) = 32 from by omega]
    rw [Nat.mul_sub, this]
    have : 0 < 2 ^ (o + n) := Nat.pow_pos (by decide)
    have : 2 ^ (o + n) ≤ 4294967296 := by rw [show (4294967296 : Nat) = 2 ^ 32 from rfl]; exact Nat.pow_le_pow_right (by decide) h
    omega
  rw [e]
  apply Nat.eq_of_testBit_eq
  intro i
  rw [Nat.testBit_and, runM_bit, runM_bit, Nat.testBit_two_pow_sub_one, Bool.eq_iff_iff]
  simp only [Bool.and_eq_true, decide_eq_true_eq]
  omega

/-! ### Of -/
def setAt (n : Nat) (o : Nat) (xs : List Int) (i : Nat) : Int := if o ≤ i ∧ i < o + n then xs.getD (i - o) 0 else 0
/-- The patch that lays some bytes from one on. -/
def ofP (o : Nat) (xs : List Int) : Pt := ⟨false, runM o xs.length, (List.range 32).map (setAt xs.length o xs)⟩
theorem setAt_byt {xs : List Int} (h : Byt xs) (n o i : Nat) : 0 ≤ setAt n o xs i ∧ setAt n o xs i ≤ 255 := by
  unfold setAt
  split
  · exact h.getD _
  · omega
theorem ofP_ok {o : Nat} {xs : List Int} (hb : Byt xs) (h : o + xs.length ≤ 32) : PtOk (ofP o xs) := by
  refine ⟨runM_lt h, by simp [ofP], fun x hx => ?_⟩
  simp only [ofP, List.mem_map] at hx
  obtain ⟨i, _, rfl⟩ := hx
  exact setAt_byt hb _ _ _
theorem range_get (f : Nat → Int) {i : Nat} (h : i < 32) : ((List.range 32).map f).getD i 0 = f i := by
  rw [List.getD_eq_getElem?_getD, List.getElem?_map, List.getElem?_range h]; rfl
/-- What is laid by it. -/
theorem lay_of (x : List Int) (o : Nat) (xs : List Int) {i : Nat} (hi : i < 32) : (layB x (ofP o xs)).getD i 0 = if o ≤ i ∧ i < o + xs.length then xs.getD (i - o) 0 else x.getD i 0 := by
  rw [layB_get _ _ hi]
  unfold layAt ofP
  simp only [runM_bit, range_get _ hi, setAt, Bool.false_eq_true, if_false, Bool.and_eq_true, decide_eq_true_eq]
  split <;> simp_all
theorem of_again (x : List Int) (o : Nat) (xs : List Int) : layB (layB x (ofP o xs)) (ofP o xs) = layB x (ofP o xs) := by
  apply ch_ext (layB_len _ _) (layB_len _ _)
  intro i hi
  rw [lay_of _ _ _ hi]
  split
  · rename_i h; rw [lay_of _ _ _ hi, if_pos h]
  · rfl
theorem of_trim (o : Nat) (xs : List Int) : trimP (ofP o xs) = ofP o xs := by
  have e : (trimP (ofP o xs)).bytes = (ofP o xs).bytes := by
    apply ch_ext (layB_len _ _) (by simp [ofP])
    intro i hi
    show (trimP (ofP o xs)).bytes.getD i 0 = _
    rw [trimP_get _ hi]
    simp only [ofP, runM_bit, range_get _ hi, setAt, Bool.and_eq_true, decide_eq_true_eq]
    split <;> simp_all
  show (⟨(ofP o xs).fresh, (ofP o xs).mask, (trimP (ofP o xs)).bytes⟩ : Pt) = _
  rw [e]

end Go.Proofs.Ytmifpeocgikbeab
