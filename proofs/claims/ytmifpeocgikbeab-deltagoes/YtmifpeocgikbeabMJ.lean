/- OrderMath, OrdMath: in one text. -/
import Derived.Test.YtmifpeocgikbeabLaws
import Derived.Test.YtmifpeocgikbeabNumMath
import Derived.Test.YtmifpeocgikbeabPCompare
namespace Go.Proofs.Ytmifpeocgikbeab
open Go.RowKit
set_option linter.unusedVariables false
set_option linter.unusedSimpArgs false
set_option maxRecDepth 4000

theorem valB_fold (A : List Int) : ∀ a : Nat, A.foldl (fun a b => a * 256 + b.toNat) a = a * 256 ^ A.length + valB A := by
  induction A with
  | nil => intro a; simp [valB]
  | cons b A ih =>
    intro a
    have e : valB (b :: A) = (0 * 256 + b.toNat) * 256 ^ A.length + valB A := ih _
    rw [List.foldl_cons, ih, e, List.length_cons, Nat.pow_succ, Nat.zero_mul, Nat.zero_add, Nat.add_mul, Nat.mul_assoc, Nat.mul_comm 256 (256 ^ A.length), Nat.add_assoc]
theorem valB_cons (b : Int) (A : List Int) : valB (b :: A) = b.toNat * 256 ^ A.length + valB A := by
  have := valB_fold A (0 * 256 + b.toNat)
  show List.foldl _ (0 * 256 + b.toNat) A = _
  rw [this, Nat.zero_mul, Nat.zero_add]

theorem less_bytes : ∀ (A B : List Int), Byt A → Byt B → A.length = B.length → Op.bytesLess (toU A) (toU B) = decide (valB A < valB B)
  | [], [], _, _, _ => by simp [toU, Op.bytesLess, valB]
  | [], _ :: _, _, _, h => by simp at h
  | _ :: _, [], _, _, h => by simp at h
  | a :: A, b :: B, ha, hb, h => by
    have hl : A.length = B.length := by simpa using h
    have ih := less_bytes A B (fun x hx => ha x (by simp [hx])) (fun x hx => hb x (by simp [hx])) hl
    obtain ⟨a0, a1⟩ := ha a (by simp)
    obtain ⟨b0, b1⟩ := hb b (by simp)
    have hA := valB_lt A (fun x hx => ha x (by simp [hx]))
    have hB := valB_lt B (fun x hx => hb x (by simp [hx]))
    have e1 : (UInt8.ofNat a.toNat < UInt8.ofNat b.toNat) = (a < b) := by
      rw [UInt8.lt_iff_toNat_lt]; simp; omega
    have e2 : (UInt8.ofNat a.toNat == UInt8.ofNat b.toNat) = decide (a = b) := by
      rw [Bool.eq_iff_iff, beq_iff_eq, decide_eq_true_iff, ← UInt8.toNat_inj]; simp; omega
    show (decide (UInt8.ofNat a.toNat < UInt8.ofNat b.toNat) || (UInt8.ofNat a.toNat == UInt8.ofNat b.toNat && Op.bytesLess (toU A) (toU B))) = _
    rw [ih, e2, valB_cons, valB_cons, hl]
    simp only [e1]
    rw [hl] at hA
    generalize 256 ^ B.length = M at hA hB
    rw [Bool.eq_iff_iff]
    simp only [Bool.or_eq_true, Bool.and_eq_true, decide_eq_true_iff]
    obtain ⟨x, rfl⟩ := Int.eq_ofNat_of_zero_le a0
    obtain ⟨y, rfl⟩ := Int.eq_ofNat_of_zero_le b0
    simp only [Int.toNat_natCast]
    rcases Nat.lt_trichotomy x y with hxy | hxy | hxy
    · have : (x + 1) * M ≤ y * M := Nat.mul_le_mul_right _ hxy
      rw [Nat.add_mul, Nat.one_mul] at this
      exact ⟨fun _ => by omega, fun _ => .inl (by omega)⟩
    · subst hxy
      exact ⟨fun h => by rcases h with h | h <;> omega, fun h => .inr ⟨rfl, by omega⟩⟩
    · have : (y + 1) * M ≤ x * M := Nat.mul_le_mul_right _ hxy
      rw [Nat.add_mul, Nat.one_mul] at this
      exact ⟨fun h => by rcases h with h | h <;> omega, fun h => by omega⟩

/-- Two numbers in as many bytes: the strings of their bytes are ordered as they are. -/
theorem order_less (a b k : Int) (ha : 0 ≤ a) (hb : 0 ≤ b) (ea : fixE a k = 0) (eb : fixE b k = 0) : Op.bytesLess (strOfNums (fixL a k)).toList (strOfNums (fixL b k)).toList = decide (a < b) := by
  have la : fixL a k = fixB a.toNat k.toNat := by unfold fixL; rw [if_pos ea]
  have lb : fixL b k = fixB b.toNat k.toNat := by unfold fixL; rw [if_pos eb]
  rw [ByteArray.toList_eq, ByteArray.toList_eq, la, lb]
  show Op.bytesLess (toU _) (toU _) = _
  rw [less_bytes _ _ (fixB_byt _ _) (fixB_byt _ _) (by rw [fixB_length, fixB_length]), valB_fixB _ _ (fixE_fits ha ea), valB_fixB _ _ (fixE_fits hb eb), Bool.eq_iff_iff, decide_eq_true_iff, decide_eq_true_iff]
  omega
theorem order_eq (a b k : Int) (ha : 0 ≤ a) (hb : 0 ≤ b) (ea : fixE a k = 0) (eb : fixE b k = 0) : ((strOfNums (fixL a k)).toList == (strOfNums (fixL b k)).toList) = decide (a = b) := by
  have la : fixL a k = fixB a.toNat k.toNat := by unfold fixL; rw [if_pos ea]
  have lb : fixL b k = fixB b.toNat k.toNat := by unfold fixL; rw [if_pos eb]
  rw [la, lb, beq_strOf (fixB_byt _ _) (fixB_byt _ _), Bool.eq_iff_iff, decide_eq_true_iff, decide_eq_true_iff]
  constructor
  · intro h
    have := congrArg valB h
    rw [valB_fixB _ _ (fixE_fits ha ea), valB_fixB _ _ (fixE_fits hb eb)] at this
    omega
  · intro h; rw [h]

/-- An order, told by -1, 0, 1. -/
structure Ord3 {α : Type} (f : α → α → Int) : Prop where
  three : ∀ a b, f a b = -1 ∨ f a b = 0 ∨ f a b = 1
  turn : ∀ a b, f b a = - f a b
  zero : ∀ a b, f a b = 0 ↔ a = b
  trans : ∀ a b c, f a b = -1 → f b c = -1 → f a c = -1

theorem Ord3.same {α : Type} {f : α → α → Int} (h : Ord3 f) (a : α) : f a a = 0 := (h.zero a a).2 rfl

theorem Ord3.goes {α : Type} {f : α → α → Int} (h : Ord3 f) (a b c : α) : (f a b = f b c → f a c = f a b) ∧ (f a b = 0 → f a c = f b c) ∧ (f b c = 0 → f a c = f a b) := by
  refine ⟨fun e => ?_, fun e => by rw [(h.zero a b).1 e], fun e => by rw [(h.zero b c).1 e]⟩
  rcases h.three a b with h1 | h1 | h1
  · rw [h1]; exact h.trans a b c h1 (by rw [← e]; exact h1)
  · rw [(h.zero a b).1 h1, ← e, h1, ← h1, (h.zero a b).1 h1]
  · have h2 : f c b = -1 := by rw [h.turn b c, ← e, h1]
    have h3 : f b a = -1 := by rw [h.turn a b, h1]
    have h4 := h.trans c b a h2 h3
    rw [h.turn c a, h4, h1]; rfl

/-- First by 'f', then by 'g'. -/
def lex (x y : Int) : Int := if x = 0 then y else x

theorem Ord3.lex {α β : Type} {f : α → α → Int} {g : β → β → Int} (hf : Ord3 f) (hg : Ord3 g) : Ord3 (fun p q : α × β => lex (f p.1 q.1) (g p.2 q.2)) := by
  constructor
  · intro a b
    unfold Go.Proofs.Ytmifpeocgikbeab.lex
    split
    · exact hg.three _ _
    · exact hf.three _ _
  · intro a b
    unfold Go.Proofs.Ytmifpeocgikbeab.lex
    have := hf.turn a.1 b.1
    split
    · rw [if_pos (by omega)]; exact hg.turn _ _
    · rw [if_neg (by omega)]; exact this
  · intro a b
    unfold Go.Proofs.Ytmifpeocgikbeab.lex
    by_cases h : f a.1 b.1 = 0
    · rw [if_pos h, hg.zero]
      have := (hf.zero _ _).1 h
      exact ⟨fun e => Prod.ext this e, fun e => by rw [e]⟩
    · rw [if_neg h]
      exact ⟨fun e => absurd e h, fun e => absurd (by rw [e]; exact hf.same _) h⟩
  · intro a b c h1 h2
    unfold Go.Proofs.Ytmifpeocgikbeab.lex at *
    by_cases e1 : f a.1 b.1 = 0
    · rw [if_pos e1] at h1
      have q := (hf.zero _ _).1 e1
      by_cases e2 : f b.1 c.1 = 0
      · rw [if_pos e2] at h2
        rw [if_pos (by rw [q]; exact e2)]
        exact hg.trans _ _ _ h1 h2
      · rw [if_neg e2] at h2
        rw [if_neg (by rw [q]; exact e2), q]
        exact h2
    · rw [if_neg e1] at h1
      by_cases e2 : f b.1 c.1 = 0
      · have q := (hf.zero _ _).1 e2
        rw [← q, if_neg e1]
        exact h1
      · rw [if_neg e2] at h2
        have := hf.trans _ _ _ h1 h2
        rw [if_neg (by omega)]
        exact this

theorem cmpI_ord : Ord3 cmpI := by
  constructor
  · intro a b; unfold cmpI; split
    · exact .inl rfl
    · split
      · exact .inr (.inr rfl)
      · exact .inr (.inl rfl)
  · intro a b; unfold cmpI
    rcases Int.lt_trichotomy a b with h | h | h
    · rw [if_neg (by omega), if_pos h, if_pos h]; rfl
    · rw [if_neg (by omega), if_neg (by omega), if_neg (by omega), if_neg (by omega)]; rfl
    · rw [if_pos h, if_neg (by omega), if_pos h]
  · intro a b; unfold cmpI
    rcases Int.lt_trichotomy a b with h | h | h
    · rw [if_pos h]; exact ⟨fun e => by omega, fun e => by omega⟩
    · rw [if_neg (by omega), if_neg (by omega)]; exact ⟨fun _ => h, fun _ => rfl⟩
    · rw [if_neg (by omega), if_pos h]; exact ⟨fun e => by omega, fun e => by omega⟩
  · intro a b c h1 h2
    unfold cmpI at *
    have q1 : a < b := by
      rcases Int.lt_trichotomy a b with h | h | h
      · exact h
      · rw [if_neg (by omega), if_neg (by omega)] at h1; omega
      · rw [if_neg (by omega), if_pos h] at h1; omega
    have q2 : b < c := by
      rcases Int.lt_trichotomy b c with h | h | h
      · exact h
      · rw [if_neg (by omega), if_neg (by omega)] at h2; omega
      · rw [if_neg (by omega), if_pos h] at h2; omega
    rw [if_pos (by omega)]

/-- Bytes, one by one; a beginning stands ahead. -/
def cmpL : List Int → List Int → Int
  | [], [] => 0
  | [], _ :: _ => -1
  | _ :: _, [] => 1
  | a :: x, b :: y => lex (cmpI a b) (cmpL x y)

theorem cmpL_three : ∀ a b : List Int, cmpL a b = -1 ∨ cmpL a b = 0 ∨ cmpL a b = 1
  | [], [] => .inr (.inl rfl)
  | [], _ :: _ => .inl rfl
  | _ :: _, [] => .inr (.inr rfl)
  | a :: x, b :: y => by
    unfold cmpL lex
    split
    · exact cmpL_three x y
    · exact cmpI_ord.three a b

theorem cmpL_turn : ∀ a b : List Int, cmpL b a = - cmpL a b
  | [], [] => rfl
  | [], _ :: _ => rfl
  | _ :: _, [] => rfl
  | a :: x, b :: y => by
    unfold cmpL lex
    have := cmpI_ord.turn a b
    split
    · rw [if_pos (by omega)]; exact cmpL_turn x y
    · rw [if_neg (by omega)]; exact this

theorem cmpL_zero : ∀ a b : List Int, cmpL a b = 0 ↔ a = b
  | [], [] => by simp [cmpL]
  | [], _ :: _ => by simp [cmpL]
  | _ :: _, [] => by simp [cmpL]
  | a :: x, b :: y => by
    unfold cmpL lex
    by_cases h : cmpI a b = 0
    · rw [if_pos h, cmpL_zero x y]
      have := (cmpI_ord.zero a b).1 h
      subst this
      simp
    · rw [if_neg h]
      have : ¬ a = b := fun e => h ((cmpI_ord.zero a b).2 e)
      simp [h, this]

theorem cmpL_trans : ∀ a b c : List Int, cmpL a b = -1 → cmpL b c = -1 → cmpL a c = -1
  | [], [], _, h, _ => by simp [cmpL] at h
  | [], _ :: _, [], _, h => by simp [cmpL] at h
  | [], _ :: _, _ :: _, _, _ => rfl
  | _ :: _, [], _, h, _ => by simp [cmpL] at h
  | _ :: _, _ :: _, [], _, h => by simp [cmpL] at h
  | a :: x, b :: y, c :: z, h1, h2 => by
    unfold cmpL at *
    unfold lex at *
    by_cases e1 : cmpI a b = 0
    · rw [if_pos e1] at h1
      have q := (cmpI_ord.zero _ _).1 e1
      subst q
      by_cases e2 : cmpI a c = 0
      · rw [if_pos e2] at h2 ⊢
        exact cmpL_trans x y z h1 h2
      · rw [if_neg e2] at h2 ⊢
        exact h2
    · rw [if_neg e1] at h1
      by_cases e2 : cmpI b c = 0
      · have q := (cmpI_ord.zero _ _).1 e2
        subst q
        rw [if_neg e1]
        exact h1
      · rw [if_neg e2] at h2
        have := cmpI_ord.trans _ _ _ h1 h2
        rw [if_neg (by omega)]
        exact this

theorem cmpL_ord : Ord3 cmpL := ⟨cmpL_three, cmpL_turn, cmpL_zero, cmpL_trans⟩

theorem less_cmpL : ∀ A B : List Int, Byt A → Byt B → Op.bytesLess (toU A) (toU B) = decide (cmpL A B = -1)
  | [], [], _, _ => by simp [toU, Op.bytesLess, cmpL]
  | [], b :: B, _, _ => by simp [toU, Op.bytesLess, cmpL]
  | a :: A, [], _, _ => by simp [toU, Op.bytesLess, cmpL]
  | a :: A, b :: B, ha, hb => by
    have ih := less_cmpL A B (fun x hx => ha x (by simp [hx])) (fun x hx => hb x (by simp [hx]))
    obtain ⟨a0, a1⟩ := ha a (by simp)
    obtain ⟨b0, b1⟩ := hb b (by simp)
    have e1 : (UInt8.ofNat a.toNat < UInt8.ofNat b.toNat) = (a < b) := by
      rw [UInt8.lt_iff_toNat_lt]; simp; omega
    have e2 : (UInt8.ofNat a.toNat == UInt8.ofNat b.toNat) = decide (a = b) := by
      rw [Bool.eq_iff_iff, beq_iff_eq, decide_eq_true_iff, ← UInt8.toNat_inj]; simp; omega
    show (decide (UInt8.ofNat a.toNat < UInt8.ofNat b.toNat) || (UInt8.ofNat a.toNat == UInt8.ofNat b.toNat && Op.bytesLess (toU A) (toU B))) = _
    rw [ih, e2]
    simp only [e1]
    have hc : cmpL (a :: A) (b :: B) = lex (cmpI a b) (cmpL A B) := rfl
    rw [hc]
    unfold lex cmpI
    rcases Int.lt_trichotomy a b with h | h | h
    · simp [h]
    · subst h; simp
    · have h' : ¬ a < b := by omega
      have h'' : ¬ a = b := by omega
      simp [h, h', h'']

theorem toList_toU (s : ByteArray) : s.toList = toU (strB s) := by
  rw [ByteArray.toList_eq]
  unfold toU strB
  rw [List.map_map]
  conv => lhs; rw [← List.map_id s.data.toList]
  apply List.map_congr_left
  intro c _
  simp

theorem strB_inj {s t : ByteArray} (h : strB s = strB t) : s = t := by
  rw [← strOfNums_strB s, ← strOfNums_strB t, h]

theorem cmpS_cmpL (s t : ByteArray) : cmpS s t = cmpL (strB s) (strB t) := by
  unfold cmpS
  rw [toList_toU, toList_toU, less_cmpL _ _ (strB_byt s) (strB_byt t)]
  have he : (toU (strB s) == toU (strB t)) = decide (strB s = strB t) := by
    rw [Bool.eq_iff_iff, beq_iff_eq, decide_eq_true_iff]
    exact ⟨fun h => toU_inj _ _ (strB_byt s) (strB_byt t) h, fun h => by rw [h]⟩
  rw [he]
  rcases cmpL_three (strB s) (strB t) with h | h | h
  · simp [h]
  · have := (cmpL_zero _ _).1 h
    rw [h, if_neg (by decide), if_pos (by simpa using this)]
  · have : ¬ strB s = strB t := fun e => by rw [(cmpL_zero _ _).2 e] at h; omega
    simp [h, this]

theorem orL_lex (x0 x1 x2 x3 : Int) : orL [x0, x1, x2, x3] = lex x0 (lex x1 (lex x2 x3)) := by
  unfold lex
  simp only [orL]
  by_cases h : x3 = 0
  · simp [h]
  · simp [h]

theorem cmpP_lex (a b : Pl) : cmpP a b = lex (cmpI a.ino b.ino) (lex (cmpI a.part b.part) (lex (cmpL (strB a.name) (strB b.name)) (cmpI a.chunk b.chunk))) := by
  unfold cmpP
  rw [orL_lex, cmpS_cmpL]

theorem cmpP_ord : Ord3 cmpP := by
  have h := cmpI_ord.lex (cmpI_ord.lex (cmpL_ord.lex cmpI_ord))
  have key : ∀ a b : Pl, cmpP a b = (fun p q : Int × Int × List Int × Int => lex (cmpI p.1 q.1) (lex (cmpI p.2.1 q.2.1) (lex (cmpL p.2.2.1 q.2.2.1) (cmpI p.2.2.2 q.2.2.2)))) (a.ino, a.part, strB a.name, a.chunk) (b.ino, b.part, strB b.name, b.chunk) := fun a b => cmpP_lex a b
  constructor
  · intro a b; rw [key]; exact h.three _ _
  · intro a b; rw [key, key]; exact h.turn _ _
  · intro a b
    rw [key, h.zero]
    obtain ⟨i, k, s, c⟩ := a
    obtain ⟨i', k', s', c'⟩ := b
    simp only [Prod.mk.injEq, Pl.mk.injEq]
    exact ⟨fun ⟨h1, h2, h3, h4⟩ => ⟨h1, h2, strB_inj h3, h4⟩, fun ⟨h1, h2, h3, h4⟩ => ⟨h1, h2, by rw [h3], h4⟩⟩
  · intro a b c h1 h2
    rw [key] at h1 h2 ⊢
    exact h.trans _ _ _ h1 h2

end Go.Proofs.Ytmifpeocgikbeab
