/- KeyMath, RReadMath, RHead, RKey: in one text. -/
import Derived.Test.YtjlglnhmkheidaaGreatP3
import Derived.Test.YtjlglnhmkheidaaGreatM2
import Derived.Test.YtjlglnhmkheidaaGreatP2
namespace Go.Proofs.YtjlglnhmkheidaaGreat
open Go.RowKit
set_option linter.unusedVariables false
set_option linter.unusedSimpArgs false
set_option maxRecDepth 4000

theorem fixB_four (n : Int) (h0 : 0 ≤ n) (h1 : n ≤ 4294967295) : (valB (fixB n.toNat 4) : Int) = n := by
  rw [valB_fixB n.toNat 4 (by omega)]
  omega

theorem keyL_take (i k : Int) (rest : List Int) : (keyL i k rest).take 4 = fixB i.toNat 4 := by
  unfold keyL
  rw [List.take_append_of_le_length (by rw [fixB_length]; omega), List.take_of_length_le (by rw [fixB_length]; omega)]

theorem keyL_four (i k : Int) (rest : List Int) : (keyL i k rest).getD 4 0 = k % 256 := by
  unfold keyL
  rw [List.getD_eq_getElem?_getD, List.getElem?_append_right (by rw [fixB_length]; omega), fixB_length]
  rfl

theorem keyL_drop (i k : Int) (rest : List Int) : (keyL i k rest).drop 5 = rest ++ List.replicate (9 - rest.length) 0 := by
  unfold keyL
  rw [List.drop_append, fixB_length, List.drop_of_length_le (by rw [fixB_length]; omega)]
  rfl

theorem zLen_pad (xs : List Int) (m : Nat) (h : ∀ x ∈ xs, x ≠ 0) : zLen (xs ++ List.replicate (m + 1) 0) = xs.length := by
  induction xs with
  | nil => rfl
  | cons x xs ih =>
    show zLen (x :: (xs ++ List.replicate (m + 1) 0)) = _
    unfold zLen
    rw [if_neg (h x (by simp)), ih (fun y hy => h y (by simp [hy]))]
    rfl

theorem nameOk_bytes {s : ByteArray} (h : nameOk s = true) : ∀ x ∈ strB s, x ≠ 0 := by
  unfold nameOk at h
  simp only [Bool.and_eq_true, Bool.not_eq_true'] at h
  have h0 := h.1.2
  intro x hx e
  subst e
  unfold strB at hx
  obtain ⟨c, hc, e⟩ := List.mem_map.1 hx
  have hc0 : c = 0 := UInt8.toNat_inj.1 (by simpa using e)
  subst hc0
  rw [← List.contains_iff_mem] at hc
  rw [hc] at h0
  cases h0

theorem toList_empty {s : ByteArray} (h : s.toList = []) : s = ⟨#[]⟩ := by
  rw [ByteArray.toList_eq] at h
  obtain ⟨d⟩ := s
  exact congrArg ByteArray.mk (Array.ext' h)

/-- What is read of a place's key is the place. -/
theorem plOf_key (p : Pl) (hp : PlOk p) (h : plOk p = true) : plOf (keyP p) = p := by
  obtain ⟨i0, i1, _, _, _, c0, c1⟩ := hp
  have hsz := plOk_size h
  obtain ⟨_, hc⟩ := plOk_cases h
  unfold plOf keyP
  rw [keyL_four, keyL_take, keyL_drop, fixB_four _ i0 i1]
  obtain ⟨i, k, s, c⟩ := p
  dsimp only at *
  rcases hc with ⟨rfl, hn, rfl⟩ | ⟨rfl, hn, rfl⟩ | ⟨rfl, hn, hc⟩
  · rw [if_pos (by decide), toList_empty hn]
    rfl
  · rw [if_neg (by decide), if_pos (by decide)]
    have hr : restP ⟨i, 2, s, 0⟩ = strB s := if_neg (show ¬ (2 : Int) = 3 from by decide)
    rw [hr, show 9 - (strB s).length = (8 - s.size) + 1 from by rw [strB_length]; omega, zLen_pad _ _ (nameOk_bytes hn), List.take_left, strOfNums_strB]
    rfl
  · rw [if_neg (by decide), if_neg (by decide), if_pos (by decide)]
    have hr : restP ⟨i, 3, s, c⟩ = fixB c.toNat 4 := if_pos rfl
    rw [hr, List.take_append_of_le_length (by rw [fixB_length]; omega), List.take_of_length_le (by rw [fixB_length]; omega), fixB_four _ c0 c1, toList_empty hn]
    rfl

theorem keyP_byt (p : Pl) : Byt (keyP p) := keyL_byt _ _ _ (restP_byt p)
theorem keyP_length {p : Pl} (h : plOk p = true) : (keyP p).length = 14 := keyL_length _ _ _ (restP_length h)
theorem keyS_yes {p : Pl} (h : plOk p = true) : keyS p = strOfNums (keyP p) := by unfold keyS; rw [h]; rfl

/-- A place's key is read as it. -/
theorem read_key (p : Pl) (hp : PlOk p) (h : plOk p = true) : rdP (keyS p) = p ∧ rdE (keyS p) = 0 ∧ (keyS p).size = 14 := by
  have hs : (keyS p).size = 14 := by rw [keyS_yes h, strOfNums_size, keyP_length h]
  have hb : strB (keyS p) = keyP p := by rw [keyS_yes h, strB_strOf (keyP_byt p)]
  have hq : plOf (strB (keyS p)) = p := by rw [hb, plOf_key p hp h]
  have hok : rdOk (keyS p) = true := by
    unfold rdOk
    rw [hq, hs, h]
    simp
  obtain ⟨e1, e2⟩ := rd_yes hok
  exact ⟨by rw [e1, hq], e2, hs⟩

theorem cmpL_append : ∀ (A B X Y : List Int), A.length = B.length → cmpL (A ++ X) (B ++ Y) = lex (cmpL A B) (cmpL X Y)
  | [], [], X, Y, _ => by simp [cmpL, lex]
  | [], _ :: _, _, _, h => by simp at h
  | _ :: _, [], _, _, h => by simp at h
  | a :: A, b :: B, X, Y, h => by
    have ih := cmpL_append A B X Y (by simpa using h)
    show lex (cmpI a b) (cmpL (A ++ X) (B ++ Y)) = lex (lex (cmpI a b) (cmpL A B)) (cmpL X Y)
    rw [ih]
    unfold lex
    by_cases h1 : cmpI a b = 0
    · simp [h1]
    · simp [h1]

theorem cmpL_num (A B : List Int) (ha : Byt A) (hb : Byt B) (h : A.length = B.length) : cmpL A B = cmpI (valB A) (valB B) := by
  have h1 := less_bytes A B ha hb h
  have h2 := less_bytes B A hb ha h.symm
  rw [less_cmpL A B ha hb, Bool.eq_iff_iff, decide_eq_true_iff, decide_eq_true_iff] at h1
  rw [less_cmpL B A hb ha, Bool.eq_iff_iff, decide_eq_true_iff, decide_eq_true_iff, cmpL_turn A B] at h2
  unfold cmpI
  rcases cmpL_three A B with e | e | e
  · rw [e, if_pos (by have := h1.1 e; omega)]
  · rw [e] at h1 h2 ⊢
    have q1 : ¬ valB A < valB B := fun hq => by have := h1.2 hq; omega
    have q2 : ¬ valB B < valB A := fun hq => by have := h2.2 hq; omega
    rw [if_neg (by omega), if_neg (by omega)]
  · rw [e] at h1 h2 ⊢
    have q1 : ¬ valB A < valB B := fun hq => by have := h1.2 hq; omega
    have q2 : valB B < valB A := h2.1 rfl
    rw [if_neg (by omega), if_pos (by omega)]

theorem cmpL_fix (a b : Int) (a0 : 0 ≤ a) (a1 : a ≤ 4294967295) (b0 : 0 ≤ b) (b1 : b ≤ 4294967295) : cmpL (fixB a.toNat 4) (fixB b.toNat 4) = cmpI a b := by
  rw [cmpL_num _ _ (fixB_byt _ _) (fixB_byt _ _) (by rw [fixB_length, fixB_length]), fixB_four a a0 a1, fixB_four b b0 b1]

theorem cmpL_pad : ∀ (k : Nat) (n m : List Int), (∀ x ∈ n, 0 < x) → (∀ x ∈ m, 0 < x) → n.length ≤ k → m.length ≤ k → cmpL (n ++ List.replicate (k - n.length) 0) (m ++ List.replicate (k - m.length) 0) = cmpL n m
  | 0, n, m, _, _, hn, hm => by
    obtain rfl : n = [] := List.eq_nil_of_length_eq_zero (by omega)
    obtain rfl : m = [] := List.eq_nil_of_length_eq_zero (by omega)
    rfl
  | k + 1, [], [], _, _, _, _ => (cmpL_zero _ _).2 rfl
  | k + 1, [], y :: m, _, h, _, _ => by
    have hy := h y (by simp)
    show lex (cmpI 0 y) _ = -1
    unfold lex cmpI
    rw [if_pos hy]; rfl
  | k + 1, x :: n, [], h, _, _, _ => by
    have hx := h x (by simp)
    show lex (cmpI x 0) _ = 1
    unfold lex cmpI
    have q : ¬ x < 0 := by omega
    simp [q, hx]
  | k + 1, x :: n, y :: m, hn, hm, ln, lm => by
    have ih := cmpL_pad k n m (fun z hz => hn z (by simp [hz])) (fun z hz => hm z (by simp [hz])) (by simpa using ln) (by simpa using lm)
    simp only [List.length_cons, Nat.add_sub_add_right]
    show lex (cmpI x y) (cmpL (n ++ List.replicate (k - n.length) 0) (m ++ List.replicate (k - m.length) 0)) = lex (cmpI x y) (cmpL n m)
    rw [ih]

theorem cmpL_keyL (i k i' k' : Int) (R R' : List Int) (a0 : 0 ≤ i) (a1 : i ≤ 4294967295) (b0 : 0 ≤ i') (b1 : i' ≤ 4294967295) :
    cmpL (keyL i k R) (keyL i' k' R') = lex (cmpI i i') (lex (cmpI (k % 256) (k' % 256)) (cmpL (R ++ List.replicate (9 - R.length) 0) (R' ++ List.replicate (9 - R'.length) 0))) := by
  unfold keyL
  rw [cmpL_append _ _ _ _ (by rw [fixB_length, fixB_length]), cmpL_fix i i' a0 a1 b0 b1]
  rfl

theorem lex_zero (y : Int) : lex 0 y = y := if_pos rfl

/-- Keys are ordered as their places. -/
theorem cmpL_key (a b : Pl) (ha : PlOk a) (hb : PlOk b) (h : plOk a = true) (h' : plOk b = true) : cmpL (keyP a) (keyP b) = cmpP a b := by
  have s1 := plOk_size h
  have s2 := plOk_size h'
  obtain ⟨_, hc⟩ := plOk_cases h
  obtain ⟨_, hc'⟩ := plOk_cases h'
  unfold keyP
  rw [cmpL_keyL _ _ _ _ _ _ ha.i0 ha.i1 hb.i0 hb.i1, cmpP_lex]
  congr 1
  have e1 : a.part % 256 = a.part := by rcases hc with ⟨e, _⟩ | ⟨e, _⟩ | ⟨e, _⟩ <;> rw [e] <;> rfl
  have e2 : b.part % 256 = b.part := by rcases hc' with ⟨e, _⟩ | ⟨e, _⟩ | ⟨e, _⟩ <;> rw [e] <;> rfl
  rw [e1, e2]
  by_cases hpt : a.part = b.part
  · rw [(cmpI_ord.zero _ _).2 hpt, lex_zero, lex_zero]
    have hpos : ∀ s : ByteArray, nameOk s = true → ∀ x ∈ strB s, 0 < x := fun s hs x hx => by
      have h1 := nameOk_bytes hs x hx
      have h2 := strB_byt s x hx
      omega
    rcases hc with ⟨p1, n1, c1⟩ | ⟨p1, n1, c1⟩ | ⟨p1, n1, c1⟩
    · rcases hc' with ⟨p2, n2, c2⟩ | ⟨p2, n2, c2⟩ | ⟨p2, n2, c2⟩
      · unfold restP
        rw [if_neg (by omega), if_neg (by omega), toList_empty n1, toList_empty n2, c1, c2]
        rfl
      · omega
      · omega
    · rcases hc' with ⟨p2, n2, c2⟩ | ⟨p2, n2, c2⟩ | ⟨p2, n2, c2⟩
      · omega
      · unfold restP
        rw [if_neg (by omega), if_neg (by omega), cmpL_pad 9 _ _ (hpos _ n1) (hpos _ n2) (by rw [strB_length]; omega) (by rw [strB_length]; omega), c1, c2]
        unfold lex
        rw [cmpI_ord.same]
        split
        · assumption
        · rfl
      · omega
    · rcases hc' with ⟨p2, n2, c2⟩ | ⟨p2, n2, c2⟩ | ⟨p2, n2, c2⟩
      · omega
      · omega
      · unfold restP
        rw [if_pos p1, if_pos p2, toList_empty n1, toList_empty n2, cmpL_append _ _ _ _ (by rw [fixB_length, fixB_length]), fixB_length, fixB_length, cmpL_ord.same, cmpL_ord.same, cmpL_fix _ _ ha.c0 ha.c1 hb.c0 hb.c1, lex_zero]
        unfold lex
        split
        · rename_i e; exact e.symm
        · rfl
  · have hne : cmpI a.part b.part ≠ 0 := fun e => hpt ((cmpI_ord.zero _ _).1 e)
    unfold lex
    rw [if_neg hne, if_neg hne]

theorem cmpL_zeros : ∀ (n : Nat) (X : List Int), Byt X → X.length = n → cmpL X (List.replicate n 0) ≠ -1
  | 0, X, _, h => by
    obtain rfl : X = [] := List.eq_nil_of_length_eq_zero h
    decide
  | n + 1, [], _, h => by simp at h
  | n + 1, x :: X, hy, h => by
    have ih := cmpL_zeros n X (fun y hy' => hy y (by simp [hy'])) (by simpa using h)
    obtain ⟨x0, _⟩ := hy x (by simp)
    show lex (cmpI x 0) (cmpL X (List.replicate n 0)) ≠ -1
    unfold lex cmpI
    by_cases hx : x = 0
    · subst hx; simpa using ih
    · have q1 : ¬ x < 0 := by omega
      have q2 : 0 < x := by omega
      simp [q1, q2]

theorem between_core (a b i k R : Int) (hz : R ≠ -1) : (!decide (lex (cmpI a i) (lex (cmpI b k) R) = -1) && decide (lex (cmpI a i) (lex (cmpI b (k + 1)) R) = -1)) = (a == i && b == k) := by
  unfold lex cmpI
  rcases Int.lt_trichotomy a i with h1 | h1 | h1
  · have : ¬ a = i := by omega
    simp [h1, this]
  · subst h1
    rcases Int.lt_trichotomy b k with h2 | h2 | h2
    · have : ¬ b = k := by omega
      simp [h2, this]
    · subst h2
      have : b < b + 1 := by omega
      simp [hz, this]
    · have q1 : ¬ b < k := by omega
      have q2 : ¬ b = k := by omega
      by_cases q3 : k + 1 < b
      · have q4 : ¬ b < k + 1 := by omega
        simp [q1, q2, q3, q4, h2]
      · have q4 : ¬ b < k + 1 := by omega
        simp [q1, q2, q3, q4, h2, hz]
  · have q1 : ¬ a < i := by omega
    have q2 : ¬ a = i := by omega
    simp [h1, q1, q2]

/-- Whose keys are between which. -/
theorem between (p : Pl) (hp : PlOk p) (h : plOk p = true) (i k : Int) (i0 : 0 ≤ i) (i1 : i ≤ 4294967295) (k1 : 1 ≤ k) (k3 : k ≤ 3) :
    (!decide (cmpL (keyP p) (keyL i k []) = -1) && decide (cmpL (keyP p) (keyL i (k + 1) []) = -1)) = (p.ino == i && p.part == k) := by
  have hrl := restP_length h
  obtain ⟨_, hc⟩ := plOk_cases h
  have e1 : p.part % 256 = p.part := by rcases hc with ⟨e, _⟩ | ⟨e, _⟩ | ⟨e, _⟩ <;> rw [e] <;> rfl
  have hz := cmpL_zeros 9 (restP p ++ List.replicate (9 - (restP p).length) 0) ((restP_byt p).append (fun x hx => by rw [List.eq_of_mem_replicate hx]; omega)) (by simp; omega)
  unfold keyP
  rw [cmpL_keyL _ _ _ _ _ _ hp.i0 hp.i1 i0 i1, cmpL_keyL _ _ _ _ _ _ hp.i0 hp.i1 i0 i1, e1, show k % 256 = k from by omega, show (k + 1) % 256 = k + 1 from by omega]
  simp only [List.nil_append, List.length_nil, Nat.sub_zero]
  exact between_core _ _ _ _ _ hz

/-- Strings that are keys, held against one another. -/
theorem less_str (A B : List Int) (ha : Byt A) (hb : Byt B) : Op.bytesLess (strOfNums A).toList (strOfNums B).toList = decide (cmpL A B = -1) := by
  rw [toList_toU, toList_toU, strB_strOf ha, strB_strOf hb, less_cmpL A B ha hb]

theorem eq_str (A B : List Int) (ha : Byt A) (hb : Byt B) : ((strOfNums A).toList == (strOfNums B).toList) = decide (cmpL A B = 0) := by
  rw [beq_strOf ha hb, Bool.eq_iff_iff, decide_eq_true_iff, decide_eq_true_iff, cmpL_zero]

/-- The place that the document's Read holds against the key. -/
def refOf (xs : List Int) : Pl :=
  if xs.getD 4 0 = 2 then entP (valB (xs.take 4)) (strOfNums ((xs.drop 5).take (zLen (xs.drop 5)))) else if xs.getD 4 0 = 3 then datP (valB (xs.take 4)) (valB ((xs.drop 5).take 4)) else ⟨valB (xs.take 4), xs.getD 4 0, ⟨#[]⟩, 0⟩

theorem refOf_same (xs : List Int) : plOk (refOf xs) = plOk (plOf xs) ∧ (plOk (refOf xs) = true → refOf xs = plOf xs) := by
  unfold refOf plOf
  by_cases h2 : xs.getD 4 0 = 2
  · rw [if_pos h2, if_neg (by omega), if_pos h2]
    exact ⟨rfl, fun _ => rfl⟩
  · by_cases h3 : xs.getD 4 0 = 3
    · rw [if_neg h2, if_pos h3, if_neg (by omega), if_neg h2, if_pos h3]
      exact ⟨rfl, fun _ => rfl⟩
    · rw [if_neg h2, if_neg h3]
      by_cases h1 : xs.getD 4 0 = 1
      · rw [if_pos h1, h1]
        exact ⟨rfl, fun _ => rfl⟩
      · rw [if_neg h1, if_neg h2, if_neg h3]
        have e1 : plOk ⟨valB (xs.take 4), xs.getD 4 0, ⟨#[]⟩, 0⟩ = false := by
          unfold plOk
          have b1 : (xs.getD 4 0 == 1) = false := by simpa using h1
          have b2 : (xs.getD 4 0 == 2) = false := by simpa using h2
          have b3 : (xs.getD 4 0 == 3) = false := by simpa using h3
          simp only [b1, b2, b3, Bool.false_and, Bool.or_false, Bool.and_false]
        have e2 : plOk pl0 = false := rfl
        rw [e1, e2]
        exact ⟨rfl, fun h => by cases h⟩

theorem rdOk_ref (s : ByteArray) (hs : s.size = 14) : rdOk s = (plOk (refOf (strB s)) && ((keyS (refOf (strB s))).toList == s.toList)) := by
  obtain ⟨e1, e2⟩ := refOf_same (strB s)
  unfold rdOk
  rw [hs, decide_eq_true rfl, Bool.true_and, ← e1]
  cases h : plOk (refOf (strB s))
  · rfl
  · rw [e2 h]

theorem rdP_ref (s : ByteArray) (h : rdOk s = true) (hs : s.size = 14) : rdP s = refOf (strB s) := by
  rw [(rd_yes h).1]
  have h' := h
  rw [rdOk_ref s hs] at h'
  simp only [Bool.and_eq_true] at h'
  exact ((refOf_same (strB s)).2 h'.1).symm

theorem refOf_ok (xs : List Int) (hy : Byt xs) (hl : xs.length = 14) : PlOk (refOf xs) := by
  have h1 := valB_u32 xs hy
  have h2 := valB_u32 (xs.drop 5) (hy.drop 5)
  have h3 : (strOfNums ((xs.drop 5).take (zLen (xs.drop 5)))).size ≤ maxLen := by
    rw [strOfNums_size]; unfold maxLen; simp; omega
  have h0 : (⟨#[]⟩ : ByteArray).size ≤ maxLen := by decide
  have h4 := hy.getD 4
  unfold refOf
  split
  · exact ⟨by simp [entP], h1, by simp [entP], by simp [entP], h3, by simp [entP], by simp [entP]⟩
  · split
    · exact ⟨by simp [datP], h1, by simp [datP], by simp [datP], h0, by simp [datP], h2⟩
    · exact ⟨by simp, h1, by dsimp only; omega, by dsimp only; omega, h0, by simp, by simp⟩

theorem strB_at (s : ByteArray) (i : Nat) (h : i < s.size) : (strB s).getD i 0 = ((s[i]'h).toNat : Int) := by
  unfold strB
  rw [List.getD_eq_getElem?_getD, List.getElem?_map, Array.getElem?_toList, Array.getElem?_eq_getElem h]
  rfl

theorem zLen_at : ∀ (xs : List Int) (e : Nat), e ≤ xs.length → (∀ j, j < e → xs.getD j 0 ≠ 0) → (e = xs.length ∨ xs.getD e 0 = 0) → zLen xs = e
  | [], e, h, _, _ => by
    obtain rfl : e = 0 := by simpa using h
    rfl
  | x :: xs, 0, _, _, h => by
    rcases h with h | h
    · simp at h
    · have : x = 0 := by simpa using h
      unfold zLen
      rw [if_pos this]
  | x :: xs, e + 1, hl, hn, h => by
    have hx : x ≠ 0 := by simpa using hn 0 (by omega)
    have ih := zLen_at xs e (by simpa using hl) (fun j hj => by simpa using hn (j + 1) (by omega)) (by
      rcases h with h | h
      · left; simpa using h
      · right; simpa using h)
    unfold zLen
    rw [if_neg hx, ih]

/-- Where the name ends. -/
theorem zLen_str (s : ByteArray) (hs : s.size = 14) (e : Nat) (h5 : 5 ≤ e) (h14 : e ≤ 14) (hn : ∀ j (hj : j < s.size), 5 ≤ j → j < e → (s[j]'hj).toNat ≠ 0) (h : e = 14 ∨ ∃ hj : e < s.size, (s[e]'hj).toNat = 0) : zLen ((strB s).drop 5) = e - 5 := by
  have hget : ∀ j, ((strB s).drop 5).getD j 0 = (strB s).getD (5 + j) 0 := fun j => by simp [List.getD_eq_getElem?_getD]
  refine zLen_at _ _ (by rw [List.length_drop, strB_length]; omega) (fun j hj => ?_) ?_
  · rw [hget, strB_at s (5 + j) (by omega)]
    have := hn (5 + j) (by omega) (by omega) (by omega)
    omega
  · rcases h with h | ⟨hj, h⟩
    · left; rw [List.length_drop, strB_length]; omega
    · right
      rw [hget, show 5 + (e - 5) = e from by omega, strB_at s e hj, h]
      rfl

theorem extract_str (s : ByteArray) (a b : Nat) (hb : b ≤ s.size) : s.extract a b = strOfNums (((strB s).drop a).take (b - a)) := by
  have h1 : strB (s.extract a b) = ((strB s).drop a).take (b - a) := by
    unfold strB
    rw [ByteArray.data_extract, Array.toList_extract, List.map_take, List.map_drop]
  rw [← h1, strOfNums_strB]

set_option maxHeartbeats 1000000 in
theorem head_any (w : World) (i k : Int) (h0 : 0 ≤ i) (h1 : i ≤ 4294967295) :
    Calls Tryz.prog 58 #[.int .u32 i, .int .i64 k] w fun e w' => ∃ v, e = .returned v ∧ Own w' w.heap.size v (fixB i.toNat 4 ++ [k % 256]) ∧ Below w.heap.size w w' := by
  go_enter Tryz.func58, Tryz.ntmps58
  go_wp2_with fail
  refine (refFixed_any _ i 4 h0 (by omega)).mono ?_
  rintro e w1 ⟨v1, rfl, ho1, hb1⟩
  rw [fixL_four i h0 h1] at ho1
  have hba : Below w1.heap.size w1 (w1.alloc (.cells #[.int .u8 (k % 256)] 5)) := (Below.refl _ _).alloc (Nat.le_refl _) _
  have hrd : Rd (w1.alloc (.cells #[.int .u8 (k % 256)] 5)) (.slice (some ⟨w1.heap.size, 0, none⟩) 1 1) [k % 256] := Rd.laid (cs := #[.int .u8 (k % 256)]) rfl (by decide) rfl
  have ho2 := ho1.below hba
  have hsz := hb1.size
  go_wp2_with (at_builtin; refine wpList_append_rd rfl _ _ rfl w.heap.size _ _ rfl ho2 _ _ rfl hrd ?c1 ?c2 ?_)
  case c1 => rw [fixB_length]; simp
  case c2 => simp; omega
  intro v3 w3 ho3 hg3
  go_wp2
  go_ret
  exact ⟨_, rfl, ho3, below_grown (hb1.trans (hba.mono hsz)) (by simp; omega) ho2 hg3⟩

def lenOf : Value → Nat
  | .slice _ n _ => n
  | _ => 0

theorem Own.lenOf {w : World} {B : Nat} {v : Value} {xs : List Int} (h : Own w B v xs) : lenOf v = xs.length := by
  obtain ⟨a, cap, rfl, _⟩ := h.rd
  rfl

set_option maxHeartbeats 1000000 in
theorem fill_any (w : World) (B : Nat) (v : Value) (xs : List Int) (ho : Own w B v xs) (hB : B ≤ w.heap.size) (hl : xs.length ≤ 14) :
    Calls Tryz.prog 60 #[v] w fun e w' => e = .returned (.string (strOfNums (xs ++ List.replicate (14 - xs.length) 0))) ∧ Below B w w' := by
  go_enter Tryz.func60, Tryz.ntmps60
  go_wp2
  go_loopw [0] (fun t wr => ∃ j : Nat, xs.length + j ≤ 14 ∧ Own wr B t (xs ++ List.replicate j 0) ∧ Below B w wr ∧ B ≤ wr.heap.size) (fun t _ => 14 - lenOf t)
  case atStart => exact ⟨0, by omega, by simpa using ho, Below.refl _ _, hB⟩
  case round =>
    obtain ⟨j, hj, ho', hb', hB'⟩ := hrel
    have hlen := ho'.rd.len
    have hyl : (xs ++ List.replicate j (0 : Int)).length = xs.length + j := by simp
    have hlv := ho'.lenOf
    rw [hyl] at hlen hlv
    by_cases hlt : xs.length + j < 14
    · have hltI : ((xs.length + j : Nat) : Int) < 14 := by omega
      have hba : Below wr.heap.size wr (wr.alloc (.cells #[.int .u8 0] 5)) := (Below.refl _ _).alloc (Nat.le_refl _) _
      have hrd : Rd (wr.alloc (.cells #[.int .u8 0] 5)) (.slice (some ⟨wr.heap.size, 0, none⟩) 1 1) [0] := Rd.laid (cs := #[.int .u8 0]) rfl (by decide) rfl
      have ho2 := ho'.below hba
      generalize hm : xs.length + j = m at *
      go_wp2_with (at_builtin; refine wpList_append_rd rfl _ _ rfl B _ _ rfl ho2 _ _ rfl hrd ?c1 ?c2 ?_)
      case c1 => rw [hyl]; simp; omega
      case c2 => simp; omega
      intro v3 w3 ho3 hg3
      have hb3 : Below B w w3 := below_grown (hb'.trans (hba.mono hB')) (by simp; omega) ho2 hg3
      have hl3 := ho3.lenOf
      go_wp2
      go_roundw
      case rel =>
        refine ⟨j + 1, by omega, ?_, hb3, Nat.le_trans (by simp; omega) hg3.size⟩
        rw [List.replicate_succ']
        exact ho3
      case measure =>
        rw [hl3, hlv]
        simp
        omega
    · obtain rfl : j = 14 - xs.length := by omega
      have hltI : ¬ ((xs.length + (14 - xs.length) : Nat) : Int) < 14 := by omega
      have hcv := ho'.rd.conv
      generalize xs.length + (14 - xs.length) = m at *
      go_wp2
      go_ret
      exact ⟨rfl, hb'⟩

/-- What is filled, of a head and a rest. -/
theorem fill_key (i k : Int) (rest : List Int) (h : rest.length ≤ 9) : (fixB i.toNat 4 ++ [k % 256] ++ rest) ++ List.replicate (14 - (fixB i.toNat 4 ++ [k % 256] ++ rest).length) 0 = keyL i k rest := by
  unfold keyL
  rw [List.length_append, List.length_append, fixB_length, List.length_singleton, show 14 - (4 + 1 + rest.length) = 9 - rest.length from by omega]
  simp

set_option maxHeartbeats 2000000 in
theorem refKey_any (w : World) (p : Pl) (hp : PlOk p) : Calls Tryz.prog 26 #[plV p] w fun e w' => e = .returned (.tuple #[.string (keyS p), .int .i64 (plE p)]) ∧ Below w.heap.size w w' := by
  have hck : ∀ W, Calls Tryz.prog 37 #[.agg #[.int .u32 p.ino, .int .i64 p.part, .string p.name, .int .u32 p.chunk]] W fun e w' => e = .returned (.int .i64 (plE p)) ∧ Below W.heap.size W w' := fun W => refCheck_any W p hp
  obtain ⟨w1, hw1⟩ : ∃ w1, w1 = w.alloc (.cells #[.int .u32 p.ino, .int .i64 p.part, .string p.name, .int .u32 p.chunk] 26) := ⟨_, rfl⟩
  have hb1 : Below w.heap.size w w1 := by rw [hw1]; exact (Below.refl _ _).alloc (Nat.le_refl _) _
  have hp1 : PlAt w1 w.heap.size p := by rw [hw1]; exact PlAt.laid w p
  obtain ⟨h0, h1, _, _, _, h2, h3⟩ := hp
  unfold plV
  cases hok : plOk p
  · have e1 : plE p = 30 := by unfold plE; rw [hok]; rfl
    have e2 : keyS p = ⟨#[]⟩ := by unfold keyS; rw [hok]; rfl
    rw [e1] at hck ⊢
    rw [e2]
    go_enter Tryz.func26, Tryz.ntmps26
    go_wp2_with fail
    rw [← hw1]
    refine (hck _).mono ?_
    rintro e w2 ⟨rfl, hb2⟩
    go_wp2
    go_ret2
    exact ⟨rfl, thenB hb1 hb2⟩
  · have e1 : plE p = 0 := by unfold plE; rw [hok]; rfl
    have e2 : keyS p = strOfNums (keyL p.ino p.part (restP p)) := by unfold keyS; rw [hok]; rfl
    have hrl := restP_length hok
    have hsz := plOk_size hok
    obtain ⟨hi0, hpc⟩ := plOk_cases hok
    rw [e1] at hck ⊢
    rw [e2]
    clear hok e1 e2
    have hfa : ∀ (W : World) (B : Nat) (v : Value), Own W B v (fixB p.ino.toNat 4 ++ [p.part % 256] ++ restP p) → B ≤ W.heap.size → Calls Tryz.prog 60 #[v] W fun e w' => e = .returned (.string (strOfNums (keyL p.ino p.part (restP p)))) ∧ Below B W w' := fun W B v ho hB => by
      have := fill_any W B v _ ho hB (by simp [fixB_length]; omega)
      rwa [fill_key p.ino p.part (restP p) hrl] at this
    rcases hpc with ⟨hpt, hnm, hch⟩ | ⟨hpt, hnm, hch⟩ | ⟨hpt, hnm, hch⟩
    · have hrest : restP p = [] := by
        unfold restP
        rw [if_neg (by omega)]
        exact List.eq_nil_of_length_eq_zero (by rw [strB_length, ← size_toList, hnm]; rfl)
      rw [hrest] at hfa ⊢
      rw [List.append_nil] at hfa
      obtain ⟨i, k, s, c⟩ := p
      dsimp only at *
      subst hpt
      clear hch hnm hi0 hrest
      go_enter Tryz.func26, Tryz.ntmps26
      go_wp2_with fail
      rw [← hw1]
      clear hw1
      refine (hck _).mono ?_
      rintro e w2 ⟨rfl, hb2⟩
      have hp2 := hp1.below hb2
      have c0 := hp2.c0
      have c1 := hp2.c1
      go_wp2_with fail
      refine (head_any _ _ _ h0 h1).mono ?_
      rintro e w3 ⟨v3, rfl, ho3, hb3⟩
      have d1 := (hp2.below hb3).c1
      go_wp2_with fail
      refine (hfa _ _ _ ho3 hb3.size).mono ?_
      rintro e w4 ⟨rfl, hb4⟩
      go_wp2
      go_ret2
      exact ⟨rfl, thenB hb1 (thenB hb2 (hb3.trans hb4))⟩
    · have hrest : restP p = strB p.name := by
        unfold restP
        rw [if_neg (by omega)]
      rw [hrest] at hfa ⊢
      obtain ⟨i, k, s, c⟩ := p
      dsimp only at *
      subst hpt
      clear hch hnm hi0 hrest
      obtain ⟨inf, hi, hz0, hz1, hz2⟩ := info_parts Tryz.info5
      go_enter Tryz.func26, Tryz.ntmps26
      go_wp2_with fail
      rw [← hw1]
      clear hw1
      refine (hck _).mono ?_
      rintro e w2 ⟨rfl, hb2⟩
      have hp2 := hp1.below hb2
      have c0 := hp2.c0
      have c1 := hp2.c1
      go_wp2_with fail
      refine (head_any _ _ _ h0 h1).mono ?_
      rintro e w3 ⟨v3, rfl, ho3, hb3⟩
      have d1 := (hp2.below hb3).c1
      have d2 := (hp2.below hb3).c2
      have hln : (fixB i.toNat 4 ++ [(2 : Int) % 256]).length = 5 := by simp [fixB_length]
      have hsz3 := hb3.size
      clear c0 c1
      go_wp2_with (at_builtin; refine Lib.wpList_append_own_string _ rfl _ _ 136 9 rfl w2.heap.size 5 inf Tryz.underlying136 Tryz.underlying9 hi hz0 hz1 hz2 _ _ _ rfl ho3 s rfl ?c2 ?c3 ?c4 ?_)
      case c2 => rw [hln]; unfold maxLen; omega
      case c3 => rw [hln]; omega
      case c4 => exact hsz3
      intro v4 w4 hown hgr hnil
      have ho4 : Own w4 w2.heap.size v4 (fixB i.toNat 4 ++ [(2 : Int) % 256] ++ strB s) := by
        unfold Own
        rw [List.length_append, strB_length, List.map_append, ← strCells_eq]
        exact hown
      have hb4 : Below w2.heap.size w2 w4 := below_grown hb3 hsz3 ho3 hgr
      have e1 : w4.cell? ⟨w.heap.size, 1, none⟩ = some (.int .i64 2) := (hp2.below hb4).c1
      clear d1 d2
      go_wp2_with fail
      refine (hfa _ _ _ ho4 hb4.size).mono ?_
      rintro e w5 ⟨rfl, hb5⟩
      go_wp2
      go_ret2
      exact ⟨rfl, thenB hb1 (thenB hb2 (hb4.trans hb5))⟩
    · have hrest : restP p = fixB p.chunk.toNat 4 := by
        unfold restP
        rw [if_pos hpt]
      rw [hrest] at hfa ⊢
      obtain ⟨i, k, s, c⟩ := p
      dsimp only at *
      subst hpt
      clear hch hnm hi0 hrest
      go_enter Tryz.func26, Tryz.ntmps26
      go_wp2_with fail
      rw [← hw1]
      clear hw1
      refine (hck _).mono ?_
      rintro e w2 ⟨rfl, hb2⟩
      have hp2 := hp1.below hb2
      have c0 := hp2.c0
      have c1 := hp2.c1
      go_wp2_with fail
      refine (head_any _ _ _ h0 h1).mono ?_
      rintro e w3 ⟨v3, rfl, ho3, hb3⟩
      have d1 := (hp2.below hb3).c1
      have d3 := (hp2.below hb3).c3
      have hln : (fixB i.toNat 4 ++ [(3 : Int) % 256]).length = 5 := by simp [fixB_length]
      have hsz3 := hb3.size
      clear c0 c1
      go_wp2_with fail
      refine (refFixed_any _ c 4 h2 (by omega)).mono ?_
      rintro e w4 ⟨v4, rfl, ho4, hb4⟩
      rw [fixL_four c h2 h3] at ho4
      have ho34 := ho3.below hb4
      have hsz4 := hb4.size
      clear d1 d3
      go_wp2_with (at_builtin; refine wpList_append_rd rfl _ _ rfl w2.heap.size _ _ rfl ho34 _ _ rfl ho4.rd ?c1 ?c2 ?_)
      case c1 => rw [hln, fixB_length]; omega
      case c2 => omega
      intro v5 w5 ho5 hg5
      have hb5 : Below w2.heap.size w2 w5 := below_grown (hb3.trans (hb4.mono hsz3)) (by omega) ho34 hg5
      go_wp2_with fail
      refine (hfa _ _ _ ho5 hb5.size).mono ?_
      rintro e w6 ⟨rfl, hb6⟩
      go_wp2
      go_ret2
      exact ⟨rfl, thenB hb1 (thenB hb2 (hb5.trans hb6))⟩

end Go.Proofs.YtjlglnhmkheidaaGreat
