/- Keys: what is read of one; their order. -/
import Derived.Test.YtmbiapobibfbaaaPRead
import Derived.Test.YtmbiapobibfbaaaPSpan
import Derived.Test.YtmbiapobibfbaaaOrdMath
namespace Go.Proofs.Ytmbiapobibfbaaa
open Go.RowKit
set_option linter.unusedVariables false

theorem fixB_four (n : Int) (h0 : 0 ≤ n) (h1 : n ≤ 4294967295) : (valB (fixB n.toNat 4) : Int) = n := by
  rw [valB_fixB n.toNat 4 (by omega)]
  omega

theorem keyL_take (i k : Int) (rest : List Int) : (keyL i k rest).take 4 = fixB i.toNat 4 := by
  unfold keyL
  rw [List.take_append_of_le_length (by rw [fixB_length]; omega), List.take_of_length_le (by rw [fixB_length]; omega)]

theorem keyL_four (i k : Int) (rest : List Int) : (keyL i k rest).getD 4 0 = k % 256 := by
  unfold keyL
  rw [List.getD_eq_getElem?_getD, List.getElem?_append_right (by rw [fixB_length]; omega), fixB_length]
  rfl

theorem keyL_drop (i k : Int) (rest : List Int) : (keyL i k rest).drop 5 = rest ++ List.replicate (9 - rest.length) 0 := by
  unfold keyL
  rw [List.drop_append, fixB_length, List.drop_of_length_le (by rw [fixB_length]; omega)]
  rfl

theorem zLen_pad (xs : List Int) (m : Nat) (h : ∀ x ∈ xs, x ≠ 0) : zLen (xs ++ List.replicate (m + 1) 0) = xs.length := by
  induction xs with
  | nil => rfl
  | cons x xs ih =>
    show zLen (x :: (xs ++ List.replicate (m + 1) 0)) = _
    unfold zLen
    rw [if_neg (h x (by simp)), ih (fun y hy => h y (by simp [hy]))]
    rfl

theorem nameOk_bytes {s : ByteArray} (h : nameOk s = true) : ∀ x ∈ strB s, x ≠ 0 := by
  unfold nameOk at h
  simp only [Bool.and_eq_true, Bool.not_eq_true'] at h
  have h0 := h.1.2
  intro x hx e
  subst e
  unfold strB at hx
  obtain ⟨c, hc, e⟩ := List.mem_map.1 hx
  have hc0 : c = 0 := UInt8.toNat_inj.1 (by simpa using e)
  subst hc0
  rw [← List.contains_iff_mem] at hc
  rw [hc] at h0
  cases h0

theorem toList_empty {s : ByteArray} (h : s.toList = []) : s = ⟨#[]⟩ := by
  rw [ByteArray.toList_eq] at h
  obtain ⟨d⟩ := s
  exact congrArg ByteArray.mk (Array.ext' h)

/-- What is read of a place's key is the place. -/
theorem plOf_key (p : Pl) (hp : PlOk p) (h : plOk p = true) : plOf (keyP p) = p := by
  obtain ⟨i0, i1, _, _, _, c0, c1⟩ := hp
  have hsz := plOk_size h
  obtain ⟨_, hc⟩ := plOk_cases h
  unfold plOf keyP
  rw [keyL_four, keyL_take, keyL_drop, fixB_four _ i0 i1]
  obtain ⟨i, k, s, c⟩ := p
  dsimp only at *
  rcases hc with ⟨rfl, hn, rfl⟩ | ⟨rfl, hn, rfl⟩ | ⟨rfl, hn, hc⟩
  · rw [if_pos (by decide), toList_empty hn]
    rfl
  · rw [if_neg (by decide), if_pos (by decide)]
    have hr : restP ⟨i, 2, s, 0⟩ = strB s := if_neg (show ¬ (2 : Int) = 3 from by decide)
    rw [hr, show 9 - (strB s).length = (8 - s.size) + 1 from by rw [strB_length]; omega, zLen_pad _ _ (nameOk_bytes hn), List.take_left, strOfNums_strB]
    rfl
  · rw [if_neg (by decide), if_neg (by decide), if_pos (by decide)]
    have hr : restP ⟨i, 3, s, c⟩ = fixB c.toNat 4 := if_pos rfl
    rw [hr, List.take_append_of_le_length (by rw [fixB_length]; omega), List.take_of_length_le (by rw [fixB_length]; omega), fixB_four _ c0 c1, toList_empty hn]
    rfl

theorem keyP_byt (p : Pl) : Byt (keyP p) := keyL_byt _ _ _ (restP_byt p)
theorem keyP_length {p : Pl} (h : plOk p = true) : (keyP p).length = 14 := keyL_length _ _ _ (restP_length h)
theorem keyS_yes {p : Pl} (h : plOk p = true) : keyS p = strOfNums (keyP p) := by unfold keyS; rw [h]; rfl

/-- A place's key is read as it. -/
theorem read_key (p : Pl) (hp : PlOk p) (h : plOk p = true) : rdP (keyS p) = p ∧ rdE (keyS p) = 0 ∧ (keyS p).size = 14 := by
  have hs : (keyS p).size = 14 := by rw [keyS_yes h, strOfNums_size, keyP_length h]
  have hb : strB (keyS p) = keyP p := by rw [keyS_yes h, strB_strOf (keyP_byt p)]
  have hq : plOf (strB (keyS p)) = p := by rw [hb, plOf_key p hp h]
  have hok : rdOk (keyS p) = true := by
    unfold rdOk
    rw [hq, hs, h]
    simp
  obtain ⟨e1, e2⟩ := rd_yes hok
  exact ⟨by rw [e1, hq], e2, hs⟩

theorem cmpL_append : ∀ (A B X Y : List Int), A.length = B.length → cmpL (A ++ X) (B ++ Y) = lex (cmpL A B) (cmpL X Y)
  | [], [], X, Y, _ => by simp [cmpL, lex]
  | [], _ :: _, _, _, h => by simp at h
  | _ :: _, [], _, _, h => by simp at h
  | a :: A, b :: B, X, Y, h => by
    have ih := cmpL_append A B X Y (by simpa using h)
    show lex (cmpI a b) (cmpL (A ++ X) (B ++ Y)) = lex (lex (cmpI a b) (cmpL A B)) (cmpL X Y)
    rw [ih]
    unfold lex
    by_cases h1 : cmpI a b = 0
    · simp [h1]
    · simp [h1]

theorem cmpL_num (A B : List Int) (ha : Byt A) (hb : Byt B) (h : A.length = B.length) : cmpL A B = cmpI (valB A) (valB B) := by
  have h1 := less_bytes A B ha hb h
  have h2 := less_bytes B A hb ha h.symm
  rw [less_cmpL A B ha hb, Bool.eq_iff_iff, decide_eq_true_iff, decide_eq_true_iff] at h1
  rw [less_cmpL B A hb ha, Bool.eq_iff_iff, decide_eq_true_iff, decide_eq_true_iff, cmpL_turn A B] at h2
  unfold cmpI
  rcases cmpL_three A B with e | e | e
  · rw [e, if_pos (by have := h1.1 e; omega)]
  · rw [e] at h1 h2 ⊢
    have q1 : ¬ valB A < valB B := fun hq => by have := h1.2 hq; omega
    have q2 : ¬ valB B < valB A := fun hq => by have := h2.2 hq; omega
    rw [if_neg (by omega), if_neg (by omega)]
  · rw [e] at h1 h2 ⊢
    have q1 : ¬ valB A < valB B := fun hq => by have := h1.2 hq; omega
    have q2 : valB B < valB A := h2.1 rfl
    rw [if_neg (by omega), if_pos (by omega)]

theorem cmpL_fix (a b : Int) (a0 : 0 ≤ a) (a1 : a ≤ 4294967295) (b0 : 0 ≤ b) (b1 : b ≤ 4294967295) : cmpL (fixB a.toNat 4) (fixB b.toNat 4) = cmpI a b := by
  rw [cmpL_num _ _ (fixB_byt _ _) (fixB_byt _ _) (by rw [fixB_length, fixB_length]), fixB_four a a0 a1, fixB_four b b0 b1]

theorem cmpL_pad : ∀ (k : Nat) (n m : List Int), (∀ x ∈ n, 0 < x) → (∀ x ∈ m, 0 < x) → n.length ≤ k → m.length ≤ k → cmpL (n ++ List.replicate (k - n.length) 0) (m ++ List.replicate (k - m.length) 0) = cmpL n m
  | 0, n, m, _, _, hn, hm => by
    obtain rfl : n = [] := List.eq_nil_of_length_eq_zero (by omega)
    obtain rfl : m = [] := List.eq_nil_of_length_eq_zero (by omega)
    rfl
  | k + 1, [], [], _, _, _, _ => (cmpL_zero _ _).2 rfl
  | k + 1, [], y :: m, _, h, _, _ => by
    have hy := h y (by simp)
    show lex (cmpI 0 y) _ = -1
    unfold lex cmpI
    rw [if_pos hy]; rfl
  | k + 1, x :: n, [], h, _, _, _ => by
    have hx := h x (by simp)
    show lex (cmpI x 0) _ = 1
    unfold lex cmpI
    have q : ¬ x < 0 := by omega
    simp [q, hx]
  | k + 1, x :: n, y :: m, hn, hm, ln, lm => by
    have ih := cmpL_pad k n m (fun z hz => hn z (by simp [hz])) (fun z hz => hm z (by simp [hz])) (by simpa using ln) (by simpa using lm)
    simp only [List.length_cons, Nat.add_sub_add_right]
    show lex (cmpI x y) (cmpL (n ++ List.replicate (k - n.length) 0) (m ++ List.replicate (k - m.length) 0)) = lex (cmpI x y) (cmpL n m)
    rw [ih]

theorem cmpL_keyL (i k i' k' : Int) (R R' : List Int) (a0 : 0 ≤ i) (a1 : i ≤ 4294967295) (b0 : 0 ≤ i') (b1 : i' ≤ 4294967295) :
    cmpL (keyL i k R) (keyL i' k' R') = lex (cmpI i i') (lex (cmpI (k % 256) (k' % 256)) (cmpL (R ++ List.replicate (9 - R.length) 0) (R' ++ List.replicate (9 - R'.length) 0))) := by
  unfold keyL
  rw [cmpL_append _ _ _ _ (by rw [fixB_length, fixB_length]), cmpL_fix i i' a0 a1 b0 b1]
  rfl

theorem lex_zero (y : Int) : lex 0 y = y := if_pos rfl

/-- Keys are ordered as their places. -/
theorem cmpL_key (a b : Pl) (ha : PlOk a) (hb : PlOk b) (h : plOk a = true) (h' : plOk b = true) : cmpL (keyP a) (keyP b) = cmpP a b := by
  have s1 := plOk_size h
  have s2 := plOk_size h'
  obtain ⟨_, hc⟩ := plOk_cases h
  obtain ⟨_, hc'⟩ := plOk_cases h'
  unfold keyP
  rw [cmpL_keyL _ _ _ _ _ _ ha.i0 ha.i1 hb.i0 hb.i1, cmpP_lex]
  congr 1
  have e1 : a.part % 256 = a.part := by rcases hc with ⟨e, _⟩ | ⟨e, _⟩ | ⟨e, _⟩ <;> rw [e] <;> rfl
  have e2 : b.part % 256 = b.part := by rcases hc' with ⟨e, _⟩ | ⟨e, _⟩ | ⟨e, _⟩ <;> rw [e] <;> rfl
  rw [e1, e2]
  by_cases hpt : a.part = b.part
  · rw [(cmpI_ord.zero _ _).2 hpt, lex_zero, lex_zero]
    have hpos : ∀ s : ByteArray, nameOk s = true → ∀ x ∈ strB s, 0 < x := fun s hs x hx => by
      have h1 := nameOk_bytes hs x hx
      have h2 := strB_byt s x hx
      omega
    rcases hc with ⟨p1, n1, c1⟩ | ⟨p1, n1, c1⟩ | ⟨p1, n1, c1⟩
    · rcases hc' with ⟨p2, n2, c2⟩ | ⟨p2, n2, c2⟩ | ⟨p2, n2, c2⟩
      · unfold restP
        rw [if_neg (by omega), if_neg (by omega), toList_empty n1, toList_empty n2, c1, c2]
        rfl
      · omega
      · omega
    · rcases hc' with ⟨p2, n2, c2⟩ | ⟨p2, n2, c2⟩ | ⟨p2, n2, c2⟩
      · omega
      · unfold restP
        rw [if_neg (by omega), if_neg (by omega), cmpL_pad 9 _ _ (hpos _ n1) (hpos _ n2) (by rw [strB_length]; omega) (by rw [strB_length]; omega), c1, c2]
        unfold lex
        rw [cmpI_ord.same]
        split
        · assumption
        · rfl
      · omega
    · rcases hc' with ⟨p2, n2, c2⟩ | ⟨p2, n2, c2⟩ | ⟨p2, n2, c2⟩
      · omega
      · omega
      · unfold restP
        rw [if_pos p1, if_pos p2, toList_empty n1, toList_empty n2, cmpL_append _ _ _ _ (by rw [fixB_length, fixB_length]), fixB_length, fixB_length, cmpL_ord.same, cmpL_ord.same, cmpL_fix _ _ ha.c0 ha.c1 hb.c0 hb.c1, lex_zero]
        unfold lex
        split
        · rename_i e; exact e.symm
        · rfl
  · have hne : cmpI a.part b.part ≠ 0 := fun e => hpt ((cmpI_ord.zero _ _).1 e)
    unfold lex
    rw [if_neg hne, if_neg hne]

theorem cmpL_zeros : ∀ (n : Nat) (X : List Int), Byt X → X.length = n → cmpL X (List.replicate n 0) ≠ -1
  | 0, X, _, h => by
    obtain rfl : X = [] := List.eq_nil_of_length_eq_zero h
    decide
  | n + 1, [], _, h => by simp at h
  | n + 1, x :: X, hy, h => by
    have ih := cmpL_zeros n X (fun y hy' => hy y (by simp [hy'])) (by simpa using h)
    obtain ⟨x0, _⟩ := hy x (by simp)
    show lex (cmpI x 0) (cmpL X (List.replicate n 0)) ≠ -1
    unfold lex cmpI
    by_cases hx : x = 0
    · subst hx; simpa using ih
    · have q1 : ¬ x < 0 := by omega
      have q2 : 0 < x := by omega
      simp [q1, q2]

theorem between_core (a b i k R : Int) (hz : R ≠ -1) : (!decide (lex (cmpI a i) (lex (cmpI b k) R) = -1) && decide (lex (cmpI a i) (lex (cmpI b (k + 1)) R) = -1)) = (a == i && b == k) := by
  unfold lex cmpI
  rcases Int.lt_trichotomy a i with h1 | h1 | h1
  · have : ¬ a = i := by omega
    simp [h1, this]
  · subst h1
    rcases Int.lt_trichotomy b k with h2 | h2 | h2
    · have : ¬ b = k := by omega
      simp [h2, this]
    · subst h2
      have : b < b + 1 := by omega
      simp [hz, this]
    · have q1 : ¬ b < k := by omega
      have q2 : ¬ b = k := by omega
      by_cases q3 : k + 1 < b
      · have q4 : ¬ b < k + 1 := by omega
        simp [q1, q2, q3, q4, h2]
      · have q4 : ¬ b < k + 1 := by omega
        simp [q1, q2, q3, q4, h2, hz]
  · have q1 : ¬ a < i := by omega
    have q2 : ¬ a = i := by omega
    simp [h1, q1, q2]

/-- Whose keys are between which. -/
theorem between (p : Pl) (hp : PlOk p) (h : plOk p = true) (i k : Int) (i0 : 0 ≤ i) (i1 : i ≤ 4294967295) (k1 : 1 ≤ k) (k3 : k ≤ 3) :
    (!decide (cmpL (keyP p) (keyL i k []) = -1) && decide (cmpL (keyP p) (keyL i (k + 1) []) = -1)) = (p.ino == i && p.part == k) := by
  have hrl := restP_length h
  obtain ⟨_, hc⟩ := plOk_cases h
  have e1 : p.part % 256 = p.part := by rcases hc with ⟨e, _⟩ | ⟨e, _⟩ | ⟨e, _⟩ <;> rw [e] <;> rfl
  have hz := cmpL_zeros 9 (restP p ++ List.replicate (9 - (restP p).length) 0) ((restP_byt p).append (fun x hx => by rw [List.eq_of_mem_replicate hx]; omega)) (by simp; omega)
  unfold keyP
  rw [cmpL_keyL _ _ _ _ _ _ hp.i0 hp.i1 i0 i1, cmpL_keyL _ _ _ _ _ _ hp.i0 hp.i1 i0 i1, e1, show k % 256 = k from by omega, show (k + 1) % 256 = k + 1 from by omega]
  simp only [List.nil_append, List.length_nil, Nat.sub_zero]
  exact between_core _ _ _ _ _ hz

/-- Strings that are keys, held against one another. -/
theorem less_str (A B : List Int) (ha : Byt A) (hb : Byt B) : Op.bytesLess (strOfNums A).toList (strOfNums B).toList = decide (cmpL A B = -1) := by
  rw [toList_toU, toList_toU, strB_strOf ha, strB_strOf hb, less_cmpL A B ha hb]

theorem eq_str (A B : List Int) (ha : Byt A) (hb : Byt B) : ((strOfNums A).toList == (strOfNums B).toList) = decide (cmpL A B = 0) := by
  rw [beq_strOf ha hb, Bool.eq_iff_iff, decide_eq_true_iff, decide_eq_true_iff, cmpL_zero]

end Go.Proofs.Ytmbiapobibfbaaa
