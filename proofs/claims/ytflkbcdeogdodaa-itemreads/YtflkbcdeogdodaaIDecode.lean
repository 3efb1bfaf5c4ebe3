/- The contract of item.Decode. -/
import Derived.Test.YtflkbcdeogdodaaIRead2
namespace Go.Proofs.Ytflkbcdeogdodaa
open Go.RowKit
set_option linter.unusedVariables false

/-- Whether a value is one that an item has; the error's number; the item. -/
def decOk (p : Int) (s : ByteArray) : Bool := decide ((s.size : Int) = wid p) && standsB p (rdI p (strB s))
def decE (p : Int) (s : ByteArray) : Int := if wid p = 0 then 1 else if decOk p s then 0 else 11
def decI (p : Int) (s : ByteArray) : It := if decE p s = 0 then rdI p (strB s) else it0

theorem dec_arg {p : Int} (h : wid p = 0) (s : ByteArray) : decE p s = 1 ∧ decI p s = it0 := by
  have : decE p s = 1 := by unfold decE; rw [if_pos h]
  exact ⟨this, by unfold decI; rw [this]; rfl⟩
theorem dec_no {p : Int} (h : wid p ≠ 0) {s : ByteArray} (ho : decOk p s = false) : decE p s = 11 ∧ decI p s = it0 := by
  have : decE p s = 11 := by unfold decE; rw [if_neg h, ho]; rfl
  exact ⟨this, by unfold decI; rw [this]; rfl⟩
theorem dec_yes {p : Int} (h : wid p ≠ 0) {s : ByteArray} (ho : decOk p s = true) : decE p s = 0 ∧ decI p s = rdI p (strB s) := by
  have : decE p s = 0 := by unfold decE; rw [if_neg h, ho]; rfl
  exact ⟨this, by unfold decI; rw [this]; rfl⟩

theorem giveI_rdI (p : Int) (xs : List Int) : giveI p (rdI p xs) = rdI p xs := by
  by_cases h1 : p = 1
  · subst h1; rfl
  · by_cases h2 : p = 2
    · subst h2; rfl
    · rw [giveI_3 h1 h2, rdI_3 h1 h2]

theorem built_zero : Try.prog.built 31 [] = some (itC it0) := by kernel_rfl

set_option maxHeartbeats 2000000 in
theorem decode_z (w : World) (p : Int) (s : ByteArray) (h : wid p = 0) : Calls Try.prog 13 #[.int .i64 p, .string s] w fun e w' => e = .returned (.tuple #[.agg (itC it0), .int .i64 1]) ∧ Below w.heap.size w w' := by
  have hz := zeroItem
  obtain ⟨w1, hw1⟩ : ∃ w1, w.alloc (.cells (itC it0) 31) = w1 := ⟨_, rfl⟩
  have hB : Below w.heap.size w w1 := by rw [← hw1]; exact (Below.refl _ w).alloc (Nat.le_refl _) _
  have hat : ItAt 31 w1 w.heap.size it0 := by rw [← hw1]; exact ItAt.laid _ w it0
  have hwd := fun W => widthOf_any W p
  rw [h] at hwd
  clear h
  go_enter Try.func13, Try.ntmps13
  go_wp2_with fail
  refine (hwd _).mono ?_
  rintro e w' ⟨rfl, rfl⟩
  clear hwd
  go_wp2_with (first | (refine wpList_buildBy rfl 31 _ rfl _ rfl [] (by kernel_rfl) (itC it0) built_zero ?_) | (refine wpList_storeI rfl _ _ rfl w.heap.size it0 it0 rfl rfl ch_zero.1 ch_zero.1 hat ?_))
  exact ret_item2 rfl w.heap.size it0 ch_zero.1 rfl _ rfl (hat.setRow _) rfl ⟨rfl, below_setRow hB (Nat.le_refl _) _⟩

set_option maxHeartbeats 2000000 in
theorem decode_l (w : World) (p : Int) (s : ByteArray) (h : wid p ≠ 0) (hl : (s.size : Int) ≠ wid p) : Calls Try.prog 13 #[.int .i64 p, .string s] w fun e w' => e = .returned (.tuple #[.agg (itC it0), .int .i64 11]) ∧ Below w.heap.size w w' := by
  have hz := zeroItem
  obtain ⟨w1, hw1⟩ : ∃ w1, w.alloc (.cells (itC it0) 31) = w1 := ⟨_, rfl⟩
  have hB : Below w.heap.size w w1 := by rw [← hw1]; exact (Below.refl _ w).alloc (Nat.le_refl _) _
  have hat : ItAt 31 w1 w.heap.size it0 := by rw [← hw1]; exact ItAt.laid _ w it0
  have hwd := fun W => widthOf_any W p
  have hpI : ((wid p) == 0) = false := by rw [beq_eq_false_iff_ne]; exact h
  have hlI : (((s.size : Int)) != wid p) = true := by rw [bne_iff_ne]; exact hl
  generalize wid p = wd at *
  go_enter Try.func13, Try.ntmps13
  go_wp2_with fail
  refine (hwd _).mono ?_
  rintro e w' ⟨rfl, rfl⟩
  clear hwd
  go_wp2_with (first | (refine wpList_buildBy rfl 31 _ rfl _ rfl [] (by kernel_rfl) (itC it0) built_zero ?_) | (refine wpList_storeI rfl _ _ rfl w.heap.size it0 it0 rfl rfl ch_zero.1 ch_zero.1 hat ?_))
  exact ret_item2 rfl w.heap.size it0 ch_zero.1 rfl _ rfl (hat.setRow _) rfl ⟨rfl, below_setRow hB (Nat.le_refl _) _⟩

set_option maxHeartbeats 2000000 in
theorem decode_n (w : World) (p : Int) (s : ByteArray) (h : wid p ≠ 0) (hl : (s.size : Int) = wid p) (hs : standsB p (rdI p (strB s)) = false) : Calls Try.prog 13 #[.int .i64 p, .string s] w fun e w' => e = .returned (.tuple #[.agg (itC it0), .int .i64 11]) ∧ Below w.heap.size w w' := by
  have hz := zeroItem
  obtain ⟨w1, hw1⟩ : ∃ w1, w.alloc (.cells (itC it0) 31) = w1 := ⟨_, rfl⟩
  have hB : Below w.heap.size w w1 := by rw [← hw1]; exact (Below.refl _ w).alloc (Nat.le_refl _) _
  have hat : ItAt 31 w1 w.heap.size it0 := by rw [← hw1]; exact ItAt.laid _ w it0
  have hwd := fun W => widthOf_any W p
  have hle : s.size ≤ 1024 := by rcases wid_cases p with ⟨_, hw⟩ | ⟨_, hw⟩ | ⟨_, hw⟩ | ⟨_, _, _, hw⟩ <;> omega
  obtain ⟨v2, w2, hcv, hr2, hb2⟩ := conv_bytes w1 s hle
  have hlB : ((strB s).length : Int) = wid p := by rw [strB_length]; exact hl
  have hok := rdI_ok p (strB s) (strB_byt s) hlB h
  have hrd := readI_any w2 p v2 (strB s) hr2 (strB_byt s) hlB h
  have hst : ∀ W, Calls Try.prog 18 #[thV p (rdI p (strB s))] W fun e w' => e = .returned (.bool false) ∧ Below W.heap.size W w' := fun W => by have := stands_any W p _ hok; rwa [hs] at this
  have hgv : ∀ W, Calls Try.prog 17 #[thV p (rdI p (strB s))] W fun e w' => e = .returned (.agg (itC (rdI p (strB s)))) ∧ Below W.heap.size W w' := fun W => by have := give_any W p _ hok; rwa [giveI_rdI] at this
  have hpI : ((wid p) == 0) = false := by rw [beq_eq_false_iff_ne]; exact h
  have hch : Hid ((rdI p (strB s)).bytes.length = 32) := hok.ch.1
  clear hs hok hr2 hlB hle
  generalize rdI p (strB s) = q at *
  generalize wid p = wd at *
  subst hl
  have hat2 := hat.below hb2
  go_enter Try.func13, Try.ntmps13
  go_wp2_with fail
  refine (hwd _).mono ?_
  rintro e w' ⟨rfl, rfl⟩
  clear hwd
  go_wp2_with fail
  refine hrd.mono ?_
  rintro e w3 ⟨rfl, hb3⟩
  have hat3 := hat2.below hb3
  clear hrd hat2 hat
  go_wp2_with fail
  refine (hst _).mono ?_
  rintro e w4 ⟨rfl, hb4⟩
  have hat4 := hat3.below hb4
  have hB4 := thenB hB (thenB hb2 (thenB hb3 hb4))
  clear hst hat3 hcv hpI
  go_wp2_with (first | (refine wpList_buildBy rfl 31 _ rfl _ rfl [] (by kernel_rfl) (itC it0) built_zero ?_) | (refine wpList_storeI rfl _ _ rfl w.heap.size it0 it0 rfl rfl ch_zero.1 ch_zero.1 hat4 ?_))
  exact ret_item2 rfl w.heap.size it0 ch_zero.1 rfl _ rfl (hat4.setRow _) rfl ⟨rfl, below_setRow hB4 (Nat.le_refl _) _⟩

set_option maxHeartbeats 2000000 in
theorem decode_y (w : World) (p : Int) (s : ByteArray) (h : wid p ≠ 0) (hl : (s.size : Int) = wid p) (hs : standsB p (rdI p (strB s)) = true) : Calls Try.prog 13 #[.int .i64 p, .string s] w fun e w' => e = .returned (.tuple #[.agg (itC (rdI p (strB s))), .int .i64 0]) ∧ Below w.heap.size w w' := by
  have hz := zeroItem
  obtain ⟨w1, hw1⟩ : ∃ w1, w.alloc (.cells (itC it0) 31) = w1 := ⟨_, rfl⟩
  have hB : Below w.heap.size w w1 := by rw [← hw1]; exact (Below.refl _ w).alloc (Nat.le_refl _) _
  have hat : ItAt 31 w1 w.heap.size it0 := by rw [← hw1]; exact ItAt.laid _ w it0
  have hwd := fun W => widthOf_any W p
  have hle : s.size ≤ 1024 := by rcases wid_cases p with ⟨_, hw⟩ | ⟨_, hw⟩ | ⟨_, hw⟩ | ⟨_, _, _, hw⟩ <;> omega
  obtain ⟨v2, w2, hcv, hr2, hb2⟩ := conv_bytes w1 s hle
  have hlB : ((strB s).length : Int) = wid p := by rw [strB_length]; exact hl
  have hok := rdI_ok p (strB s) (strB_byt s) hlB h
  have hrd := readI_any w2 p v2 (strB s) hr2 (strB_byt s) hlB h
  have hst : ∀ W, Calls Try.prog 18 #[thV p (rdI p (strB s))] W fun e w' => e = .returned (.bool true) ∧ Below W.heap.size W w' := fun W => by have := stands_any W p _ hok; rwa [hs] at this
  have hgv : ∀ W, Calls Try.prog 17 #[thV p (rdI p (strB s))] W fun e w' => e = .returned (.agg (itC (rdI p (strB s)))) ∧ Below W.heap.size W w' := fun W => by have := give_any W p _ hok; rwa [giveI_rdI] at this
  have hpI : ((wid p) == 0) = false := by rw [beq_eq_false_iff_ne]; exact h
  have hch : Hid ((rdI p (strB s)).bytes.length = 32) := hok.ch.1
  clear hs hok hr2 hlB hle
  generalize rdI p (strB s) = q at *
  generalize wid p = wd at *
  subst hl
  have hat2 := hat.below hb2
  go_enter Try.func13, Try.ntmps13
  go_wp2_with fail
  refine (hwd _).mono ?_
  rintro e w' ⟨rfl, rfl⟩
  clear hwd
  go_wp2_with fail
  refine hrd.mono ?_
  rintro e w3 ⟨rfl, hb3⟩
  have hat3 := hat2.below hb3
  clear hrd hat2 hat
  go_wp2_with fail
  refine (hst _).mono ?_
  rintro e w4 ⟨rfl, hb4⟩
  have hat4 := hat3.below hb4
  have hB4 := thenB hB (thenB hb2 (thenB hb3 hb4))
  clear hst hat3 hcv hpI
  go_wp2_with fail
  refine (hgv _).mono ?_
  rintro e w5 ⟨rfl, hb5⟩
  have hat5 := hat4.below hb5
  have hB5 := thenB hB4 hb5
  clear hgv hat4
  go_wp2_with (refine wpList_storeI rfl _ _ rfl w.heap.size q it0 rfl rfl hch.out ch_zero.1 hat5 ?_)
  exact ret_item2 rfl w.heap.size q hch.out rfl _ rfl (hat5.setRow _) rfl ⟨rfl, below_setRow hB5 (Nat.le_refl _) _⟩

theorem decode_any (w : World) (p : Int) (s : ByteArray) : Calls Try.prog 13 #[.int .i64 p, .string s] w fun e w' => e = .returned (.tuple #[.agg (itC (decI p s)), .int .i64 (decE p s)]) ∧ Below w.heap.size w w' := by
  by_cases hp : wid p = 0
  · obtain ⟨e1, e2⟩ := dec_arg hp s
    rw [e1, e2]
    exact decode_z w p s hp
  · by_cases hl : (s.size : Int) = wid p
    · cases h2 : standsB p (rdI p (strB s)) with
      | false =>
        obtain ⟨e1, e2⟩ := dec_no hp (s := s) (by unfold decOk; rw [h2, Bool.and_false])
        rw [e1, e2]
        exact decode_n w p s hp hl h2
      | true =>
        obtain ⟨e1, e2⟩ := dec_yes hp (s := s) (by unfold decOk; rw [h2, decide_eq_true hl]; rfl)
        rw [e1, e2]
        exact decode_y w p s hp hl h2
    · obtain ⟨e1, e2⟩ := dec_no hp (s := s) (by unfold decOk; rw [decide_eq_false hl]; rfl)
      rw [e1, e2]
      exact decode_l w p s hp hl

theorem decI_ok (p : Int) (s : ByteArray) : ItOk (decI p s) := by
  by_cases hp : wid p = 0
  · rw [(dec_arg hp s).2]; exact it0_ok
  · cases h : decOk p s with
    | false => rw [(dec_no hp h).2]; exact it0_ok
    | true =>
      rw [(dec_yes hp h).2]
      unfold decOk at h
      rw [Bool.and_eq_true, decide_eq_true_iff] at h
      exact rdI_ok p _ (strB_byt s) (by rw [strB_length]; exact h.1) hp

end Go.Proofs.Ytflkbcdeogdodaa
