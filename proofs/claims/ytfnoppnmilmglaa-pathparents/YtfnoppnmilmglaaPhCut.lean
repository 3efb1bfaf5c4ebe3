/- The contracts of the program's mayBe, cut and Split. -/
import Derived.Test.YtfnoppnmilmglaaPhOut
import Derived.WalkMore
import Derived.Laws.RangeString
import Derived.Laws.RangeAny
namespace Go.Proofs.Ytfnoppnmilmglaa
open Go.RowKit
set_option linter.unusedVariables false
set_option linter.unusedSimpArgs false
set_option maxRecDepth 100000

/-- Whether some texts are names, and no more than a path has. -/
def mayB (l : List ByteArray) : Bool := decide (l.length ≤ 6) && l.all nameOk
theorem mayB_false {l : List ByteArray} {i : Nat} {x : ByteArray} (h : l[i]? = some x) (hx : nameOk x = false) : mayB l = false := by
  unfold mayB
  have : l.all nameOk = false := by
    rw [List.all_eq_false]
    exact ⟨x, List.mem_of_getElem? h, by rw [hx]; simp⟩
  rw [this, Bool.and_false]
theorem joinE_may (l : List ByteArray) : joinE l = if mayB l = true then 0 else 160 := by
  unfold joinE mayB
  by_cases h : l.length ≤ 6
  · simp [h]
  · simp [h]

set_option maxHeartbeats 4000000 in
theorem pmay_any {w : World} (a : Option Addr) (n c : Nat) (l : List ByteArray) (hl : RdZ 1 strE w (.slice a n c) l) (hs : ∀ x ∈ l, x.size ≤ maxLen) :
    Calls Try.prog 20 #[.slice a n c] w fun e w' => e = .returned (.bool (mayB l)) ∧ w = w' := by
  obtain ⟨h1, _, _⟩ := hl.len
  have HL : Hid (RdZ 1 strE w (.slice a n c) l ∧ l.length = n ∧ ∀ x ∈ l, x.size ≤ maxLen) := ⟨hl, h1, hs⟩
  obtain ⟨M, hM⟩ : ∃ M, mayB l = M := ⟨_, rfl⟩
  rw [hM]
  have HR : Hid (mayB l = M) := hM
  clear hl h1 hs hM
  by_cases hbig : n > 6
  · have hb : (n : Int) > 6 := by omega
    have hMM : M = false := by rw [← HR.out, mayB, decide_eq_false (by have := HL.out; omega), Bool.false_and]
    subst hMM
    go_enter Try.func20, Try.ntmps20
    go_wp2
    go_ret
    exact ⟨rfl, rfl⟩
  have hb : ¬ (n : Int) > 6 := by omega
  have hn6 : n ≤ 6 := by omega
  clear hbig
  go_enter Try.func20, Try.ntmps20
  go_wp2
  go_loopg [10] n (fun kx s10 wr => ∃ (i : Nat), s10 = .int .i64 i ∧ i ≤ n ∧ n - i ≤ kx ∧ Hid (w = wr ∧ (l.take i).all nameOk = true))
  case atStart => exact ⟨0, rfl, Nat.zero_le _, by omega, rfl, rfl⟩
  case round =>
    obtain ⟨i, rfl, hin, hkx, HQ⟩ := hrel
    have hwr : w = wr := HQ.out.1
    subst hwr
    by_cases hlt : i < n
    · obtain ⟨x, hx⟩ : ∃ x, l[i]? = some x := ⟨_, List.getElem?_eq_getElem (by have := HL.out; omega)⟩
      have HX : Hid (l[i]? = some x) := hx
      obtain ⟨b0, o0, rfl, d0⟩ := s_cell HL.out.1 hx
      have hiI : (i : Int) < (n : Int) := by omega
      have hib : (i : Int) + 1 ≤ 1001 := by omega
      have hck := checkName_any w x (HL.out.2.2 x (List.mem_of_getElem? hx))
      clear hx
      cases hq : nameOk x with
      | false =>
        rw [nameE_30 hq] at hck
        have hMM : M = false := by rw [← HR.out]; exact mayB_false HX.out hq
        subst hMM
        go_wp2_with fail
        refine hck.mono ?_
        rintro e w6 ⟨rfl, rfl⟩
        go_wp2
        go_ret
        exact ⟨rfl, rfl⟩
      | true =>
        rw [nameE_0 hq] at hck
        have HT : Hid ((l.take i).all nameOk = true) := HQ.out.2
        go_wp2_with fail
        refine hck.mono ?_
        rintro e w6 ⟨rfl, rfl⟩
        clear hck
        go_wp2
        go_roundg (n - (i + 1))
        case measure => omega
        case rel =>
          exact ⟨i + 1, by rw [show ((i : Int) + 1) = ((i + 1 : Nat) : Int) by omega], by omega, by omega, rfl, all_next HX.out hq HT.out⟩
    · obtain rfl : n = i := by omega
      have hall : l.all nameOk = true := by
        have h0 := HQ.out.2
        rw [List.take_of_length_le (by have := HL.out; omega)] at h0
        exact h0
      have hMM : M = true := by rw [← HR.out, mayB, decide_eq_true (by have := HL.out; omega), hall]; rfl
      subst hMM
      clear hall HQ
      go_wp2
      go_ret
      exact ⟨rfl, rfl⟩

/-! ### Signs and bytes -/
theorem get_bang (s : ByteArray) (j : Nat) (h : j < s.size) : s.get! j = s[j]'h := by
  simp [ByteArray.get!, getElem!_pos, h]
  rfl
/-- A sign that does not begin with the byte '/' is none, and has none in it. -/
theorem sign_no (s : ByteArray) (pos : Nat) (h : pos < s.size) (hb : (s[pos]'h).toNat ≠ 47) :
    (Utf8.decode s pos).1 ≠ 47 ∧ ∀ j (hj : j < s.size), pos ≤ j → j < pos + (Utf8.decode s pos).2 → (s[j]'hj).toNat ≠ 47 := by
  by_cases ha : (s[pos]'h).toNat < 128
  · rw [decode_ascii s pos h ha]
    refine ⟨hb, fun j hj h1 h2 => ?_⟩
    obtain rfl : j = pos := by simp at h2; omega
    exact hb
  · have hh := decode_high s pos h (by omega)
    refine ⟨by omega, fun j hj h1 h2 => ?_⟩
    have e0 : s.get! (pos + 0) = s[pos]'h := get_bang s pos h
    have hn : ¬ (s[pos]'h).toNat < 128 := ha
    have key : ∀ k, k < (Utf8.decode s pos).2 → 1 ≤ k → (s.get! (pos + k)).toNat / 64 = 2 := by
      intro k hk h1
      simp only [Utf8.decode, e0, hn, if_false] at hk
      split at hk
      · rename_i hc
        simp only [Bool.and_eq_true, decide_eq_true_eq, beq_iff_eq] at hc
        split at hk
        · obtain rfl : k = 1 := by simp at hk; omega
          exact hc.2.2
        · simp at hk; omega
      · split at hk
        · rename_i hc
          simp only [Bool.and_eq_true, decide_eq_true_eq, beq_iff_eq] at hc
          split at hk
          · rcases (show k = 1 ∨ k = 2 by simp at hk; omega) with rfl | rfl
            · exact hc.1.2.2
            · exact hc.2.2
          · simp at hk; omega
        · split at hk
          · rename_i hc
            simp only [Bool.and_eq_true, decide_eq_true_eq, beq_iff_eq] at hc
            split at hk
            · rcases (show k = 1 ∨ k = 2 ∨ k = 3 by simp at hk; omega) with rfl | rfl | rfl
              · exact hc.1.1.2.2
              · exact hc.1.2.2
              · exact hc.2.2
            · simp at hk; omega
          · simp at hk; omega
    rcases Nat.eq_or_lt_of_le h1 with rfl | h3
    · exact hb
    · have := key (j - pos) (by omega) (by omega)
      rw [show pos + (j - pos) = j by omega, get_bang s j hj] at this
      omega
theorem sign_yes (s : ByteArray) (pos : Nat) (h : pos < s.size) (hb : (s[pos]'h).toNat = 47) : (Utf8.decode s pos).1 = 47 := by
  rw [decode_ascii s pos h (by omega)]
  exact hb
theorem sign_wide (s : ByteArray) (pos : Nat) (h : pos < s.size) : 1 ≤ (Utf8.decode s pos).2 := by
  by_cases ha : (s[pos]'h).toNat < 128
  · rw [decode_ascii s pos h ha]
    exact Nat.le_refl _
  · exact (decode_high s pos h (by omega)).2

/-- No '/' ahead of a place. -/
def Plain (s : ByteArray) (pos : Nat) : Prop := ∀ j (hj : j < s.size), j < pos → (s[j]'hj).toNat ≠ 47
theorem plain_next {s : ByteArray} {pos : Nat} (h : pos < s.size) (hp : Plain s pos) (hb : (s[pos]'h).toNat ≠ 47) : Plain s (pos + (Utf8.decode s pos).2) := fun j hj hlt => by
  rcases Nat.lt_or_ge j pos with h1 | h1
  · exact hp j hj h1
  · exact (sign_no s pos h hb).2 j hj h1 hlt
theorem plain_not {s : ByteArray} {pos : Nat} (hp : Plain s pos) : 47 ∉ (bytesOf s).take pos := fun hm => by
  obtain ⟨j, hj⟩ := List.getElem?_of_mem hm
  rw [List.getElem?_take] at hj
  split at hj
  · rename_i hlt
    have hl := (List.getElem?_eq_some_iff.1 hj).1
    have hl' : j < s.size := by rw [size_list]; exact hl
    have := byte_at s j hl'
    rw [hj] at this
    have e : (47 : UInt8) = s[j]'hl' := by simpa using this
    exact hp j hl' hlt (by rw [← e]; rfl)
  · cases hj
theorem bytes_take (s : ByteArray) (pos : Nat) : bytesOf (s.extract 0 pos) = (bytesOf s).take pos := by
  unfold bytesOf
  rw [ByteArray.data_extract, Array.toList_extract, List.extract_eq_take_drop]
  simp
theorem bytes_drop (s : ByteArray) (pos n : Nat) (hn : n = s.size) : bytesOf (s.extract pos n) = (bytesOf s).drop pos := by
  unfold bytesOf
  rw [ByteArray.data_extract, Array.toList_extract, List.extract_eq_take_drop, hn, size_list, List.take_of_length_le (by rw [List.length_drop]; omega)]
theorem plain_cut {s : ByteArray} {pos : Nat} (hp : Plain s pos) (h : pos < s.size) (hb : (s[pos]'h).toNat = 47) : cutB (bytesOf s) = bytesOf (s.extract 0 pos) :: cutB ((bytesOf s).drop (pos + 1)) := by
  have hq := byte_at s pos h
  have hl := (List.getElem?_eq_some_iff.1 hq).1
  have e : bytesOf s = (bytesOf s).take pos ++ 47 :: (bytesOf s).drop (pos + 1) := by
    have := List.take_append_drop pos (bytesOf s)
    rw [List.drop_eq_getElem_cons hl, (List.getElem?_eq_some_iff.1 hq).2, show s[pos]'h = 47 from UInt8.toNat_inj.1 hb] at this
    exact this.symm
  rw [bytes_take]
  conv => lhs; rw [e]
  exact cut_app (plain_not hp) _
theorem plain_all {s : ByteArray} {pos : Nat} (hp : Plain s pos) (h : ¬ pos < s.size) : cutB (bytesOf s) = [bytesOf s] := by
  refine cut_plain ?_
  have := plain_not hp
  rwa [List.take_of_length_le (by unfold bytesOf; rw [← size_list]; omega)] at this

theorem iter_below (w : World) (s : ByteArray) (pos : Nat) : Below w.heap.size w (w.iter s pos) := bel1 w _

def CutOut (w w' : World) (s : ByteArray) (e : Ending) : Prop := ∃ a n c O, e = .returned (.slice a n c) ∧ OwnL w.heap.size 9 1 strE w' (.slice a n c) O ∧ O.map bytesOf = cutB ((bytesOf s).drop 1) ∧ (∀ x ∈ O, x.size ≤ 100) ∧ Below w.heap.size w w'

set_option maxHeartbeats 8000000 in
theorem pcut_any (w : World) (s : ByteArray) (h1 : 1 ≤ s.size) (h64 : s.size ≤ 64) : Calls Try.prog 19 #[.string s] w fun e w' => CutOut w w' s e := by
  obtain ⟨iE, hiE, hz0, hz1, hz2⟩ := info_parts info_str
  obtain ⟨N, hN⟩ : ∃ N, s.size = N := ⟨_, rfl⟩
  have HN : Hid (s.size = N ∧ 1 ≤ N ∧ N ≤ 64) := ⟨hN, by omega, by omega⟩
  clear hN h1 h64
  go_enter Try.func19, Try.ntmps19
  go_wp2
  go_step3
  go_wp2
  go_step3
  go_wp2
  go_loopg [0, 3] N (fun kx s0 s3 wr => ∃ (t : ByteArray) (ao : Option Addr) (no co : Nat), s0 = .string t ∧ s3 = .slice ao no co ∧ 1 ≤ t.size ∧ t.size ≤ 64 ∧ t.size ≤ kx ∧ no + t.size ≤ 64 ∧ Hid (∃ O : List ByteArray, Below w.heap.size w wr ∧ OwnL w.heap.size 9 1 strE wr (.slice ao no co) O ∧ cutB ((bytesOf s).drop 1) = O.map bytesOf ++ cutB ((bytesOf t).drop 1) ∧ O.length = no ∧ ∀ x ∈ O, x.size ≤ 100))
  case atStart => exact ⟨s, none, 0, 0, rfl, rfl, by have := HN.out; omega, by have := HN.out; omega, by have := HN.out; omega, by have := HN.out; omega, [], Below.refl _ _, OwnL.nil _ _ _ _ _, rfl, rfl, fun x hx => by cases hx⟩
  case round =>
    obtain ⟨t, ao, no, co, rfl, rfl, ht1, ht64, htk, hno, HQ⟩ := hrel
    have ht1I : (1 : Int) ≤ (t.size : Int) := by omega
    obtain ⟨T, hT⟩ : ∃ T, t.extract 1 t.size = T := ⟨_, rfl⟩
    have hTs : T.size = t.size - 1 := by rw [← hT, ByteArray.size_extract]; omega
    have HT : Hid ((bytesOf t).drop 1 = bytesOf T) := by rw [← hT, bytes_drop t 1 _ rfl]; rfl
    obtain ⟨W0, rfl⟩ : ∃ W0, W0 = wr := ⟨_, rfl⟩
    go_wp2
    go_loopg [0, 3] T.size (fun kz s0 s3 wq => ∃ (pos : Nat), s0 = .string T ∧ s3 = .slice ao no co ∧ T.size - pos ≤ kz ∧ Hid (wq = W0.iter T pos ∧ Plain T pos))
    case atStart => exact ⟨0, rfl, rfl, by omega, rfl, fun j hj h => absurd h (Nat.not_lt_zero _)⟩
    case round =>
      obtain ⟨pos, rfl, rfl, hkz, HK⟩ := hrel
      have HP : Hid (Plain T pos) := HK.out.2
      have hwq := HK.out.1
      subst hwq
      obtain ⟨O, hO⟩ := HQ.out
      have HQ' : Hid _ := hO
      have hlen : O.length ≤ 64 := by have := hO.2.2.2.1; omega
      have HLQ : Hid (O.length ≤ 64) := hlen
      clear hO hlen HK
      by_cases hp : pos < T.size
      · have hnx : ∀ ty, (Instr.next (.pointer (some ⟨W0.heap.size, 0, none⟩)) true ty).run Try.prog (W0.iter T pos) = _ := fun ty => run_next_any W0 T pos ty hp
        by_cases hb : (T[pos]'hp).toNat = 47
        · have HB4 : Hid (Below W0.heap.size W0 (W0.iter T (pos + (Utf8.decode T pos).2))) := iter_below _ _ _
          obtain ⟨w4, hw4⟩ : ∃ w4, W0.iter T (pos + (Utf8.decode T pos).2) = w4 := ⟨_, rfl⟩
          rw [hw4] at hnx HB4
          rw [sign_yes T pos hp hb] at hnx
          have HC : Hid (cutB (bytesOf T) = bytesOf (T.extract 0 pos) :: cutB ((bytesOf T).drop (pos + 1))) := plain_cut HP.out hp hb
          have HD : Hid ((bytesOf T).drop (pos + 1) = (bytesOf (T.extract pos T.size)).drop 1) := by rw [bytes_drop T pos _ rfl, List.drop_drop]; rfl
          have hXs : (T.extract 0 pos).size ≤ 64 := by rw [ByteArray.size_extract]; omega
          have hYs : (T.extract pos T.size).size = T.size - pos := by rw [ByteArray.size_extract]; omega
          obtain ⟨X, hX⟩ : ∃ X, T.extract 0 pos = X := ⟨_, rfl⟩
          obtain ⟨Y, hY⟩ : ∃ Y, T.extract pos T.size = Y := ⟨_, rfl⟩
          rw [hX] at HC hXs
          rw [hY] at HD hYs
          rw [hTs] at hY
          have hpI : (pos : Int) ≤ (T.size : Int) := by omega
          clear hw4 hb
          have hbl := bel1 w4 (.cells #[.string X] 9)
          obtain ⟨w5, hw5⟩ : ∃ w5, w4.alloc (.cells #[.string X] 9) = w5 := ⟨_, rfl⟩
          have hrow : w5.heap[w4.heap.size]? = some (.cells #[.string X] 9 (0, 0)) := by rw [← hw5]; exact heap_alloc_new w4 _
          have hr5 : RdZ 1 strE w5 (.slice (some ⟨w4.heap.size, 0, none⟩) 1 1) [X] := s_rd hrow
          rw [hw5] at hbl
          have HO5 := OwnL.below (OwnL.below HQ'.out.2.1 HB4.out) hbl
          have HW5 : Hid (Below w.heap.size w w5) := (HQ'.out.1.trans (HB4.out.mono HQ'.out.1.size)).trans (hbl.mono (Nat.le_trans HQ'.out.1.size HB4.out.size))
          have HS5 : Hid (w.heap.size ≤ w5.heap.size) := HW5.out.size
          clear hrow hbl
          go_wp2_with (refine wpList_append_E str_len str_one Try.underlying23 hiE hz0 hz1 hz2 rfl (by decide) (by decide) rfl _ _ rfl w.heap.size _ _ rfl HO5 _ [X] rfl hr5 (by have := HLQ.out; simp only [List.length_singleton]; omega) HS5.out ?_; rintro v7 w7 ho7 hg7)
          have hb7 : Below w.heap.size w w7 := grown_below HW5.out hg7 (fun g hg => by
            obtain ⟨_, ⟨e, _⟩ | ⟨g', cap, cur, e, h3, _⟩⟩ := HO5
            · rw [e] at hg; cases hg
            · rw [e] at hg; cases hg; exact h3) HW5.out.size
          obtain ⟨a7, c7, e7⟩ := row_slice ho7
          have HO7 : Hid (OwnL w.heap.size 9 1 strE w7 v7 (O ++ [X])) := ho7
          have HB7 : Hid (Below w.heap.size w w7) := hb7
          clear ho7 hg7 hb7 HO5 hr5
          subst e7
          try go_wp2
          go_roundg (t.size - 1)
          case measure => omega
          case rel =>
            refine ⟨Y, a7, _, c7, rfl, rfl, by omega, by omega, by omega, by have := HQ'.out.2.2.2.1; simp only [List.length_append, List.length_singleton]; omega, O ++ [X], HB7.out, HO7.out, ?_, rfl, (fun x hx => by
              rcases List.mem_append.1 hx with h | h
              · exact HQ'.out.2.2.2.2 x h
              · rw [List.mem_singleton.1 h]; omega)⟩
            rw [List.map_append, List.append_assoc, HQ'.out.2.2.1, HT.out, HC.out, HD.out]
            rfl
        · have hs := sign_no T pos hp hb
          have HP2 : Hid (Plain T (pos + (Utf8.decode T pos).2)) := plain_next hp HP.out hb
          have hwd := sign_wide T pos hp
          obtain ⟨r, hr⟩ : ∃ r, (Utf8.decode T pos).1 = r := ⟨_, rfl⟩
          obtain ⟨d, hd⟩ : ∃ d, (Utf8.decode T pos).2 = d := ⟨_, rfl⟩
          rw [hr, hd] at hnx
          have hr47 : ¬ (r : Int) = 47 := by have := hs.1; omega
          rw [hd] at HP2 hwd
          clear hs hr hd hb
          go_wp2
          go_roundg (T.size - (pos + d))
          case measure => omega
          case rel => exact ⟨pos + d, rfl, rfl, by omega, rfl, HP2.out⟩
      · have hnx : ∀ ty, (Instr.next (.pointer (some ⟨W0.heap.size, 0, none⟩)) true ty).run Try.prog (W0.iter T pos) = _ := fun ty => run_next_end W0 T pos ty hp
        have HB4 : Hid (Below W0.heap.size W0 (W0.iter T pos)) := iter_below _ _ _
        have HC : Hid (cutB (bytesOf T) = [bytesOf T]) := plain_all HP.out hp
        obtain ⟨w4, hw4⟩ : ∃ w4, W0.iter T pos = w4 := ⟨_, rfl⟩
        rw [hw4] at hnx HB4 ⊢
        clear hw4
        have hbl := bel1 w4 (.cells #[.string T] 9)
        obtain ⟨w5, hw5⟩ : ∃ w5, w4.alloc (.cells #[.string T] 9) = w5 := ⟨_, rfl⟩
        have hrow : w5.heap[w4.heap.size]? = some (.cells #[.string T] 9 (0, 0)) := by rw [← hw5]; exact heap_alloc_new w4 _
        have hr5 : RdZ 1 strE w5 (.slice (some ⟨w4.heap.size, 0, none⟩) 1 1) [T] := s_rd hrow
        rw [hw5] at hbl
        have HO5 := OwnL.below (OwnL.below HQ'.out.2.1 HB4.out) hbl
        have HW5 : Hid (Below w.heap.size w w5) := (HQ'.out.1.trans (HB4.out.mono HQ'.out.1.size)).trans (hbl.mono (Nat.le_trans HQ'.out.1.size HB4.out.size))
        have HS5 : Hid (w.heap.size ≤ w5.heap.size) := HW5.out.size
        clear hrow hbl
        go_wp2_with (refine wpList_append_E str_len str_one Try.underlying23 hiE hz0 hz1 hz2 rfl (by decide) (by decide) rfl _ _ rfl w.heap.size _ _ rfl HO5 _ [T] rfl hr5 (by have := HLQ.out; simp only [List.length_singleton]; omega) HS5.out ?_; rintro v7 w7 ho7 hg7)
        have hb7 : Below w.heap.size w w7 := grown_below HW5.out hg7 (fun g hg => by
          obtain ⟨_, ⟨e, _⟩ | ⟨g', cap, cur, e, h3, _⟩⟩ := HO5
          · rw [e] at hg; cases hg
          · rw [e] at hg; cases hg; exact h3) HW5.out.size
        obtain ⟨a7, c7, e7⟩ := row_slice ho7
        have HO7 : Hid (OwnL w.heap.size 9 1 strE w7 v7 (O ++ [T])) := ho7
        have HB7 : Hid (Below w.heap.size w w7) := hb7
        clear ho7 hg7 hb7 HO5 hr5
        subst e7
        try go_wp2
        (try rw [Exit.noGoto_ret])
        go_ret
        refine ⟨a7, _, c7, O ++ [T], rfl, HO7.out, ?_, (fun x hx => by
          rcases List.mem_append.1 hx with h | h
          · exact HQ'.out.2.2.2.2 x h
          · rw [List.mem_singleton.1 h]; omega), HB7.out⟩
        rw [HQ'.out.2.2.1, HT.out, HC.out, List.map_append]
        rfl

end Go.Proofs.Ytfnoppnmilmglaa
