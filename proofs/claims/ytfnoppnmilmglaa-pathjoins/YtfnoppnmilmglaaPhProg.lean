/- The contracts of the program's Parent, Join, Under, and of strings.Join and slices.Equal at texts. -/
import Derived.Test.YtfnoppnmilmglaaPhSpl
import Derived.Test.YtfnoppnmilmglaaPhJn
namespace Go.Proofs.Ytfnoppnmilmglaa
open Go.RowKit
set_option linter.unusedVariables false
set_option linter.unusedSimpArgs false
set_option maxRecDepth 100000

set_option maxHeartbeats 4000000 in
theorem pparent_any (w : World) (s : ByteArray) (hs : s.size ≤ maxLen) : Calls Try.prog 11 #[.string s] w fun e w' => ParOut w w' s e := by
  have hsp := psplit_any w s hs
  go_enter Try.func11, Try.ntmps11
  go_wp2_with fail
  refine hsp.mono ?_
  rintro e w1 ⟨a, n, c, rfl, hf, hb⟩
  clear hsp
  have HF : Hid (FrR w.heap.size w1 a n c (pathL s)) := hf
  have HB : Hid (Below w.heap.size w w1 ∧ (pathL s).length = n) := ⟨hb, hf.1.len.1⟩
  clear hf hb
  obtain ⟨E, hE⟩ : ∃ E, pathE s = E := ⟨_, rfl⟩
  rw [hE]
  have HE : Hid (pathE s = E) := hE
  rcases pathE_or s with h0 | h0
  · have e0 : E = 0 := by rw [← hE]; exact h0
    subst e0
    clear hE h0
    by_cases hz : n = 0
    · subst hz
      go_wp2
      go_ret3
      exact par_bad (fun h => h.2 (List.eq_nil_of_length_eq_zero HB.out.2)) HB.out.1
    · obtain ⟨m, rfl⟩ : ∃ m, n = m + 1 := ⟨n - 1, by omega⟩
      obtain ⟨x, hx⟩ : ∃ x, (pathL s)[m]? = some x := ⟨_, List.getElem?_eq_getElem (by have := HB.out.2; omega)⟩
      have HX : Hid ((pathL s)[m]? = some x) := hx
      obtain ⟨b0, o0, rfl, d0⟩ := s_cell HF.out.1 hx
      have hm1 : ((m + 1 : Nat) : Int) - 1 = (m : Int) := by omega
      have hz' : ¬ ((m + 1 : Nat) : Int) = 0 := by omega
      have hcap : m + 1 ≤ c := HF.out.1.len.2.1
      have hcapI : (m : Int) ≤ (c : Int) := by omega
      have hmI : (m : Int) < ((m + 1 : Nat) : Int) := by omega
      have hm6 : m ≤ 1000 := by have := (path_all HE.out).1; have := HB.out.2; omega
      clear hx hz
      go_wp2
      go_quiet (fail)
      go_wp2
      go_ret3
      exact par_goes HE.out HF.out HX.out HB.out.1 (belowQ _ _ _)
  · have e0 : E = 160 := by rw [← hE]; exact h0
    subst e0
    clear hE h0
    go_wp2
    go_ret3
    exact par_bad (fun h => by rw [HE.out] at h; cases h.1) HB.out.1

set_option maxHeartbeats 4000000 in
theorem pjoin_any {w : World} (a : Option Addr) (n c : Nat) (l : List ByteArray) (hl : RdZ 1 strE w (.slice a n c) l) (hs : ∀ x ∈ l, x.size ≤ maxLen) :
    Calls Try.prog 14 #[.slice a n c] w fun e w' => e = .returned (.tuple #[.string (joinS l), .int .i64 (joinE l)]) ∧ Below w.heap.size w w' := by
  have hm := pmay_any a n c l hl hs
  cases hq : mayB l with
  | false =>
    rw [hq] at hm
    have hE : joinE l = 160 := by rw [joinE_may, if_neg (by rw [hq]; simp)]
    have hS : joinS l = ⟨#[]⟩ := by rw [joinS, if_neg (by rw [hE]; decide)]
    rw [hE, hS]
    clear hl hs hE hS hq
    go_enter Try.func14, Try.ntmps14
    go_wp2_with fail
    refine hm.mono ?_
    rintro e w3 ⟨rfl, rfl⟩
    go_wp2
    go_ret2
    exact ⟨rfl, Below.refl _ _⟩
  | true =>
    rw [hq] at hm
    have hE : joinE l = 0 := by rw [joinE_may, if_pos hq]
    have hj := sjoin_any a n c l hl (by unfold mayB at hq; simp only [Bool.and_eq_true, decide_eq_true_eq] at hq; exact hq.1) (by unfold mayB at hq; simp only [Bool.and_eq_true, decide_eq_true_eq] at hq; exact hq.2)
    obtain ⟨J, hJ⟩ : ∃ J, jnS l = J := ⟨_, rfl⟩
    have hS : joinS l = (⟨#[47]⟩ : ByteArray) ++ J := by rw [joinS, if_pos hE, ← hJ]; exact jn_glu l
    have hJs : J.size ≤ 64 := by
      rw [← hJ]
      unfold mayB at hq
      simp only [Bool.and_eq_true, decide_eq_true_eq] at hq
      have := jn_le hq.2
      omega
    rw [hE, hS]
    rw [hJ] at hj
    clear hl hs hE hS hq hJ
    go_enter Try.func14, Try.ntmps14
    go_wp2_with fail
    refine hm.mono ?_
    rintro e w3 ⟨rfl, rfl⟩
    clear hm
    go_wp2_with fail
    refine hj.mono ?_
    rintro e w4 ⟨rfl, hb⟩
    clear hj
    go_wp2
    go_ret2
    exact ⟨rfl, hb⟩

set_option maxHeartbeats 4000000 in
theorem seq_any {w : World} (a : Option Addr) (n c : Nat) (l : List ByteArray) (hl : RdZ 1 strE w (.slice a n c) l) (b : Option Addr) (d : Nat) (r : List ByteArray) (hr : RdZ 1 strE w (.slice b n d) r) (hn : n ≤ 1000000) :
    Calls Try.prog 23 #[.slice a n c, .slice b n d] w fun e w' => e = .returned (.bool (sameP l r)) ∧ Below w.heap.size w w' := by
  obtain ⟨h1, _, _⟩ := hl.len
  obtain ⟨h2, _, _⟩ := hr.len
  have HL : Hid (RdZ 1 strE w (.slice a n c) l ∧ RdZ 1 strE w (.slice b n d) r ∧ l.length = n ∧ r.length = n) := ⟨hl, hr, h1, h2⟩
  obtain ⟨F, hF⟩ : ∃ F, sameP l r = F := ⟨_, rfl⟩
  rw [hF]
  have HF : Hid (sameP l r = F) := hF
  clear hl hr h1 h2 hF
  go_enter Try.func23, Try.ntmps23
  go_wp2
  go_loopg [13] n (fun kx s13 wr => ∃ i : Nat, s13 = .int .i64 i ∧ i ≤ n ∧ n - i ≤ kx ∧ Hid (Below w.heap.size w wr) ∧ Hid (∀ (j : Nat) (x y : ByteArray), j < i → l[j]? = some x → r[j]? = some y → x.toList = y.toList))
  case atStart => exact ⟨0, rfl, Nat.zero_le _, by omega, Below.refl _ _, fun j x y hj => by omega⟩
  case round =>
    obtain ⟨i, rfl, hin, hkx, HW, HQ⟩ := hrel
    by_cases hlt : i < n
    · obtain ⟨x, hx⟩ : ∃ x, l[i]? = some x := ⟨_, List.getElem?_eq_getElem (by have := HL.out; omega)⟩
      obtain ⟨y, hy⟩ : ∃ y, r[i]? = some y := ⟨_, List.getElem?_eq_getElem (by have := HL.out; omega)⟩
      have HXY : Hid (l[i]? = some x ∧ r[i]? = some y) := ⟨hx, hy⟩
      obtain ⟨b0, o0, rfl, d0⟩ := s_cell (HL.out.1.below HW.out) hx
      obtain ⟨b1, o1, rfl, d1⟩ := s_cell (HL.out.2.1.below HW.out) hy
      have hiI : (i : Int) < (n : Int) := by omega
      have hib : (i : Int) + 1 ≤ 1000001 := by omega
      clear hx hy
      cases hq : (x.toList == y.toList) with
      | true =>
        have HQ' : Hid (x.toList = y.toList) := beq_iff_eq.1 hq
        go_wp2
        go_quiet (fail)
        go_wp2
        go_roundg (n - (i + 1))
        case measure => omega
        case rel =>
          refine ⟨i + 1, by rw [show ((i : Int) + 1) = ((i + 1 : Nat) : Int) by omega], by omega, by omega, thenB HW.out (belowQ _ _ _), fun j u v hj hu hv => ?_⟩
          rcases Nat.lt_or_ge j i with h | h
          · exact HQ.out j u v h hu hv
          · obtain rfl : j = i := by omega
            rw [HXY.out.1] at hu
            rw [HXY.out.2] at hv
            cases hu; cases hv; exact HQ'.out
      | false =>
        have HQ' : Hid (x.toList ≠ y.toList) := fun e => by rw [e] at hq; simp at hq
        go_wp2
        go_quiet (fail)
        go_wp2
        go_ret
        refine ⟨?_, thenB HW.out (belowQ _ _ _)⟩
        rw [← HF.out, sameP_false HXY.out.1 HXY.out.2 HQ'.out]
        rfl
    · obtain rfl : n = i := by omega
      have hyes : F = true := by
        rw [← HF.out]
        exact sameP_true (by have := HL.out; omega) (fun j x y hx hy => HQ.out j x y (by have := (List.getElem?_eq_some_iff.1 hx).1; have := HL.out; omega) hx hy)
      go_wp2
      go_ret
      exact ⟨by rw [hyes]; rfl, HW.out⟩

theorem sameP_take : ∀ (l r : List ByteArray), l.length ≤ r.length → sameP l (r.take l.length) = sameP l r
  | [], r, _ => rfl
  | x :: l, [], h => by simp at h
  | x :: l, y :: r, h => by
    show sameP (x :: l) (y :: r.take l.length) = _
    unfold sameP
    rw [sameP_take l r (by simpa using h)]

set_option maxHeartbeats 4000000 in
theorem punder_any {w : World} (a : Option Addr) (n c : Nat) (l : List ByteArray) (hl : RdZ 1 strE w (.slice a n c) l) (b : Option Addr) (m d : Nat) (r : List ByteArray) (hr : RdZ 1 strE w (.slice b m d) r) (hn : n ≤ 1000000) :
    Calls Try.prog 16 #[.slice a n c, .slice b m d] w fun e w' => e = .returned (.bool (underB l r)) ∧ Below w.heap.size w w' := by
  obtain ⟨h1, _, _⟩ := hl.len
  obtain ⟨h2, h3, _⟩ := hr.len
  by_cases hnm : n < m
  · have hgt : (m : Int) > (n : Int) := by omega
    have hcap : (n : Int) ≤ (d : Int) := by omega
    obtain ⟨b1, o1, rfl⟩ : ∃ b1 o1, b = some ⟨b1, o1, none⟩ := by
      obtain ⟨y, hy⟩ : ∃ y, r[0]? = some y := ⟨_, List.getElem?_eq_getElem (by omega)⟩
      obtain ⟨b0, o0, e, _⟩ := s_cell hr hy
      exact ⟨b0, o0, e⟩
    have hrt : RdZ 1 strE w (.slice (some ⟨b1, o1, none⟩) n d) (r.take n) := RdZ.take hr n (by omega) (fun e => by cases e)
    have hse := seq_any a n c l hl _ d _ hrt hn
    have hU : underB l r = sameP l (r.take n) := by
      rw [underB, decide_eq_true (by omega), Bool.true_and, ← h1, sameP_take l r (by omega)]
    rw [hU]
    obtain ⟨F, hF⟩ : ∃ F, sameP l (r.take n) = F := ⟨_, rfl⟩
    rw [hF] at hse ⊢
    clear hl hr hrt h1 h2 hU hF
    go_enter Try.func16, Try.ntmps16
    go_wp2_with fail
    refine hse.mono ?_
    rintro e w1 ⟨rfl, hb⟩
    clear hse
    go_wp2
    go_ret
    exact ⟨rfl, hb⟩
  · have hle : ¬ (m : Int) > (n : Int) := by omega
    have hno : underB l r = false := by rw [underB, decide_eq_false (by omega), Bool.false_and]
    rw [hno]
    go_enter Try.func16, Try.ntmps16
    go_wp2
    go_ret
    exact ⟨rfl, Below.refl _ _⟩

end Go.Proofs.Ytfnoppnmilmglaa
