/- The contracts of the document's Split and Parent. -/
import Derived.Test.YtfnoppnmilmglaaPhJoin
namespace Go.Proofs.Ytfnoppnmilmglaa
open Go.RowKit
set_option linter.unusedVariables false
set_option linter.unusedSimpArgs false
set_option maxRecDepth 100000

def bytesOf (s : ByteArray) : List UInt8 := s.data.toList
/-- A piece that was begun, ahead of the others. -/
def attach (n : List UInt8) : List (List UInt8) → List (List UInt8)
  | [] => [n]
  | h :: t => (n ++ h) :: t
/-- What is still to be cut. -/
def leftP (bs : List UInt8) (i : Nat) (n : List UInt8) : List (List UInt8) := if i ≤ bs.length then attach n (cutB (bs.drop i)) else []
theorem attach_nil (l : List UInt8) : attach [] (cutB l) = cutB l := by
  cases h : cutB l with
  | nil => exact absurd h (cutB_ne l)
  | cons x t => rfl
theorem left_byte {bs : List UInt8} {i : Nat} {c : UInt8} (h : bs[i]? = some c) (hc : c ≠ 47) (n : List UInt8) : leftP bs i n = leftP bs (i + 1) (n ++ [c]) := by
  have hl := (List.getElem?_eq_some_iff.1 h).1
  unfold leftP
  rw [if_pos (by omega), if_pos (by omega), List.drop_eq_getElem_cons hl, (List.getElem?_eq_some_iff.1 h).2]
  rw [cutB, if_neg hc]
  cases hq : cutB (bs.drop (i + 1)) with
  | nil => exact absurd hq (cutB_ne _)
  | cons x t => simp [attach]
theorem left_stroke {bs : List UInt8} {i : Nat} (h : bs[i]? = some 47) (n : List UInt8) : leftP bs i n = n :: leftP bs (i + 1) [] := by
  have hl := (List.getElem?_eq_some_iff.1 h).1
  unfold leftP
  rw [if_pos (by omega), if_pos (by omega), List.drop_eq_getElem_cons hl, (List.getElem?_eq_some_iff.1 h).2]
  rw [cutB, if_pos rfl, attach_nil]
  simp [attach]
theorem left_end {bs : List UInt8} (n : List UInt8) : leftP bs bs.length n = n :: leftP bs (bs.length + 1) [] := by
  unfold leftP
  rw [if_pos (Nat.le_refl _), if_neg (by omega), List.drop_length]
  simp [cutB, attach]
theorem byte_at (s : ByteArray) (i : Nat) (hi : i < s.size) : (bytesOf s)[i]? = some (s[i]'hi) := by
  unfold bytesOf
  rw [Array.getElem?_toList]
  exact Array.getElem?_eq_getElem hi
theorem ext1 (s : ByteArray) (i : Nat) (hi : i < s.size) : bytesOf (s.extract i (i + 1)) = [s[i]'hi] := by
  have h := byte_at s i hi
  unfold bytesOf at *
  rw [ByteArray.data_extract, Array.toList_extract, List.extract_eq_take_drop]
  have hl := (List.getElem?_eq_some_iff.1 h).1
  rw [List.drop_eq_getElem_cons hl, (List.getElem?_eq_some_iff.1 h).2]
  simp
theorem bytes_app (a b : ByteArray) : bytesOf (a ++ b) = bytesOf a ++ bytesOf b := by
  unfold bytesOf; simp

theorem s_rd {w : World} {q : Nat} {y : ByteArray} (h : w.heap[q]? = some (.cells #[.string y] 9 (0, 0))) : RdZ 1 strE w (.slice (some ⟨q, 0, none⟩) 1 1) [y] := by
  refine ⟨⟨_, 1, rfl, Nat.le_refl _, by unfold maxLen; decide, fun _ => ⟨q, 0, rfl, (Array.getElem?_eq_some_iff.1 h).1, fun i x j u hi hj => ?_⟩⟩, fun c hc => by cases hc⟩
  have hi0 : i = 0 := by
    have := (List.getElem?_eq_some_iff.1 hi).1
    simp at this; omega
  subst hi0
  simp at hi
  subst hi
  rw [cell_of_row _ _ _ _ _ (0, 0) h]
  simpa [strE] using hj
theorem grown_below {w0 w w' : World} {B : Nat} {v : Value} (hb : Below B w0 w) (hg : w.grownBy w' v.ownBlock) (hv : ∀ g, v.ownBlock = some g → B ≤ g) (hB : B ≤ w.heap.size) : Below B w0 w' :=
  hb.trans ⟨hg.os, hg.tape, hg.output, hg.size, fun k hk => hg.block k (by omega) (fun e => by have := hv k e.symm; omega)⟩

theorem bel1 (w : World) (o : Obj) : Below w.heap.size w (w.alloc o) := (Below.refl _ _).alloc (Nat.le_refl _) _

/-- What a split tells. -/
def SplitOut (w w' : World) (s : ByteArray) (e : Ending) : Prop := ∃ u, e = .returned (.tuple #[u, .int .i64 (pathE s)]) ∧ w'.ownsRow w.heap.size 9 1 u (pathL s).length ((pathL s).flatMap strE) ∧ Below w.heap.size w w'

set_option maxHeartbeats 8000000 in
theorem rsplit_any (w : World) (s : ByteArray) (hs : s.size ≤ maxLen) : Calls Try.prog 10 #[.string s] w fun e w' => SplitOut w w' s e := by
  unfold maxLen at hs
  by_cases h47 : s.toList = [47]
  · have hd : s.data.toList = [47] := by rw [← ByteArray.toList_eq]; exact h47
    have hE : pathE s = 0 := by unfold pathE; rw [if_pos hd]
    have hL : pathL s = [] := by unfold pathL; rw [if_pos hE, if_pos hd]
    have h47' : (s.toList == [47]) = true := by rw [h47]; rfl
    unfold SplitOut
    rw [hE, hL]
    go_enter Try.func10, Try.ntmps10
    go_wp2
    go_ret2
    exact ⟨_, rfl, World.ownsRow_nil _ _ _ _, Below.refl _ _⟩
  have hd : s.data.toList ≠ [47] := by rw [← ByteArray.toList_eq]; exact h47
  have h47' : (s.toList == [47]) = false := by rw [beq_eq_false_iff_ne]; exact h47
  have bad : pathE s ≠ 0 → pathE s = 160 ∧ pathL s = [] := fun h => by
    have := (pathE_or s).resolve_left h
    exact ⟨this, by unfold pathL; rw [if_neg h]⟩
  have HBAD : Hid (pathE s ≠ 0 → pathE s = 160 ∧ pathL s = []) := bad
  clear bad
  have fin : ∀ W, pathE s ≠ 0 → Below w.heap.size w W → SplitOut w W s (.returned (.tuple #[.slice none 0 0, .int .i64 160])) := fun W h hW => by
    obtain ⟨h1, h2⟩ := HBAD.out h
    exact ⟨_, by rw [h1], by rw [h2]; exact World.ownsRow_nil _ _ _ _, hW⟩
  have FIN : Hid _ := fin
  clear fin
  have head : headOk s = false → pathE s ≠ 0 := fun h => by unfold pathE; rw [if_neg hd, if_neg (by rw [h]; simp)]; decide
  have HEAD : Hid (headOk s = false → pathE s ≠ 0) := head
  clear head
  by_cases h2 : (s.size : Int) < 2
  · have hno : pathE s ≠ 0 := HEAD.out (by unfold headOk; rw [decide_eq_false (by omega)]; rfl)
    go_enter Try.func10, Try.ntmps10
    go_wp2
    go_ret2
    exact FIN.out _ hno (Below.refl _ _)
  by_cases h64 : (s.size : Int) > 64
  · have hno : pathE s ≠ 0 := HEAD.out (by unfold headOk; rw [decide_eq_false (show ¬ s.size ≤ 64 by omega), Bool.and_false]; rfl)
    go_enter Try.func10, Try.ntmps10
    go_wp2
    go_ret2
    exact FIN.out _ hno (Below.refl _ _)
  have h0 : 0 < s.size := by omega
  by_cases hc0 : (s[0]'h0).toNat = 47
  · have hHead : headOk s = true := by
      unfold headOk
      have := byte_at s 0 h0
      unfold bytesOf at this
      rw [show s.data.toList.head? = some (s[0]'h0) by rw [List.head?_eq_getElem?]; exact this, decide_eq_true (show 2 ≤ s.size by omega), decide_eq_true (show s.size ≤ 64 by omega), show s[0]'h0 = 47 from UInt8.toNat_inj.1 hc0]
      rfl
    have hPE : pathE s = if (pathN s).length ≤ 6 then (if (pathN s).all nameOk = true then 0 else 160) else 160 := by
      unfold pathE; rw [if_neg hd, if_pos hHead]
    have HPE : Hid _ := hPE
    have HPL : Hid (pathE s = 0 → pathL s = pathN s) := fun h => by unfold pathL; rw [if_pos h, if_neg hd]
    obtain ⟨iE, hiE, hz0, hz1, hz2⟩ := info_parts info_str
    have HSZ : Hid ((bytesOf s).length = s.size) := by unfold bytesOf; exact (size_list s).symm
    clear hPE hHead hd HEAD
    have hN64 : s.size ≤ 64 := by omega
    go_enter Try.func10, Try.ntmps10
    go_wp2
    go_loopg [4, 5, 6] (s.size + 1) (fun kx s4 s5 s6 wr => ∃ (i : Nat) (ao : Option Addr) (no co : Nat) (t : ByteArray), s4 = .slice ao no co ∧ s5 = .string t ∧ s6 = .int .i64 i ∧ 1 ≤ i ∧ i ≤ s.size + 1 ∧ s.size + 1 - i ≤ kx ∧ t.size ≤ i ∧ no ≤ i ∧ Hid (∃ O : List ByteArray, Below w.heap.size w wr ∧ OwnL w.heap.size 9 1 strE wr (.slice ao no co) O ∧ cutB ((bytesOf s).drop 1) = O.map bytesOf ++ leftP (bytesOf s) i (bytesOf t) ∧ O.length = no ∧ ∀ x ∈ O, x.size ≤ 100))
    case atStart =>
      refine ⟨1, none, 0, 0, ⟨#[]⟩, rfl, rfl, rfl, Nat.le_refl _, by omega, by omega, Nat.zero_le _, Nat.zero_le _, [], Below.refl _ _, OwnL.nil _ _ _ _ _, ?_, rfl, (fun x hx => by cases hx)⟩
      show _ = leftP (bytesOf s) 1 []
      unfold leftP
      rw [if_pos (by have := HSZ.out; omega), attach_nil]
    case round =>
      obtain ⟨i, ao, no, co, t, rfl, rfl, rfl, hi1, hiN, hkx, hts, hno, HQ⟩ := hrel
      have hib : (i : Int) + 1 ≤ 1001 := by omega
      by_cases hle : i ≤ s.size
      · have hleI : (i : Int) ≤ (s.size : Int) := by omega
        obtain ⟨O, hO⟩ := HQ.out
        have HQ' : Hid _ := hO
        have hlen : O.length ≤ 1000 := by have := hO.2.2.2.1; omega
        have hbl := bel1 wr (.cells #[.string t] 9)
        obtain ⟨w5, hw5⟩ : ∃ w5, wr.alloc (.cells #[.string t] 9) = w5 := ⟨_, rfl⟩
        have hrow : w5.heap[wr.heap.size]? = some (.cells #[.string t] 9 (0, 0)) := by rw [← hw5]; exact heap_alloc_new wr _
        have hr5 : RdZ 1 strE w5 (.slice (some ⟨wr.heap.size, 0, none⟩) 1 1) [t] := s_rd hrow
        rw [hw5] at hbl
        have HO5 := OwnL.below hO.2.1 hbl
        have HW5 : Hid (Below w.heap.size w w5) := hO.1.trans (hbl.mono hO.1.size)
        have HS5 : Hid (w.heap.size ≤ w5.heap.size) := HW5.out.size
        have HLQ : Hid _ := hlen
        clear hO hrow hbl hlen
        by_cases hlt : i < s.size
        · have hltI : (i : Int) < (s.size : Int) := by omega
          have HB : Hid ((bytesOf s)[i]? = some (s[i]'hlt)) := byte_at s i hlt
          by_cases hc : (s[i]'hlt).toNat = 47
          · have b47 : (((s[i]'hlt).toNat : Int) == 47) = true := by rw [hc]; rfl
            go_wp2_with (refine wpList_append_E str_len str_one Try.underlying23 hiE hz0 hz1 hz2 rfl (by decide) (by decide) rfl _ _ rfl w.heap.size _ _ rfl HO5 _ [t] rfl hr5 (by have := HLQ.out; simp only [List.length_singleton]; omega) HS5.out ?_; rintro v7 w7 ho7 hg7)
            have hb7 : Below w.heap.size w w7 := grown_below HW5.out hg7 (fun g hg => by
              obtain ⟨_, ⟨e, _⟩ | ⟨g', cap, cur, e, h3, _⟩⟩ := HO5
              · rw [e] at hg; cases hg
              · rw [e] at hg; cases hg; exact h3) HW5.out.size
            obtain ⟨a7, c7, e7⟩ := row_slice ho7
            have HO7 : Hid (OwnL w.heap.size 9 1 strE w7 v7 (O ++ [t])) := ho7
            have HB7 : Hid (Below w.heap.size w w7) := hb7
            clear ho7 hg7 hb7 HO5 hr5
            subst e7
            try go_wp2
            go_roundg (s.size + 1 - (i + 1))
            case measure => omega
            case rel =>
              refine ⟨i + 1, a7, _, c7, ⟨#[]⟩, rfl, rfl, by rw [show ((i : Int) + 1) = ((i + 1 : Nat) : Int) by omega], by omega, by omega, by omega, by show 0 ≤ _; omega, by have := HQ'.out.2.2.2.1; simp only [List.length_append, List.length_singleton]; omega, O ++ [t], HB7.out, HO7.out, ?_, rfl, (fun x hx => by
                rcases List.mem_append.1 hx with h | h
                · exact HQ'.out.2.2.2.2 x h
                · rw [List.mem_singleton.1 h]; omega)⟩
              rw [List.map_append, List.append_assoc, HQ'.out.2.2.1, left_stroke (by rw [HB.out, show s[i]'hlt = 47 from UInt8.toNat_inj.1 hc])]
              rfl
          · have b47 : (((s[i]'hlt).toNat : Int) == 47) = false := by rw [beq_eq_false_iff_ne]; omega
            have hts' : t.size ≤ 100 := by omega
            have hexs : (s.extract i (i + 1)).size = 1 := by rw [ByteArray.size_extract]; omega
            clear HO5 hr5 HLQ
            go_wp2
            go_roundg (s.size + 1 - (i + 1))
            case measure => omega
            case rel =>
              refine ⟨i + 1, ao, no, co, t ++ s.extract i (i + 1), rfl, rfl, by rw [show ((i : Int) + 1) = ((i + 1 : Nat) : Int) by omega], by omega, by omega, by omega, by rw [ByteArray.size_append, hexs]; omega, by omega, O, HQ'.out.1, HQ'.out.2.1, ?_, HQ'.out.2.2.2.1, HQ'.out.2.2.2.2⟩
              rw [HQ'.out.2.2.1, left_byte HB.out (fun e => hc (by rw [e]; rfl)), bytes_app, ext1 s i hlt]
        · have hltI : ¬ (i : Int) < (s.size : Int) := by omega
          go_wp2_with (refine wpList_append_E str_len str_one Try.underlying23 hiE hz0 hz1 hz2 rfl (by decide) (by decide) rfl _ _ rfl w.heap.size _ _ rfl HO5 _ [t] rfl hr5 (by have := HLQ.out; simp only [List.length_singleton]; omega) HS5.out ?_; rintro v7 w7 ho7 hg7)
          have hb7 : Below w.heap.size w w7 := grown_below HW5.out hg7 (fun g hg => by
            obtain ⟨_, ⟨e, _⟩ | ⟨g', cap, cur, e, h3, _⟩⟩ := HO5
            · rw [e] at hg; cases hg
            · rw [e] at hg; cases hg; exact h3) HW5.out.size
          obtain ⟨a7, c7, e7⟩ := row_slice ho7
          have HO7 : Hid (OwnL w.heap.size 9 1 strE w7 v7 (O ++ [t])) := ho7
          have HB7 : Hid (Below w.heap.size w w7) := hb7
          clear ho7 hg7 hb7 HO5 hr5
          subst e7
          try go_wp2
          go_roundg (s.size + 1 - (i + 1))
          case measure => omega
          case rel =>
            refine ⟨i + 1, a7, _, c7, ⟨#[]⟩, rfl, rfl, by rw [show ((i : Int) + 1) = ((i + 1 : Nat) : Int) by omega], by omega, by omega, by omega, by show 0 ≤ _; omega, by have := HQ'.out.2.2.2.1; simp only [List.length_append, List.length_singleton]; omega, O ++ [t], HB7.out, HO7.out, ?_, rfl, (fun x hx => by
              rcases List.mem_append.1 hx with h | h
              · exact HQ'.out.2.2.2.2 x h
              · rw [List.mem_singleton.1 h]; omega)⟩
            have hiN' : i = (bytesOf s).length := by have := HSZ.out; omega
            rw [List.map_append, List.append_assoc, HQ'.out.2.2.1, hiN', left_end]
            rfl
      · have hleI : ¬ (i : Int) ≤ (s.size : Int) := by omega
        obtain ⟨O, hO⟩ := HQ.out
        have hcut : pathN s = O := by
          unfold pathN
          have h1 := hO.2.2.1
          unfold leftP at h1
          rw [if_neg (by have := HSZ.out; omega), List.append_nil] at h1
          unfold bytesOf at h1
          rw [h1, map_to]
        have HO : Hid (Below w.heap.size w wr ∧ OwnL w.heap.size 9 1 strE wr (.slice ao no co) O ∧ O.length = no ∧ (∀ x ∈ O, x.size ≤ 100) ∧ pathN s = O) := ⟨hO.1, hO.2.1, hO.2.2.2.1, hO.2.2.2.2, hcut⟩
        clear hO HQ hcut
        by_cases h6 : no > 6
        · have h6I : (no : Int) > 6 := by omega
          have hno' : pathE s ≠ 0 := by rw [HPE.out, HO.out.2.2.2.2, if_neg (by have := HO.out.2.2.1; omega)]; decide
          go_wp2
          go_ret2
          exact FIN.out _ hno' HO.out.1
        · have h6I : ¬ (no : Int) > 6 := by omega
          have hn6 : no ≤ 6 := by omega
          go_wp2
          go_loopg [56] no (fun ky s56 wq => ∃ k : Nat, s56 = .int .i64 k ∧ k ≤ no ∧ no - k ≤ ky ∧ Hid (wr = wq ∧ (O.take k).all nameOk = true))
          case atStart => exact ⟨0, rfl, Nat.zero_le _, by omega, rfl, rfl⟩
          case round =>
            obtain ⟨k, rfl, hkn, hky, HK⟩ := hrel
            have hwq := HK.out.1
            subst hwq
            by_cases hkl : k < no
            · obtain ⟨x, hx⟩ : ∃ x, O[k]? = some x := ⟨_, List.getElem?_eq_getElem (by have := HO.out; omega)⟩
              have HX : Hid (O[k]? = some x) := hx
              obtain ⟨b0, o0, e0, d0⟩ := s_cell (a := ao) (n := no) (cap := co) (rdZ_own str_len HO.out.2.1) hx
              subst e0
              have hkI : (k : Int) < (no : Int) := by omega
              have hkb : (k : Int) + 1 ≤ 1001 := by omega
              have hck := refName_any wr x (by have := HO.out.2.2.2.1 x (List.mem_of_getElem? hx); unfold maxLen; omega)
              clear hx
              cases hq : nameOk x with
              | false =>
                rw [nameE_30 hq] at hck
                have hno' : pathE s ≠ 0 := by
                  rw [HPE.out, HO.out.2.2.2.2, if_pos (by have := HO.out.2.2.1; omega), if_neg (by
                    intro e
                    have := List.all_eq_true.1 e x (List.mem_of_getElem? HX.out)
                    rw [hq] at this; cases this)]
                  decide
                go_wp2_with fail
                refine hck.mono ?_
                rintro e w6 ⟨rfl, rfl⟩
                go_wp2
                go_ret2
                exact FIN.out _ hno' HO.out.1
              | true =>
                rw [nameE_0 hq] at hck
                go_wp2_with fail
                refine hck.mono ?_
                rintro e w6 ⟨rfl, rfl⟩
                clear hck
                go_wp2
                go_roundg (no - (k + 1))
                case measure => omega
                case rel => exact ⟨k + 1, by rw [show ((k : Int) + 1) = ((k + 1 : Nat) : Int) by omega], by omega, by omega, rfl, all_next HX.out hq HK.out.2⟩
            · obtain rfl : no = k := by omega
              have hall : O.all nameOk = true := by
                have h0 := HK.out.2
                rw [List.take_of_length_le (by have := HO.out; omega)] at h0
                exact h0
              have hE0 : pathE s = 0 := by rw [HPE.out, HO.out.2.2.2.2, if_pos (by have := HO.out.2.2.1; omega), if_pos hall]
              have HE0 : Hid (pathE s = 0) := hE0
              clear hE0
              go_wp2
              go_ret2
              refine ⟨.slice ao no co, by rw [HE0.out]; rfl, ?_, HO.out.1⟩
              rw [HPL.out HE0.out, HO.out.2.2.2.2]
              exact HO.out.2.1
  · have hno : pathE s ≠ 0 := HEAD.out (by
      unfold headOk
      have := byte_at s 0 h0
      unfold bytesOf at this
      rw [show s.data.toList.head? = some (s[0]'h0) by rw [List.head?_eq_getElem?]; exact this]
      have hne : ((some (s[0]'h0)) == some (47 : UInt8)) = false := by
        rw [beq_eq_false_iff_ne]
        intro e
        simp only [Option.some.injEq] at e
        rw [e] at hc0
        exact hc0 rfl
      rw [hne, Bool.and_false])
    have b47 : (((s[0]'h0).toNat : Int) == 47) = false := by rw [beq_eq_false_iff_ne]; omega
    go_enter Try.func10, Try.ntmps10
    go_wp2
    go_ret2
    exact FIN.out _ hno (Below.refl _ _)

end Go.Proofs.Ytfnoppnmilmglaa
