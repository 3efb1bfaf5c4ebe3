/- The contracts of slices' reverseRange, siftDown, heapSort at numbers of 32 bits. -/
import Derived.Test.YtakifnlfgaedjaaVBits
import Derived.BigRegion
namespace Go.Proofs.Ytakifnlfgaedjaa
open Go.RowKit Go.Sort
set_option linter.unusedVariables false
set_option linter.unusedSimpArgs false
set_option maxRecDepth 4000

theorem rev_on (i j : Nat) (d : Array Int) (h : i < j) : reverseLoop i j d = reverseLoop (i + 1) (j - 1) (swp d i j) := by rw [reverseLoop, if_pos h]
theorem rev_off (i j : Nat) (d : Array Int) (h : ¬ i < j) : reverseLoop i j d = d := by rw [reverseLoop, if_neg h]

set_option maxHeartbeats 4000000 in
theorem rev_any {w : World} {g : Nat} {d : Array Int} (h : HoldU w g d) (n cap a b : Nat) (hn : n = d.size) (hab : a < b) (hb : b ≤ n) (hc : n ≤ cap) (hcm : cap ≤ maxLen) (hsz : n ≤ 100000) :
    Calls Try.prog 46 #[.slice (some ⟨g, 0, none⟩) n cap, .int .i64 a, .int .i64 b] w fun e w' => e = .returned (.tuple #[]) ∧ SortOut w g d (fun d' => d' = reverseRange d a b) w' := by
  have H : Hid (HoldU w g d) := h
  have HN : Hid (n = d.size) := hn
  unfold maxLen at hcm
  obtain ⟨B, hB⟩ : ∃ B, b = B + 1 := ⟨b - 1, by omega⟩
  have hB1 : (b : Int) - 1 = (B : Int) := by omega
  have hwB : IntKind.i64.wrap (B : Int) = (B : Int) := Go.IntWalk.i64_in _ (by omega)
  have HB : Hid (b = B + 1) := hB
  clear h hn hB
  go_enter Try.func46, Try.ntmps46
  go_wp2
  go_loopw [6, 7] (fun t u wr => ∃ i j : Nat, t = .int .i64 i ∧ u = .int .i64 j ∧ i ≤ n ∧ j < n ∧ Hid (∃ dk : Array Int, dk.size = n ∧ HoldU wr g dk ∧ reverseLoop i j dk = reverseLoop a B d) ∧ Sole [g] w wr) (fun t u _ => (intOf u).toNat - (intOf t).toNat)
  case atStart => exact ⟨a, B, rfl, rfl, by omega, by have := HB.out; omega, ⟨d, HN.out.symm, H.out, rfl⟩, Sole.refl _ _⟩
  case round =>
    obtain ⟨i, j, rfl, rfl, hi, hj, HD, hS⟩ := hrel
    by_cases hij : i < j
    · have hijI : (i : Int) < j := by omega
      obtain ⟨dj, h1, h2, h3⟩ := HD.out
      have H2 : Hid (HoldU wr g dj) := h2
      have HE : Hid (dj.size = n) := h1
      have HQ : Hid _ := h3
      clear HD h3
      have ci := h2.cell i (by omega)
      have cj := h2.cell j (by omega)
      have fi := h2.frozen i
      have fj := h2.frozen j
      have hiI : (i : Int) < n := by omega
      have hjI : (j : Int) < n := by omega
      have hin : i < n := by omega
      have hne : ¬ i = j := by omega
      have hne' : ¬ j = i := by omega
      obtain ⟨k, hk⟩ : ∃ k, j = k + 1 := ⟨j - 1, by omega⟩
      have hk1 : (j : Int) - 1 = (k : Int) := by omega
      have hwk : IntKind.i64.wrap (k : Int) = (k : Int) := Go.IntWalk.i64_in _ (by omega)
      have HK : Hid (j = k + 1) := hk
      generalize hGi : dj[i]! = xi at *
      generalize hGj : dj[j]! = xj at *
      have HGi : Hid (dj[i]! = xi) := hGi
      have HGj : Hid (dj[j]! = xj) := hGj
      have HSw : Hid (∀ q, HoldU (((wr.drewN q).setCell ⟨g, i, none⟩ (.int .u32 xj)).setCell ⟨g, j, none⟩ (.int .u32 xi)) g (swp dj i j)) := fun q => by
        have := (H2.out.drewN q).swap i j (by have := HE.out; omega) (by have := HE.out; omega)
        rw [HGi.out, HGj.out] at this
        exact this
      clear hGi hGj h1 h2 hk
      go_wp2_with fail
      go_region
      all_goals go_wp2
      go_roundw
      case rel =>
        refine ⟨i + 1, k, by go_num, by go_num, by omega, by have := HK.out; omega, ⟨swp dj i j, by rw [size_swp]; exact HE.out, HSw.out 1, ?_⟩, ?_⟩
        · rw [← HQ.out, rev_on i j dj hij, show j - 1 = k from by have := HK.out; omega]
        · exact ((hS.trans (Sole.drewN _ 1 _)).trans (Sole.setCell _ _ (by simp))).trans (Sole.setCell _ _ (by simp))
      case measure => simp [intOf]; have := HK.out; omega
    · have hijI : ¬ (i : Int) < j := by omega
      go_wp2
      go_end0
      obtain ⟨dk, h1, h2, h3⟩ := HD.out
      exact ⟨rfl, dk, by unfold reverseRange; rw [show b - 1 = B from by have := HB.out; omega, ← h3, rev_off i j dk hij], h1.trans HN.out, h2, hS⟩

theorem sift_end (hi F r : Nat) (d : Array Int) (h : hi ≤ 2 * r + 1) : siftDown ltInt hi F r d = d := by rw [siftDown, dif_pos h]
/-- Which child is the greater one. -/
def kidN (hi F r : Nat) (d : Array Int) : Nat := if 2 * r + 2 < hi ∧ ltInt d[F + (2 * r + 1)]! d[F + (2 * r + 1) + 1]! = true then 2 * r + 2 else 2 * r + 1
theorem sift_stop (hi F r : Nat) (d : Array Int) (h : ¬ hi ≤ 2 * r + 1) (hl : ltInt d[F + r]! d[F + kidN hi F r d]! = false) : siftDown ltInt hi F r d = d := by
  rw [siftDown, dif_neg h]
  unfold kidN at hl
  split at hl
  · rename_i q
    rw [if_pos (by simp; exact ⟨q.1, q.2⟩), if_pos (by simp [hl])]
  · rename_i q
    rw [if_neg (by simpa using q), if_pos (by simp [hl])]
theorem sift_on (hi F r : Nat) (d : Array Int) (h : ¬ hi ≤ 2 * r + 1) (hl : ltInt d[F + r]! d[F + kidN hi F r d]! = true) : siftDown ltInt hi F r d = siftDown ltInt hi F (kidN hi F r d) (swp d (F + r) (F + kidN hi F r d)) := by
  rw [siftDown, dif_neg h]
  unfold kidN at *
  split at hl
  · rename_i q
    rw [if_pos (by simp; exact ⟨q.1, q.2⟩), if_neg (by simp [hl]), dif_pos q.1, if_pos q]
  · rename_i q
    rw [if_neg (by simpa using q), if_neg (by simp [hl]), if_neg q]

set_option maxHeartbeats 4000000 in
theorem sift_any {w : World} {g : Nat} {d : Array Int} (h : HoldU w g d) (n cap lo hi F : Nat) (hn : n = d.size) (hb : F + hi ≤ n) (hlo : lo ≤ n) (hc : n ≤ cap) (hcm : cap ≤ maxLen) (hsz : n ≤ 100000) :
    Calls Try.prog 53 #[.slice (some ⟨g, 0, none⟩) n cap, .int .i64 lo, .int .i64 hi, .int .i64 F] w fun e w' => e = .returned (.tuple #[]) ∧ SortOut w g d (fun d' => d' = siftDown ltInt hi F lo d) w' := by
  have H : Hid (HoldU w g d) := h
  have HN : Hid (n = d.size) := hn
  unfold maxLen at hcm
  clear h hn
  go_enter Try.func53, Try.ntmps53
  go_wp2
  go_loopw [8] (fun t wr => ∃ r : Nat, t = .int .i64 r ∧ r ≤ n ∧ Hid (∃ dk : Array Int, dk.size = n ∧ HoldU wr g dk ∧ siftDown ltInt hi F r dk = siftDown ltInt hi F lo d) ∧ Sole [g] w wr) (fun t _ => hi - (intOf t).toNat)
  case atStart => exact ⟨lo, rfl, hlo, ⟨d, HN.out.symm, H.out, rfl⟩, Sole.refl _ _⟩
  case round =>
    obtain ⟨r, rfl, hr, HD, hS⟩ := hrel
    obtain ⟨dj, h1, h2, h3⟩ := HD.out
    have H2 : Hid (HoldU wr g dj) := h2
    have HE : Hid (dj.size = n) := h1
    have HQ : Hid _ := h3
    clear HD h3
    obtain ⟨c, hcd⟩ : ∃ c, c = 2 * r + 1 := ⟨_, rfl⟩
    have hc1 : 2 * (r : Int) + 1 = (c : Int) := by omega
    have HC : Hid (c = 2 * r + 1) := hcd
    have hw2 : IntKind.i64.wrap (2 * (r : Int)) = 2 * (r : Int) := Go.IntWalk.i64_in _ (by omega)
    have hwc : IntKind.i64.wrap (c : Int) = (c : Int) := Go.IntWalk.i64_in _ (by omega)
    by_cases hend : hi ≤ c
    · have hendI : (hi : Int) ≤ c := by omega
      clear h1 h2 hcd
      go_wp2
      go_end0
      refine ⟨rfl, dj, ?_, HE.out.trans HN.out, H2.out, hS⟩
      rw [← HQ.out, sift_end hi F r dj (by have := HC.out; omega)]
    · have hendI : ¬ (hi : Int) ≤ c := by omega
      have hchI : (c : Int) < hi := by omega
      have hFc : (F : Int) + (c : Int) < n := by omega
      have hFcn : F + c < n := by omega
      have cc := h2.cell (F + c) (by omega)
      have fc := h2.frozen (F + c)
      have hFr : (F : Int) + (r : Int) < n := by omega
      have hFrn : F + r < n := by omega
      have hzr : ¬ ((F : Int) + (r : Int) < 0) := by omega
      have hyr : (0 : Int) ≤ (F : Int) + (r : Int) := by omega
      have htr : ((F : Int) + (r : Int)).toNat = F + r := by omega
      have hvr : IntKind.i64.wrap ((F : Int) + (r : Int)) = (F : Int) + (r : Int) := Go.IntWalk.i64_in _ (by omega)
      have hzc : ¬ ((F : Int) + (c : Int) < 0) := by omega
      have hyc : (0 : Int) ≤ (F : Int) + (c : Int) := by omega
      have htc : ((F : Int) + (c : Int)).toNat = F + c := by omega
      have hvc : IntKind.i64.wrap ((F : Int) + (c : Int)) = (F : Int) + (c : Int) := Go.IntWalk.i64_in _ (by omega)
      have cr := h2.cell (F + r) (by omega)
      have fr := h2.frozen (F + r)
      by_cases hc2 : c + 1 < hi
      · obtain ⟨k, hkd⟩ : ∃ k, k = c + 1 := ⟨_, rfl⟩
        have hk1 : (c : Int) + 1 = (k : Int) := by omega
        have HK : Hid (k = c + 1) := hkd
        have hc2I : (k : Int) < hi := by omega
        have hFc1 : (F : Int) + (c : Int) + 1 < n := by omega
        have hFc1n : F + c + 1 < n := by omega
        have hFk : (F : Int) + (k : Int) < n := by omega
        have hFkn : F + k < n := by omega
        have hzk : ¬ ((F : Int) + (k : Int) < 0) := by omega
        have hyk : (0 : Int) ≤ (F : Int) + (k : Int) := by omega
        have htk : ((F : Int) + (k : Int)).toNat = F + k := by omega
        have hvk : IntKind.i64.wrap ((F : Int) + (k : Int)) = (F : Int) + (k : Int) := Go.IntWalk.i64_in _ (by omega)
        have hzd : ¬ ((F : Int) + (c : Int) + 1 < 0) := by omega
        have hyd : (0 : Int) ≤ (F : Int) + (c : Int) + 1 := by omega
        have htd : ((F : Int) + (c : Int) + 1).toNat = F + c + 1 := by omega
        have hvd : IntKind.i64.wrap ((F : Int) + (c : Int) + 1) = (F : Int) + (c : Int) + 1 := Go.IntWalk.i64_in _ (by omega)
        have hwk : IntKind.i64.wrap (k : Int) = (k : Int) := Go.IntWalk.i64_in _ (by omega)
        have cd := h2.cell (F + c + 1) (by omega)
        have ck := h2.cell (F + k) (by omega)
        have fk := h2.frozen (F + k)
        have hn1 : ¬ r = c := by omega
        have hn2 : ¬ c = r := by omega
        have hn3 : ¬ r = k := by omega
        have hn4 : ¬ k = r := by omega
        rw [show F + k = F + c + 1 from by omega] at ck
        rw [show F + c + 1 = F + k from by omega] at ck
        generalize hGc : dj[F + c]! = xc at *
        generalize hGd : dj[F + c + 1]! = xd at *
        generalize hGk : dj[F + k]! = xk at *
        generalize hGr : dj[F + r]! = xr at *
        have HGc : Hid (dj[F + c]! = xc) := hGc
        have HGd : Hid (dj[F + c + 1]! = xd) := hGd
        have HGk : Hid (dj[F + k]! = xk) := hGk
        have HGr : Hid (dj[F + r]! = xr) := hGr
        clear hGc hGd hGr hGk h1 h2 hcd hkd
        go_wp2_with fail
        go_quiet (first | (go_at_call 48; refine Calls.quiet_of_same (less_any _ _ _)))
        obtain ⟨L, hL⟩ : ∃ L, ltInt xc xd = L := ⟨_, rfl⟩
        rw [hL]
        have HL : Hid (ltInt xc xd = L) := hL
        clear hL
        cases L with
        | true =>
          have HKD : Hid (kidN hi F r dj = k) := by
            have e := HC.out
            have e' := HK.out
            unfold Hid kidN
            rw [show 2 * r + 1 = c from e.symm, if_pos ⟨by omega, by rw [HGc.out, HGd.out]; exact HL.out⟩]
            omega
          have HW2 : Hid (HoldU (wr.drewN nq) g dj) := H2.out.drewN nq
          have hS2 : Sole [g] w (wr.drewN nq) := hS.trans (Sole.drewN _ _ _)
          generalize wr.drewN nq = w2 at *
          have zr := HW2.out.cell (F + r) (by have := HE.out; omega)
          have zk := HW2.out.cell (F + k) (by have := HE.out; omega)
          have er := HW2.out.frozen (F + r)
          have ek := HW2.out.frozen (F + k)
          rw [HGr.out] at zr
          rw [HGk.out] at zk
          have HSw : Hid (∀ q, HoldU (((w2.drewN q).setCell ⟨g, F + r, none⟩ (.int .u32 xk)).setCell ⟨g, F + k, none⟩ (.int .u32 xr)) g (swp dj (F + r) (F + k))) := fun q => by
            have := (HW2.out.drewN q).swap (F + r) (F + k) (by have := HE.out; omega) (by have := HE.out; omega)
            rw [HGr.out, HGk.out] at this
            exact this
          go_wp2_with fail
          go_quiet (first | (go_at_call 48; refine Calls.quiet_of_same (less_any _ _ _)))
          obtain ⟨M, hM⟩ : ∃ M, ltInt xr xk = M := ⟨_, rfl⟩
          rw [hM]
          have HM : Hid (ltInt xr xk = M) := hM
          clear hM
          cases M with
          | true =>
            go_wp2_with fail
            go_region
            all_goals go_wp2
            go_roundw
            case rel =>
              refine ⟨k, rfl, by omega, ⟨swp dj (F + r) (F + k), by rw [size_swp]; exact HE.out, HSw.out _, ?_⟩, ?_⟩
              · rw [← HQ.out, sift_on hi F r dj (by have := HC.out; omega) (by rw [HKD.out, HGr.out, HGk.out]; exact HM.out), HKD.out]
              · exact ((hS2.trans (Sole.drewN _ _ _)).trans (Sole.setCell _ _ (by simp))).trans (Sole.setCell _ _ (by simp))
            case measure => simp [intOf]; have := HC.out; omega
          | false =>
            go_wp2
            (try simp only [Exit.inBlock, Exit.then]); refine bodyPost_ret (results_none rfl _ _ _) rfl ?_
            refine ⟨rfl, dj, ?_, HE.out.trans HN.out, HW2.out.drewN _, hS2.trans (Sole.drewN _ _ _)⟩
            rw [← HQ.out, sift_stop hi F r dj (by have := HC.out; omega) (by rw [HKD.out, HGr.out, HGk.out]; exact HM.out)]
        | false =>
          have HKD : Hid (kidN hi F r dj = c) := by
            have e := HC.out
            unfold Hid kidN
            rw [show 2 * r + 1 = c from e.symm, if_neg (by rw [HGc.out, HGd.out, HL.out]; simp)]
          have HW2 : Hid (HoldU (wr.drewN nq) g dj) := H2.out.drewN nq
          have hS2 : Sole [g] w (wr.drewN nq) := hS.trans (Sole.drewN _ _ _)
          generalize wr.drewN nq = w2 at *
          have zr := HW2.out.cell (F + r) (by have := HE.out; omega)
          have zk := HW2.out.cell (F + c) (by have := HE.out; omega)
          have er := HW2.out.frozen (F + r)
          have ek := HW2.out.frozen (F + c)
          rw [HGr.out] at zr
          rw [HGc.out] at zk
          have HSw : Hid (∀ q, HoldU (((w2.drewN q).setCell ⟨g, F + r, none⟩ (.int .u32 xc)).setCell ⟨g, F + c, none⟩ (.int .u32 xr)) g (swp dj (F + r) (F + c))) := fun q => by
            have := (HW2.out.drewN q).swap (F + r) (F + c) (by have := HE.out; omega) (by have := HE.out; omega)
            rw [HGr.out, HGc.out] at this
            exact this
          go_wp2_with fail
          go_quiet (first | (go_at_call 48; refine Calls.quiet_of_same (less_any _ _ _)))
          obtain ⟨M, hM⟩ : ∃ M, ltInt xr xc = M := ⟨_, rfl⟩
          rw [hM]
          have HM : Hid (ltInt xr xc = M) := hM
          clear hM
          cases M with
          | true =>
            go_wp2_with fail
            go_region
            all_goals go_wp2
            go_roundw
            case rel =>
              refine ⟨c, rfl, by omega, ⟨swp dj (F + r) (F + c), by rw [size_swp]; exact HE.out, HSw.out _, ?_⟩, ?_⟩
              · rw [← HQ.out, sift_on hi F r dj (by have := HC.out; omega) (by rw [HKD.out, HGr.out, HGc.out]; exact HM.out), HKD.out]
              · exact ((hS2.trans (Sole.drewN _ _ _)).trans (Sole.setCell _ _ (by simp))).trans (Sole.setCell _ _ (by simp))
            case measure => simp [intOf]; have := HC.out; omega
          | false =>
            go_wp2
            (try simp only [Exit.inBlock, Exit.then]); refine bodyPost_ret (results_none rfl _ _ _) rfl ?_
            refine ⟨rfl, dj, ?_, HE.out.trans HN.out, HW2.out.drewN _, hS2.trans (Sole.drewN _ _ _)⟩
            rw [← HQ.out, sift_stop hi F r dj (by have := HC.out; omega) (by rw [HKD.out, HGr.out, HGc.out]; exact HM.out)]
      · have hc2I : ¬ (c : Int) + 1 < hi := by omega
        have hle : (hi : Int) ≤ (c : Int) + 1 := by omega
        have hdec : decide ((c : Int) + 1 < (hi : Int)) = false := decide_eq_false hc2I
        have hn1 : ¬ r = c := by omega
        have hn2 : ¬ c = r := by omega
        have HKD : Hid (kidN hi F r dj = c) := by
          have e := HC.out
          unfold Hid kidN
          rw [show 2 * r + 1 = c from e.symm, if_neg (fun q => by have := q.1; omega)]
        generalize hGc : dj[F + c]! = xc at *
        generalize hGr : dj[F + r]! = xr at *
        have HGc : Hid (dj[F + c]! = xc) := hGc
        have HGr : Hid (dj[F + r]! = xr) := hGr
        clear hGc hGr h1 h2 hcd
        go_wp2_with fail
        go_quiet (fail)
        have HW2 : Hid (HoldU (wr.drewN nq) g dj) := H2.out.drewN nq
        have hS2 : Sole [g] w (wr.drewN nq) := hS.trans (Sole.drewN _ _ _)
        generalize wr.drewN nq = w2 at *
        have zr := HW2.out.cell (F + r) (by have := HE.out; omega)
        have zk := HW2.out.cell (F + c) (by have := HE.out; omega)
        have er := HW2.out.frozen (F + r)
        have ek := HW2.out.frozen (F + c)
        rw [HGr.out] at zr
        rw [HGc.out] at zk
        have HSw : Hid (∀ q, HoldU (((w2.drewN q).setCell ⟨g, F + r, none⟩ (.int .u32 xc)).setCell ⟨g, F + c, none⟩ (.int .u32 xr)) g (swp dj (F + r) (F + c))) := fun q => by
          have := (HW2.out.drewN q).swap (F + r) (F + c) (by have := HE.out; omega) (by have := HE.out; omega)
          rw [HGr.out, HGc.out] at this
          exact this
        go_wp2_with fail
        go_quiet (first | (go_at_call 48; refine Calls.quiet_of_same (less_any _ _ _)))
        obtain ⟨M, hM⟩ : ∃ M, ltInt xr xc = M := ⟨_, rfl⟩
        rw [hM]
        have HM : Hid (ltInt xr xc = M) := hM
        clear hM
        cases M with
        | true =>
          go_wp2_with fail
          go_region
          all_goals go_wp2
          go_roundw
          case rel =>
            refine ⟨c, rfl, by omega, ⟨swp dj (F + r) (F + c), by rw [size_swp]; exact HE.out, HSw.out _, ?_⟩, ?_⟩
            · rw [← HQ.out, sift_on hi F r dj (by have := HC.out; omega) (by rw [HKD.out, HGr.out, HGc.out]; exact HM.out), HKD.out]
            · exact ((hS2.trans (Sole.drewN _ _ _)).trans (Sole.setCell _ _ (by simp))).trans (Sole.setCell _ _ (by simp))
          case measure => simp [intOf]; have := HC.out; omega
        | false =>
          go_wp2
          (try simp only [Exit.inBlock, Exit.then]); refine bodyPost_ret (results_none rfl _ _ _) rfl ?_
          refine ⟨rfl, dj, ?_, HE.out.trans HN.out, HW2.out.drewN _, hS2.trans (Sole.drewN _ _ _)⟩
          rw [← HQ.out, sift_stop hi F r dj (by have := HC.out; omega) (by rw [HKD.out, HGr.out, HGc.out]; exact HM.out)]

end Go.Proofs.Ytakifnlfgaedjaa
