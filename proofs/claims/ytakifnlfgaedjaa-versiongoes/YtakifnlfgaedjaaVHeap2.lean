/- The contract of slices' heapSort at numbers of 32 bits. -/
import Derived.Test.YtakifnlfgaedjaaVHeap
namespace Go.Proofs.Ytakifnlfgaedjaa
open Go.RowKit Go.Sort
set_option linter.unusedVariables false
set_option linter.unusedSimpArgs false
set_option maxRecDepth 4000

theorem sift_size (hi F : Nat) : ∀ (m r : Nat) (d : Array Int), hi - r ≤ m → (siftDown ltInt hi F r d).size = d.size := by
  intro m
  induction m with
  | zero => intro r d h; rw [sift_end hi F r d (by omega)]
  | succ m ih =>
    intro r d h
    by_cases he : hi ≤ 2 * r + 1
    · rw [sift_end hi F r d he]
    · cases hl : ltInt d[F + r]! d[F + kidN hi F r d]! with
      | false => rw [sift_stop hi F r d he hl]
      | true =>
        rw [sift_on hi F r d he hl, ih _ _ (by unfold kidN; split <;> omega), size_swp]

set_option maxHeartbeats 8000000 in
theorem heap_any {w : World} {g : Nat} {d : Array Int} (h : HoldU w g d) (n cap a b : Nat) (hn : n = d.size) (hab : a < b) (hb : b ≤ n) (hc : n ≤ cap) (hcm : cap ≤ maxLen) (hsz : n ≤ 100000) :
    Calls Try.prog 43 #[.slice (some ⟨g, 0, none⟩) n cap, .int .i64 a, .int .i64 b] w fun e w' => e = .returned (.tuple #[]) ∧ SortOut w g d (fun d' => d' = heapSort ltInt d a b) w' := by
  have H : Hid (HoldU w g d) := h
  have HN : Hid (n = d.size) := hn
  have HCM : Hid (cap ≤ maxLen) := hcm
  unfold maxLen at hcm
  obtain ⟨m, hm⟩ : ∃ m, b = a + m := ⟨b - a, by omega⟩
  have hm1 : (b : Int) - (a : Int) = (m : Int) := by omega
  have hwm : IntKind.i64.wrap (m : Int) = (m : Int) := Go.IntWalk.i64_in _ (by omega)
  obtain ⟨m1, hmm⟩ : ∃ m1, m = m1 + 1 := ⟨m - 1, by omega⟩
  have hm2 : (m : Int) - 1 = (m1 : Int) := by omega
  have hwm1 : IntKind.i64.wrap (m1 : Int) = (m1 : Int) := Go.IntWalk.i64_in _ (by omega)
  obtain ⟨q, hq⟩ : ∃ q, q = m1 / 2 := ⟨_, rfl⟩
  have hq1 : (m1 : Int) / 2 = (q : Int) := by omega
  have hq2 : (m1 : Int).tdiv 2 = (q : Int) := by rw [Int.tdiv_eq_ediv_of_nonneg (by omega)]; exact hq1
  have hwq : IntKind.i64.wrap (q : Int) = (q : Int) := Go.IntWalk.i64_in _ (by omega)
  have HB : Hid (b = a + m ∧ m = m1 + 1 ∧ q = m1 / 2) := ⟨hm, hmm, hq⟩
  have HF : Hid (heapPop ltInt a m (heapBuild ltInt m a (q + 1) d) = heapSort ltInt d a b) := by
    unfold Hid heapSort
    rw [show b - a = m from by omega, show m - 1 = m1 from by omega, hq]
  clear h hn hm hmm hq
  go_enter Try.func43, Try.ntmps43
  go_wp2
  go_loopw [9] (fun t wr => ∃ (k : Nat) (z : Int), t = .int .i64 z ∧ Hid (z = (k : Int) - 1) ∧ k ≤ q + 1 ∧ Hid (∃ dk : Array Int, dk.size = n ∧ HoldU wr g dk ∧ heapBuild ltInt m a k dk = heapBuild ltInt m a (q + 1) d) ∧ Sole [g] w wr) (fun t _ => (intOf t + 1).toNat)
  case atStart => exact ⟨q + 1, (q : Int), rfl, by unfold Hid; omega, Nat.le_refl _, ⟨d, HN.out.symm, H.out, rfl⟩, Sole.refl _ _⟩
  case round =>
    obtain ⟨k, z, rfl, HZ, hk, HD, hS⟩ := hrel
    cases k with
    | succ k =>
      obtain rfl : z = (k : Int) := by have := HZ.out; omega
      obtain ⟨dj, h1, h2, h3⟩ := HD.out
      have hb' := HB.out
      have cs := sift_any h2 n cap k m a h1.symm (by omega) (by omega) hc HCM.out hsz
      have HQ : Hid _ := h3
      have HE : Hid (dj.size = n) := h1
      clear HD h1 h2 h3 HZ hb'
      have hk0 : (0 : Int) ≤ (k : Int) := by omega
      go_wp2_with fail
      refine cs.mono ?_
      rintro e1 w1 ⟨rfl, d1, rfl, hs1, hh1, hS1⟩
      clear cs
      go_wp2
      go_roundw
      case rel =>
        refine ⟨k, (k : Int) - 1, by simp, rfl, by omega, ⟨_, by rw [hs1]; exact HE.out, hh1, ?_⟩, hS.trans hS1⟩
        rw [← HQ.out, heapBuild]
      case measure => simp [intOf]
    | zero =>
      obtain rfl : z = -1 := by have := HZ.out; omega
      obtain ⟨dj, h1, h2, h3⟩ := HD.out
      have H2 : Hid (HoldU wr g dj) := h2
      have HE : Hid (dj.size = n) := h1
      have HQ : Hid (dj = heapBuild ltInt m a (q + 1) d) := by rw [← h3]; rfl
      clear HD h1 h2 h3 HZ H
      go_wp2
      go_loopw [10] (fun t wr => ∃ (k : Nat) (z : Int), t = .int .i64 z ∧ Hid (z = (k : Int) - 1) ∧ k ≤ m ∧ Hid (∃ dk : Array Int, dk.size = n ∧ HoldU wr g dk ∧ heapPop ltInt a k dk = heapSort ltInt d a b) ∧ Sole [g] w wr) (fun t _ => (intOf t + 1).toNat)
      case atStart => exact ⟨m, (m1 : Int), rfl, by have := HB.out; unfold Hid; omega, Nat.le_refl _, ⟨dj, HE.out, H2.out, by rw [← HF.out, HQ.out]⟩, hS⟩
      case round =>
        obtain ⟨k, z, rfl, HZ, hk, HD, hS⟩ := hrel
        cases k with
        | succ k =>
          obtain rfl : z = (k : Int) := by have := HZ.out; omega
          obtain ⟨dk, h1, h2, h3⟩ := HD.out
          have hb' := HB.out
          have HQ3 : Hid (heapPop ltInt a (k + 1) dk = heapSort ltInt d a b) := h3
          have HE3 : Hid (dk.size = n) := h1
          have H3 : Hid (HoldU wr g dk) := h2
          have hk0 : (0 : Int) ≤ (k : Int) := by omega
          have ca := h2.cell a (by omega)
          have fa := h2.frozen a
          have cb := h2.cell (a + k) (by omega)
          have fb := h2.frozen (a + k)
          have haI : (a : Int) < n := by omega
          have han : a < n := by omega
          have hakI : (a : Int) + (k : Int) < n := by omega
          have hakn : a + k < n := by omega
          have hz1 : ¬ ((a : Int) + (k : Int) < 0) := by omega
          have hz2 : (0 : Int) ≤ (a : Int) + (k : Int) := by omega
          have hz3 : ((a : Int) + (k : Int)).toNat = a + k := by omega
          have hz4 : IntKind.i64.wrap ((a : Int) + (k : Int)) = (a : Int) + (k : Int) := Go.IntWalk.i64_in _ (by omega)
          generalize hGa : dk[a]! = xa at *
          generalize hGb : dk[a + k]! = xb at *
          have HGa : Hid (dk[a]! = xa) := hGa
          have HGb : Hid (dk[a + k]! = xb) := hGb
          have HSw : Hid (∀ q, HoldU (((wr.drewN q).setCell ⟨g, a, none⟩ (.int .u32 xb)).setCell ⟨g, a + k, none⟩ (.int .u32 xa)) g (swp dk a (a + k))) := fun q => by
            have := (H3.out.drewN q).swap a (a + k) (by have := HE3.out; omega) (by have := HE3.out; omega)
            rw [HGa.out, HGb.out] at this
            exact this
          clear hGa hGb h1 h2 h3 HD HZ hb'
          by_cases hk1 : k = 0
          · have hak : (a : Int) + (k : Int) = (a : Int) := by omega
            have hwa : IntKind.i64.wrap (a : Int) = (a : Int) := Go.IntWalk.i64_in _ (by omega)
            have HK0 : Hid (a + k = a) := by unfold Hid; omega
            have hxx : xb = xa := by rw [← HGa.out, ← HGb.out, HK0.out]
            subst hxx
            have HS0 : Hid (∀ q, HoldU (((wr.drewN q).setCell ⟨g, a, none⟩ (.int .u32 xb)).setCell ⟨g, a, none⟩ (.int .u32 xb)) g (swp dk a (a + k))) := fun q => by
              have := HSw.out q
              rw [HK0.out] at this
              rw [HK0.out]
              exact this
            clear hz1 hz2 hz3 hz4 hakI hakn hk1 cb fb
            go_wp2_with fail
            go_region
            all_goals go_wp2_with fail
            have hsw := HS0.out 1
            have cs := sift_any hsw n cap 0 k a (by rw [size_swp]; exact HE3.out.symm) (by omega) (by omega) hc HCM.out hsz
            refine cs.mono ?_
            rintro e1 w1 ⟨rfl, d1, rfl, hs1, hh1, hS1⟩
            clear cs hsw
            go_wp2
            go_roundw
            case rel =>
              refine ⟨k, (k : Int) - 1, by simp, rfl, by omega, ⟨_, by rw [hs1, size_swp]; exact HE3.out, hh1, ?_⟩, ((hS.trans (Sole.drewN _ 1 _)).trans (Sole.setCell _ _ (by simp))).trans ((Sole.setCell _ _ (by simp)).trans hS1)⟩
              rw [← HQ3.out, heapPop]
            case measure => simp [intOf]
          · have hne1 : ¬ a + k = a := by omega
            have hne2 : ¬ a = a + k := by omega
            go_wp2_with fail
            go_region
            all_goals go_wp2_with fail
            have hsw := HSw.out 1
            have cs := sift_any hsw n cap 0 k a (by rw [size_swp]; exact HE3.out.symm) (by omega) (by omega) hc HCM.out hsz
            refine cs.mono ?_
            rintro e1 w1 ⟨rfl, d1, rfl, hs1, hh1, hS1⟩
            clear cs hsw
            go_wp2
            go_roundw
            case rel =>
              refine ⟨k, (k : Int) - 1, by simp, rfl, by omega, ⟨_, by rw [hs1, size_swp]; exact HE3.out, hh1, ?_⟩, ((hS.trans (Sole.drewN _ 1 _)).trans (Sole.setCell _ _ (by simp))).trans ((Sole.setCell _ _ (by simp)).trans hS1)⟩
              rw [← HQ3.out, heapPop]
            case measure => simp [intOf]
        | zero =>
          obtain rfl : z = -1 := by have := HZ.out; omega
          go_wp2
          go_end0
          obtain ⟨dk, h1, h2, h3⟩ := HD.out
          exact ⟨rfl, dk, by rw [← h3]; rfl, h1.trans HN.out, h2, hS⟩

end Go.Proofs.Ytakifnlfgaedjaa
