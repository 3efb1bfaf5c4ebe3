/- The contracts of slices' order2, median, medianAdjacent, choosePivot at numbers of 32 bits: which places they can tell. -/
import Derived.Test.YtakifnlfgaedjaaVHeap2
namespace Go.Proofs.Ytakifnlfgaedjaa
open Go.RowKit Go.Sort
set_option linter.unusedVariables false
set_option linter.unusedSimpArgs false
set_option maxRecDepth 4000

def SwAt (w : World) (s : Nat) : Prop := ∃ z : Int, w.heap[s]? = some (.cells #[.int .i64 z] 3 (0, 0))

theorem HoldU.apart {w : World} {g s : Nat} {d : Array Int} (h : HoldU w g d) (k : SwAt w s) : g ≠ s := by
  rintro rfl
  obtain ⟨cur, h1, _⟩ := h
  obtain ⟨z, h2⟩ := k
  rw [h1] at h2
  simp at h2

set_option maxHeartbeats 1000000 in
theorem order2_any {w : World} {g s : Nat} {d : Array Int} (h : HoldU w g d) (k : SwAt w s) (n cap a b : Nat) (hn : n = d.size) (ha : a < n) (hb : b < n) (hc : n ≤ cap) (hcm : cap ≤ maxLen) (hsz : n ≤ 100000) :
    Calls Try.prog 59 #[.slice (some ⟨g, 0, none⟩) n cap, .int .i64 a, .int .i64 b, .pointer (some ⟨s, 0, none⟩)] w fun e w' => ∃ x y : Nat, (x = a ∧ y = b ∨ x = b ∧ y = a) ∧ e = .returned (.tuple #[.int .i64 x, .int .i64 y]) ∧ SwAt w' s ∧ Sole [s] w w' := by
  unfold maxLen at hcm
  have ca := h.cell a (by omega)
  have cb := h.cell b (by omega)
  have hgs := h.apart k
  obtain ⟨z, hz⟩ := k
  have cz : w.cell? ⟨s, 0, none⟩ = some (.int .i64 z) := by rw [cell_of_row _ _ 0 _ _ (0, 0) hz]; rfl
  have fz := frozen_of_row w s 0 _ _ hz
  have haI : (a : Int) < n := by omega
  have hbI : (b : Int) < n := by omega
  have HZ : Hid _ := hz
  generalize d[a]! = xa at *
  generalize d[b]! = xb at *
  clear h hn hz
  go_enter Try.func59, Try.ntmps59
  go_wp2_with fail
  go_quiet (first | (go_at_call 48; refine Calls.quiet_of_same (less_any _ _ _)))
  generalize ltInt xb xa = L
  cases L with
  | true =>
    go_wp2
    go_ret2
    refine ⟨b, a, .inr ⟨rfl, rfl⟩, rfl, ⟨_, heap_setCell_same (w.drewN nq) s 0 _ _ _ HZ.out⟩, (Sole.drewN _ _ _).trans (Sole.setCell _ _ (by simp))⟩
  | false =>
    go_wp2
    go_ret2
    exact ⟨a, b, .inl ⟨rfl, rfl⟩, rfl, ⟨z, HZ.out⟩, Sole.drewN _ _ _⟩

set_option maxHeartbeats 1000000 in
theorem median_any {w : World} {g s : Nat} {d : Array Int} (h : HoldU w g d) (k : SwAt w s) (n cap a b c : Nat) (hn : n = d.size) (ha : a < n) (hb : b < n) (hcn : c < n) (hc : n ≤ cap) (hcm : cap ≤ maxLen) (hsz : n ≤ 100000) :
    Calls Try.prog 57 #[.slice (some ⟨g, 0, none⟩) n cap, .int .i64 a, .int .i64 b, .int .i64 c, .pointer (some ⟨s, 0, none⟩)] w fun e w' => ∃ x : Nat, (x = a ∨ x = b ∨ x = c) ∧ e = .returned (.int .i64 x) ∧ SwAt w' s ∧ Sole [s] w w' := by
  have c1 := order2_any h k n cap a b hn ha hb hc hcm hsz
  have hgs := h.apart k
  have H : Hid (HoldU w g d) := h
  have HN : Hid (n = d.size) := hn
  have HCM : Hid (cap ≤ maxLen) := hcm
  clear h k hn hcm
  go_enter Try.func57, Try.ntmps57
  go_wp2_with fail
  refine c1.mono ?_
  rintro e1 w1 ⟨a1, b1, h1, rfl, k1, hS1⟩
  clear c1
  have c2 := order2_any (H.out.other hS1 (by simpa using hgs)) k1 n cap b1 c HN.out (by omega) hcn hc HCM.out hsz
  go_wp2_with fail
  refine c2.mono ?_
  rintro e2 w2 ⟨b2, d2, h2, rfl, k2, hS2⟩
  clear c2
  have c3 := order2_any (H.out.other (hS1.trans hS2) (by simpa using hgs)) k2 n cap a1 b2 HN.out (by omega) (by omega) hc HCM.out hsz
  go_wp2_with fail
  refine c3.mono ?_
  rintro e3 w3 ⟨a3, b3, h3, rfl, k3, hS3⟩
  clear c3
  have hx : b3 = a ∨ b3 = b ∨ b3 = c := by omega
  clear h1 h2 h3
  go_wp2
  go_ret
  exact ⟨b3, hx, rfl, k3, (hS1.trans hS2).trans hS3⟩

set_option maxHeartbeats 1000000 in
theorem adjacent_any {w : World} {g s : Nat} {d : Array Int} (h : HoldU w g d) (k : SwAt w s) (n cap a : Nat) (hn : n = d.size) (ha : 1 ≤ a) (hb : a + 1 < n) (hc : n ≤ cap) (hcm : cap ≤ maxLen) (hsz : n ≤ 100000) :
    Calls Try.prog 56 #[.slice (some ⟨g, 0, none⟩) n cap, .int .i64 a, .pointer (some ⟨s, 0, none⟩)] w fun e w' => ∃ x : Nat, (a ≤ x + 1 ∧ x ≤ a + 1) ∧ e = .returned (.int .i64 x) ∧ SwAt w' s ∧ Sole [s] w w' := by
  obtain ⟨p, hp⟩ : ∃ p, a = p + 1 := ⟨a - 1, by omega⟩
  have hp1 : (a : Int) - 1 = (p : Int) := by omega
  have hwp : IntKind.i64.wrap (p : Int) = (p : Int) := Go.IntWalk.i64_in _ (by omega)
  obtain ⟨q, hq⟩ : ∃ q, q = a + 1 := ⟨_, rfl⟩
  have hq1 : (a : Int) + 1 = (q : Int) := by omega
  have hwq : IntKind.i64.wrap (q : Int) = (q : Int) := Go.IntWalk.i64_in _ (by omega)
  have c1 := median_any h k n cap p a q hn (by omega) (by omega) (by omega) hc hcm hsz
  have HP : Hid (a = p + 1 ∧ q = a + 1) := ⟨hp, hq⟩
  clear h k hp hq hn hcm
  go_enter Try.func56, Try.ntmps56
  go_wp2_with fail
  refine c1.mono ?_
  rintro e1 w1 ⟨x, h1, rfl, k1, hS1⟩
  clear c1
  have hx : a ≤ x + 1 ∧ x ≤ a + 1 := by have := HP.out; omega
  clear h1
  go_wp2
  go_ret
  exact ⟨x, hx, rfl, k1, hS1⟩

set_option maxHeartbeats 1500000 in
theorem pivot_any {w : World} {g : Nat} {d : Array Int} (h : HoldU w g d) (n cap a b : Nat) (hn : n = d.size) (hab : a + 12 < b) (hb : b ≤ n) (hc : n ≤ cap) (hcm : cap ≤ maxLen) (hsz : n ≤ 100000) :
    Calls Try.prog 45 #[.slice (some ⟨g, 0, none⟩) n cap, .int .i64 a, .int .i64 b] w fun e w' => ∃ x q : Nat, (a ≤ x ∧ x < b ∧ q ≤ 2) ∧ e = .returned (.tuple #[.int .i64 x, .int .i64 q]) ∧ Below w.heap.size w w' := by
  obtain ⟨l, hl⟩ : ∃ l, b = a + l := ⟨b - a, by omega⟩
  have hl1 : (b : Int) - (a : Int) = (l : Int) := by omega
  have hwl : IntKind.i64.wrap (l : Int) = (l : Int) := Go.IntWalk.i64_in _ (by omega)
  obtain ⟨q, hq⟩ : ∃ q, q = l / 4 := ⟨_, rfl⟩
  have hq1 : (l : Int) / 4 = (q : Int) := by omega
  have hq2 : (l : Int).tdiv 4 = (q : Int) := by rw [Int.tdiv_eq_ediv_of_nonneg (by omega)]; exact hq1
  have hwq : IntKind.i64.wrap (q : Int) = (q : Int) := Go.IntWalk.i64_in _ (by omega)
  have hwq2 : IntKind.i64.wrap ((q : Int) * 2) = (q : Int) * 2 := Go.IntWalk.i64_in _ (by omega)
  have hwq3 : IntKind.i64.wrap ((q : Int) * 3) = (q : Int) * 3 := Go.IntWalk.i64_in _ (by omega)
  obtain ⟨i, hi⟩ : ∃ i, i = a + q := ⟨_, rfl⟩
  obtain ⟨j, hj⟩ : ∃ j, j = a + q * 2 := ⟨_, rfl⟩
  obtain ⟨k, hk⟩ : ∃ k, k = a + q * 3 := ⟨_, rfl⟩
  have hi1 : (a : Int) + (q : Int) = (i : Int) := by omega
  have hj1 : (a : Int) + (q : Int) * 2 = (j : Int) := by omega
  have hk1 : (a : Int) + (q : Int) * 3 = (k : Int) := by omega
  have hwi : IntKind.i64.wrap (i : Int) = (i : Int) := Go.IntWalk.i64_in _ (by omega)
  have hwj : IntKind.i64.wrap (j : Int) = (j : Int) := Go.IntWalk.i64_in _ (by omega)
  have hwk : IntKind.i64.wrap (k : Int) = (k : Int) := Go.IntWalk.i64_in _ (by omega)
  obtain ⟨w1, hw1⟩ : ∃ w1, w.alloc (.cells #[.int .i64 0] 3) = w1 := ⟨_, rfl⟩
  have hB1 : Below w.heap.size w w1 := by rw [← hw1]; exact (Below.refl _ w).alloc (Nat.le_refl _) _
  have k1 : SwAt w1 w.heap.size := ⟨0, by rw [← hw1]; exact heap_alloc_new w _⟩
  have H1 : Hid (HoldU w1 g d) := h.other (Sole.of_below hB1 []) (by simp)
  have hgl : g ≠ w.heap.size := by have := h.lt; omega
  have hl8 : (8 : Int) ≤ (l : Int) := by omega
  have HX : Hid (b = a + l ∧ q = l / 4 ∧ i = a + q ∧ j = a + q * 2 ∧ k = a + q * 3) := ⟨hl, hq, hi, hj, hk⟩
  have fin : ∀ (x : Nat) (W : World), a ≤ x → x < b → SwAt W w.heap.size → Sole [w.heap.size] w1 W → ∃ z, W.cell? ⟨w.heap.size, 0, none⟩ = some (.int .i64 z) ∧ Below w.heap.size w W := fun x W _ _ hk hS => by
    obtain ⟨z, hz⟩ := hk
    exact ⟨z, by rw [cell_of_row _ _ 0 _ _ (0, 0) hz]; rfl, hS.belowOf hB1 hB1.size (by simp)⟩
  have FIN : Hid _ := fin
  have K1 : Hid _ := k1
  have HN : Hid (n = d.size) := hn
  have HCM : Hid (cap ≤ maxLen) := hcm
  clear h hl hq hi hj hk fin k1 hn hcm
  by_cases h50 : 50 ≤ l
  · have h50I : (50 : Int) ≤ (l : Int) := by omega
    have c1 := adjacent_any H1.out K1.out n cap i HN.out (by have := HX.out; omega) (by have := HX.out; omega) hc HCM.out hsz
    go_enter Try.func45, Try.ntmps45
    go_wp2_with fail
    refine c1.mono ?_
    rintro e1 w2 ⟨i', b1, rfl, k2, hS2⟩
    clear c1
    have c2 := adjacent_any (H1.out.other hS2 (by simpa using hgl)) k2 n cap j HN.out (by have := HX.out; omega) (by have := HX.out; omega) hc HCM.out hsz
    go_wp2_with fail
    refine c2.mono ?_
    rintro e2 w3 ⟨j', b2, rfl, k3, hS3⟩
    clear c2
    have c3 := adjacent_any (H1.out.other (hS2.trans hS3) (by simpa using hgl)) k3 n cap k HN.out (by have := HX.out; omega) (by have := HX.out; omega) hc HCM.out hsz
    go_wp2_with fail
    refine c3.mono ?_
    rintro e3 w4 ⟨k', b3, rfl, k4, hS4⟩
    clear c3
    have c4 := median_any (H1.out.other ((hS2.trans hS3).trans hS4) (by simpa using hgl)) k4 n cap i' j' k' HN.out (by have := HX.out; omega) (by have := HX.out; omega) (by have := HX.out; omega) hc HCM.out hsz
    go_wp2_with fail
    refine c4.mono ?_
    rintro e4 w5 ⟨x, h4, rfl, k5, hS5⟩
    clear c4
    have hx1 : a ≤ x := by have := HX.out; omega
    have hx2 : x < b := by have := HX.out; omega
    obtain ⟨z, cz, hB⟩ := FIN.out x w5 hx1 hx2 k5 (((hS2.trans hS3).trans hS4).trans hS5)
    clear h4 b1 b2 b3
    by_cases hz0 : z = 0
    · subst hz0
      go_wp2
      go_ret2
      exact ⟨x, 1, ⟨hx1, hx2, by omega⟩, rfl, hB⟩
    · by_cases hz1 : z = 12
      · subst hz1
        go_wp2
        go_ret2
        exact ⟨x, 2, ⟨hx1, hx2, by omega⟩, rfl, hB⟩
      · go_wp2
        go_ret2
        exact ⟨x, 0, ⟨hx1, hx2, by omega⟩, rfl, hB⟩
  · have h50I : ¬ (50 : Int) ≤ (l : Int) := by omega
    have c4 := median_any H1.out K1.out n cap i j k HN.out (by have := HX.out; omega) (by have := HX.out; omega) (by have := HX.out; omega) hc HCM.out hsz
    go_enter Try.func45, Try.ntmps45
    go_wp2_with fail
    refine c4.mono ?_
    rintro e4 w5 ⟨x, h4, rfl, k5, hS5⟩
    clear c4
    have hx1 : a ≤ x := by have := HX.out; omega
    have hx2 : x < b := by have := HX.out; omega
    obtain ⟨z, cz, hB⟩ := FIN.out x w5 hx1 hx2 k5 hS5
    clear h4
    by_cases hz0 : z = 0
    · subst hz0
      go_wp2
      go_ret2
      exact ⟨x, 1, ⟨hx1, hx2, by omega⟩, rfl, hB⟩
    · by_cases hz1 : z = 12
      · subst hz1
        go_wp2
        go_ret2
        exact ⟨x, 2, ⟨hx1, hx2, by omega⟩, rfl, hB⟩
      · go_wp2
        go_ret2
        exact ⟨x, 0, ⟨hx1, hx2, by omega⟩, rfl, hB⟩

end Go.Proofs.Ytakifnlfgaedjaa
