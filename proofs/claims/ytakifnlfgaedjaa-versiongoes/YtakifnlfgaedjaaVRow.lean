/- A row of numbers of 32 bits that is being sorted. -/
import Derived.Test.YtakifnlfgaedjaaVDel
import Derived.Sort.LotA
import Derived.Sort.LotB
import Derived.Sort.LotC
namespace Go.Proofs.Ytakifnlfgaedjaa
open Go.RowKit Go.Sort
set_option linter.unusedVariables false
set_option linter.unusedSimpArgs false
set_option maxRecDepth 4000

/-- The first cells of block g are the numbers d. -/
def HoldU (w : World) (g : Nat) (d : Array Int) : Prop :=
  ∃ cur : Array Value, w.heap[g]? = some (.cells cur 22 (0, 0)) ∧ ∀ i, i < d.size → cur[i]? = some (.int .u32 d[i]!)

theorem HoldU.lt {w : World} {g : Nat} {d : Array Int} (h : HoldU w g d) : g < w.heap.size := by
  obtain ⟨cur, h1, _⟩ := h; exact (Array.getElem?_eq_some_iff.1 h1).1
theorem HoldU.cell {w : World} {g : Nat} {d : Array Int} (h : HoldU w g d) : ∀ i, i < d.size → w.cell? ⟨g, i, none⟩ = some (.int .u32 d[i]!) := fun i hi => by
  obtain ⟨cur, h1, h2⟩ := h; rw [cell_of_row w g i _ _ (0, 0) h1]; exact h2 i hi
theorem HoldU.frozen {w : World} {g : Nat} {d : Array Int} (h : HoldU w g d) : ∀ i, w.frozen? ⟨g, i, none⟩ = false := fun i => by
  obtain ⟨cur, h1, h2⟩ := h; exact frozen_of_row w g i _ _ h1
theorem HoldU.other {w w' : World} {g : Nat} {d : Array Int} (h : HoldU w g d) {S : List Nat} (hS : Sole S w w') (hg : g ∉ S) : HoldU w' g d := by
  have hl := h.lt
  obtain ⟨cur, h1, h2⟩ := h
  exact ⟨cur, (hS.block g hl hg).trans h1, h2⟩
theorem HoldU.drewN {w : World} {g : Nat} {d : Array Int} (h : HoldU w g d) (q : Nat) : HoldU (w.drewN q) g d := h.other (Sole.drewN w q []) (by simp)
theorem HoldU.set {w : World} {g : Nat} {d : Array Int} (h : HoldU w g d) (i : Nat) (x : Int) (hi : i < d.size) : HoldU (w.setCell ⟨g, i, none⟩ (.int .u32 x)) g (d.setIfInBounds i x) := by
  obtain ⟨cur, h1, h2⟩ := h
  refine ⟨_, heap_setCell_same w g i _ _ _ h1, fun k hk => ?_⟩
  rw [Array.size_setIfInBounds] at hk
  by_cases e : k = i
  · subst e
    have : k < cur.size := (Array.getElem?_eq_some_iff.1 (h2 k hk)).1
    rw [Array.getElem?_setIfInBounds_self_of_lt this, getElem!_pos _ k (by simpa using hk)]
    simp
  · rw [Array.getElem?_setIfInBounds_ne (by omega), h2 k hk, getElem!_pos d k hk, getElem!_pos _ k (by simpa using hk), Array.getElem_setIfInBounds_ne hk (by omega)]
theorem HoldU.swap {w : World} {g : Nat} {d : Array Int} (h : HoldU w g d) (i j : Nat) (hi : i < d.size) (hj : j < d.size) : HoldU ((w.setCell ⟨g, i, none⟩ (.int .u32 d[j]!)).setCell ⟨g, j, none⟩ (.int .u32 d[i]!)) g (swp d i j) :=
  (h.set i _ hi).set j _ (by simpa using hj)

theorem nanU_any (w : World) (x : Int) : Calls Try.prog 58 #[.int .u32 x] w fun e w' => e = .returned (.bool false) ∧ w = w' := by
  go_enter Try.func58, Try.ntmps58
  go_wp2
  go_ret
  exact ⟨rfl, rfl⟩
theorem less_any (w : World) (x y : Int) : Calls Try.prog 48 #[.int .u32 x, .int .u32 y] w fun e w' => e = .returned (.bool (ltInt x y)) ∧ w' = w := by
  unfold ltInt
  go_enter Try.func48, Try.ntmps48
  go_wp2_with (go_at_call 58; refine (nanU_any _ _).mono ?_; rintro e w1 ⟨rfl, rfl⟩)
  go_ret
  exact ⟨rfl, rfl⟩

/-- What sorting between two places leaves. -/
def SortOut (w : World) (g : Nat) (d : Array Int) (P : Array Int → Prop) (w' : World) : Prop := ∃ d', P d' ∧ d'.size = d.size ∧ HoldU w' g d' ∧ Sole [g] w w'

theorem insInner_on (a j : Nat) (d : Array Int) (hj : a ≤ j) (hl : ltInt d[j + 1]! d[j]! = true) : insInner ltInt a (j + 1) d = insInner ltInt a j (swp d (j + 1) j) := by
  rw [insInner, if_pos (by simp [hl]; omega)]
theorem insInner_off (a j : Nat) (d : Array Int) (h : j ≤ a ∨ ltInt d[j]! d[j - 1]! = false) : insInner ltInt a j d = d := by
  cases j with
  | zero => rfl
  | succ j =>
    rw [insInner, if_neg]
    rcases h with h | h
    · simp; omega
    · simp only [Nat.add_sub_cancel] at h; simp [h]
theorem insOuter_on (a b i : Nat) (d : Array Int) (h : i < b) : insOuter ltInt a b i d = insOuter ltInt a b (i + 1) (insInner ltInt a i d) := by rw [insOuter, if_pos h]
theorem insOuter_off (a b i : Nat) (d : Array Int) (h : ¬ i < b) : insOuter ltInt a b i d = d := by rw [insOuter, if_neg h]

set_option maxHeartbeats 4000000 in
theorem ins_any {w : World} {g : Nat} {d : Array Int} (h : HoldU w g d) (n cap a b : Nat) (hn : n = d.size) (hab : a ≤ b) (hb : b ≤ n) (hc : n ≤ cap) (hcm : cap ≤ maxLen) (hsz : n ≤ 100000) :
    Calls Try.prog 42 #[.slice (some ⟨g, 0, none⟩) n cap, .int .i64 a, .int .i64 b] w fun e w' => e = .returned (.tuple #[]) ∧ SortOut w g d (fun d' => d' = insertionSort ltInt d a b) w' := by
  have H : Hid _ := h
  have HN : Hid (n = d.size) := hn
  unfold maxLen at hcm
  clear h hn
  go_enter Try.func42, Try.ntmps42
  go_wp2
  go_loopw [6] (fun t wr => ∃ i : Nat, t = .int .i64 i ∧ a + 1 ≤ i ∧ i ≤ b + 1 ∧ Hid (∃ dk : Array Int, dk.size = n ∧ HoldU wr g dk ∧ insOuter ltInt a b i dk = insOuter ltInt a b (a + 1) d) ∧ Sole [g] w wr) (fun t _ => b + 1 - (intOf t).toNat)
  case atStart => exact ⟨a + 1, by go_num, Nat.le_refl _, by omega, ⟨d, HN.out.symm, H.out, rfl⟩, Sole.refl _ _⟩
  case round =>
    obtain ⟨i, rfl, hi1, hi2, HD, hS⟩ := hrel
    by_cases hib : i < b
    · have hibI : (i : Int) < b := by omega
      go_wp2
      go_loopw [7] (fun t wr => ∃ j : Nat, t = .int .i64 j ∧ a ≤ j ∧ j ≤ i ∧ Hid (∃ dk : Array Int, dk.size = n ∧ HoldU wr g dk ∧ insOuter ltInt a b (i + 1) (insInner ltInt a j dk) = insOuter ltInt a b (a + 1) d) ∧ Sole [g] w wr) (fun t _ => (intOf t).toNat)
      case atStart =>
        obtain ⟨dk, h1, h2, h3⟩ := HD.out
        exact ⟨i, rfl, by omega, Nat.le_refl _, ⟨dk, h1, h2, by rw [← h3, insOuter_on a b i dk hib]⟩, hS⟩
      case round =>
        obtain ⟨j, rfl, hj1, hj2, HJ, hSj⟩ := hrel
        obtain ⟨dj, h1, h2, h3⟩ := HJ.out
        have H2 : Hid (HoldU wr g dj) := h2
        have HE : Hid (dj.size = n) := h1
        have HQ : Hid _ := h3
        clear HJ HD hS h3
        by_cases hja : a < j
        · obtain ⟨k, hjk⟩ : ∃ k, j = k + 1 := ⟨j - 1, by omega⟩
          have hk1 : (j : Int) - 1 = (k : Int) := by omega
          have hwk : IntKind.i64.wrap (k : Int) = (k : Int) := Go.IntWalk.i64_in _ (by omega)
          have c1 := h2.cell j (by omega)
          have c0 := h2.cell k (by omega)
          have f1 := h2.frozen j
          have f0 := h2.frozen k
          have hjaI : (a : Int) < (j : Int) := by omega
          have hjI : (j : Int) < n := by omega
          have hkI : (k : Int) < n := by omega
          have hkn : k < n := by omega
          have hjn : j < n := by omega
          have hne : ¬ k = j := by omega
          have hne' : ¬ j = k := by omega
          have HJK : Hid (j = k + 1) := hjk
          generalize hG1 : dj[j]! = x1 at *
          generalize hG0 : dj[k]! = x0 at *
          have HG1 : Hid (dj[j]! = x1) := hG1
          have HG0 : Hid (dj[k]! = x0) := hG0
          clear hG1 hG0 h1 h2 hjk
          go_wp2_with fail
          go_quiet (first | (go_at_call 48; refine Calls.quiet_of_same (less_any _ _ _)))
          obtain ⟨L, hL⟩ : ∃ L, ltInt x1 x0 = L := ⟨_, rfl⟩
          rw [hL]
          have HL : Hid (ltInt x1 x0 = L) := hL
          clear hL
          cases L with
          | true =>
            have HSw : Hid (∀ q, HoldU ((((wr.drewN nq).drewN q).setCell ⟨g, j, none⟩ (.int .u32 x0)).setCell ⟨g, k, none⟩ (.int .u32 x1)) g (swp dj j k)) := fun q => by
              have := ((H2.out.drewN nq).drewN q).swap j k (by have := HE.out; omega) (by have := HE.out; omega)
              rw [HG1.out, HG0.out] at this
              exact this
            go_wp2
            go_region
            all_goals go_wp2
            go_roundw
            case rel =>
              refine ⟨k, by simp, by omega, by omega, ⟨swp dj j k, by rw [size_swp]; exact HE.out, HSw.out 1, ?_⟩, ?_⟩
              · have hq := HQ.out
                rw [HJK.out, insInner_on a k dj (by omega) (by rw [← HJK.out, HG1.out, HG0.out]; exact HL.out)] at hq
                rw [HJK.out]
                exact hq
              · exact ((hSj.trans (Sole.drewN _ (nq + 1) _)).trans (Sole.setCell _ _ (by simp))).trans (Sole.setCell _ _ (by simp))
            case measure => simp [intOf]; have := HJK.out; omega
          | false =>
            go_wp2
            go_roundw
            case rel =>
              refine ⟨i + 1, by go_num, by omega, by omega, ⟨dj, HE.out, H2.out.drewN _, ?_⟩, hSj.trans (Sole.drewN _ _ _)⟩
              have hq := HQ.out
              rw [insInner_off a j dj (.inr (by rw [show j - 1 = k from by have := HJK.out; omega, HG1.out, HG0.out]; exact HL.out))] at hq
              exact hq
            case measure => simp [intOf]; omega
        · have hjaI : ¬ (a : Int) < (j : Int) := by omega
          have hjle : (j : Int) ≤ (a : Int) := by omega
          clear h1 h2
          go_wp2_with fail
          go_quiet (first | (go_at_call 48; refine Calls.quiet_of_same (less_any _ _ _)))
          go_wp2
          go_roundw
          case rel =>
            refine ⟨i + 1, by go_num, by omega, by omega, ⟨dj, HE.out, H2.out.drewN _, ?_⟩, hSj.trans (Sole.drewN _ _ _)⟩
            have hq := HQ.out
            rw [insInner_off a j dj (.inl (by omega))] at hq
            exact hq
          case measure => simp [intOf]; omega
    · have hibI : ¬ (i : Int) < b := by omega
      go_wp2
      go_end0
      obtain ⟨dk, h1, h2, h3⟩ := HD.out
      exact ⟨rfl, dk, by unfold insertionSort; rw [← h3, insOuter_off a b i dk hib], h1.trans HN.out, h2, hS⟩

end Go.Proofs.Ytakifnlfgaedjaa
