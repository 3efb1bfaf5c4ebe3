/- An armed disk, in plain words. -/
import Derived.Test.YtjfhcbokfbbbhaaLiveMath
namespace Go.Proofs.Ytjfhcbokfbbbhaa
open Go.RowKit Go.Maps
set_option linter.unusedVariables false

theorem settleN_off (f : Nat → Bool) (s : St) (ks : List Int) : ∀ k, (settleN f s ks k).off = s.off
  | 0 => rfl
  | k + 1 => by
    have := settleN_off f s ks k
    unfold settleN settleSt safeSt
    split <;> exact this
theorem settleN_armed (f : Nat → Bool) (s : St) (ks : List Int) : ∀ k, (settleN f s ks k).armed = s.armed
  | 0 => rfl
  | k + 1 => by
    have := settleN_armed f s ks k
    unfold settleN settleSt safeSt
    split <;> exact this
theorem settleN_left (f : Nat → Bool) (s : St) (ks : List Int) : ∀ k, (settleN f s ks k).left = s.left
  | 0 => rfl
  | k + 1 => by
    have := settleN_left f s ks k
    unfold settleN settleSt safeSt
    split <;> exact this

/-- 'd' of 'n' writes were done. -/
structure Arm (n d : Int) (s : St) : Prop where
  b : s.blocks = 8
  d0 : 0 ≤ d
  d1 : d ≤ n
  n1 : n ≤ 1030
  w : s.writes = d
  on : s.off = false → s.armed = true ∧ s.left = n - d

theorem arm_cut {n d : Int} {s : St} (h : Arm n d s) (m : ByteArray) : Arm n d (cutSt s m) :=
  ⟨by unfold cutSt; simp only [settleN_blocks]; exact h.b, h.d0, h.d1, h.n1, by unfold cutSt; simp only [settleN_writes]; exact h.w, fun e => by unfold cutSt at e; cases e⟩

theorem cut_off (s : St) (m : ByteArray) : (cutSt s m).off = true := by unfold cutSt; rfl

theorem arm_bar {n d : Int} {s : St} (h : Arm n d s) : Arm n d (barOut s).2 ∧ (((barOut s).1 = 0 ∧ d < n ∧ (barOut s).2.off = false) ∨ ((barOut s).1 = 20 ∧ (barOut s).2.off = true)) := by
  unfold barOut
  cases ho : s.off
  · obtain ⟨ha, hl⟩ := h.on ho
    by_cases hd : s.left ≤ 0
    · have : due s = true := by simp [due, ha, hd]
      rw [this]
      simp only [Bool.false_eq_true, if_false, if_true]
      exact ⟨arm_cut h _, .inr ⟨trivial, cut_off _ _⟩⟩
    · have : due s = false := by simp [due, hd]
      rw [this]
      simp only [Bool.false_eq_true, if_false]
      have e1 : (allSafe s).off = false := by unfold allSafe; rw [settleN_off]; exact ho
      refine ⟨⟨?_, h.d0, h.d1, h.n1, ?_, fun _ => ?_⟩, .inl ⟨trivial, by omega, e1⟩⟩
      · unfold allSafe; rw [settleN_blocks]; exact h.b
      · unfold allSafe; rw [settleN_writes]; exact h.w
      · unfold allSafe; rw [settleN_armed, settleN_left]; exact ⟨ha, hl⟩
  · simp only [if_true]
    exact ⟨h, .inr ⟨trivial, ho⟩⟩

theorem arm_write {n d : Int} {s : St} (h : Arm n d s) {i : Int} (h0 : 0 ≤ i) (h1 : i < 8) {xs : List Int} (hl : xs.length = 512) :
    ((writeOut s i xs).1 = 0 ∧ d < n ∧ Arm n (d + 1) (writeOut s i xs).2) ∨ ((writeOut s i xs).1 = 20 ∧ (writeOut s i xs).2.off = true ∧ Arm n d (writeOut s i xs).2) := by
  cases ho : s.off
  · obtain ⟨ha, hle⟩ := h.on ho
    have hu : useErr s i = 0 := by unfold useErr; rw [ho, h.b]; simp; omega
    by_cases hd : s.left ≤ 0
    · have hdu : due s = true := by simp [due, ha, hd]
      have e : writeOut s i xs = (20, cutSt s s.mask) := by unfold writeOut; rw [if_neg (by simpa using hu), if_neg (by simpa using hl), hdu]; simp
      rw [e]
      exact .inr ⟨rfl, cut_off _ _, arm_cut h _⟩
    · have hdu : due s = false := by simp [due, hd]
      have e : writeOut s i xs = (0, doneSt s i xs) := writeOut_ok ho h0 (by rw [h.b]; exact h1) hl hdu
      rw [e]
      have hn := h.n1
      have hd1 := h.d1
      have hd0 := h.d0
      refine .inl ⟨rfl, by omega, ?_, by omega, by omega, h.n1, ?_, fun _ => ?_⟩
      · unfold doneSt countSt; rw [ha]; exact h.b
      · unfold doneSt; simp only [h.w, wr1, wrap64]; omega
      · unfold doneSt countSt; rw [ha]; simp only [if_true]; exact ⟨trivial, by omega⟩
  · have e : writeOut s i xs = (20, s) := by
      have hu : useErr s i = 20 := by unfold useErr; rw [ho]; rfl
      unfold writeOut; rw [hu]; simp
    rw [e]
    exact .inr ⟨rfl, ho, h⟩

theorem arm_start {n : Int} (h0 : 0 ≤ n) (h1 : n ≤ 1030) : Arm n 0 (armSt (freshSt 8) n ⟨#[]⟩) := by
  have e : armSt (freshSt 8) n ⟨#[]⟩ = { freshSt 8 with armed := true, left := n, mask := ⟨#[]⟩ } := by unfold armSt; simp [freshSt, h0]
  rw [e]
  exact ⟨rfl, Int.le_refl _, h0, h1, rfl, fun _ => ⟨rfl, by simp⟩⟩

theorem mod8_in (z : Int) : 0 ≤ (z.tmod 8 + 8) % 8 ∧ (z.tmod 8 + 8) % 8 < 8 := by omega

end Go.Proofs.Ytjfhcbokfbbbhaa
