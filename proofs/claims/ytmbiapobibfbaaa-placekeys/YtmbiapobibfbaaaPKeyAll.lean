/- The contract of place.Key. -/
import Derived.Test.YtmbiapobibfbaaaPKey
import Derived.Test.YtmbiapobibfbaaaPConv
import Derived.Test.YtmbiapobibfbaaaPCheck2
namespace Go.Proofs.Ytmbiapobibfbaaa
open Go.RowKit
set_option linter.unusedVariables false

/-- What stands in a key behind the part. -/
def restP (p : Pl) : List Int := if p.part = 3 then fixB p.chunk.toNat 4 else strB p.name
def keyP (p : Pl) : List Int := keyL p.ino p.part (restP p)
/-- A place's key; of one that may not be the empty string. -/
def keyS (p : Pl) : ByteArray := if plOk p then strOfNums (keyP p) else ⟨#[]⟩

theorem plOk_cases {p : Pl} (h : plOk p = true) : p.ino ≠ 0 ∧ ((p.part = 1 ∧ p.name.toList = [] ∧ p.chunk = 0) ∨ (p.part = 2 ∧ nameOk p.name = true ∧ p.chunk = 0) ∨ (p.part = 3 ∧ p.name.toList = [] ∧ p.chunk < 16)) := by
  unfold plOk at h
  simp only [Bool.and_eq_true, Bool.or_eq_true, Bool.not_eq_true', beq_iff_eq, decide_eq_true_iff] at h
  obtain ⟨h0, h⟩ := h
  refine ⟨by simpa using h0, ?_⟩
  rcases h with (⟨⟨a, b⟩, c⟩ | ⟨⟨a, b⟩, c⟩) | ⟨⟨a, b⟩, c⟩
  · exact .inl ⟨a, b, c⟩
  · exact .inr (.inl ⟨a, b, c⟩)
  · exact .inr (.inr ⟨a, b, c⟩)

theorem size_toList (s : ByteArray) : s.toList.length = s.size := by rw [ByteArray.toList_eq, Array.length_toList]; rfl

theorem nameOk_size {s : ByteArray} (h : nameOk s = true) : 1 ≤ s.size ∧ s.size ≤ 8 := by
  unfold nameOk at h
  simp only [Bool.and_eq_true, decide_eq_true_iff] at h
  exact ⟨h.1.1.1.1.1, h.1.1.1.1.2⟩

theorem plOk_size {p : Pl} (h : plOk p = true) : p.name.size ≤ 8 := by
  obtain ⟨_, ⟨_, hs, _⟩ | ⟨_, hs, _⟩ | ⟨_, hs, _⟩⟩ := plOk_cases h
  · rw [← size_toList, hs]; exact Nat.zero_le _
  · exact (nameOk_size hs).2
  · rw [← size_toList, hs]; exact Nat.zero_le _

theorem restP_length {p : Pl} (h : plOk p = true) : (restP p).length ≤ 9 := by
  unfold restP
  split
  · rw [fixB_length]; omega
  · rw [strB_length]; have := plOk_size h; omega

theorem restP_byt (p : Pl) : Byt (restP p) := by
  unfold restP
  split
  · exact fixB_byt _ _
  · exact strB_byt _

set_option maxHeartbeats 1000000 in
theorem key_any (w : World) (p : Pl) (hp : PlOk p) : Calls Try.prog 10 #[plV p] w fun e w' => e = .returned (.tuple #[.string (keyS p), .int .i64 (plE p)]) ∧ Below w.heap.size w w' := by
  have hck : ∀ W, Calls Try.prog 14 #[.agg #[.int .u32 p.ino, .int .i64 p.part, .string p.name, .int .u32 p.chunk]] W fun e w' => e = .returned (.int .i64 (plE p)) ∧ Below W.heap.size W w' := fun W => check_any W p hp
  obtain ⟨w1, hw1⟩ : ∃ w1, w1 = w.alloc (.cells #[.int .u32 p.ino, .int .i64 p.part, .string p.name, .int .u32 p.chunk] 24) := ⟨_, rfl⟩
  have hb1 : Below w.heap.size w w1 := by rw [hw1]; exact (Below.refl _ _).alloc (Nat.le_refl _) _
  have hp1 : PlAt w1 w.heap.size p := by rw [hw1]; exact PlAt.laid w p
  obtain ⟨h0, h1, _, _, _, h2, h3⟩ := hp
  unfold plV
  cases hok : plOk p
  · have e1 : plE p = 30 := by unfold plE; rw [hok]; rfl
    have e2 : keyS p = ⟨#[]⟩ := by unfold keyS; rw [hok]; rfl
    rw [e1] at hck ⊢
    rw [e2]
    go_enter Try.func10, Try.ntmps10
    go_wp2_with fail
    rw [← hw1]
    refine (hck _).mono ?_
    rintro e w2 ⟨rfl, hb2⟩
    go_wp2
    go_ret2
    exact ⟨rfl, thenB hb1 hb2⟩
  · have e1 : plE p = 0 := by unfold plE; rw [hok]; rfl
    have e2 : keyS p = strOfNums (keyL p.ino p.part (restP p)) := by unfold keyS; rw [hok]; rfl
    have hrl := restP_length hok
    have hrb := restP_byt p
    have hsz := plOk_size hok
    rw [e1] at hck ⊢
    rw [e2]
    by_cases hpt : p.part = 3
    · have hrest : restP p = fixB p.chunk.toNat 4 := if_pos hpt
      rw [hrest] at hrl hrb ⊢
      clear hok e1 e2 hsz hrest
      obtain ⟨i, k, s, c⟩ := p
      dsimp only at *
      subst hpt
      go_enter Try.func10, Try.ntmps10
      go_wp2_with fail
      rw [← hw1]
      refine (hck _).mono ?_
      rintro e w2 ⟨rfl, hb2⟩
      have c1 := (hp1.below hb2).c1
      have q0 : ∀ W, Below w2.heap.size w2 W → W.cell? ⟨w.heap.size, 0, none⟩ = some (.int .u32 i) := fun W hW => ((hp1.below hb2).below hW).c0
      have q1 : ∀ W, Below w2.heap.size w2 W → W.cell? ⟨w.heap.size, 1, none⟩ = some (.int .i64 3) := fun W hW => ((hp1.below hb2).below hW).c1
      have q3 : ∀ W, Below w2.heap.size w2 W → W.cell? ⟨w.heap.size, 3, none⟩ = some (.int .u32 c) := fun W hW => ((hp1.below hb2).below hW).c3
      clear hck hw1
      go_wp2_with fail
      refine wp_region_noPanic ?_
      go_region_held (fun W => Below w2.heap.size w2 W) (first | assumption | exact (Below.refl _ _).drew | exact keep2 (by assumption) (by assumption))
        (first
          | (go_at_call 23; refine (fixed4_any _ _ h2 h3).mono ?_; rintro e w3 ⟨v3, rfl, ho3, hb3⟩)
          | (go_at_call 22; refine (keyOf_any _ _ _ _ _ h0 h1 ho3.rd hrb hrl).mono ?_; rintro e w4 ⟨rfl, hb4⟩))
      refine NoPanic.normal ?_
      clear q0 q1 q3 c1
      go_wp2
      go_ret2
      exact ⟨rfl, thenB hb1 (thenB hb2 (by assumption))⟩
    · have hrest : restP p = strB p.name := if_neg hpt
      rw [hrest] at hrl hrb ⊢
      have hpt' : (p.part == 3) = false := by simpa using hpt
      clear hok e1 e2 hrest
      go_enter Try.func10, Try.ntmps10
      go_wp2_with fail
      rw [← hw1]
      refine (hck _).mono ?_
      rintro e w2 ⟨rfl, hb2⟩
      have c0 := (hp1.below hb2).c0
      have c1 := (hp1.below hb2).c1
      have c2 := (hp1.below hb2).c2
      obtain ⟨v3, w3, hcv, hrd, hb3⟩ := conv_bytes w2 p.name (by omega)
      clear hck hw1
      go_wp2_with fail
      refine (keyOf_any w3 _ _ _ _ h0 h1 hrd hrb hrl).mono ?_
      rintro e w4 ⟨rfl, hb4⟩
      clear c0 c1 c2 hcv
      go_wp2
      go_ret2
      exact ⟨rfl, thenB hb1 (thenB hb2 (thenB hb3 hb4))⟩

end Go.Proofs.Ytmbiapobibfbaaa
