/- The contracts of place.mayBe, Check. -/
import Derived.Test.YtmifpeocgikbeabMA
import Derived.Deep.RegionHeld3
import Derived.Deep.RegionWith
import Derived.BigQuiet
namespace Go.Proofs.Ytmifpeocgikbeab
open Go.RowKit
set_option maxRecDepth 4000
set_option linter.unusedVariables false
set_option linter.unusedSimpArgs false

/-- Whether a place may be. -/
def plOk (p : Pl) : Bool :=
  !(p.ino == 0) && ((p.part == 1 && p.name.toList == [] && p.chunk == 0) || (p.part == 2 && nameOk p.name && p.chunk == 0) || (p.part == 3 && p.name.toList == [] && decide (p.chunk < 16)))

theorem plOk_rec (i : Int) (s : ByteArray) (c : Int) (h0 : i ≠ 0) : plOk ⟨i, 1, s, c⟩ = plEq ⟨i, 1, s, c⟩ (recP i) := by
  have : (i == 0) = false := by simpa using h0
  simp [plOk, plEq, recP, this, ByteArray.toList_eq]
theorem plOk_ent (i : Int) (s : ByteArray) (c : Int) (h0 : i ≠ 0) : plOk ⟨i, 2, s, c⟩ = (nameOk s && c == 0) := by
  have : (i == 0) = false := by simpa using h0
  simp [plOk, this]
theorem plEq_ent (i : Int) (s : ByteArray) (c : Int) : plEq ⟨i, 2, s, c⟩ (entP i s) = (c == 0) := by simp [plEq, entP]
theorem plOk_dat (i : Int) (s : ByteArray) (c : Int) (h0 : i ≠ 0) : plOk ⟨i, 3, s, c⟩ = (s.toList == [] && decide (c < 16)) := by
  have : (i == 0) = false := by simpa using h0
  simp [plOk, this]
theorem plEq_dat (i : Int) (s : ByteArray) (c : Int) : plEq ⟨i, 3, s, c⟩ (datP i c) = (s.toList == []) := by simp [plEq, datP, ByteArray.toList_eq]

set_option maxHeartbeats 1000000 in
theorem mayBe_rec (w : World) (i : Int) (s : ByteArray) (c : Int) (h0 : i ≠ 0) : Calls Try.prog 62 #[plV ⟨i, 1, s, c⟩] w fun e w' => e = .returned (.bool (plOk ⟨i, 1, s, c⟩)) ∧ Below w.heap.size w w' := by
  rw [plOk_rec i s c h0]
  unfold plV
  have heq : ∀ W, (binOp .eql 25 (.agg #[.int .u32 i, .int .i64 1, .string s, .int .u32 c]) (.agg #[.int .u32 i, .int .i64 1, .string ⟨#[]⟩, .int .u32 0])).run Try.prog W = .ok (.bool (plEq ⟨i, 1, s, c⟩ (recP i))) W := fun W => eq_places W i 1 c i 1 0 s ⟨#[]⟩
  go_enter Try.func62, Try.ntmps62
  go_wp2
  obtain ⟨w1, hw1⟩ : ∃ w1, w1 = w.alloc (.cells #[.int .u32 i, .int .i64 1, .string s, .int .u32 c] 25) := ⟨_, rfl⟩
  rw [← hw1]
  have hb1 : Below w.heap.size w w1 := by rw [hw1]; exact (Below.refl _ _).alloc (Nat.le_refl _) _
  have hp1 : PlAt w1 w.heap.size ⟨i, 1, s, c⟩ := by rw [hw1]; exact PlAt.laid w ⟨i, 1, s, c⟩
  have q0 : ∀ W, Below w1.heap.size w1 W → W.cell? ⟨w.heap.size, 0, none⟩ = some (.int .u32 i) := fun W hW => (hp1.below hW).c0
  have q1 : ∀ W, Below w1.heap.size w1 W → W.cell? ⟨w.heap.size, 1, none⟩ = some (.int .i64 1) := fun W hW => (hp1.below hW).c1
  have q2 : ∀ W, Below w1.heap.size w1 W → W.cell? ⟨w.heap.size, 2, none⟩ = some (.string s) := fun W hW => (hp1.below hW).c2
  have q3 : ∀ W, Below w1.heap.size w1 W → W.cell? ⟨w.heap.size, 3, none⟩ = some (.int .u32 c) := fun W hW => (hp1.below hW).c3
  clear hw1
  refine wp_region_noPanic ?_
  go_region_held (fun W => Below w1.heap.size w1 W) (first | assumption | exact (Below.refl _ _).drew | exact keep2 (by assumption) (by assumption))
    (first | (go_at_call 78; refine (record_any _ _).mono ?_; rintro e w2 ⟨rfl, hb2⟩; unfold plV recP))
  refine NoPanic.normal ?_
  have hlast : Below w1.heap.size w1 w2 := by assumption
  clear q0 q1 q2 q3
  go_wp2
  go_ret
  exact ⟨rfl, thenB hb1 hlast⟩


set_option maxHeartbeats 1000000 in
theorem mayBe_ent0 (w : World) (i : Int) (s : ByteArray) (c : Int) (h0 : i ≠ 0) (hs : s.size ≤ maxLen) (hc : c = 0) : Calls Try.prog 62 #[plV ⟨i, 2, s, c⟩] w fun e w' => e = .returned (.bool (nameOk s)) ∧ Below w.heap.size w w' := by
  unfold plV
  have heq : ∀ W, (binOp .eql 25 (.agg #[.int .u32 i, .int .i64 2, .string s, .int .u32 c]) (.agg #[.int .u32 i, .int .i64 2, .string s, .int .u32 0])).run Try.prog W = .ok (.bool true) W := fun W => by
    rw [eq_places W i 2 c i 2 0 s s]
    simp [plEq, hc]
  have HN : Hid ((nameE s == 0) = nameOk s) := by
    show _ = _
    unfold nameE; cases nameOk s <;> rfl
  clear hc
  go_enter Try.func62, Try.ntmps62
  go_wp2
  obtain ⟨w1, hw1⟩ : ∃ w1, w1 = w.alloc (.cells #[.int .u32 i, .int .i64 2, .string s, .int .u32 c] 25) := ⟨_, rfl⟩
  rw [← hw1]
  have hb1 : Below w.heap.size w w1 := by rw [hw1]; exact (Below.refl _ _).alloc (Nat.le_refl _) _
  have hp1 : PlAt w1 w.heap.size ⟨i, 2, s, c⟩ := by rw [hw1]; exact PlAt.laid w ⟨i, 2, s, c⟩
  have q0 : ∀ W, Below w1.heap.size w1 W → W.cell? ⟨w.heap.size, 0, none⟩ = some (.int .u32 i) := fun W hW => (hp1.below hW).c0
  have q1 : ∀ W, Below w1.heap.size w1 W → W.cell? ⟨w.heap.size, 1, none⟩ = some (.int .i64 2) := fun W hW => (hp1.below hW).c1
  have q2 : ∀ W, Below w1.heap.size w1 W → W.cell? ⟨w.heap.size, 2, none⟩ = some (.string s) := fun W hW => (hp1.below hW).c2
  have q3 : ∀ W, Below w1.heap.size w1 W → W.cell? ⟨w.heap.size, 3, none⟩ = some (.int .u32 c) := fun W hW => (hp1.below hW).c3
  clear hw1
  refine wp_region_noPanic ?_
  go_region_held (fun W => Below w1.heap.size w1 W) (first | assumption | exact (Below.refl _ _).drew | exact keep2 (by assumption) (by assumption))
    (first
      | (go_at_call 79; refine (entry_any _ _ _).mono ?_; rintro e w2 ⟨rfl, hb2⟩; unfold plV entP)
      | (go_at_call 80; refine (checkName_any _ _ hs).mono ?_; rintro e w3 ⟨rfl, rfl⟩))
  refine NoPanic.normal ?_
  clear q0 q1 q2 q3
  go_wp2
  go_ret
  refine ⟨congrArg (fun x => Ending.returned (Value.bool x)) HN.out, thenB hb1 (by assumption)⟩

set_option maxHeartbeats 1000000 in
theorem mayBe_ent1 (w : World) (i : Int) (s : ByteArray) (c : Int) (h0 : i ≠ 0) (hs : s.size ≤ maxLen) (hc : c ≠ 0) : Calls Try.prog 62 #[plV ⟨i, 2, s, c⟩] w fun e w' => e = .returned (.bool false) ∧ Below w.heap.size w w' := by
  unfold plV
  have heq : ∀ W, (binOp .eql 25 (.agg #[.int .u32 i, .int .i64 2, .string s, .int .u32 c]) (.agg #[.int .u32 i, .int .i64 2, .string s, .int .u32 0])).run Try.prog W = .ok (.bool false) W := fun W => by
    rw [eq_places W i 2 c i 2 0 s s]
    simp [plEq, hc]
  clear hc
  go_enter Try.func62, Try.ntmps62
  go_wp2
  obtain ⟨w1, hw1⟩ : ∃ w1, w1 = w.alloc (.cells #[.int .u32 i, .int .i64 2, .string s, .int .u32 c] 25) := ⟨_, rfl⟩
  rw [← hw1]
  have hb1 : Below w.heap.size w w1 := by rw [hw1]; exact (Below.refl _ _).alloc (Nat.le_refl _) _
  have hp1 : PlAt w1 w.heap.size ⟨i, 2, s, c⟩ := by rw [hw1]; exact PlAt.laid w ⟨i, 2, s, c⟩
  have q0 : ∀ W, Below w1.heap.size w1 W → W.cell? ⟨w.heap.size, 0, none⟩ = some (.int .u32 i) := fun W hW => (hp1.below hW).c0
  have q1 : ∀ W, Below w1.heap.size w1 W → W.cell? ⟨w.heap.size, 1, none⟩ = some (.int .i64 2) := fun W hW => (hp1.below hW).c1
  have q2 : ∀ W, Below w1.heap.size w1 W → W.cell? ⟨w.heap.size, 2, none⟩ = some (.string s) := fun W hW => (hp1.below hW).c2
  have q3 : ∀ W, Below w1.heap.size w1 W → W.cell? ⟨w.heap.size, 3, none⟩ = some (.int .u32 c) := fun W hW => (hp1.below hW).c3
  clear hw1
  refine wp_region_noPanic ?_
  refine wp_region_held_drew (S := fun W => Below w1.heap.size w1 W) (by kernel_rfl) (Below.refl _ _).drew (fun hHeld => ?_)
  refine wpAnyH_take (i := 0) (v := .agg #[.int .u32 i, .int .i64 2, .string s, .int .u32 c]) rfl (by kernel_rfl) (by kernel_rfl) (by kernel_rfl) (fun _ _ _ h => h) (Or.inl ⟨by rfl, fun W hSw => by (try dsimp only at hSw); go_simp⟩) (by assumption) ?_
  simp only [List.getElem_toArray, List.getElem_cons_zero, List.getElem_cons_succ, Act.put, List.setIfInBounds_toArray, List.set_cons_zero, List.set_cons_succ]
  refine wpAnyH_take (i := 1) (v := .pointer (some ⟨w.heap.size, 0, none⟩)) rfl (by kernel_rfl) (by kernel_rfl) (by kernel_rfl) (fun _ _ _ h => h) (Or.inl ⟨by rfl, fun W hSw => by (try dsimp only at hSw); go_simp⟩) (by assumption) ?_
  simp only [List.getElem_toArray, List.getElem_cons_zero, List.getElem_cons_succ, Act.put, List.setIfInBounds_toArray, List.set_cons_zero, List.set_cons_succ]
  refine wpAnyH_take (i := 2) (v := .int .u32 i) rfl (by kernel_rfl) (by kernel_rfl) (by kernel_rfl) (fun _ _ _ h => h) (Or.inl ⟨by rfl, fun W hSw => by (try dsimp only at hSw); go_simp⟩) (by assumption) ?_
  simp only [List.getElem_toArray, List.getElem_cons_zero, List.getElem_cons_succ, Act.put, List.setIfInBounds_toArray, List.set_cons_zero, List.set_cons_succ]
  refine wpAnyH_take (i := 3) (v := .pointer (some ⟨w.heap.size, 2, none⟩)) rfl (by kernel_rfl) (by kernel_rfl) (by kernel_rfl) (fun _ _ _ h => h) (Or.inl ⟨by rfl, fun W hSw => by (try dsimp only at hSw); go_simp⟩) (by assumption) ?_
  simp only [List.getElem_toArray, List.getElem_cons_zero, List.getElem_cons_succ, Act.put, List.setIfInBounds_toArray, List.set_cons_zero, List.set_cons_succ]
  refine wpAnyH_take (i := 4) (v := .string s) rfl (by kernel_rfl) (by kernel_rfl) (by kernel_rfl) (fun _ _ _ h => h) (Or.inl ⟨by rfl, fun W hSw => by (try dsimp only at hSw); go_simp⟩) (by assumption) ?_
  simp only [List.getElem_toArray, List.getElem_cons_zero, List.getElem_cons_succ, Act.put, List.setIfInBounds_toArray, List.set_cons_zero, List.set_cons_succ]
  refine wpAnyH_ready (rs := [5]) (by kernel_rfl) (by simp) ?_
  refine AllReadyH.cons rfl (fun K hK => ?_) AllReadyH.nil
  go_simp
  go_wp2_with (go_at_call 79; refine (entry_any _ _ _).mono ?_; rintro e w2 ⟨rfl, hb2⟩; unfold plV entP)
  refine hK.out _ _ (keep2 (by assumption) (by assumption)) (fun hHeld2 => ?_)
  clear hK K
  refine wpAnyH_take (i := 6) (v := .bool false) rfl (by kernel_rfl) (by kernel_rfl) (by kernel_rfl) (fun _ _ _ h => h) (Or.inl ⟨by rfl, fun W hSw => by (try dsimp only at hSw); go_simp⟩) (by assumption) ?_
  simp only [List.getElem_toArray, List.getElem_cons_zero, List.getElem_cons_succ, Act.put, List.setIfInBounds_toArray, List.set_cons_zero, List.set_cons_succ]
  refine wpAnyH_take (i := 7) (v := .bool false) rfl (by kernel_rfl) (by kernel_rfl) (by kernel_rfl) (fun _ _ _ h => h) (Or.inl ⟨by rfl, fun W hSw => by (try dsimp only at hSw); go_simp⟩) (by assumption) ?_
  simp only [List.getElem_toArray, List.getElem_cons_zero, List.getElem_cons_succ, Act.put, List.setIfInBounds_toArray, List.set_cons_zero, List.set_cons_succ]
  refine wpAnyH_take (i := 8) (v := undef) rfl (by kernel_rfl) (by kernel_rfl) (by kernel_rfl) (fun _ _ _ h => h) (Or.inr ⟨by rfl, rfl⟩) (by assumption) ?_
  simp only [List.getElem_toArray, List.getElem_cons_zero, List.getElem_cons_succ, Act.put, List.setIfInBounds_toArray, List.set_cons_zero, List.set_cons_succ]
  refine wpAnyH_take (i := 9) (v := undef) rfl (by kernel_rfl) (by kernel_rfl) (by kernel_rfl) (fun _ _ _ h => h) (Or.inr ⟨by rfl, rfl⟩) (by assumption) ?_
  simp only [List.getElem_toArray, List.getElem_cons_zero, List.getElem_cons_succ, Act.put, List.setIfInBounds_toArray, List.set_cons_zero, List.set_cons_succ]
  refine wpAnyH_take (i := 10) (v := undef) rfl (by kernel_rfl) (by kernel_rfl) (by kernel_rfl) (fun _ _ _ h => h) (Or.inr ⟨by rfl, rfl⟩) (by assumption) ?_
  simp only [List.getElem_toArray, List.getElem_cons_zero, List.getElem_cons_succ, Act.put, List.setIfInBounds_toArray, List.set_cons_zero, List.set_cons_succ]
  refine wpAnyH_take (i := 11) (v := undef) rfl (by kernel_rfl) (by kernel_rfl) (by kernel_rfl) (fun _ _ _ h => h) (Or.inr ⟨by rfl, rfl⟩) (by assumption) ?_
  simp only [List.getElem_toArray, List.getElem_cons_zero, List.getElem_cons_succ, Act.put, List.setIfInBounds_toArray, List.set_cons_zero, List.set_cons_succ]
  refine wpAnyH_take (i := 12) (v := .bool false) rfl (by kernel_rfl) (by kernel_rfl) (by kernel_rfl) (fun _ _ _ h => h) (Or.inl ⟨by rfl, fun W hSw => by (try dsimp only at hSw); go_simp⟩) (by assumption) ?_
  simp only [List.getElem_toArray, List.getElem_cons_zero, List.getElem_cons_succ, Act.put, List.setIfInBounds_toArray, List.set_cons_zero, List.set_cons_succ]
  refine wpAnyH_take (i := 13) (v := .bool false) rfl (by kernel_rfl) (by kernel_rfl) (by kernel_rfl) (fun _ _ _ h => h) (Or.inl ⟨by rfl, fun W hSw => by (try dsimp only at hSw); go_simp⟩) (by assumption) ?_
  simp only [List.getElem_toArray, List.getElem_cons_zero, List.getElem_cons_succ, Act.put, List.setIfInBounds_toArray, List.set_cons_zero, List.set_cons_succ]
  refine wpAnyH_done (by kernel_rfl) ?_ _
  refine NoPanic.normal ?_
  clear q0 q1 q2 q3
  go_wp2
  go_ret
  exact ⟨rfl, thenB hb1 hHeld2⟩


end Go.Proofs.Ytmifpeocgikbeab
