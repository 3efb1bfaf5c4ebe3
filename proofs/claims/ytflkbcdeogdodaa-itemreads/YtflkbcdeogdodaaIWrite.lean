/- The contract of item.write. -/
import Derived.Test.YtflkbcdeogdodaaIGive
import Derived.Test.YtflkbcdeogdodaaIConcat
import Derived.Deep.RegionHeld3
namespace Go.Proofs.Ytflkbcdeogdodaa
open Go.RowKit
set_option linter.unusedVariables false
set_option linter.unusedSimpArgs false

/-- The value's bytes. -/
def recL (k m l s : Int) : List Int := fixB k.toNat 1 ++ fixB m.toNat 2 ++ fixB l.toNat 1 ++ fixB s.toNat 2
def wrL (p : Int) (x : It) : List Int := if p = 1 then recL x.kind x.mode x.links x.size else if p = 2 then fixB x.lead.toNat 4 else x.bytes

theorem wrL_1 (x : It) : wrL 1 x = recL x.kind x.mode x.links x.size := rfl
theorem wrL_2 (x : It) : wrL 2 x = fixB x.lead.toNat 4 := rfl
theorem wrL_3 {p : Int} (h1 : p ≠ 1) (h2 : p ≠ 2) (x : It) : wrL p x = x.bytes := by unfold wrL; rw [if_neg h1, if_neg h2]

theorem keepA {w1 W : World} (h : Below w1.heap.size w1 W) (o : Obj) : Below w1.heap.size w1 (W.alloc o) := h.alloc h.size o

theorem concat4 (w : World) (v0 v1 v2 v3 : Value) (x0 x1 x2 x3 : List Int) (h0 : Rd w v0 x0) (h1 : Rd w v1 x1) (h2 : Rd w v2 x2) (h3 : Rd w v3 x3) (hs : x0.length + x1.length + x2.length + x3.length ≤ 1000) :
    Calls Try.prog 24 #[.slice (some ⟨w.heap.size, 0, none⟩) 4 4] (w.alloc (.cells #[v0, v1, v2, v3] 49)) fun e w' => ∃ v, e = .returned v ∧ Own w' w.heap.size v (x0 ++ x1 ++ x2 ++ x3) ∧ Below w.heap.size w w' := by
  have hb : Below w.heap.size w (w.alloc (.cells #[v0, v1, v2, v3] 49)) := (Below.refl _ _).alloc (Nat.le_refl _) _
  have hc := concat_any (w.alloc (.cells #[v0, v1, v2, v3] 49)) w.heap.size 4 (fun i => #[v0, v1, v2, v3].getD i undef) [x0, x1, x2, x3] rfl (by unfold maxLen; omega) (by simp)
    (fun i hi => by
      rw [cell_of_row _ _ i _ _ (0, 0) (heap_alloc_new w _)]
      match i, hi with
      | 0, _ => rfl
      | 1, _ => rfl
      | 2, _ => rfl
      | 3, _ => rfl)
    (fun i hi => by
      match i, hi with
      | 0, _ => exact h0.below hb
      | 1, _ => exact h1.below hb
      | 2, _ => exact h2.below hb
      | 3, _ => exact h3.below hb)
    (by simp; omega)
  refine hc.mono ?_
  rintro e w' ⟨v, rfl, ho, hb'⟩
  refine ⟨v, rfl, ?_, thenB hb hb'⟩
  have := ho.mono hb.size
  simpa [List.append_assoc] using this

theorem inB_iff {n a b : Int} : inB n a b = true ↔ a ≤ n ∧ n ≤ b := by simp [inB]

/-- What an inode's fields are that may be. -/
theorem inoOk_bounds {k m l s : Int} (h : inoOk k m l s = true) : (1 ≤ k ∧ k ≤ 2) ∧ (0 ≤ m ∧ m ≤ 511) ∧ (1 ≤ l ∧ l ≤ 15) ∧ (0 ≤ s ∧ s ≤ 512) := by
  unfold inoOk at h
  rw [Bool.and_eq_true, inB_iff] at h
  obtain ⟨hm, h⟩ := h
  split at h
  · rw [Bool.and_eq_true, inB_iff, inB_iff] at h
    omega
  · split at h
    · simp only [Bool.and_eq_true, beq_iff_eq] at h
      omega
    · cases h

set_option maxRecDepth 100000 in
set_option maxHeartbeats 4000000 in
theorem write_1 (w : World) (k m l s : Int) (h : inoOk k m l s = true) : Calls Try.prog 19 #[.iface 55 (.agg #[.int .i64 k, .int .i64 m, .int .i64 l, .int .i64 s])] w fun e w' => ∃ v, e = .returned v ∧ Rd w' v (recL k m l s) ∧ Below w.heap.size w w' := by
  obtain ⟨⟨k0, k1⟩, ⟨m0, m1⟩, ⟨l0, l1⟩, s0, s1⟩ := inoOk_bounds h
  have hrr := as_rr
  obtain ⟨w1, hw1⟩ : ∃ w1, w.alloc (.cells #[.int .i64 k, .int .i64 m, .int .i64 l, .int .i64 s] 55) = w1 := ⟨_, rfl⟩
  have hB : Below w.heap.size w w1 := by rw [← hw1]; exact (Below.refl _ w).alloc (Nat.le_refl _) _
  have hg1 : w1.heap[w.heap.size]? = some (.cells #[.int .i64 k, .int .i64 m, .int .i64 l, .int .i64 s] 55 (0, 0)) := by rw [← hw1]; exact heap_alloc_new w _
  have hlt : w.heap.size < w1.heap.size := (Array.getElem?_eq_some_iff.1 hg1).1
  have hC : ∀ j v, #[Value.int .i64 k, .int .i64 m, .int .i64 l, .int .i64 s][j]? = some v → ∀ W, Below w1.heap.size w1 W → W.cell? ⟨w.heap.size, j, none⟩ = some v := fun j v hv W hW => by
    rw [cell_of_row W _ j _ _ (0, 0) ((hW.block _ hlt).trans hg1)]; exact hv
  have hC0 := hC 0 _ rfl
  have hC1 := hC 1 _ rfl
  have hC2 := hC 2 _ rfl
  have hC3 := hC 3 _ rfl
  have f1 : ∀ W, Calls Try.prog 25 #[.int .u64 k, .int .i64 1] W fun e w' => ∃ v, e = .returned v ∧ Own w' W.heap.size v (fixB k.toNat 1) ∧ Below W.heap.size W w' := fun W => fixedI_any W k 1 (by omega) (by omega) (by omega) (by omega) (by omega)
  have f2 : ∀ W, Calls Try.prog 25 #[.int .u64 m, .int .i64 2] W fun e w' => ∃ v, e = .returned v ∧ Own w' W.heap.size v (fixB m.toNat 2) ∧ Below W.heap.size W w' := fun W => fixedI_any W m 2 (by omega) (by omega) (by omega) (by omega) (by omega)
  have f3 : ∀ W, Calls Try.prog 25 #[.int .u64 l, .int .i64 1] W fun e w' => ∃ v, e = .returned v ∧ Own w' W.heap.size v (fixB l.toNat 1) ∧ Below W.heap.size W w' := fun W => fixedI_any W l 1 (by omega) (by omega) (by omega) (by omega) (by omega)
  have f4 : ∀ W, Calls Try.prog 25 #[.int .u64 s, .int .i64 2] W fun e w' => ∃ v, e = .returned v ∧ Own w' W.heap.size v (fixB s.toNat 2) ∧ Below W.heap.size W w' := fun W => fixedI_any W s 2 (by omega) (by omega) (by omega) (by omega) (by omega)
  clear h hC hg1 hlt
  go_enter Try.func19, Try.ntmps19
  go_wp2_with fail
  refine wp_region_noPanic ?_
  refine wp_region_held_drew (S := fun W => Below w1.heap.size w1 W) (by kernel_rfl) (Below.refl _ _).drew (fun hHeld => ?_)
  refine wpAnyH_take (i := 0) (v := .pointer (some ⟨w.heap.size, 0, none⟩)) rfl (by kernel_rfl) (by kernel_rfl) (by kernel_rfl) (fun _ _ _ h => h) (Or.inl ⟨by rfl, fun W hSw => by (try dsimp only at hSw); go_simp⟩) (by assumption) ?_
  simp only [List.getElem_toArray, List.getElem_cons_zero, List.getElem_cons_succ, Act.put, List.setIfInBounds_toArray, List.set_cons_zero, List.set_cons_succ]
  refine wpAnyH_take (i := 1) (v := .int .i64 k) rfl (by kernel_rfl) (by kernel_rfl) (by kernel_rfl) (fun _ _ _ h => h) (Or.inl ⟨by rfl, fun W hSw => by (try dsimp only at hSw); go_simp⟩) (by assumption) ?_
  simp only [List.getElem_toArray, List.getElem_cons_zero, List.getElem_cons_succ, Act.put, List.setIfInBounds_toArray, List.set_cons_zero, List.set_cons_succ]
  refine wpAnyH_take (i := 2) (v := .int .u64 k) rfl (by kernel_rfl) (by kernel_rfl) (by kernel_rfl) (fun _ _ _ h => h) (Or.inl ⟨by rfl, fun W hSw => by (try dsimp only at hSw); (go_simp; rw [IntKind.wrap_u64]; omega)⟩) (by assumption) ?_
  simp only [List.getElem_toArray, List.getElem_cons_zero, List.getElem_cons_succ, Act.put, List.setIfInBounds_toArray, List.set_cons_zero, List.set_cons_succ]
  refine wpAnyH_take (i := 4) (v := .pointer (some ⟨w.heap.size, 1, none⟩)) rfl (by kernel_rfl) (by kernel_rfl) (by kernel_rfl) (fun _ _ _ h => h) (Or.inl ⟨by rfl, fun W hSw => by (try dsimp only at hSw); go_simp⟩) (by assumption) ?_
  simp only [List.getElem_toArray, List.getElem_cons_zero, List.getElem_cons_succ, Act.put, List.setIfInBounds_toArray, List.set_cons_zero, List.set_cons_succ]
  refine wpAnyH_take (i := 5) (v := .int .i64 m) rfl (by kernel_rfl) (by kernel_rfl) (by kernel_rfl) (fun _ _ _ h => h) (Or.inl ⟨by rfl, fun W hSw => by (try dsimp only at hSw); go_simp⟩) (by assumption) ?_
  simp only [List.getElem_toArray, List.getElem_cons_zero, List.getElem_cons_succ, Act.put, List.setIfInBounds_toArray, List.set_cons_zero, List.set_cons_succ]
  refine wpAnyH_take (i := 6) (v := .int .u64 m) rfl (by kernel_rfl) (by kernel_rfl) (by kernel_rfl) (fun _ _ _ h => h) (Or.inl ⟨by rfl, fun W hSw => by (try dsimp only at hSw); (go_simp; rw [IntKind.wrap_u64]; omega)⟩) (by assumption) ?_
  simp only [List.getElem_toArray, List.getElem_cons_zero, List.getElem_cons_succ, Act.put, List.setIfInBounds_toArray, List.set_cons_zero, List.set_cons_succ]
  refine wpAnyH_take (i := 8) (v := .pointer (some ⟨w.heap.size, 2, none⟩)) rfl (by kernel_rfl) (by kernel_rfl) (by kernel_rfl) (fun _ _ _ h => h) (Or.inl ⟨by rfl, fun W hSw => by (try dsimp only at hSw); go_simp⟩) (by assumption) ?_
  simp only [List.getElem_toArray, List.getElem_cons_zero, List.getElem_cons_succ, Act.put, List.setIfInBounds_toArray, List.set_cons_zero, List.set_cons_succ]
  refine wpAnyH_take (i := 9) (v := .int .i64 l) rfl (by kernel_rfl) (by kernel_rfl) (by kernel_rfl) (fun _ _ _ h => h) (Or.inl ⟨by rfl, fun W hSw => by (try dsimp only at hSw); go_simp⟩) (by assumption) ?_
  simp only [List.getElem_toArray, List.getElem_cons_zero, List.getElem_cons_succ, Act.put, List.setIfInBounds_toArray, List.set_cons_zero, List.set_cons_succ]
  refine wpAnyH_take (i := 10) (v := .int .u64 l) rfl (by kernel_rfl) (by kernel_rfl) (by kernel_rfl) (fun _ _ _ h => h) (Or.inl ⟨by rfl, fun W hSw => by (try dsimp only at hSw); (go_simp; rw [IntKind.wrap_u64]; omega)⟩) (by assumption) ?_
  simp only [List.getElem_toArray, List.getElem_cons_zero, List.getElem_cons_succ, Act.put, List.setIfInBounds_toArray, List.set_cons_zero, List.set_cons_succ]
  refine wpAnyH_take (i := 12) (v := .pointer (some ⟨w.heap.size, 3, none⟩)) rfl (by kernel_rfl) (by kernel_rfl) (by kernel_rfl) (fun _ _ _ h => h) (Or.inl ⟨by rfl, fun W hSw => by (try dsimp only at hSw); go_simp⟩) (by assumption) ?_
  simp only [List.getElem_toArray, List.getElem_cons_zero, List.getElem_cons_succ, Act.put, List.setIfInBounds_toArray, List.set_cons_zero, List.set_cons_succ]
  refine wpAnyH_take (i := 13) (v := .int .i64 s) rfl (by kernel_rfl) (by kernel_rfl) (by kernel_rfl) (fun _ _ _ h => h) (Or.inl ⟨by rfl, fun W hSw => by (try dsimp only at hSw); go_simp⟩) (by assumption) ?_
  simp only [List.getElem_toArray, List.getElem_cons_zero, List.getElem_cons_succ, Act.put, List.setIfInBounds_toArray, List.set_cons_zero, List.set_cons_succ]
  refine wpAnyH_take (i := 14) (v := .int .u64 s) rfl (by kernel_rfl) (by kernel_rfl) (by kernel_rfl) (fun _ _ _ h => h) (Or.inl ⟨by rfl, fun W hSw => by (try dsimp only at hSw); (go_simp; rw [IntKind.wrap_u64]; omega)⟩) (by assumption) ?_
  simp only [List.getElem_toArray, List.getElem_cons_zero, List.getElem_cons_succ, Act.put, List.setIfInBounds_toArray, List.set_cons_zero, List.set_cons_succ]
  refine wpAnyH_ready (rs := [3]) (by kernel_rfl) (by simp) ?_
  refine AllReadyH.cons rfl (fun K hK => ?_) AllReadyH.nil
  go_simp
  go_wp2_with (go_at_call 25; refine (f1 _).mono ?_; rintro e w6 ⟨v6, rfl, ho6, hb6⟩; obtain ⟨a6, c6, rfl, -⟩ := id ho6.rd)
  refine hK.out _ _ (keep2 (by assumption) (by assumption)) (fun hHeld2 => ?_)
  clear hK K
  refine wpAnyH_ready (rs := [7]) (by kernel_rfl) (by simp) ?_
  refine AllReadyH.cons rfl (fun K hK => ?_) AllReadyH.nil
  go_simp
  go_wp2_with (go_at_call 25; refine (f2 _).mono ?_; rintro e w7 ⟨v7, rfl, ho7, hb7⟩; obtain ⟨a7, c7, rfl, -⟩ := id ho7.rd)
  refine hK.out _ _ (keep2 (by assumption) (by assumption)) (fun hHeld2 => ?_)
  clear hK K
  refine wpAnyH_ready (rs := [11]) (by kernel_rfl) (by simp) ?_
  refine AllReadyH.cons rfl (fun K hK => ?_) AllReadyH.nil
  go_simp
  go_wp2_with (go_at_call 25; refine (f3 _).mono ?_; rintro e w8 ⟨v8, rfl, ho8, hb8⟩; obtain ⟨a8, c8, rfl, -⟩ := id ho8.rd)
  refine hK.out _ _ (keep2 (by assumption) (by assumption)) (fun hHeld2 => ?_)
  clear hK K
  refine wpAnyH_ready (rs := [15]) (by kernel_rfl) (by simp) ?_
  refine AllReadyH.cons rfl (fun K hK => ?_) AllReadyH.nil
  go_simp
  go_wp2_with (go_at_call 25; refine (f4 _).mono ?_; rintro e w9 ⟨v9, rfl, ho9, hb9⟩; obtain ⟨a9, c9, rfl, -⟩ := id ho9.rd)
  refine hK.out _ _ (keep2 (by assumption) (by assumption)) (fun hHeld2 => ?_)
  clear hK K
  refine wpAnyH_ready (rs := [16]) (by kernel_rfl) (by simp) ?_
  refine AllReadyH.cons rfl (fun K hK => ?_) AllReadyH.nil
  go_simp
  go_wp2
  refine hK.out _ _ (keepA (by assumption) _) (fun hHeld2 => ?_)
  clear hK K
  refine wpAnyH_ready (rs := [17]) (by kernel_rfl) (by simp) ?_
  refine AllReadyH.cons rfl (fun K hK => ?_) AllReadyH.nil
  go_simp
  go_wp2_with (go_at_call 24; refine (concat4 w9 _ _ _ _ _ _ _ _ (((ho6.below hb7).below hb8).below hb9).rd ((ho7.below hb8).below hb9).rd (ho8.below hb9).rd ho9.rd (by simp only [fixB_length]; omega)).mono ?_; rintro e wa ⟨va, rfl, hoa, hba⟩)
  refine hK.out _ _ (keep2 (by assumption) (by assumption)) (fun hHeld2 => ?_)
  clear hK K
  refine wpAnyH_take (i := 18) (v := va) rfl (by kernel_rfl) (by kernel_rfl) (by kernel_rfl) (fun _ _ _ h => h) (Or.inl ⟨by rfl, fun W hSw => by (try dsimp only at hSw); go_simp⟩) (by assumption) ?_
  simp only [List.getElem_toArray, List.getElem_cons_zero, List.getElem_cons_succ, Act.put, List.setIfInBounds_toArray, List.set_cons_zero, List.set_cons_succ]
  refine wpAnyH_done (by kernel_rfl) ?_ _
  refine NoPanic.normal ?_
  clear hC0 hC1 hC2 hC3 f1 f2 f3 f4
  go_wp2
  go_ret
  exact ⟨_, rfl, hoa.rd, thenB hB hHeld2⟩

end Go.Proofs.Ytflkbcdeogdodaa
