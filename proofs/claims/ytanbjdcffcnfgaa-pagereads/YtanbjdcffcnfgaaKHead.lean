/- The contract of the document's EncodeHead. -/
import Derived.Test.YtanbjdcffcnfgaaKFix
namespace Go.Proofs.Ytanbjdcffcnfgaa
open Go.RowKit
set_option linter.unusedVariables false
set_option linter.unusedSimpArgs false
set_option maxRecDepth 4000

theorem head_assoc (s v l r n i : Int) : (((((magicL ++ fixB s.toNat 8) ++ fixB v.toNat 8) ++ fixB l.toNat 8) ++ fixB r.toNat 4) ++ fixB n.toNat 4) ++ fixB i.toNat 4 = headRaw ⟨s, v, l, r, n, i⟩ := by
  unfold headRaw
  simp only [List.append_assoc]

set_option maxHeartbeats 8000000 in
theorem kencodeHead_any (w : World) (h : Hd) (hk : HdOk h) : Calls Try.prog 23 #[hdV h] w fun e w' => ∃ u, e = .returned u ∧ Own w' w.heap.size u (headBlock h) ∧ Below w.heap.size w w' := by
  have hraw := head_assoc h.seq h.version h.log h.root h.next h.items
  have hblk : sealed (padL (headRaw h)) = headBlock h := rfl
  have hry := headRaw_byt h
  have hrl := headRaw_length h
  rw [← hblk]
  clear hblk
  unfold hdV
  obtain ⟨s, v, l, r, n, i⟩ := h
  obtain ⟨s0, s1, v0, v1, l0, l1, r0, r1, n0, n1, i0, i1⟩ := hk
  dsimp only at *
  have k1 := fixB_length s.toNat 8
  have k2 := fixB_length v.toNat 8
  have k3 := fixB_length l.toNat 8
  have k4 := fixB_length r.toNat 4
  have k5 := fixB_length n.toNat 4
  have k6 := fixB_length i.toNat 4
  have km : magicL.length = 8 := rfl
  have hB0 : Below w.heap.size w ((w.alloc (.cells #[.int .u64 s, .int .u64 v, .int .u64 l, .int .u32 r, .int .u32 n, .int .u32 i] 40)).alloc (.cells #[.int .u8 97, .int .u8 114, .int .u8 109, .int .u8 111, .int .u8 105, .int .u8 114, .int .u8 101, .int .u8 49] 5)) := ((Below.refl _ w).alloc (Nat.le_refl _) _).alloc (by simp) _
  have hg0 := heap_alloc2_old w (.cells #[.int .u64 s, .int .u64 v, .int .u64 l, .int .u32 r, .int .u32 n, .int .u32 i] 40) (.cells #[.int .u8 97, .int .u8 114, .int .u8 109, .int .u8 111, .int .u8 105, .int .u8 114, .int .u8 101, .int .u8 49] 5)
  have hg1 := heap_alloc2_new w (.cells #[.int .u64 s, .int .u64 v, .int .u64 l, .int .u32 r, .int .u32 n, .int .u32 i] 40) (.cells #[.int .u8 97, .int .u8 114, .int .u8 109, .int .u8 111, .int .u8 105, .int .u8 114, .int .u8 101, .int .u8 49] 5)
  obtain ⟨W2, hcv, hcb, hcc, hcs⟩ := conv_const ((w.alloc (.cells #[.int .u64 s, .int .u64 v, .int .u64 l, .int .u32 r, .int .u32 n, .int .u32 i] 40)).alloc (.cells #[.int .u8 97, .int .u8 114, .int .u8 109, .int .u8 111, .int .u8 105, .int .u8 114, .int .u8 101, .int .u8 49] 5)) (w.heap.size + 1) 8 8 _ hg1
  have hrm : Rd W2 (.slice (some ⟨w.heap.size + 1, 0, none⟩) 8 8) magicL := rd_cells (rd_magic hg1) hcc hcs
  have hB2 : Below w.heap.size w W2 := hB0.trans (hcb _ (by omega))
  have hz2 : w.heap.size + 2 ≤ W2.heap.size := by rw [hcs]; simp
  have hq : ∀ j u, #[Value.int .u64 s, .int .u64 v, .int .u64 l, .int .u32 r, .int .u32 n, .int .u32 i][j]? = some u → ∀ W, Below W2.heap.size W2 W → W.cell? ⟨w.heap.size, j, none⟩ = some u := fun j u hu W hW => by
    rw [hW.cell (p := ⟨w.heap.size, j, none⟩) (show w.heap.size < W2.heap.size by omega), hcc, cell_of_row _ _ j _ _ (0, 0) hg0]; exact hu
  have q0 := hq 0 _ rfl
  have q1 := hq 1 _ rfl
  have q2 := hq 2 _ rfl
  have q3 := hq 3 _ rfl
  have q4 := hq 4 _ rfl
  have q5 := hq 5 _ rfl
  clear hq hg0 hg1 hcc hcb hB0 hcs
  go_enter Try.func23, Try.ntmps23
  go_wp2_with fail
  clear hcv
  refine wp_region_noPanic ?_
  refine wp_region_held_drew (S := fun W => Below W2.heap.size W2 W) (by kernel_rfl) (Below.refl _ W2).drew (fun hHeld => ?_)
  refine wpAnyH_take (i := 0) (v := .slice (some ⟨w.heap.size + 1, 0, none⟩) 8 8) rfl (by kernel_rfl) (by kernel_rfl) (by kernel_rfl) (fun _ _ _ h => h) (Or.inl ⟨by rfl, fun W hSw => by (try dsimp only at hSw); go_simp⟩) (by assumption) ?_
  simp only [List.getElem_toArray, List.getElem_cons_zero, List.getElem_cons_succ, Act.put, List.setIfInBounds_toArray, List.set_cons_zero, List.set_cons_succ]
  refine wpAnyH_take (i := 1) (v := .pointer (some ⟨w.heap.size, 0, none⟩)) rfl (by kernel_rfl) (by kernel_rfl) (by kernel_rfl) (fun _ _ _ h => h) (Or.inl ⟨by rfl, fun W hSw => by (try dsimp only at hSw); go_simp⟩) (by assumption) ?_
  simp only [List.getElem_toArray, List.getElem_cons_zero, List.getElem_cons_succ, Act.put, List.setIfInBounds_toArray, List.set_cons_zero, List.set_cons_succ]
  refine wpAnyH_take (i := 2) (v := .int .u64 s) rfl (by kernel_rfl) (by kernel_rfl) (by kernel_rfl) (fun _ _ _ h => h) (Or.inl ⟨by rfl, fun W hSw => by (try dsimp only at hSw); go_simp⟩) (by assumption) ?_
  simp only [List.getElem_toArray, List.getElem_cons_zero, List.getElem_cons_succ, Act.put, List.setIfInBounds_toArray, List.set_cons_zero, List.set_cons_succ]
  refine wpAnyH_take (i := 4) (v := .pointer (some ⟨w.heap.size, 1, none⟩)) rfl (by kernel_rfl) (by kernel_rfl) (by kernel_rfl) (fun _ _ _ h => h) (Or.inl ⟨by rfl, fun W hSw => by (try dsimp only at hSw); go_simp⟩) (by assumption) ?_
  simp only [List.getElem_toArray, List.getElem_cons_zero, List.getElem_cons_succ, Act.put, List.setIfInBounds_toArray, List.set_cons_zero, List.set_cons_succ]
  refine wpAnyH_take (i := 5) (v := .int .u64 v) rfl (by kernel_rfl) (by kernel_rfl) (by kernel_rfl) (fun _ _ _ h => h) (Or.inl ⟨by rfl, fun W hSw => by (try dsimp only at hSw); go_simp⟩) (by assumption) ?_
  simp only [List.getElem_toArray, List.getElem_cons_zero, List.getElem_cons_succ, Act.put, List.setIfInBounds_toArray, List.set_cons_zero, List.set_cons_succ]
  refine wpAnyH_take (i := 7) (v := .pointer (some ⟨w.heap.size, 2, none⟩)) rfl (by kernel_rfl) (by kernel_rfl) (by kernel_rfl) (fun _ _ _ h => h) (Or.inl ⟨by rfl, fun W hSw => by (try dsimp only at hSw); go_simp⟩) (by assumption) ?_
  simp only [List.getElem_toArray, List.getElem_cons_zero, List.getElem_cons_succ, Act.put, List.setIfInBounds_toArray, List.set_cons_zero, List.set_cons_succ]
  refine wpAnyH_take (i := 8) (v := .int .u64 l) rfl (by kernel_rfl) (by kernel_rfl) (by kernel_rfl) (fun _ _ _ h => h) (Or.inl ⟨by rfl, fun W hSw => by (try dsimp only at hSw); go_simp⟩) (by assumption) ?_
  simp only [List.getElem_toArray, List.getElem_cons_zero, List.getElem_cons_succ, Act.put, List.setIfInBounds_toArray, List.set_cons_zero, List.set_cons_succ]
  refine wpAnyH_ready (rs := [3]) (by kernel_rfl) (by simp) ?_
  refine AllReadyH.cons rfl (fun K hK => ?_) AllReadyH.nil
  go_simp
  go_wp2_with (go_at_call 31; refine (kfix_full _ (w.heap.size + 1) magicL s 8 (by omega) (by decide) (by decide) (by omega) (hrm.below (Below.refl _ W2).drew) (by decide) (by decide)).mono ?_; rintro e x1 ⟨u1, rfl, ho1, hb1⟩)
  have hS1 := (Below.refl W2.heap.size W2).drew.trans (hb1.mono (Nat.le_refl _))
  have hz1 := hb1.size
  refine hK.out _ _ hS1 (fun hHeld2 => ?_)
  clear hK K
  refine wpAnyH_ready (rs := [6]) (by kernel_rfl) (by simp) ?_
  refine AllReadyH.cons rfl (fun K hK => ?_) AllReadyH.nil
  go_simp
  go_wp2_with (go_at_call 31; refine (kfix_own x1 W2.heap.size _ _ v 8 (by omega) (by decide) (by decide) (by omega) ho1 (by exact hS1.size) (by rw [List.length_append]; omega)).mono ?_; rintro e x2 ⟨u2, rfl, ho2, hb2⟩)
  have hS2 := hS1.trans hb2
  have hz2 := hb2.size
  refine hK.out _ _ hS2 (fun hHeld2 => ?_)
  clear hK K
  refine wpAnyH_ready (rs := [9]) (by kernel_rfl) (by simp) ?_
  refine AllReadyH.cons rfl (fun K hK => ?_) AllReadyH.nil
  go_simp
  go_wp2_with (go_at_call 31; refine (kfix_own x2 W2.heap.size _ _ l 8 (by omega) (by decide) (by decide) (by omega) ho2 (by exact hS2.size) (by simp only [List.length_append]; omega)).mono ?_; rintro e x3 ⟨u3, rfl, ho3, hb3⟩)
  have hS3 := hS2.trans hb3
  have hz3 := hb3.size
  refine hK.out _ _ hS3 (fun hHeld2 => ?_)
  clear hK K
  refine wpAnyH_take (i := 10) (v := u3) rfl (by kernel_rfl) (by kernel_rfl) (by kernel_rfl) (fun _ _ _ h => h) (Or.inl ⟨by rfl, fun W hSw => by (try dsimp only at hSw); go_simp⟩) (by assumption) ?_
  simp only [List.getElem_toArray, List.getElem_cons_zero, List.getElem_cons_succ, Act.put, List.setIfInBounds_toArray, List.set_cons_zero, List.set_cons_succ]
  refine wpAnyH_done (by kernel_rfl) ?_ _
  refine NoPanic.normal ?_
  clear ho1 ho2 hb1 hb2 hb3 q0 q1 q2 hHeld2 hHeld hS1 hS2
  have ho3' : Own x3.drew W2.heap.size u3 (((magicL ++ fixB s.toNat 8) ++ fixB v.toNat 8) ++ fixB l.toNat 8) := ho3.below (Below.refl _ x3).drew
  go_wp2_with fail
  refine wp_region_noPanic ?_
  refine wp_region_held_drew (S := fun W => Below W2.heap.size W2 W) (by kernel_rfl) hS3.drew (fun hHeld => ?_)
  refine wpAnyH_take (i := 0) (v := u3) rfl (by kernel_rfl) (by kernel_rfl) (by kernel_rfl) (fun _ _ _ h => h) (Or.inl ⟨by rfl, fun W hSw => by (try dsimp only at hSw); go_simp⟩) (by assumption) ?_
  simp only [List.getElem_toArray, List.getElem_cons_zero, List.getElem_cons_succ, Act.put, List.setIfInBounds_toArray, List.set_cons_zero, List.set_cons_succ]
  refine wpAnyH_take (i := 1) (v := .pointer (some ⟨w.heap.size, 3, none⟩)) rfl (by kernel_rfl) (by kernel_rfl) (by kernel_rfl) (fun _ _ _ h => h) (Or.inl ⟨by rfl, fun W hSw => by (try dsimp only at hSw); go_simp⟩) (by assumption) ?_
  simp only [List.getElem_toArray, List.getElem_cons_zero, List.getElem_cons_succ, Act.put, List.setIfInBounds_toArray, List.set_cons_zero, List.set_cons_succ]
  refine wpAnyH_take (i := 2) (v := .int .u32 r) rfl (by kernel_rfl) (by kernel_rfl) (by kernel_rfl) (fun _ _ _ h => h) (Or.inl ⟨by rfl, fun W hSw => by (try dsimp only at hSw); go_simp⟩) (by assumption) ?_
  simp only [List.getElem_toArray, List.getElem_cons_zero, List.getElem_cons_succ, Act.put, List.setIfInBounds_toArray, List.set_cons_zero, List.set_cons_succ]
  refine wpAnyH_take (i := 3) (v := .int .u64 r) rfl (by kernel_rfl) (by kernel_rfl) (by kernel_rfl) (fun _ _ _ h => h) (Or.inl ⟨by rfl, fun W hSw => by (try dsimp only at hSw); (go_simp; rw [IntKind.wrap_u64]; omega)⟩) (by assumption) ?_
  simp only [List.getElem_toArray, List.getElem_cons_zero, List.getElem_cons_succ, Act.put, List.setIfInBounds_toArray, List.set_cons_zero, List.set_cons_succ]
  refine wpAnyH_take (i := 5) (v := .pointer (some ⟨w.heap.size, 4, none⟩)) rfl (by kernel_rfl) (by kernel_rfl) (by kernel_rfl) (fun _ _ _ h => h) (Or.inl ⟨by rfl, fun W hSw => by (try dsimp only at hSw); go_simp⟩) (by assumption) ?_
  simp only [List.getElem_toArray, List.getElem_cons_zero, List.getElem_cons_succ, Act.put, List.setIfInBounds_toArray, List.set_cons_zero, List.set_cons_succ]
  refine wpAnyH_take (i := 6) (v := .int .u32 n) rfl (by kernel_rfl) (by kernel_rfl) (by kernel_rfl) (fun _ _ _ h => h) (Or.inl ⟨by rfl, fun W hSw => by (try dsimp only at hSw); go_simp⟩) (by assumption) ?_
  simp only [List.getElem_toArray, List.getElem_cons_zero, List.getElem_cons_succ, Act.put, List.setIfInBounds_toArray, List.set_cons_zero, List.set_cons_succ]
  refine wpAnyH_take (i := 7) (v := .int .u64 n) rfl (by kernel_rfl) (by kernel_rfl) (by kernel_rfl) (fun _ _ _ h => h) (Or.inl ⟨by rfl, fun W hSw => by (try dsimp only at hSw); (go_simp; rw [IntKind.wrap_u64]; omega)⟩) (by assumption) ?_
  simp only [List.getElem_toArray, List.getElem_cons_zero, List.getElem_cons_succ, Act.put, List.setIfInBounds_toArray, List.set_cons_zero, List.set_cons_succ]
  refine wpAnyH_take (i := 9) (v := .pointer (some ⟨w.heap.size, 5, none⟩)) rfl (by kernel_rfl) (by kernel_rfl) (by kernel_rfl) (fun _ _ _ h => h) (Or.inl ⟨by rfl, fun W hSw => by (try dsimp only at hSw); go_simp⟩) (by assumption) ?_
  simp only [List.getElem_toArray, List.getElem_cons_zero, List.getElem_cons_succ, Act.put, List.setIfInBounds_toArray, List.set_cons_zero, List.set_cons_succ]
  refine wpAnyH_take (i := 10) (v := .int .u32 i) rfl (by kernel_rfl) (by kernel_rfl) (by kernel_rfl) (fun _ _ _ h => h) (Or.inl ⟨by rfl, fun W hSw => by (try dsimp only at hSw); go_simp⟩) (by assumption) ?_
  simp only [List.getElem_toArray, List.getElem_cons_zero, List.getElem_cons_succ, Act.put, List.setIfInBounds_toArray, List.set_cons_zero, List.set_cons_succ]
  refine wpAnyH_take (i := 11) (v := .int .u64 i) rfl (by kernel_rfl) (by kernel_rfl) (by kernel_rfl) (fun _ _ _ h => h) (Or.inl ⟨by rfl, fun W hSw => by (try dsimp only at hSw); (go_simp; rw [IntKind.wrap_u64]; omega)⟩) (by assumption) ?_
  simp only [List.getElem_toArray, List.getElem_cons_zero, List.getElem_cons_succ, Act.put, List.setIfInBounds_toArray, List.set_cons_zero, List.set_cons_succ]
  refine wpAnyH_ready (rs := [4]) (by kernel_rfl) (by simp) ?_
  refine AllReadyH.cons rfl (fun K hK => ?_) AllReadyH.nil
  go_simp
  go_wp2_with (go_at_call 31; refine (kfix_own x3.drew W2.heap.size _ _ r 4 (by omega) (by decide) (by decide) (by omega) ho3' (by exact hS3.size) (by simp only [List.length_append]; omega)).mono ?_; rintro e x4 ⟨u4, rfl, ho4, hb4⟩)
  have hS4 := hS3.drew.trans hb4
  have hz4 := hb4.size
  refine hK.out _ _ hS4 (fun hHeld2 => ?_)
  clear hK K
  refine wpAnyH_ready (rs := [8]) (by kernel_rfl) (by simp) ?_
  refine AllReadyH.cons rfl (fun K hK => ?_) AllReadyH.nil
  go_simp
  go_wp2_with (go_at_call 31; refine (kfix_own x4 W2.heap.size _ _ n 4 (by omega) (by decide) (by decide) (by omega) ho4 (by exact hS4.size) (by simp only [List.length_append]; omega)).mono ?_; rintro e x5 ⟨u5, rfl, ho5, hb5⟩)
  have hS5 := hS4.trans hb5
  have hz5 := hb5.size
  refine hK.out _ _ hS5 (fun hHeld2 => ?_)
  clear hK K
  refine wpAnyH_ready (rs := [12]) (by kernel_rfl) (by simp) ?_
  refine AllReadyH.cons rfl (fun K hK => ?_) AllReadyH.nil
  go_simp
  go_wp2_with (go_at_call 31; refine (kfix_own x5 W2.heap.size _ _ i 4 (by omega) (by decide) (by decide) (by omega) ho5 (by exact hS5.size) (by simp only [List.length_append]; omega)).mono ?_; rintro e x6 ⟨u6, rfl, ho6, hb6⟩)
  have hS6 := hS5.trans hb6
  have hz6 := hb6.size
  refine hK.out _ _ hS6 (fun hHeld2 => ?_)
  clear hK K
  rw [hraw] at ho6
  refine wpAnyH_ready (rs := [13]) (by kernel_rfl) (by simp) ?_
  refine AllReadyH.cons rfl (fun K hK => ?_) AllReadyH.nil
  go_simp
  go_wp2_with (go_at_call 30; refine (kblock_any x6 W2.heap.size _ _ ho6 hry (by exact hS6.size) (by omega)).mono ?_; rintro e x7 ⟨u7, rfl, ho7, hb7⟩)
  have hS7 := hS6.trans hb7
  have hz7 := hb7.size
  refine hK.out _ _ hS7 (fun hHeld2 => ?_)
  clear hK K
  refine wpAnyH_take (i := 14) (v := u7) rfl (by kernel_rfl) (by kernel_rfl) (by kernel_rfl) (fun _ _ _ h => h) (Or.inl ⟨by rfl, fun W hSw => by (try dsimp only at hSw); go_simp⟩) (by assumption) ?_
  simp only [List.getElem_toArray, List.getElem_cons_zero, List.getElem_cons_succ, Act.put, List.setIfInBounds_toArray, List.set_cons_zero, List.set_cons_succ]
  refine wpAnyH_done (by kernel_rfl) ?_ _
  refine NoPanic.normal ?_
  go_wp2
  go_ret
  exact ⟨_, rfl, ho7.mono (by omega), hB2.trans (hS7.mono (by omega))⟩

end Go.Proofs.Ytanbjdcffcnfgaa
