/- The contract of the law's live. -/
import Derived.Test.YtmifpeocgikbeabDlLive0
import Derived.Test.YtmifpeocgikbeabDlN
namespace Go.Proofs.Ytmifpeocgikbeab
open Go.RowKit Go.Maps
set_option linter.unusedVariables false
set_option linter.unusedSimpArgs false
set_option maxRecDepth 100000

set_option maxHeartbeats 400000 in
theorem lrec_any (w : World) : Calls Try.prog 14 #[] w fun e w' => e = .returned (plV (recP 2)) ∧ Below w.heap.size w w' := by
  go_enter Try.func14, Try.ntmps14
  go_wp2
  exact ret_place rfl w.heap.size (recP 2) rfl (heap_alloc_new w _) rfl ⟨rfl, (Below.refl _ _).alloc (Nat.le_refl _) _⟩

theorem bv1 : Try.prog.built 37 [(0, plV (recP 2)), (2, .bool true), (4, .agg #[.int .i64 1, .int .i64 0, .int .i64 1, .int .i64 0])] = some (cgC lv1) := bt_fresh _ _ _ _ _
theorem bv2 : Try.prog.built 37 [(0, plV (recP 2)), (3, .int .i64 4), (4, .agg #[.int .i64 0, .int .i64 0, .int .i64 0, .int .i64 5])] = some (cgC lv2) := bt_fields _ _ _ _ _ _
theorem bv3 : Try.prog.built 37 [(0, plV (datP 2 0)), (1, .bool true)] = some (cgC lv3) := bt_gone _
theorem bv4 : Try.prog.built 37 [(0, plV (datP 2 0)), (6, .agg (ptC ⟨false, 1, zeroC⟩))] = some (cgC lv4) := bt_data _ ch_zero.1
theorem bv5 : Try.prog.built 37 [(0, plV (recP 2)), (1, .bool true)] = some (cgC lv5) := bt_gone _

theorem bv_i1 : Try.prog.built 32 [(0, .int .i64 1), (2, .int .i64 1)] = some #[.int .i64 1, .int .i64 0, .int .i64 1, .int .i64 0] := by kernel_rfl
theorem bv_i2 : Try.prog.built 32 [(3, .int .i64 5)] = some #[.int .i64 0, .int .i64 0, .int .i64 0, .int .i64 5] := by kernel_rfl

set_option maxHeartbeats 8000000 in
theorem live_any (w : World) : Calls Try.prog 4 #[] w fun e w' => e = .returned (.bool true) ∧ Below w.heap.size w w' := by
  have hz := zeroCg
  have al : ∀ (A : World) (o : Obj), Below A.heap.size A (A.alloc o) := fun A o => (Below.refl _ A).alloc (Nat.le_refl _) o
  go_enter Try.func4, Try.ntmps4
  go_wp2_with fail
  refine (DlN.new w 4 (by decide)).mono ?_
  rintro e w1 ⟨p, b, rfl, hD1, hnb⟩
  have HV0 := live_s0
  obtain ⟨s0, hs0⟩ : ∃ s0, newS 4 = s0 := ⟨_, rfl⟩
  rw [hs0] at hD1 HV0
  have hz0 : s0.pus.length ≤ 0 := by rw [← hs0]; exact Nat.le_refl _
  clear hs0
  obtain ⟨E1, HV1, z1⟩ := live_s1 HV0 hz0
  go_wp2_with fail
  refine (lrec_any _).mono ?_
  rintro e w2 ⟨rfl, hb2⟩
  have hD2 := hD1.below hb2
  go_wp2_with (refine wpList_buildBy rfl 37 _ rfl _ rfl _ (by kernel_rfl) _ bv1 ?_)
  refine (hD2.put lv1 lv1_ok (by rw [HV0.len]; omega) (by omega)).mono ?_
  rintro e w3 ⟨rfl, hD3, hK3⟩
  rw [E1]
  obtain ⟨s1, hs1⟩ : ∃ s1, putS s0 lv1 = s1 := ⟨_, rfl⟩
  rw [hs1] at hD3 HV1 z1
  obtain ⟨E2, HV2, z2⟩ := live_s2 HV1 z1
  go_wp2_with fail
  refine (lrec_any _).mono ?_
  rintro e w4 ⟨rfl, hb4⟩
  have hD4 := hD3.below hb4
  go_wp2_with (refine wpList_buildBy rfl 37 _ rfl _ rfl _ (by kernel_rfl) _ bv2 ?_)
  refine (hD4.put lv2 lv2_ok (by rw [HV1.len]; omega) (by omega)).mono ?_
  rintro e w5 ⟨rfl, hD5, hK5⟩
  rw [E2]
  obtain ⟨s2, hs2⟩ : ∃ s2, putS s1 lv2 = s2 := ⟨_, rfl⟩
  rw [hs2] at hD5 HV2 z2
  have G2 : Hid (wasX s2 (recP 2) = lv2') := by unfold Hid wasX; rw [HV2.a]; rfl
  have I2 : Hid (isX s2 (recP 2) = true) := by unfold Hid isX; rw [HV2.a]; rfl
  obtain ⟨E3, HV3, z3⟩ := live_s3 HV2 z2
  go_wp2_with fail
  refine (lrec_any _).mono ?_
  rintro e w6 ⟨rfl, hb6⟩
  have hD6 := hD5.below hb6
  go_wp2_with fail
  refine (hD6.get (recP 2) rec_ok).mono ?_
  rintro e w7 ⟨rfl, hb7⟩
  rw [G2.out, I2.out]
  have hD7 := hD6.below hb7
  have hn7 := CgAt.laid w7 cg0
  have hb8 := alloc_row (A := w7) (.cells (cgC cg0) 37) (cgC lv2')
  have hg8 := hn7.setRow lv2'
  obtain ⟨w8, hw8⟩ : ∃ w8, (w7.alloc (.cells (cgC cg0) 37)).setRow w7.heap.size (cgC lv2') = w8 := ⟨_, rfl⟩
  rw [hw8] at hb8 hg8
  have hD8 := hD7.below hb8
  have hz9 := heap_alloc_new w8 (.cells #[.int .u32 0, .int .i64 0, .string ⟨#[]⟩, .int .u32 0] 25)
  have hb9 := alloc_row (A := w8) (.cells #[.int .u32 0, .int .i64 0, .string ⟨#[]⟩, .int .u32 0] 25) (plCells (datP 2 0))
  have hq9 : PlAt ((w8.alloc (.cells #[.int .u32 0, .int .i64 0, .string ⟨#[]⟩, .int .u32 0] 25)).setRow w8.heap.size (plCells (datP 2 0))) w8.heap.size (datP 2 0) := ⟨setRow_heap _ _ _ _ _ _ hz9⟩
  obtain ⟨w9, hw9⟩ : ∃ w9, (w8.alloc (.cells #[.int .u32 0, .int .i64 0, .string ⟨#[]⟩, .int .u32 0] 25)).setRow w8.heap.size (plCells (datP 2 0)) = w9 := ⟨_, rfl⟩
  rw [hw9] at hb9 hq9
  have hD9 := hD8.below hb9
  have hg9 := hg8.below hb9
  have hl9 : Hid _ := hq9.load
  go_wp2_with (first
    | (refine wpList_storeG rfl _ _ rfl w7.heap.size lv2' cg0 rfl rfl len0 len0 hn7 ?_; rw [hw8])
    | (refine wpList_store_row rfl 25 _ _ rfl w8.heap.size (plCells (datP 2 0)) rfl rfl 25 _ hz9 (by kernel_rfl) rfl (by kernel_rfl) ?_; rw [hw9])
    | (refine wpList_loadG rfl 25 _ rfl _ rfl _ hl9.out ?_)
    | (refine wpList_buildBy rfl 37 _ rfl _ rfl _ (by kernel_rfl) _ bv3 ?_))
  refine (hD9.put lv3 lv3_ok (by rw [HV2.len]; omega) (by omega)).mono ?_
  rintro e w10 ⟨rfl, hD10, hK10⟩
  have keepC : ∀ {A B : World} {g : Nat} {c : Cg}, CgAt A g c → g ≠ b → KeepD b A B → CgAt B g c := fun {A B g c} h hne k => ⟨(k.block g h.lt (fun hd => by
    rcases hd with e | ⟨cs, fr, e⟩ | ⟨cs, fr, e⟩
    · exact hne e
    · rw [h.row] at e; cases e
    · rw [h.row] at e; cases e)).trans h.row⟩
  have keepP : ∀ {A B : World} {g : Nat} {c : Pl}, PlAt A g c → g ≠ b → KeepD b A B → PlAt B g c := fun {A B g c} h hne k => ⟨(k.block g h.lt (fun hd => by
    rcases hd with e | ⟨cs, fr, e⟩ | ⟨cs, fr, e⟩
    · exact hne e
    · rw [h.row] at e; cases e
    · rw [h.row] at e; cases e)).trans h.row⟩
  have nb7 : w7.heap.size ≠ b := fun e => by
    obtain ⟨v, hd, _⟩ := hD7.d; have := hd.mp.lt; omega
  have nb8 : w8.heap.size ≠ b := fun e => by
    obtain ⟨v, hd, _⟩ := hD8.d; have := hd.mp.lt; omega
  have hg10 := keepC hg9 nb7 hK10
  have hq10 := keepP hq9 nb8 hK10
  obtain ⟨s3, hs3⟩ : ∃ s3, putS s2 lv3 = s3 := ⟨_, rfl⟩
  rw [hs3] at hD10 HV3 z3
  obtain ⟨E4, HV4, z4⟩ := live_s4 HV3 z3
  have hl10 : Hid _ := hq10.load
  go_wp2_with (first
    | (refine wpList_loadG rfl 25 _ rfl _ rfl _ hl10.out ?_)
    | (refine wpList_buildBy rfl 35 _ rfl _ rfl [(1, .int .u32 1)] (by kernel_rfl) _ (built_mask 1) ?_)
    | (refine wpList_buildBy rfl 37 _ rfl _ rfl _ (by kernel_rfl) _ bv4 ?_))
  refine (hD10.put lv4 lv4_ok (by rw [HV3.len]; omega) (by omega)).mono ?_
  rintro e w11 ⟨rfl, hD11, hK11⟩
  have hg11 := keepC hg10 nb7 hK11
  have hq11 := keepP hq10 nb8 hK11
  obtain ⟨s4, hs4⟩ : ∃ s4, putS s3 lv4 = s4 := ⟨_, rfl⟩
  rw [hs4] at hD11 HV4 z4
  obtain ⟨E5, HV5, z5⟩ := live_s5 HV4 z4
  have G4 : Hid (wasX s4 (datP 2 0) = lv4') := by unfold Hid wasX; rw [HV4.b]; rfl
  have I4 : Hid (isX s4 (datP 2 0) = true) := by unfold Hid isX; rw [HV4.b]; rfl
  have hl11 : Hid _ := hq11.load
  go_wp2_with (refine wpList_loadG rfl 25 _ rfl _ rfl _ hl11.out ?_)
  refine (hD11.get (datP 2 0) dat_ok).mono ?_
  rintro e w12 ⟨rfl, hb12⟩
  rw [G4.out, I4.out]
  have hD12 := hD11.below hb12
  have hg12 := hg11.below hb12
  have hn12 := CgAt.laid w12 cg0
  have hb13 := alloc_row (A := w12) (.cells (cgC cg0) 37) (cgC lv4')
  have hh13 := hn12.setRow lv4'
  obtain ⟨w13, hw13⟩ : ∃ w13, (w12.alloc (.cells (cgC cg0) 37)).setRow w12.heap.size (cgC lv4') = w13 := ⟨_, rfl⟩
  rw [hw13] at hb13 hh13
  have hD13 := hD12.below hb13
  have hg13 := hg12.below hb13
  have nb12 : w12.heap.size ≠ b := fun e => by
    obtain ⟨v, hd, _⟩ := hD12.d; have := hd.mp.lt; omega
  go_wp2_with (refine wpList_storeG rfl _ _ rfl w12.heap.size lv4' cg0 rfl rfl ch_zero.1 len0 hn12 ?_; rw [hw13])
  refine (lrec_any _).mono ?_
  rintro e w14 ⟨rfl, hb14⟩
  have hD14 := hD13.below hb14
  have hg14 := hg13.below hb14
  have hh14 := hh13.below hb14
  go_wp2_with (refine wpList_buildBy rfl 37 _ rfl _ rfl _ (by kernel_rfl) _ bv5 ?_)
  refine (hD14.put lv5 lv5_ok (by rw [HV4.len]; omega) (by omega)).mono ?_
  rintro e w15 ⟨rfl, hD15, hK15⟩
  rw [E5]
  have hg15 := keepC hg14 nb7 hK15
  have hh15 := keepC hh14 nb12 hK15
  obtain ⟨s5, hs5⟩ : ∃ s5, putS s4 lv5 = s5 := ⟨_, rfl⟩
  rw [hs5] at hD15 HV5 z5
  obtain ⟨E6, HV6⟩ := live_s6 HV5
  go_wp2_with fail
  refine (lrec_any _).mono ?_
  rintro e w16 ⟨rfl, hb16⟩
  have hD16 := hD15.below hb16
  have hg16 := hg15.below hb16
  have hh16 := hh15.below hb16
  go_wp2_with (refine wpList_buildBy rfl 37 _ rfl _ rfl _ (by kernel_rfl) _ bv2 ?_)
  refine (hD16.put lv2 lv2_ok (by rw [HV5.len]; omega) (by omega)).mono ?_
  rintro e w17 ⟨rfl, hD17, hK17⟩
  rw [E6]
  rw [HV6] at hD17
  have hg17 := keepC hg16 nb7 hK17
  have hh17 := keepC hh16 nb12 hK17
  have a5 : w17.cell? ⟨w7.heap.size, 5, none⟩ = some (.bool true) := hg17.c5
  have a6 : w17.cell? ⟨w7.heap.size, 6, none⟩ = some (.int .i64 0) := hg17.c6
  have a10 : w17.cell? ⟨w7.heap.size, 10, none⟩ = some (.int .i64 5) := hg17.c10
  have b4 : w17.cell? ⟨w12.heap.size, 4, none⟩ = some (.bool false) := hh17.c4
  have b12 : w17.cell? ⟨w12.heap.size, 12, none⟩ = some (.bool true) := hh17.c12
  have hct := hD17.count
  rw [HV5.len] at hct
  go_wp2_with fail
  refine hct.mono ?_
  rintro e w18 ⟨rfl, rfl⟩
  go_wp2
  go_ret
  exact ⟨rfl, hD17.bel⟩

end Go.Proofs.Ytmifpeocgikbeab
