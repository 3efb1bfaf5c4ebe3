/- The chapter's examples. -/
import Derived.Test.YtjfhcbokfbbbhaaLiveMath
import Derived.Deep.RegionHeld3
namespace Go.Proofs.Ytjfhcbokfbbbhaa
open Go.RowKit Go.Maps
set_option linter.unusedVariables false

/-- full, in the words of a walk. -/
theorem law_full_rd (w : World) (v : Int) (h0 : 0 ≤ v) (h1 : v ≤ 255) :
    Calls Try.prog 11 #[.int .u8 v] w fun e w' => ∃ u, e = .returned u ∧ Rd w' u (fullB v) ∧ Below w.heap.size w w' := by
  refine (law_full w v h0 h1).mono ?_
  rintro e w' ⟨rfl, rfl⟩
  refine ⟨_, rfl, ?_, (Below.refl _ w).alloc (Nat.le_refl _) _⟩
  exact Rd.laid (fullB_len v).symm (by unfold maxLen; omega) (by simp [bytesV])

/-- What lies in none of the blocks that have turned reads as it did. -/
theorem rd_kept {w w' : World} {b off n cap : Nat} {xs : List Int} (h : Rd w (.slice (some ⟨b, off, none⟩) n cap) xs) {S : List Nat} (hS : Sole S w w') (hb : b ∉ S) : Rd w' (.slice (some ⟨b, off, none⟩) n cap) xs := by
  obtain ⟨a, cap', e, h1, h2, h3, h4⟩ := h
  cases e
  refine ⟨_, _, rfl, h1, h2, h3, fun hne => ?_⟩
  obtain ⟨b', off', e, hlt, hc⟩ := h4 hne
  cases e
  exact ⟨_, _, rfl, Nat.lt_of_lt_of_le hlt hS.size, fun i hi => (World.cell?_of_block (hS.block _ hlt hb)).trans (hc i hi)⟩

theorem law_disk_New {w : World} {n : Int} (h0 : 1 ≤ n) (h1 : n ≤ 1024) : Calls Try.prog 9 #[.int .i64 n] w fun e w' =>
    ∃ p bs bp, e = .returned (.tuple #[ptr p, .int .i64 0]) ∧ DiskAt w' p bs bp (freshSt n) ∧ Below w.heap.size w w' ∧ w.heap.size ≤ p ∧ w.heap.size ≤ bs ∧ w.heap.size ≤ bp := by
  refine (disk_New w n h0 h1).mono ?_
  rintro e w' ⟨rfl, hd, hb, hs⟩
  exact ⟨_, _, _, rfl, hd, hb, by omega, by omega, by omega⟩

set_option maxRecDepth 100000 in
set_option maxHeartbeats 8000000 in
theorem law_live (w : World) : Calls Try.prog 8 #[] w fun e w' => e = .returned (.bool true) ∧ Below w.heap.size w w' := by
  go_enter Try.func8, Try.ntmps8
  go_wp2_with fail
  refine (law_disk_New (w := w) (by decide) (by decide)).mono ?_
  rintro e w1 ⟨p, bs, bp, rfl, hd1, hb1, hp, hbs, hbp⟩
  have hd1 : DiskAt w1 p bs bp lv0 := hd1
  have hS3 : ∀ k ∈ [p, bs, bp], w.heap.size ≤ k := by simp [hp, hbs, hbp]
  have HS3 : Hid (∀ k ∈ [p, bs, bp], w.heap.size ≤ k) := hS3
  clear hS3
  unfold ptr
  go_wp2_with fail
  refine (law_full_rd _ 7 (by decide) (by decide)).mono ?_
  rintro e w2 ⟨u1, rfl, hr2, hb2⟩
  go_wp2_with fail
  have hw3 := disk_Write (hd1.below hb2) 1 (by decide) (by decide) hr2 (fullB_blk 7).2
  rw [lv_w1] at hw3
  dsimp only at hw3
  unfold ptr at hw3
  refine hw3.mono ?_
  rintro e w3 ⟨rfl, hd3, hS3⟩
  have hb03 : Below w.heap.size w w3 := hS3.belowOf (hb1.trans (hb2.mono hb1.size)) (Nat.le_trans hb1.size hb2.size) HS3.out
  clear hw3 hd1 hb1 hr2 hb2 hS3
  go_wp2_with fail
  refine (law_full_rd _ 9 (by decide) (by decide)).mono ?_
  rintro e w4 ⟨u2, rfl, hr4, hb4⟩
  go_wp2_with fail
  have hw5 := disk_Write (hd3.below hb4) 3 (by decide) (by decide) hr4 (fullB_blk 9).2
  rw [lv_w2] at hw5
  dsimp only at hw5
  unfold ptr at hw5
  refine hw5.mono ?_
  rintro e w5 ⟨rfl, hd5, hS5⟩
  have hb05 : Below w.heap.size w w5 := hS5.belowOf (hb03.trans (hb4.mono hb03.size)) (Nat.le_trans hb03.size hb4.size) HS3.out
  clear hw5 hd3 hr4 hb4 hS5 hb03
  go_wp2_with fail
  have hw6 := disk_Pending hd5
  rw [lv_keys] at hw6
  unfold ptr at hw6
  refine hw6.mono ?_
  rintro e w6 ⟨v6, rfl, hrow6, hb6⟩
  obtain ⟨a6, cap6, rfl, hcap, hcm, hcells⟩ := ints_shape hrow6
  obtain ⟨g6, rfl, hg6, hg6', hc6⟩ := hcells (by decide)
  have k6 := hc6 1 (by decide)
  have hd6 := hd5.below hb6
  have HG : Hid (p < w5.heap.size ∧ bs < w5.heap.size ∧ bp < w5.heap.size) := hd5.lt
  have hb06 := hb05.trans (hb6.mono hb05.size)
  clear hw6 hrow6 hcells hc6 hd5 hb05
  go_wp2_with fail
  have hw7 := disk_Cut_on hd6 ⟨#[0, 1]⟩ (by unfold maxLen; decide) lv2_on
  change Calls _ _ _ _ (fun e w' => _ ∧ DiskAt w' p bs bp lv3 ∧ _) at hw7
  unfold ptr at hw7
  refine hw7.mono ?_
  rintro e w7 ⟨rfl, hd7, hS7⟩
  have hb07 : Below w.heap.size w w7 := hS7.belowOf hb06 hb06.size HS3.out
  have k7 : w7.cell? ⟨g6, 1, none⟩ = some (.int .i64 3) := by
    refine (World.cell?_of_block (hS7.block g6 hg6' ?_)).trans k6
    have := hd6.lt
    have h5 := hb6.size
    have := HG.out
    simp; omega
  clear hw7 hd6 hS7 hb06 k6
  go_wp2_with fail
  have hw8 := disk_On hd7
  rw [lv3_off] at hw8
  unfold ptr at hw8
  refine hw8.mono ?_
  rintro e w0' ⟨rfl, rfl⟩
  clear hw8
  go_wp2_with fail
  have hw8 := disk_Power hd7
  change Calls _ _ _ _ (fun e w' => _ ∧ DiskAt w' p bs bp lv4 ∧ _) at hw8
  unfold ptr at hw8
  refine hw8.mono ?_
  rintro e w8 ⟨rfl, hd8, hS8⟩
  have hb08 : Below w.heap.size w w8 := hS8.belowOf hb07 hb07.size (fun k hk => HS3.out k (by simp at hk ⊢; omega))
  clear hw8
  go_wp2_with fail
  have hw9 := disk_Read_rd hd8 1 (by decide) (by decide) lv4_use1
  rw [lv4_see1] at hw9
  unfold ptr at hw9
  refine hw9.mono ?_
  rintro e w9 ⟨g9, rfl, hg9, hrow9, _, hb9⟩
  have k9 : w9.cell? ⟨g9, 1, none⟩ = some (.int .u8 0) := by rw [cell_of_row _ _ 1 _ _ (0, 0) hrow9]; simp only [bytesV, zeroB]; rfl
  have hg9' : g9 < w9.heap.size := (Array.getElem?_eq_some_iff.1 hrow9).1
  have hd9 := hd8.below hb9
  have hg6_8 : g6 < w8.heap.size := Nat.lt_of_lt_of_le (World.block_lt_of_cell? _ _ k7) hS8.size
  have hg6_9 : g6 < w9.heap.size := Nat.lt_of_lt_of_le hg6_8 hb9.size
  have hgp : g6 ≠ p := by have := HG.out; omega
  have HG3 : Hid (g6 ≠ p ∧ g6 ≠ bs ∧ g6 ≠ bp) := by have := HG.out; unfold Hid; omega
  have k69 : w9.cell? ⟨g6, 1, none⟩ = some (.int .i64 3) := by
    rw [hb9.cell (p := ⟨g6, 1, none⟩) hg6_8]
    refine (World.cell?_of_block (hS8.block g6 (World.block_lt_of_cell? _ _ k7) ?_)).trans k7
    simpa using hgp
  have hb09 := hb08.trans (hb9.mono hb08.size)
  have HA9 : Hid (g9 ≠ p ∧ g9 ≠ bs ∧ g9 ≠ bp) := by have := hd8.lt; unfold Hid; omega
  clear hw9 hrow9 hd8 hS8 hb08 k7 hb9 hd7 hb07
  go_wp2_with fail
  have hw10 := disk_Read_rd hd9 3 (by decide) (by decide) lv4_use3
  rw [lv4_see3] at hw10
  unfold ptr at hw10
  refine hw10.mono ?_
  rintro e w10 ⟨g10, rfl, hg10, _, hr10, hb10⟩
  have hd10 := hd9.below hb10
  have HA10 : Hid (g10 ≠ p ∧ g10 ≠ bs ∧ g10 ≠ bp) := by have := hd9.lt; unfold Hid; omega
  have hg6_10 : g6 < w10.heap.size := Nat.lt_of_lt_of_le hg6_9 hb10.size
  have hg9_10 : g9 < w10.heap.size := Nat.lt_of_lt_of_le hg9' hb10.size
  have k610 : w10.cell? ⟨g6, 1, none⟩ = some (.int .i64 3) := (hb10.cell (p := ⟨g6, 1, none⟩) hg6_9).trans k69
  have k910 : w10.cell? ⟨g9, 1, none⟩ = some (.int .u8 0) := (hb10.cell (p := ⟨g9, 1, none⟩) hg9').trans k9
  have hb010 := hb09.trans (hb10.mono hb09.size)
  clear hw10 hd9 hb09 k69 k9 hb10
  go_wp2_with fail
  have hw11 := disk_Arm hd10 1 (by decide) (by decide) ⟨#[]⟩ (Nat.zero_le _)
  change Calls _ _ _ _ (fun e w' => _ ∧ DiskAt w' p bs bp lv5 ∧ _) at hw11
  unfold ptr at hw11
  refine hw11.mono ?_
  rintro e w11 ⟨rfl, hd11, hS11, hs11⟩
  have hT11 : Sole [p, bs, bp] w10 w11 := hS11.mono (by simp)
  clear hw11 hS11
  go_wp2_with fail
  refine (law_full_rd _ 1 (by decide) (by decide)).mono ?_
  rintro e w12 ⟨u3, rfl, hr12, hb12⟩
  go_wp2_with fail
  have hw13 := disk_Write (hd11.below hb12) 2 (by decide) (by decide) hr12 (fullB_blk 1).2
  rw [lv_w6] at hw13
  dsimp only at hw13
  unfold ptr at hw13
  refine hw13.mono ?_
  rintro e w13 ⟨rfl, hd13, hS13⟩
  have hT13 : Sole [p, bs, bp] w10 w13 := (hT11.trans (Sole.of_below hb12 _)).trans hS13
  clear hw13 hd11 hb12 hr12 hT11 hS13 hs11
  go_wp2_with fail
  have hw14 := disk_Barrier hd13
  rw [lv_bar] at hw14
  dsimp only at hw14
  unfold ptr at hw14
  refine hw14.mono ?_
  rintro e w14 ⟨rfl, hd14, hS14⟩
  have hT14 : Sole [p, bs, bp] w10 w14 := hT13.trans hS14
  have hb014 : Below w.heap.size w w14 := hT14.belowOf hb010 hb010.size HS3.out
  have q6 : ∀ W, Below w14.heap.size w14 W → W.cell? ⟨g6, 1, none⟩ = some (.int .i64 3) := fun W hW => by
    rw [hW.cell (p := ⟨g6, 1, none⟩) (Nat.lt_of_lt_of_le hg6_10 hT14.size)]
    exact (World.cell?_of_block (hT14.block g6 hg6_10 (by have := HG3.out; simp; omega))).trans k610
  have q9 : ∀ W, Below w14.heap.size w14 W → W.cell? ⟨g9, 1, none⟩ = some (.int .u8 0) := fun W hW => by
    rw [hW.cell (p := ⟨g9, 1, none⟩) (Nat.lt_of_lt_of_le hg9_10 hT14.size)]
    exact (World.cell?_of_block (hT14.block g9 hg9_10 (by have := HA9.out; simp; omega))).trans k910
  have hr14 : Rd w14 (.slice (some ⟨g10, 0, none⟩) 512 512) (fullB 9) := rd_kept hr10 hT14 (by have := HA10.out; simp; omega)
  have q10 : ∀ W, Below w14.heap.size w14 W → (convert 33 9 (.slice (some ⟨g10, 0, none⟩) 512 512)).run Try.prog W = .ok (.string (strOfNums (fullB 9))) W := fun W hW => (hr14.below hW).conv
  have qOn : ∀ W, Below w14.heap.size w14 W → Calls Try.prog 26 #[.pointer (some ⟨p, 0, none⟩)] W fun e w' => e = .returned (.bool false) ∧ w' = W := fun W hW => by
    have := disk_On (hd14.below hW)
    rw [lv7_off] at this
    exact this
  have qWr : ∀ W, Below w14.heap.size w14 W → Calls Try.prog 27 #[.pointer (some ⟨p, 0, none⟩)] W fun e w' => e = .returned (.int .i64 3) ∧ w' = W := fun W hW => by
    have := disk_Writes (hd14.below hW)
    rw [lv7_writes] at this
    exact this
  clear hw14 hd13 hT13 hS14 hT14 hd14 hr14 hr10 hb010 k610 k910
  go_wp2_with fail
  refine wp_region_noPanic ?_
  go_region_held (fun W => Below w14.heap.size w14 W) (first | assumption | exact (Below.refl _ _).drew | exact keep2 (by assumption) (by assumption))
    (first
      | (go_at_call 11; refine (law_full_rd _ 9 (by decide) (by decide)).mono ?_; rintro e w15 ⟨u15, rfl, hr15, hb15⟩; have k15 := hr15.conv)
      | (go_at_call 26; refine (qOn _ (by assumption)).mono ?_; rintro e w16 ⟨rfl, rfl⟩)
      | (go_at_call 27; refine (qWr _ (by assumption)).mono ?_; rintro e w17 ⟨rfl, rfl⟩))
  refine NoPanic.normal ?_
  have hlast : Below w14.heap.size w14 w17 := by assumption
  clear q6 q9 q10 qOn qWr k15
  go_wp2_with fail
  go_ret
  exact ⟨rfl, hb014.trans (hlast.mono hb014.size)⟩

end Go.Proofs.Ytjfhcbokfbbbhaa
