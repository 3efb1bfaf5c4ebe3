/- CgRef, CgRef2: in one text. -/
import Derived.Test.YtiplhhaehbjghaaGreatC1
import Derived.Test.YtiplhhaehbjghaaGreatRP
import Derived.Test.YtiplhhaehbjghaaGreatIJ
import Derived.Test.YtiplhhaehbjghaaGreatPF
namespace Go.Proofs.YtiplhhaehbjghaaGreat
open Go.RowKit
set_option linter.unusedVariables false
set_option maxHeartbeats 32000000
set_option maxRecDepth 100000
set_option linter.unusedSimpArgs false
def plC (p : Pl) : Cg := ⟨p, false, false, 0, 0, 0, 0, 0, 0, pt0⟩
theorem bt_pl (p : Pl) : Tryz.prog.built 119 [(0, plV p)] = some (cgC (plC p)) := built_pl p
theorem ne_cgs (w : World) {x y : Cg} (hx : x.pt.bytes.length = 32) (hy : y.pt.bytes.length = 32) : (binOp .neq 119 (.agg (cgC x)) (.agg (cgC y))).run Tryz.prog w = .ok (.bool (!cgEq x y)) w := by
 rw [run_neq_struct, equal_cgs w 9996 hx hy]
 rfl
theorem ckE_no {c : Cg} (hp : plOk c.pl = false) : ckE c = 1 := by unfold ckE ckOk; rw [hp]; rfl
theorem ckE_gone {c : Cg} (hp : plOk c.pl = true) (hg : c.gone = true) : ckE c = if cgEq c (goneC c.pl) then 0 else 1 := by unfold ckE ckOk; rw [hp, hg]; rfl
theorem ckE_rec {c : Cg} (hp : plOk c.pl = true) (hg : c.gone = false) (hk : c.pl.part = 1) : ckE c = if recOk c then 0 else 1 := by unfold ckE ckOk; rw [hp, hg, hk]; rfl
theorem ckE_ent {c : Cg} (hp : plOk c.pl = true) (hg : c.gone = false) (hk : c.pl.part = 2) : ckE c = if entOk c then 0 else 1 := by unfold ckE ckOk; rw [hp, hg, hk]; rfl
theorem ckE_dat {c : Cg} (hp : plOk c.pl = true) (hg : c.gone = false) (h1 : c.pl.part ≠ 1) (h2 : c.pl.part ≠ 2) : ckE c = if datOk c then 0 else 1 := by unfold ckE ckOk; rw [hp, hg, if_neg h1, if_neg h2]; rfl
theorem recOk_f {c : Cg} (h : c.fresh = true) : recOk c = (cgEq c (freshC c.pl c.kind c.mode c.links c.size) && inoOk c.kind c.mode c.links c.size) := by unfold recOk; rw [h]; rfl
theorem recOk_n {c : Cg} (h : c.fresh = false) : recOk c = fieldsOk c := by unfold recOk; rw [h]; rfl
theorem fieldsOk_lo {c : Cg} (h : c.fields < 1) : fieldsOk c = false := by unfold fieldsOk; rw [if_pos h]
theorem fieldsOk_hi {c : Cg} (h : 7 < c.fields) : fieldsOk c = false := by unfold fieldsOk; rw [if_neg (show ¬ c.fields < 1 by omega), if_pos h]
theorem fieldsOk_in {c : Cg} (h1 : 1 ≤ c.fields) (h7 : c.fields ≤ 7) : fieldsOk c = (cgEq c (fieldsC c.pl c.fields 0 (wM c 0) (wL c 0) (wS c 0)) && inoOk 1 (wM c 0) (wL c 1) (wS c 0)) := by unfold fieldsOk; rw [if_neg (show ¬ c.fields < 1 by omega), if_neg (show ¬ c.fields > 7 by omega)]
structure ChkS (w W : World) (c o : Cg) : Prop where
 c : CgAt W w.heap.size c
 o : CgAt W (w.heap.size + 1) o
 bel : Below w.heap.size w W
theorem ChkS.below {w W W' : World} {c o : Cg} (h : ChkS w W c o) (hb : Below W.heap.size W W') : ChkS w W' c o := ⟨h.c.below hb, h.o.below hb, h.bel.trans (hb.mono h.bel.size)⟩
theorem ChkS.setR {w W : World} {c o : Cg} (h : ChkS w W c o) (z : Cg) : ChkS w (W.setRow (w.heap.size + 1) (cgC z)) c z := ⟨h.c.apartR _ _ (by omega), h.o.setRow z, below_setRow h.bel (by omega) _⟩
theorem ChkS.setC {w W : World} {c o : Cg} (h : ChkS w W c o) (i : Nat) (v : Value) (z : Cg) (hz : (cgL o).set i v = cgL z) : ChkS w (W.setCell ⟨w.heap.size + 1, i, none⟩ v) c z := ⟨h.c.apart _ _ _ (by omega), h.o.set i v z hz, h.bel.setCell (by dsimp only; omega) _⟩
theorem chk_laid (w : World) (c : Cg) : ChkS w ((w.alloc (.cells (cgC c) 119)).alloc (.cells (cgC cg0) 119)) c cg0 := by
 have h2 := CgAt.laid (w.alloc (.cells (cgC c) 119)) cg0
 rw [World.size_alloc] at h2
 exact ⟨(CgAt.laid w c).below ((Below.refl _ _).alloc (Nat.le_refl _) _), h2, ((Below.refl _ w).alloc (Nat.le_refl _) _).alloc (by simp) _⟩
theorem rck_gone_t (w : World) (c : Cg) (h : CgOk c) (hp : plOk c.pl = true) (hg : c.gone = true) : Calls Tryz.prog 142 #[.agg (cgC c)] w fun e w' => e = .returned (.int .i64 (ckE c)) ∧ Below w.heap.size w w' := by
 have HL : Hid (c.pt.bytes.length = 32) := h.pt.ch.1
 have hz := zeroCg
 have hp0 : Hid _ := (CgAt.laid w c).loadP
 have hS2 := chk_laid w c
 obtain ⟨w2, hw2⟩ : ∃ w2, ((w.alloc (.cells (cgC c) 119)).alloc (.cells (cgC cg0) 119)) = w2 := ⟨_, rfl⟩
 rw [hw2] at hS2
 have hS3 := hS2.setR (plC c.pl)
 obtain ⟨w3, hw3⟩ : ∃ w3, w2.setRow (w.heap.size + 1) (cgC (plC c.pl)) = w3 := ⟨_, rfl⟩
 rw [hw3] at hS3
 have hp3 : Hid _ := hS3.c.loadP
 go_enter Tryz.func142, Tryz.ntmps142
 go_wp2_with (first
  | (refine wpList_loadG rfl 114 _ rfl _ rfl _ hp0.out ?_)
  | (refine wpList_loadG rfl 114 _ rfl _ rfl _ hp3.out ?_)
  | (refine wpList_buildBy rfl 119 _ rfl _ rfl [(0, plV c.pl)] (by kernel_rfl) _ (bt_pl c.pl) ?_)
  | (refine wpList_storeG rfl _ _ rfl (w.heap.size + 1) (plC c.pl) cg0 rfl rfl len0 len0 hS2.o ?_; rw [hw3]))
 refine (refCheck_any _ c.pl h.pl).mono ?_
 rintro e w4 ⟨rfl, hb4⟩
 rw [plE_0 hp]
 have hS4 := hS3.below hb4
 have d4hS4 := hS4.c.c4
 rw [hg] at d4hS4
 have f4 := hS4.o.frozen 4
 have o4 := hS4.o.c4
 have hS5 := hS4.setC 4 (.bool true) (goneC c.pl) rfl
 obtain ⟨w5, hw5⟩ : ∃ w5, w4.setCell ⟨w.heap.size + 1, 4, none⟩ (.bool true) = w5 := ⟨_, rfl⟩
 rw [hw5] at hS5
 have hlc : Hid _ := hS5.c.load HL.out
 have hlo : Hid _ := hS5.o.load len0
 have hne := fun W => ne_cgs W (x := c) (y := (goneC c.pl)) HL.out len0
 cases hq : cgEq c (goneC c.pl)
 ·rw [hq] at hne
  go_wp2_with (first
   | (refine wpList_loadG rfl 119 _ rfl _ rfl _ hlc.out ?_)
   | (refine wpList_loadG rfl 119 _ rfl _ rfl _ hlo.out ?_))
  go_ret
  exact ⟨by rw [ckE_gone hp hg, hq]; rfl, hS5.bel⟩
 ·rw [hq] at hne
  go_wp2_with (first
   | (refine wpList_loadG rfl 119 _ rfl _ rfl _ hlc.out ?_)
   | (refine wpList_loadG rfl 119 _ rfl _ rfl _ hlo.out ?_))
  go_ret
  exact ⟨by rw [ckE_gone hp hg, hq]; rfl, hS5.bel⟩
theorem rck_gone_f (w : World) (c : Cg) (h : CgOk c) (hp : plOk c.pl = false) (hg : c.gone = true) : Calls Tryz.prog 142 #[.agg (cgC c)] w fun e w' => e = .returned (.int .i64 (ckE c)) ∧ Below w.heap.size w w' := by
 have HL : Hid (c.pt.bytes.length = 32) := h.pt.ch.1
 have hz := zeroCg
 have hp0 : Hid _ := (CgAt.laid w c).loadP
 have hS2 := chk_laid w c
 obtain ⟨w2, hw2⟩ : ∃ w2, ((w.alloc (.cells (cgC c) 119)).alloc (.cells (cgC cg0) 119)) = w2 := ⟨_, rfl⟩
 rw [hw2] at hS2
 have hS3 := hS2.setR (plC c.pl)
 obtain ⟨w3, hw3⟩ : ∃ w3, w2.setRow (w.heap.size + 1) (cgC (plC c.pl)) = w3 := ⟨_, rfl⟩
 rw [hw3] at hS3
 have hp3 : Hid _ := hS3.c.loadP
 go_enter Tryz.func142, Tryz.ntmps142
 go_wp2_with (first
  | (refine wpList_loadG rfl 114 _ rfl _ rfl _ hp0.out ?_)
  | (refine wpList_loadG rfl 114 _ rfl _ rfl _ hp3.out ?_)
  | (refine wpList_buildBy rfl 119 _ rfl _ rfl [(0, plV c.pl)] (by kernel_rfl) _ (bt_pl c.pl) ?_)
  | (refine wpList_storeG rfl _ _ rfl (w.heap.size + 1) (plC c.pl) cg0 rfl rfl len0 len0 hS2.o ?_; rw [hw3]))
 refine (refCheck_any _ c.pl h.pl).mono ?_
 rintro e w4 ⟨rfl, hb4⟩
 rw [plE_30 hp]
 have hS4 := hS3.below hb4
 have d4hS4 := hS4.c.c4
 rw [hg] at d4hS4
 have f4 := hS4.o.frozen 4
 have o4 := hS4.o.c4
 have hS5 := hS4.setC 4 (.bool true) (goneC c.pl) rfl
 obtain ⟨w5, hw5⟩ : ∃ w5, w4.setCell ⟨w.heap.size + 1, 4, none⟩ (.bool true) = w5 := ⟨_, rfl⟩
 rw [hw5] at hS5
 go_wp2
 go_ret
 exact ⟨by rw [ckE_no hp]; rfl, hS5.bel⟩
theorem rck_fresh_t (w : World) (c : Cg) (h : CgOk c) (hp : plOk c.pl = true) (hg : c.gone = false) (hk : c.pl.part = 1) (hf : c.fresh = true) : Calls Tryz.prog 142 #[.agg (cgC c)] w fun e w' => e = .returned (.int .i64 (ckE c)) ∧ Below w.heap.size w w' := by
 have HL : Hid (c.pt.bytes.length = 32) := h.pt.ch.1
 have hz := zeroCg
 have hp0 : Hid _ := (CgAt.laid w c).loadP
 have hS2 := chk_laid w c
 obtain ⟨w2, hw2⟩ : ∃ w2, ((w.alloc (.cells (cgC c) 119)).alloc (.cells (cgC cg0) 119)) = w2 := ⟨_, rfl⟩
 rw [hw2] at hS2
 have hS3 := hS2.setR (plC c.pl)
 obtain ⟨w3, hw3⟩ : ∃ w3, w2.setRow (w.heap.size + 1) (cgC (plC c.pl)) = w3 := ⟨_, rfl⟩
 rw [hw3] at hS3
 have hp3 : Hid _ := hS3.c.loadP
 go_enter Tryz.func142, Tryz.ntmps142
 go_wp2_with (first
  | (refine wpList_loadG rfl 114 _ rfl _ rfl _ hp0.out ?_)
  | (refine wpList_loadG rfl 114 _ rfl _ rfl _ hp3.out ?_)
  | (refine wpList_buildBy rfl 119 _ rfl _ rfl [(0, plV c.pl)] (by kernel_rfl) _ (bt_pl c.pl) ?_)
  | (refine wpList_storeG rfl _ _ rfl (w.heap.size + 1) (plC c.pl) cg0 rfl rfl len0 len0 hS2.o ?_; rw [hw3]))
 refine (refCheck_any _ c.pl h.pl).mono ?_
 rintro e w4 ⟨rfl, hb4⟩
 rw [plE_0 hp]
 have hS4 := hS3.below hb4
 have d4hS4 := hS4.c.c4
 rw [hg] at d4hS4
 have d1hS4 := hS4.c.c1
 rw [hk] at d1hS4
 have d5hS4 := hS4.c.c5
 rw [hf] at d5hS4
 have f5 := hS4.o.frozen 5
 have o5 := hS4.o.c5
 have hS5 := hS4.setC 5 (.bool true) (freshC c.pl 0 0 0 0) rfl
 obtain ⟨w5, hw5⟩ : ∃ w5, w4.setCell ⟨w.heap.size + 1, 5, none⟩ (.bool true) = w5 := ⟨_, rfl⟩
 rw [hw5] at hS5
 have hi5 : Hid _ := hS5.c.loadI
 have hS6 := hS5.setR (freshC c.pl c.kind c.mode c.links c.size)
 obtain ⟨w6, hw6⟩ : ∃ w6, w5.setRow (w.heap.size + 1) (cgC (freshC c.pl c.kind c.mode c.links c.size)) = w6 := ⟨_, rfl⟩
 rw [hw6] at hS6
 have hi6 : Hid _ := hS6.c.loadI
 go_wp2_with (first
  | (refine wpList_loadG rfl 91 _ rfl _ rfl _ hi5.out ?_)
  | (refine wpList_storeAt rfl 91 _ _ rfl (w.heap.size + 1) 7 4 _ (freshC c.pl c.kind c.mode c.links c.size) (freshC c.pl 0 0 0 0) rfl rfl rfl (by kernel_rfl) (by decide) (by kernel_rfl) len0 hS5.o rfl ?_; rw [hw6])
  | (refine wpList_loadG rfl 91 _ rfl _ rfl _ hi6.out ?_))
 refine (irefCheck_any _ c.kind c.mode c.links c.size).mono ?_
 rintro e w7 ⟨rfl, hb7⟩
 have hS7 := hS6.below hb7
 cases hi : inoOk c.kind c.mode c.links c.size
 ·rw [inoE_11 hi]
  go_wp2
  go_ret
  exact ⟨by rw [ckE_rec hp hg hk, recOk_f hf, hi, Bool.and_false]; rfl, hS7.bel⟩
 ·rw [inoE_0 hi]
  have hlc : Hid _ := hS7.c.load HL.out
  have hlo : Hid _ := hS7.o.load len0
  have hne := fun W => ne_cgs W (x := c) (y := (freshC c.pl c.kind c.mode c.links c.size)) HL.out len0
  cases hq : cgEq c (freshC c.pl c.kind c.mode c.links c.size)
  ·rw [hq] at hne
   go_wp2_with (first
    | (refine wpList_loadG rfl 119 _ rfl _ rfl _ hlc.out ?_)
    | (refine wpList_loadG rfl 119 _ rfl _ rfl _ hlo.out ?_))
   go_ret
   exact ⟨by rw [ckE_rec hp hg hk, recOk_f hf, hi, hq]; rfl, hS7.bel⟩
  ·rw [hq] at hne
   go_wp2_with (first
    | (refine wpList_loadG rfl 119 _ rfl _ rfl _ hlc.out ?_)
    | (refine wpList_loadG rfl 119 _ rfl _ rfl _ hlo.out ?_))
   go_ret
   exact ⟨by rw [ckE_rec hp hg hk, recOk_f hf, hi, hq]; rfl, hS7.bel⟩
theorem rck_fresh_f (w : World) (c : Cg) (h : CgOk c) (hp : plOk c.pl = false) (hg : c.gone = false) (hk : c.pl.part = 1) (hf : c.fresh = true) : Calls Tryz.prog 142 #[.agg (cgC c)] w fun e w' => e = .returned (.int .i64 (ckE c)) ∧ Below w.heap.size w w' := by
 have HL : Hid (c.pt.bytes.length = 32) := h.pt.ch.1
 have hz := zeroCg
 have hp0 : Hid _ := (CgAt.laid w c).loadP
 have hS2 := chk_laid w c
 obtain ⟨w2, hw2⟩ : ∃ w2, ((w.alloc (.cells (cgC c) 119)).alloc (.cells (cgC cg0) 119)) = w2 := ⟨_, rfl⟩
 rw [hw2] at hS2
 have hS3 := hS2.setR (plC c.pl)
 obtain ⟨w3, hw3⟩ : ∃ w3, w2.setRow (w.heap.size + 1) (cgC (plC c.pl)) = w3 := ⟨_, rfl⟩
 rw [hw3] at hS3
 have hp3 : Hid _ := hS3.c.loadP
 go_enter Tryz.func142, Tryz.ntmps142
 go_wp2_with (first
  | (refine wpList_loadG rfl 114 _ rfl _ rfl _ hp0.out ?_)
  | (refine wpList_loadG rfl 114 _ rfl _ rfl _ hp3.out ?_)
  | (refine wpList_buildBy rfl 119 _ rfl _ rfl [(0, plV c.pl)] (by kernel_rfl) _ (bt_pl c.pl) ?_)
  | (refine wpList_storeG rfl _ _ rfl (w.heap.size + 1) (plC c.pl) cg0 rfl rfl len0 len0 hS2.o ?_; rw [hw3]))
 refine (refCheck_any _ c.pl h.pl).mono ?_
 rintro e w4 ⟨rfl, hb4⟩
 rw [plE_30 hp]
 have hS4 := hS3.below hb4
 have d4hS4 := hS4.c.c4
 rw [hg] at d4hS4
 have d1hS4 := hS4.c.c1
 rw [hk] at d1hS4
 have d5hS4 := hS4.c.c5
 rw [hf] at d5hS4
 have f5 := hS4.o.frozen 5
 have o5 := hS4.o.c5
 have hS5 := hS4.setC 5 (.bool true) (freshC c.pl 0 0 0 0) rfl
 obtain ⟨w5, hw5⟩ : ∃ w5, w4.setCell ⟨w.heap.size + 1, 5, none⟩ (.bool true) = w5 := ⟨_, rfl⟩
 rw [hw5] at hS5
 have hi5 : Hid _ := hS5.c.loadI
 have hS6 := hS5.setR (freshC c.pl c.kind c.mode c.links c.size)
 obtain ⟨w6, hw6⟩ : ∃ w6, w5.setRow (w.heap.size + 1) (cgC (freshC c.pl c.kind c.mode c.links c.size)) = w6 := ⟨_, rfl⟩
 rw [hw6] at hS6
 have hi6 : Hid _ := hS6.c.loadI
 go_wp2_with (first  | (refine wpList_loadG rfl 91 _ rfl _ rfl _ hi5.out ?_) | (refine wpList_storeAt rfl 91 _ _ rfl (w.heap.size + 1) 7 4 _ (freshC c.pl c.kind c.mode c.links c.size) (freshC c.pl 0 0 0 0) rfl rfl rfl (by kernel_rfl) (by decide) (by kernel_rfl) len0 hS5.o rfl ?_; rw [hw6]))
 go_ret
 exact ⟨by rw [ckE_no hp]; rfl, hS6.bel⟩
theorem rck_fields_t (w : World) (c : Cg) (h : CgOk c) (hp : plOk c.pl = true) (hg : c.gone = false) (hk : c.pl.part = 1) (hf : c.fresh = false) : Calls Tryz.prog 142 #[.agg (cgC c)] w fun e w' => e = .returned (.int .i64 (ckE c)) ∧ Below w.heap.size w w' := by
 have HL : Hid (c.pt.bytes.length = 32) := h.pt.ch.1
 have hz := zeroCg
 have hp0 : Hid _ := (CgAt.laid w c).loadP
 have hS2 := chk_laid w c
 obtain ⟨w2, hw2⟩ : ∃ w2, ((w.alloc (.cells (cgC c) 119)).alloc (.cells (cgC cg0) 119)) = w2 := ⟨_, rfl⟩
 rw [hw2] at hS2
 have hS3 := hS2.setR (plC c.pl)
 obtain ⟨w3, hw3⟩ : ∃ w3, w2.setRow (w.heap.size + 1) (cgC (plC c.pl)) = w3 := ⟨_, rfl⟩
 rw [hw3] at hS3
 have hp3 : Hid _ := hS3.c.loadP
 go_enter Tryz.func142, Tryz.ntmps142
 go_wp2_with (first
  | (refine wpList_loadG rfl 114 _ rfl _ rfl _ hp0.out ?_)
  | (refine wpList_loadG rfl 114 _ rfl _ rfl _ hp3.out ?_)
  | (refine wpList_buildBy rfl 119 _ rfl _ rfl [(0, plV c.pl)] (by kernel_rfl) _ (bt_pl c.pl) ?_)
  | (refine wpList_storeG rfl _ _ rfl (w.heap.size + 1) (plC c.pl) cg0 rfl rfl len0 len0 hS2.o ?_; rw [hw3]))
 refine (refCheck_any _ c.pl h.pl).mono ?_
 rintro e w4 ⟨rfl, hb4⟩
 rw [plE_0 hp]
 have hS4 := hS3.below hb4
 have d4hS4 := hS4.c.c4
 rw [hg] at d4hS4
 have d1hS4 := hS4.c.c1
 rw [hk] at d1hS4
 have d5hS4 := hS4.c.c5
 rw [hf] at d5hS4
 have d6hS4 := hS4.c.c6
 have f6 := hS4.o.frozen 6
 have o6 := hS4.o.c6
 have hS5 := hS4.setC 6 (.int .i64 c.fields) (fieldsC c.pl c.fields 0 0 0 0) rfl
 obtain ⟨w5, hw5⟩ : ∃ w5, w4.setCell ⟨w.heap.size + 1, 6, none⟩ (.int .i64 c.fields) = w5 := ⟨_, rfl⟩
 rw [hw5] at hS5
 have hl5 : Hid _ := hS5.c.load HL.out
 go_wp2_with (refine wpList_loadG rfl 119 _ rfl _ rfl _ hl5.out ?_)
 refine (rwith_any _ 0 0 0 0 c).mono ?_
 rintro e w6 ⟨rfl, hb6⟩
 have hS6 := hS5.below hb6
 have hS7 := hS6.setR (fieldsC c.pl c.fields 0 (wM c 0) (wL c 0) (wS c 0))
 obtain ⟨w7, hw7⟩ : ∃ w7, w6.setRow (w.heap.size + 1) (cgC (fieldsC c.pl c.fields 0 (wM c 0) (wL c 0) (wS c 0))) = w7 := ⟨_, rfl⟩
 rw [hw7] at hS7
 have hl7 : Hid _ := hS7.c.load HL.out
 go_wp2_with (first
  | (refine wpList_storeAt rfl 91 _ _ rfl (w.heap.size + 1) 7 4 _ (fieldsC c.pl c.fields 0 (wM c 0) (wL c 0) (wS c 0)) (fieldsC c.pl c.fields 0 0 0 0) rfl rfl rfl (by kernel_rfl) (by decide) (by kernel_rfl) len0 hS6.o rfl ?_; rw [hw7])
  | (refine wpList_loadG rfl 119 _ rfl _ rfl _ hl7.out ?_))
 refine (rwith_any _ 1 0 1 0 c).mono ?_
 rintro e w8 ⟨rfl, hb8⟩
 have hS8 := hS7.below hb8
 have al8 : ∀ o, Below w8.heap.size w8 (w8.alloc o) := fun o => (Below.refl _ _).alloc (Nat.le_refl _) o
 have hS9 := hS8.below (al8 (.cells #[.int .i64 1, .int .i64 (wM c 0), .int .i64 (wL c 1), .int .i64 (wS c 0)] 91))
 have hj9 : InRow (w8.alloc (.cells #[.int .i64 1, .int .i64 (wM c 0), .int .i64 (wL c 1), .int .i64 (wS c 0)] 91)) w8.heap.size 1 (wM c 0) (wL c 1) (wS c 0) := ⟨heap_alloc_new _ _⟩
 obtain ⟨w9, hw9⟩ : ∃ w9, w8.alloc (.cells #[.int .i64 1, .int .i64 (wM c 0), .int .i64 (wL c 1), .int .i64 (wS c 0)] 91) = w9 := ⟨_, rfl⟩
 rw [hw9] at hS9 hj9
 have d6 := hS9.c.c6
 have hj : Hid _ := hj9.load
 by_cases h1 : c.fields < 1
 ·have h1' : ¬ (1 ≤ c.fields) := by omega
  go_wp2
  go_ret
  exact ⟨by rw [ckE_rec hp hg hk, recOk_n hf, fieldsOk_lo (by omega)]; rfl, hS9.bel⟩
 have h1' : 1 ≤ c.fields := by omega
 by_cases h7 : c.fields > 7
 ·have h7' : ¬ (c.fields ≤ 7) := by omega
  go_wp2
  go_ret
  exact ⟨by rw [ckE_rec hp hg hk, recOk_n hf, fieldsOk_hi (by omega)]; rfl, hS9.bel⟩
 have h7' : c.fields ≤ 7 := by omega
 have HX : Hid (ckE c = if (cgEq c (fieldsC c.pl c.fields 0 (wM c 0) (wL c 0) (wS c 0)) && inoOk 1 (wM c 0) (wL c 1) (wS c 0)) then 0 else 1) := by
  unfold Hid
  rw [ckE_rec hp hg hk, recOk_n hf, fieldsOk_in h1' h7']
 go_wp2_with (refine wpList_loadG rfl 91 _ rfl _ rfl _ hj.out ?_)
 refine (irefCheck_any _ 1 (wM c 0) (wL c 1) (wS c 0)).mono ?_
 rintro e w10 ⟨rfl, hb10⟩
 have hS10 := hS9.below hb10
 cases hi : inoOk 1 (wM c 0) (wL c 1) (wS c 0)
 ·rw [inoE_11 hi]
  go_wp2
  go_ret
  exact ⟨by rw [HX.out, hi, Bool.and_false]; rfl, hS10.bel⟩
 ·rw [inoE_0 hi]
  have hlc : Hid _ := hS10.c.load HL.out
  have hlo : Hid _ := hS10.o.load len0
  have hne := fun W => ne_cgs W (x := c) (y := (fieldsC c.pl c.fields 0 (wM c 0) (wL c 0) (wS c 0))) HL.out len0
  cases hq : cgEq c (fieldsC c.pl c.fields 0 (wM c 0) (wL c 0) (wS c 0))
  ·rw [hq] at hne
   go_wp2_with (first
    | (refine wpList_loadG rfl 119 _ rfl _ rfl _ hlc.out ?_)
    | (refine wpList_loadG rfl 119 _ rfl _ rfl _ hlo.out ?_))
   go_ret
   exact ⟨by rw [HX.out, hi, hq]; rfl, hS10.bel⟩
  ·rw [hq] at hne
   go_wp2_with (first
    | (refine wpList_loadG rfl 119 _ rfl _ rfl _ hlc.out ?_)
    | (refine wpList_loadG rfl 119 _ rfl _ rfl _ hlo.out ?_))
   go_ret
   exact ⟨by rw [HX.out, hi, hq]; rfl, hS10.bel⟩
theorem rck_fields_f (w : World) (c : Cg) (h : CgOk c) (hp : plOk c.pl = false) (hg : c.gone = false) (hk : c.pl.part = 1) (hf : c.fresh = false) : Calls Tryz.prog 142 #[.agg (cgC c)] w fun e w' => e = .returned (.int .i64 (ckE c)) ∧ Below w.heap.size w w' := by
 have HL : Hid (c.pt.bytes.length = 32) := h.pt.ch.1
 have hz := zeroCg
 have hp0 : Hid _ := (CgAt.laid w c).loadP
 have hS2 := chk_laid w c
 obtain ⟨w2, hw2⟩ : ∃ w2, ((w.alloc (.cells (cgC c) 119)).alloc (.cells (cgC cg0) 119)) = w2 := ⟨_, rfl⟩
 rw [hw2] at hS2
 have hS3 := hS2.setR (plC c.pl)
 obtain ⟨w3, hw3⟩ : ∃ w3, w2.setRow (w.heap.size + 1) (cgC (plC c.pl)) = w3 := ⟨_, rfl⟩
 rw [hw3] at hS3
 have hp3 : Hid _ := hS3.c.loadP
 go_enter Tryz.func142, Tryz.ntmps142
 go_wp2_with (first
  | (refine wpList_loadG rfl 114 _ rfl _ rfl _ hp0.out ?_)
  | (refine wpList_loadG rfl 114 _ rfl _ rfl _ hp3.out ?_)
  | (refine wpList_buildBy rfl 119 _ rfl _ rfl [(0, plV c.pl)] (by kernel_rfl) _ (bt_pl c.pl) ?_)
  | (refine wpList_storeG rfl _ _ rfl (w.heap.size + 1) (plC c.pl) cg0 rfl rfl len0 len0 hS2.o ?_; rw [hw3]))
 refine (refCheck_any _ c.pl h.pl).mono ?_
 rintro e w4 ⟨rfl, hb4⟩
 rw [plE_30 hp]
 have hS4 := hS3.below hb4
 have d4hS4 := hS4.c.c4
 rw [hg] at d4hS4
 have d1hS4 := hS4.c.c1
 rw [hk] at d1hS4
 have d5hS4 := hS4.c.c5
 rw [hf] at d5hS4
 have d6hS4 := hS4.c.c6
 have f6 := hS4.o.frozen 6
 have o6 := hS4.o.c6
 have hS5 := hS4.setC 6 (.int .i64 c.fields) (fieldsC c.pl c.fields 0 0 0 0) rfl
 obtain ⟨w5, hw5⟩ : ∃ w5, w4.setCell ⟨w.heap.size + 1, 6, none⟩ (.int .i64 c.fields) = w5 := ⟨_, rfl⟩
 rw [hw5] at hS5
 have hl5 : Hid _ := hS5.c.load HL.out
 go_wp2_with (refine wpList_loadG rfl 119 _ rfl _ rfl _ hl5.out ?_)
 refine (rwith_any _ 0 0 0 0 c).mono ?_
 rintro e w6 ⟨rfl, hb6⟩
 have hS6 := hS5.below hb6
 have hS7 := hS6.setR (fieldsC c.pl c.fields 0 (wM c 0) (wL c 0) (wS c 0))
 obtain ⟨w7, hw7⟩ : ∃ w7, w6.setRow (w.heap.size + 1) (cgC (fieldsC c.pl c.fields 0 (wM c 0) (wL c 0) (wS c 0))) = w7 := ⟨_, rfl⟩
 rw [hw7] at hS7
 have hl7 : Hid _ := hS7.c.load HL.out
 go_wp2_with (first
  | (refine wpList_storeAt rfl 91 _ _ rfl (w.heap.size + 1) 7 4 _ (fieldsC c.pl c.fields 0 (wM c 0) (wL c 0) (wS c 0)) (fieldsC c.pl c.fields 0 0 0 0) rfl rfl rfl (by kernel_rfl) (by decide) (by kernel_rfl) len0 hS6.o rfl ?_; rw [hw7])
  | (refine wpList_loadG rfl 119 _ rfl _ rfl _ hl7.out ?_))
 refine (rwith_any _ 1 0 1 0 c).mono ?_
 rintro e w8 ⟨rfl, hb8⟩
 have hS8 := hS7.below hb8
 have al8 : ∀ o, Below w8.heap.size w8 (w8.alloc o) := fun o => (Below.refl _ _).alloc (Nat.le_refl _) o
 have hS9 := hS8.below (al8 (.cells #[.int .i64 1, .int .i64 (wM c 0), .int .i64 (wL c 1), .int .i64 (wS c 0)] 91))
 have hj9 : InRow (w8.alloc (.cells #[.int .i64 1, .int .i64 (wM c 0), .int .i64 (wL c 1), .int .i64 (wS c 0)] 91)) w8.heap.size 1 (wM c 0) (wL c 1) (wS c 0) := ⟨heap_alloc_new _ _⟩
 obtain ⟨w9, hw9⟩ : ∃ w9, w8.alloc (.cells #[.int .i64 1, .int .i64 (wM c 0), .int .i64 (wL c 1), .int .i64 (wS c 0)] 91) = w9 := ⟨_, rfl⟩
 rw [hw9] at hS9 hj9
 have d6 := hS9.c.c6
 have hj : Hid _ := hj9.load
 go_wp2
 go_ret
 exact ⟨by rw [ckE_no hp]; rfl, hS9.bel⟩
theorem rck_ent_t (w : World) (c : Cg) (h : CgOk c) (hp : plOk c.pl = true) (hg : c.gone = false) (hk : c.pl.part = 2) : Calls Tryz.prog 142 #[.agg (cgC c)] w fun e w' => e = .returned (.int .i64 (ckE c)) ∧ Below w.heap.size w w' := by
 have HL : Hid (c.pt.bytes.length = 32) := h.pt.ch.1
 have hz := zeroCg
 have hp0 : Hid _ := (CgAt.laid w c).loadP
 have hS2 := chk_laid w c
 obtain ⟨w2, hw2⟩ : ∃ w2, ((w.alloc (.cells (cgC c) 119)).alloc (.cells (cgC cg0) 119)) = w2 := ⟨_, rfl⟩
 rw [hw2] at hS2
 have hS3 := hS2.setR (plC c.pl)
 obtain ⟨w3, hw3⟩ : ∃ w3, w2.setRow (w.heap.size + 1) (cgC (plC c.pl)) = w3 := ⟨_, rfl⟩
 rw [hw3] at hS3
 have hp3 : Hid _ := hS3.c.loadP
 go_enter Tryz.func142, Tryz.ntmps142
 go_wp2_with (first
  | (refine wpList_loadG rfl 114 _ rfl _ rfl _ hp0.out ?_)
  | (refine wpList_loadG rfl 114 _ rfl _ rfl _ hp3.out ?_)
  | (refine wpList_buildBy rfl 119 _ rfl _ rfl [(0, plV c.pl)] (by kernel_rfl) _ (bt_pl c.pl) ?_)
  | (refine wpList_storeG rfl _ _ rfl (w.heap.size + 1) (plC c.pl) cg0 rfl rfl len0 len0 hS2.o ?_; rw [hw3]))
 refine (refCheck_any _ c.pl h.pl).mono ?_
 rintro e w4 ⟨rfl, hb4⟩
 rw [plE_0 hp]
 have hS4 := hS3.below hb4
 have d4hS4 := hS4.c.c4
 rw [hg] at d4hS4
 have d1hS4 := hS4.c.c1
 rw [hk] at d1hS4
 have d11hS4 := hS4.c.c11
 have f11 := hS4.o.frozen 11
 have o11 := hS4.o.c11
 have hS5 := hS4.setC 11 (.int .u32 c.to) (entC c.pl c.to) rfl
 obtain ⟨w5, hw5⟩ : ∃ w5, w4.setCell ⟨w.heap.size + 1, 11, none⟩ (.int .u32 c.to) = w5 := ⟨_, rfl⟩
 rw [hw5] at hS5
 have e11 := hS5.c.c11
 cases ht : (c.to != 0)
 ·go_wp2
  go_ret
  exact ⟨by rw [ckE_ent hp hg hk]; unfold entOk; rw [ht, Bool.and_false]; rfl, hS5.bel⟩
 have hlc : Hid _ := hS5.c.load HL.out
 have hlo : Hid _ := hS5.o.load len0
 have hne := fun W => ne_cgs W (x := c) (y := (entC c.pl c.to)) HL.out len0
 cases hq : cgEq c (entC c.pl c.to)
 ·rw [hq] at hne
  go_wp2_with (first
   | (refine wpList_loadG rfl 119 _ rfl _ rfl _ hlc.out ?_)
   | (refine wpList_loadG rfl 119 _ rfl _ rfl _ hlo.out ?_))
  go_ret
  exact ⟨by rw [ckE_ent hp hg hk]; unfold entOk; rw [ht, hq]; rfl, hS5.bel⟩
 ·rw [hq] at hne
  go_wp2_with (first
   | (refine wpList_loadG rfl 119 _ rfl _ rfl _ hlc.out ?_)
   | (refine wpList_loadG rfl 119 _ rfl _ rfl _ hlo.out ?_))
  go_ret
  exact ⟨by rw [ckE_ent hp hg hk]; unfold entOk; rw [ht, hq]; rfl, hS5.bel⟩
theorem rck_ent_f (w : World) (c : Cg) (h : CgOk c) (hp : plOk c.pl = false) (hg : c.gone = false) (hk : c.pl.part = 2) : Calls Tryz.prog 142 #[.agg (cgC c)] w fun e w' => e = .returned (.int .i64 (ckE c)) ∧ Below w.heap.size w w' := by
 have HL : Hid (c.pt.bytes.length = 32) := h.pt.ch.1
 have hz := zeroCg
 have hp0 : Hid _ := (CgAt.laid w c).loadP
 have hS2 := chk_laid w c
 obtain ⟨w2, hw2⟩ : ∃ w2, ((w.alloc (.cells (cgC c) 119)).alloc (.cells (cgC cg0) 119)) = w2 := ⟨_, rfl⟩
 rw [hw2] at hS2
 have hS3 := hS2.setR (plC c.pl)
 obtain ⟨w3, hw3⟩ : ∃ w3, w2.setRow (w.heap.size + 1) (cgC (plC c.pl)) = w3 := ⟨_, rfl⟩
 rw [hw3] at hS3
 have hp3 : Hid _ := hS3.c.loadP
 go_enter Tryz.func142, Tryz.ntmps142
 go_wp2_with (first
  | (refine wpList_loadG rfl 114 _ rfl _ rfl _ hp0.out ?_)
  | (refine wpList_loadG rfl 114 _ rfl _ rfl _ hp3.out ?_)
  | (refine wpList_buildBy rfl 119 _ rfl _ rfl [(0, plV c.pl)] (by kernel_rfl) _ (bt_pl c.pl) ?_)
  | (refine wpList_storeG rfl _ _ rfl (w.heap.size + 1) (plC c.pl) cg0 rfl rfl len0 len0 hS2.o ?_; rw [hw3]))
 refine (refCheck_any _ c.pl h.pl).mono ?_
 rintro e w4 ⟨rfl, hb4⟩
 rw [plE_30 hp]
 have hS4 := hS3.below hb4
 have d4hS4 := hS4.c.c4
 rw [hg] at d4hS4
 have d1hS4 := hS4.c.c1
 rw [hk] at d1hS4
 have d11hS4 := hS4.c.c11
 have f11 := hS4.o.frozen 11
 have o11 := hS4.o.c11
 have hS5 := hS4.setC 11 (.int .u32 c.to) (entC c.pl c.to) rfl
 obtain ⟨w5, hw5⟩ : ∃ w5, w4.setCell ⟨w.heap.size + 1, 11, none⟩ (.int .u32 c.to) = w5 := ⟨_, rfl⟩
 rw [hw5] at hS5
 have e11 := hS5.c.c11
 go_wp2
 go_ret
 exact ⟨by rw [ckE_no hp]; rfl, hS5.bel⟩
theorem rck_dat_t (w : World) (c : Cg) (h : CgOk c) (hp : plOk c.pl = true) (hg : c.gone = false) (h1 : c.pl.part ≠ 1) (h2 : c.pl.part ≠ 2) : Calls Tryz.prog 142 #[.agg (cgC c)] w fun e w' => e = .returned (.int .i64 (ckE c)) ∧ Below w.heap.size w w' := by
 have HL : Hid (c.pt.bytes.length = 32) := h.pt.ch.1
 have hz := zeroCg
 have hp0 : Hid _ := (CgAt.laid w c).loadP
 have hS2 := chk_laid w c
 obtain ⟨w2, hw2⟩ : ∃ w2, ((w.alloc (.cells (cgC c) 119)).alloc (.cells (cgC cg0) 119)) = w2 := ⟨_, rfl⟩
 rw [hw2] at hS2
 have hS3 := hS2.setR (plC c.pl)
 obtain ⟨w3, hw3⟩ : ∃ w3, w2.setRow (w.heap.size + 1) (cgC (plC c.pl)) = w3 := ⟨_, rfl⟩
 rw [hw3] at hS3
 have hp3 : Hid _ := hS3.c.loadP
 go_enter Tryz.func142, Tryz.ntmps142
 go_wp2_with (first
  | (refine wpList_loadG rfl 114 _ rfl _ rfl _ hp0.out ?_)
  | (refine wpList_loadG rfl 114 _ rfl _ rfl _ hp3.out ?_)
  | (refine wpList_buildBy rfl 119 _ rfl _ rfl [(0, plV c.pl)] (by kernel_rfl) _ (bt_pl c.pl) ?_)
  | (refine wpList_storeG rfl _ _ rfl (w.heap.size + 1) (plC c.pl) cg0 rfl rfl len0 len0 hS2.o ?_; rw [hw3]))
 refine (refCheck_any _ c.pl h.pl).mono ?_
 rintro e w4 ⟨rfl, hb4⟩
 rw [plE_0 hp]
 have hS4 := hS3.below hb4
 have d4hS4 := hS4.c.c4
 rw [hg] at d4hS4
 have d1hS4 := hS4.c.c1
 have hT := trimP_ok h.pt
 have HT : Hid ((trimP c.pt).bytes.length = 32) := hT.ch.1
 have ht4 : Hid _ := hS4.c.loadT HL.out
 go_wp2_with (refine wpList_loadG rfl 117 _ rfl _ rfl _ ht4.out ?_)
 refine (rtrim_any _ c.pt h.pt).mono ?_
 rintro e w5 ⟨rfl, hb5⟩
 have hS5 := hS4.below hb5
 have hS6 := hS5.setR (dataC c.pl (trimP c.pt))
 obtain ⟨w6, hw6⟩ : ∃ w6, w5.setRow (w.heap.size + 1) (cgC (dataC c.pl (trimP c.pt))) = w6 := ⟨_, rfl⟩
 rw [hw6] at hS6
 have hlc : Hid _ := hS6.c.load HL.out
 have hlo : Hid _ := hS6.o.load HT.out
 have hne := fun W => ne_cgs W (x := c) (y := (dataC c.pl (trimP c.pt))) HL.out HT.out
 cases hq : cgEq c (dataC c.pl (trimP c.pt))
 ·rw [hq] at hne
  go_wp2_with (first
   | (refine wpList_loadG rfl 119 _ rfl _ rfl _ hlc.out ?_)
   | (refine wpList_loadG rfl 119 _ rfl _ rfl _ hlo.out ?_) | (refine wpList_storeAt rfl 117 _ _ rfl (w.heap.size + 1) 12 34 (ptC (trimP c.pt)) (dataC c.pl (trimP c.pt)) (plC c.pl) rfl rfl (ptC_size HT.out) size_pt (by decide) (one_pt _) len0 hS5.o (cgL_pt (plC c.pl) (trimP c.pt) len0) ?_; rw [hw6]))
  go_ret
  exact ⟨by rw [ckE_dat hp hg h1 h2]; unfold datOk; rw [hq]; rfl, hS6.bel⟩
 ·rw [hq] at hne
  go_wp2_with (first
   | (refine wpList_loadG rfl 119 _ rfl _ rfl _ hlc.out ?_)
   | (refine wpList_loadG rfl 119 _ rfl _ rfl _ hlo.out ?_) | (refine wpList_storeAt rfl 117 _ _ rfl (w.heap.size + 1) 12 34 (ptC (trimP c.pt)) (dataC c.pl (trimP c.pt)) (plC c.pl) rfl rfl (ptC_size HT.out) size_pt (by decide) (one_pt _) len0 hS5.o (cgL_pt (plC c.pl) (trimP c.pt) len0) ?_; rw [hw6]))
  go_ret
  exact ⟨by rw [ckE_dat hp hg h1 h2]; unfold datOk; rw [hq]; rfl, hS6.bel⟩
theorem rck_dat_f (w : World) (c : Cg) (h : CgOk c) (hp : plOk c.pl = false) (hg : c.gone = false) (h1 : c.pl.part ≠ 1) (h2 : c.pl.part ≠ 2) : Calls Tryz.prog 142 #[.agg (cgC c)] w fun e w' => e = .returned (.int .i64 (ckE c)) ∧ Below w.heap.size w w' := by
 have HL : Hid (c.pt.bytes.length = 32) := h.pt.ch.1
 have hz := zeroCg
 have hp0 : Hid _ := (CgAt.laid w c).loadP
 have hS2 := chk_laid w c
 obtain ⟨w2, hw2⟩ : ∃ w2, ((w.alloc (.cells (cgC c) 119)).alloc (.cells (cgC cg0) 119)) = w2 := ⟨_, rfl⟩
 rw [hw2] at hS2
 have hS3 := hS2.setR (plC c.pl)
 obtain ⟨w3, hw3⟩ : ∃ w3, w2.setRow (w.heap.size + 1) (cgC (plC c.pl)) = w3 := ⟨_, rfl⟩
 rw [hw3] at hS3
 have hp3 : Hid _ := hS3.c.loadP
 go_enter Tryz.func142, Tryz.ntmps142
 go_wp2_with (first
  | (refine wpList_loadG rfl 114 _ rfl _ rfl _ hp0.out ?_)
  | (refine wpList_loadG rfl 114 _ rfl _ rfl _ hp3.out ?_)
  | (refine wpList_buildBy rfl 119 _ rfl _ rfl [(0, plV c.pl)] (by kernel_rfl) _ (bt_pl c.pl) ?_)
  | (refine wpList_storeG rfl _ _ rfl (w.heap.size + 1) (plC c.pl) cg0 rfl rfl len0 len0 hS2.o ?_; rw [hw3]))
 refine (refCheck_any _ c.pl h.pl).mono ?_
 rintro e w4 ⟨rfl, hb4⟩
 rw [plE_30 hp]
 have hS4 := hS3.below hb4
 have d4hS4 := hS4.c.c4
 rw [hg] at d4hS4
 have d1hS4 := hS4.c.c1
 have hT := trimP_ok h.pt
 have HT : Hid ((trimP c.pt).bytes.length = 32) := hT.ch.1
 have ht4 : Hid _ := hS4.c.loadT HL.out
 go_wp2_with (refine wpList_loadG rfl 117 _ rfl _ rfl _ ht4.out ?_)
 refine (rtrim_any _ c.pt h.pt).mono ?_
 rintro e w5 ⟨rfl, hb5⟩
 have hS5 := hS4.below hb5
 have hS6 := hS5.setR (dataC c.pl (trimP c.pt))
 obtain ⟨w6, hw6⟩ : ∃ w6, w5.setRow (w.heap.size + 1) (cgC (dataC c.pl (trimP c.pt))) = w6 := ⟨_, rfl⟩
 rw [hw6] at hS6
 go_wp2_with (first  | (refine wpList_storeAt rfl 117 _ _ rfl (w.heap.size + 1) 12 34 (ptC (trimP c.pt)) (dataC c.pl (trimP c.pt)) (plC c.pl) rfl rfl (ptC_size HT.out) size_pt (by decide) (one_pt _) len0 hS5.o (cgL_pt (plC c.pl) (trimP c.pt) len0) ?_; rw [hw6]))
 go_ret
 exact ⟨by rw [ckE_no hp]; rfl, hS6.bel⟩
theorem rck_any (w : World) (c : Cg) (h : CgOk c) : Calls Tryz.prog 142 #[.agg (cgC c)] w fun e w' => e = .returned (.int .i64 (ckE c)) ∧ Below w.heap.size w w' := by
 cases hg : c.gone
 ·by_cases h1 : c.pl.part = 1
  ·cases hf : c.fresh
   ·cases hp : plOk c.pl
    ·exact rck_fields_f w c h hp hg h1 hf
    ·exact rck_fields_t w c h hp hg h1 hf
   ·cases hp : plOk c.pl
    ·exact rck_fresh_f w c h hp hg h1 hf
    ·exact rck_fresh_t w c h hp hg h1 hf
  ·by_cases h2 : c.pl.part = 2
   ·cases hp : plOk c.pl
    ·exact rck_ent_f w c h hp hg h2
    ·exact rck_ent_t w c h hp hg h2
   ·cases hp : plOk c.pl
    ·exact rck_dat_f w c h hp hg h1 h2
    ·exact rck_dat_t w c h hp hg h1 h2
 ·cases hp : plOk c.pl
  ·exact rck_gone_f w c h hp hg
  ·exact rck_gone_t w c h hp hg
theorem ckE_t {c : Cg} (h : ckOk c = true) : ckE c = 0 := by unfold ckE; rw [h]; rfl
theorem ckE_f {c : Cg} (h : ckOk c = false) : ckE c = 1 := by unfold ckE; rw [h]; rfl
theorem ck_gone {c : Cg} (h : ckOk c = true) (hg : c.gone = true) : c = goneC c.pl := by
 have e := ckE_gone (ckOk_pl h) hg
 rw [ckE_t h] at e
 split at e
 ·rename_i k; exact cgEq_iff.1 k
 ·cases e
theorem ck_rec {c : Cg} (h : ckOk c = true) (hg : c.gone = false) (hk : c.pl.part = 1) : recOk c = true := by
 have e := ckE_rec (ckOk_pl h) hg hk
 rw [ckE_t h] at e
 split at e
 ·rename_i k; exact k
 ·cases e
theorem ck_fresh {c : Cg} (h : ckOk c = true) (hg : c.gone = false) (hk : c.pl.part = 1) (hf : c.fresh = true) : c.fields = 0 := by
 have e := ck_rec h hg hk
 rw [recOk_f hf] at e
 rw [Bool.and_eq_true] at e
 have := cgEq_iff.1 e.1
 rw [this]; rfl
theorem ck_fields {c : Cg} (h : ckOk c = true) (hg : c.gone = false) (hk : c.pl.part = 1) (hf : c.fresh = false) : c.fields ≠ 0 := by
 have e := ck_rec h hg hk
 rw [recOk_n hf] at e
 intro h0
 rw [fieldsOk_lo (by omega)] at e
 cases e
theorem ck_ent {c : Cg} (h : ckOk c = true) (hg : c.gone = false) (hk : c.pl.part = 2) : c.fields = 0 ∧ c.fresh = false := by
 have e := ckE_ent (ckOk_pl h) hg hk
 rw [ckE_t h] at e
 split at e
 ·rename_i k
  unfold entOk at k
  rw [Bool.and_eq_true] at k
  have := cgEq_iff.1 k.1
  rw [this]; exact ⟨rfl, rfl⟩
 ·cases e
theorem ck_dat {c : Cg} (h : ckOk c = true) (hg : c.gone = false) (hk : c.pl.part = 3) : c = dataC c.pl (trimP c.pt) := by
 have e := ckE_dat (ckOk_pl h) hg (by omega) (by omega)
 rw [ckE_t h] at e
 split at e
 ·rename_i k; exact cgEq_iff.1 k
 ·cases e
def joA (a b : Cg) : Cg := { a with pt := joinP a.pt b.pt }
theorem joA_is {a b : Cg} (ha : ckOk a = true) (hb : ckOk b = true) (ga : a.gone = false) (gb : b.gone = false) (hp : a.pl = b.pl) (hk : b.pl.part = 3) : joA a b = joC a b := by
 have ea := ck_dat ha ga (by rw [hp]; exact hk)
 have eb := ck_dat hb gb hk
 unfold joA joC
 obtain ⟨p, g, f, n, k, m, l, s, t, q⟩ := a
 obtain ⟨p', g', f', n', k', m', l', s', t', q'⟩ := b
 simp only [dataC, Cg.mk.injEq, true_and] at ea eb
 obtain ⟨a1, a2, a3, a4, a5, a6, a7, a8, _⟩ := ea
 obtain ⟨b1, b2, b3, b4, b5, b6, b7, b8, _⟩ := eb
 dsimp only at hp
 subst a1 a2 a3 a4 a5 a6 a7 a8 b1 b2 b3 b4 b5 b6 b7 b8
 simp [hp]
theorem ck_recJ {a b : Cg} (ha : ckOk a = true) (ga : a.gone = false) (hk : a.pl.part = 1) : ckE (recJ a b) = if recOk (recJ a b) then 0 else 1 := by
 have e1 : (recJ a b).pl = a.pl := by unfold recJ recI; split <;> rfl
 have e2 : (recJ a b).gone = a.gone := by unfold recJ recI; split <;> rfl
 exact ckE_rec (by rw [e1]; exact ckOk_pl ha) (by rw [e2]; exact ga) (by rw [e1]; exact hk)
theorem rj_a (w : World) (a b : Cg) (ha : CgOk a) (hb : CgOk b) (hka : ckOk a = false) : Calls Tryz.prog 143 #[.agg (cgC a), .agg (cgC b)] w fun e w' => e = .returned (.tuple #[.agg (cgC (joinX a b).1), .int .i64 (joinX a b).2]) ∧ Below w.heap.size w w' := by
 have HA : Hid (a.pt.bytes.length = 32) := ha.pt.ch.1
 have HB : Hid (b.pt.bytes.length = 32) := hb.pt.ch.1
 have hz := zeroCg
 have hS := two_laid w a b
 obtain ⟨w1, hw1⟩ : ∃ w1, (((w.alloc (.cells (cgC a) 119)).alloc (.cells (cgC b) 119)).alloc (.cells (cgC cg0) 119)) = w1 := ⟨_, rfl⟩
 rw [hw1] at hS
 have hla : Hid _ := hS.a.load HA.out
 have HX : Hid (joinX a b = (cg0, 1)) := by unfold Hid joinX; rw [hka]; rfl
 go_enter Tryz.func143, Tryz.ntmps143
 go_wp2_with (refine wpList_loadG rfl 119 _ rfl _ rfl _ hla.out ?_)
 refine (rck_any _ a ha).mono ?_
 rintro e w2 ⟨rfl, hb2⟩
 rw [ckE_f hka]
 have hS2 := hS.below hb2
 go_wp2_with (first
  | (refine wpList_buildBy rfl 119 _ rfl _ rfl [] (by kernel_rfl) _ built_cg0 ?_)
  | (refine wpList_storeG rfl _ _ rfl (w.heap.size + 1 + 1) cg0 cg0 rfl rfl len0 len0 hS2.r ?_))
 exact ret_cg2 rfl (w.heap.size + 1 + 1) cg0 len0 rfl _ rfl (hS2.setR cg0).r rfl ⟨by rw [HX.out]; rfl, (hS2.setR cg0).bel⟩
theorem rj_b (w : World) (a b : Cg) (ha : CgOk a) (hb : CgOk b) (hka : ckOk a = true) (hkb : ckOk b = false) : Calls Tryz.prog 143 #[.agg (cgC a), .agg (cgC b)] w fun e w' => e = .returned (.tuple #[.agg (cgC (joinX a b).1), .int .i64 (joinX a b).2]) ∧ Below w.heap.size w w' := by
 have HA : Hid (a.pt.bytes.length = 32) := ha.pt.ch.1
 have HB : Hid (b.pt.bytes.length = 32) := hb.pt.ch.1
 have hz := zeroCg
 have hS := two_laid w a b
 obtain ⟨w1, hw1⟩ : ∃ w1, (((w.alloc (.cells (cgC a) 119)).alloc (.cells (cgC b) 119)).alloc (.cells (cgC cg0) 119)) = w1 := ⟨_, rfl⟩
 rw [hw1] at hS
 have hla : Hid _ := hS.a.load HA.out
 have HX : Hid (joinX a b = (cg0, 1)) := by unfold Hid joinX; rw [hka, hkb]; rfl
 go_enter Tryz.func143, Tryz.ntmps143
 go_wp2_with (refine wpList_loadG rfl 119 _ rfl _ rfl _ hla.out ?_)
 refine (rck_any _ a ha).mono ?_
 rintro e w2 ⟨rfl, hb2⟩
 rw [ckE_t hka]
 have hS2 := hS.below hb2
 have hlb2 : Hid _ := hS2.b.load HB.out
 go_wp2_with (refine wpList_loadG rfl 119 _ rfl _ rfl _ hlb2.out ?_)
 refine (rck_any _ b hb).mono ?_
 rintro e w3 ⟨rfl, hb3⟩
 rw [ckE_f hkb]
 have hS3 := hS2.below hb3
 go_wp2_with (first
  | (refine wpList_buildBy rfl 119 _ rfl _ rfl [] (by kernel_rfl) _ built_cg0 ?_)
  | (refine wpList_storeG rfl _ _ rfl (w.heap.size + 1 + 1) cg0 cg0 rfl rfl len0 len0 hS3.r ?_))
 exact ret_cg2 rfl (w.heap.size + 1 + 1) cg0 len0 rfl _ rfl (hS3.setR cg0).r rfl ⟨by rw [HX.out]; rfl, (hS3.setR cg0).bel⟩
theorem rj_p (w : World) (a b : Cg) (ha : CgOk a) (hb : CgOk b) (hka : ckOk a = true) (hkb : ckOk b = true) (hpp : plEq a.pl b.pl = false) : Calls Tryz.prog 143 #[.agg (cgC a), .agg (cgC b)] w fun e w' => e = .returned (.tuple #[.agg (cgC (joinX a b).1), .int .i64 (joinX a b).2]) ∧ Below w.heap.size w w' := by
 have HA : Hid (a.pt.bytes.length = 32) := ha.pt.ch.1
 have HB : Hid (b.pt.bytes.length = 32) := hb.pt.ch.1
 have hz := zeroCg
 have hS := two_laid w a b
 obtain ⟨w1, hw1⟩ : ∃ w1, (((w.alloc (.cells (cgC a) 119)).alloc (.cells (cgC b) 119)).alloc (.cells (cgC cg0) 119)) = w1 := ⟨_, rfl⟩
 rw [hw1] at hS
 have hla : Hid _ := hS.a.load HA.out
 have HX : Hid (joinX a b = (cg0, 1)) := by unfold Hid joinX; rw [hka, hkb, hpp]; rfl
 go_enter Tryz.func143, Tryz.ntmps143
 go_wp2_with (refine wpList_loadG rfl 119 _ rfl _ rfl _ hla.out ?_)
 refine (rck_any _ a ha).mono ?_
 rintro e w2 ⟨rfl, hb2⟩
 rw [ckE_t hka]
 have hS2 := hS.below hb2
 have hlb2 : Hid _ := hS2.b.load HB.out
 go_wp2_with (refine wpList_loadG rfl 119 _ rfl _ rfl _ hlb2.out ?_)
 refine (rck_any _ b hb).mono ?_
 rintro e w3 ⟨rfl, hb3⟩
 rw [ckE_t hkb]
 have hS3 := hS2.below hb3
 have hpa3 : Hid ((Instr.loadAt 114 (.pointer (some ⟨w.heap.size, 0, none⟩))).run Tryz.prog w3 = .ok (.agg #[.int .u32 a.pl.ino, .int .i64 a.pl.part, .string a.pl.name, .int .u32 a.pl.chunk]) w3) := hS3.a.loadP
 have hpb3 : Hid ((Instr.loadAt 114 (.pointer (some ⟨w.heap.size + 1, 0, none⟩))).run Tryz.prog w3 = .ok (.agg #[.int .u32 b.pl.ino, .int .i64 b.pl.part, .string b.pl.name, .int .u32 b.pl.chunk]) w3) := hS3.b.loadP
 have heq : ∀ W, (binOp .neq 114 (.agg #[.int .u32 a.pl.ino, .int .i64 a.pl.part, .string a.pl.name, .int .u32 a.pl.chunk]) (.agg #[.int .u32 b.pl.ino, .int .i64 b.pl.part, .string b.pl.name, .int .u32 b.pl.chunk])).run Tryz.prog W = .ok (.bool (!plEq a.pl b.pl)) W := fun W => neq_places W a.pl b.pl
 rw [hpp] at heq
 go_wp2_with (first
  | (refine wpList_loadG rfl 114 _ rfl _ rfl _ hpa3.out ?_) | (refine wpList_loadG rfl 114 _ rfl _ rfl _ hpb3.out ?_)
  | (refine wpList_buildBy rfl 119 _ rfl _ rfl [] (by kernel_rfl) _ built_cg0 ?_)
  | (refine wpList_storeG rfl _ _ rfl (w.heap.size + 1 + 1) cg0 cg0 rfl rfl len0 len0 hS3.r ?_))
 exact ret_cg2 rfl (w.heap.size + 1 + 1) cg0 len0 rfl _ rfl (hS3.setR cg0).r rfl ⟨by rw [HX.out]; rfl, (hS3.setR cg0).bel⟩
theorem rj_gone (w : World) (a b : Cg) (ha : CgOk a) (hb : CgOk b) (hka : ckOk a = true) (hkb : ckOk b = true) (hpp : plEq a.pl b.pl = true) (hg : b.gone = true) : Calls Tryz.prog 143 #[.agg (cgC a), .agg (cgC b)] w fun e w' => e = .returned (.tuple #[.agg (cgC (joinX a b).1), .int .i64 (joinX a b).2]) ∧ Below w.heap.size w w' := by
 have HA : Hid (a.pt.bytes.length = 32) := ha.pt.ch.1
 have HB : Hid (b.pt.bytes.length = 32) := hb.pt.ch.1
 have hz := zeroCg
 have hS := two_laid w a b
 obtain ⟨w1, hw1⟩ : ∃ w1, (((w.alloc (.cells (cgC a) 119)).alloc (.cells (cgC b) 119)).alloc (.cells (cgC cg0) 119)) = w1 := ⟨_, rfl⟩
 rw [hw1] at hS
 have hla : Hid _ := hS.a.load HA.out
 have HX : Hid (joinX a b = (b, 0)) := by unfold Hid joinX; rw [hka, hkb, hpp]; simp only [if_true]; rw [hg]; rfl
 go_enter Tryz.func143, Tryz.ntmps143
 go_wp2_with (refine wpList_loadG rfl 119 _ rfl _ rfl _ hla.out ?_)
 refine (rck_any _ a ha).mono ?_
 rintro e w2 ⟨rfl, hb2⟩
 rw [ckE_t hka]
 have hS2 := hS.below hb2
 have hlb2 : Hid _ := hS2.b.load HB.out
 go_wp2_with (refine wpList_loadG rfl 119 _ rfl _ rfl _ hlb2.out ?_)
 refine (rck_any _ b hb).mono ?_
 rintro e w3 ⟨rfl, hb3⟩
 rw [ckE_t hkb]
 have hS3 := hS2.below hb3
 have hpa3 : Hid ((Instr.loadAt 114 (.pointer (some ⟨w.heap.size, 0, none⟩))).run Tryz.prog w3 = .ok (.agg #[.int .u32 a.pl.ino, .int .i64 a.pl.part, .string a.pl.name, .int .u32 a.pl.chunk]) w3) := hS3.a.loadP
 have hpb3 : Hid ((Instr.loadAt 114 (.pointer (some ⟨w.heap.size + 1, 0, none⟩))).run Tryz.prog w3 = .ok (.agg #[.int .u32 b.pl.ino, .int .i64 b.pl.part, .string b.pl.name, .int .u32 b.pl.chunk]) w3) := hS3.b.loadP
 have heq : ∀ W, (binOp .neq 114 (.agg #[.int .u32 a.pl.ino, .int .i64 a.pl.part, .string a.pl.name, .int .u32 a.pl.chunk]) (.agg #[.int .u32 b.pl.ino, .int .i64 b.pl.part, .string b.pl.name, .int .u32 b.pl.chunk])).run Tryz.prog W = .ok (.bool (!plEq a.pl b.pl)) W := fun W => neq_places W a.pl b.pl
 rw [hpp] at heq
 have a4 := hS3.a.c4
 have b4 := hS3.b.c4
 have b5 := hS3.b.c5
 have b6 := hS3.b.c6
 have b1 := hS3.b.c1
 have hlb3 : Hid _ := hS3.b.load HB.out
 rw [hg] at b4
 have e6 : b.fields = 0 := by rw [ck_gone hkb hg]; rfl
 rw [e6] at b6
 cases ga : a.gone
 ·rw [ga] at a4
  go_wp2_with (first
   | (refine wpList_loadG rfl 114 _ rfl _ rfl _ hpa3.out ?_) | (refine wpList_loadG rfl 114 _ rfl _ rfl _ hpb3.out ?_)
   | (refine wpList_loadG rfl 119 _ rfl _ rfl _ hlb3.out ?_)
   | (refine wpList_storeG rfl _ _ rfl (w.heap.size + 1 + 1) b cg0 rfl rfl HB.out len0 hS3.r ?_))
  exact ret_cg2 rfl (w.heap.size + 1 + 1) b HB.out rfl _ rfl (hS3.setR b).r rfl ⟨by rw [HX.out]; rfl, (hS3.setR b).bel⟩
 ·rw [ga] at a4
  go_wp2_with (first
   | (refine wpList_loadG rfl 114 _ rfl _ rfl _ hpa3.out ?_) | (refine wpList_loadG rfl 114 _ rfl _ rfl _ hpb3.out ?_)
   | (refine wpList_loadG rfl 119 _ rfl _ rfl _ hlb3.out ?_)
   | (refine wpList_storeG rfl _ _ rfl (w.heap.size + 1 + 1) b cg0 rfl rfl HB.out len0 hS3.r ?_))
  exact ret_cg2 rfl (w.heap.size + 1 + 1) b HB.out rfl _ rfl (hS3.setR b).r rfl ⟨by rw [HX.out]; rfl, (hS3.setR b).bel⟩
theorem rj_fresh (w : World) (a b : Cg) (ha : CgOk a) (hb : CgOk b) (hka : ckOk a = true) (hkb : ckOk b = true) (hpp : plEq a.pl b.pl = true) (hg : b.gone = false) (hk : b.pl.part = 1) (hf : b.fresh = true) : Calls Tryz.prog 143 #[.agg (cgC a), .agg (cgC b)] w fun e w' => e = .returned (.tuple #[.agg (cgC (joinX a b).1), .int .i64 (joinX a b).2]) ∧ Below w.heap.size w w' := by
 have HA : Hid (a.pt.bytes.length = 32) := ha.pt.ch.1
 have HB : Hid (b.pt.bytes.length = 32) := hb.pt.ch.1
 have hz := zeroCg
 have hS := two_laid w a b
 obtain ⟨w1, hw1⟩ : ∃ w1, (((w.alloc (.cells (cgC a) 119)).alloc (.cells (cgC b) 119)).alloc (.cells (cgC cg0) 119)) = w1 := ⟨_, rfl⟩
 rw [hw1] at hS
 have hla : Hid _ := hS.a.load HA.out
 have HX : Hid (joinX a b = (b, 0)) := by unfold Hid joinX; rw [hka, hkb, hpp]; simp only [if_true]; rw [hg, hk]; unfold jRX; rw [hf]; rfl
 go_enter Tryz.func143, Tryz.ntmps143
 go_wp2_with (refine wpList_loadG rfl 119 _ rfl _ rfl _ hla.out ?_)
 refine (rck_any _ a ha).mono ?_
 rintro e w2 ⟨rfl, hb2⟩
 rw [ckE_t hka]
 have hS2 := hS.below hb2
 have hlb2 : Hid _ := hS2.b.load HB.out
 go_wp2_with (refine wpList_loadG rfl 119 _ rfl _ rfl _ hlb2.out ?_)
 refine (rck_any _ b hb).mono ?_
 rintro e w3 ⟨rfl, hb3⟩
 rw [ckE_t hkb]
 have hS3 := hS2.below hb3
 have hpa3 : Hid ((Instr.loadAt 114 (.pointer (some ⟨w.heap.size, 0, none⟩))).run Tryz.prog w3 = .ok (.agg #[.int .u32 a.pl.ino, .int .i64 a.pl.part, .string a.pl.name, .int .u32 a.pl.chunk]) w3) := hS3.a.loadP
 have hpb3 : Hid ((Instr.loadAt 114 (.pointer (some ⟨w.heap.size + 1, 0, none⟩))).run Tryz.prog w3 = .ok (.agg #[.int .u32 b.pl.ino, .int .i64 b.pl.part, .string b.pl.name, .int .u32 b.pl.chunk]) w3) := hS3.b.loadP
 have heq : ∀ W, (binOp .neq 114 (.agg #[.int .u32 a.pl.ino, .int .i64 a.pl.part, .string a.pl.name, .int .u32 a.pl.chunk]) (.agg #[.int .u32 b.pl.ino, .int .i64 b.pl.part, .string b.pl.name, .int .u32 b.pl.chunk])).run Tryz.prog W = .ok (.bool (!plEq a.pl b.pl)) W := fun W => neq_places W a.pl b.pl
 rw [hpp] at heq
 have a4 := hS3.a.c4
 have b4 := hS3.b.c4
 have b5 := hS3.b.c5
 have b6 := hS3.b.c6
 have b1 := hS3.b.c1
 have hlb3 : Hid _ := hS3.b.load HB.out
 rw [hg] at b4
 rw [hf] at b5
 rw [ck_fresh hkb hg hk hf] at b6
 clear hk
 cases ga : a.gone
 ·rw [ga] at a4
  go_wp2_with (first
   | (refine wpList_loadG rfl 114 _ rfl _ rfl _ hpa3.out ?_) | (refine wpList_loadG rfl 114 _ rfl _ rfl _ hpb3.out ?_)
   | (refine wpList_loadG rfl 119 _ rfl _ rfl _ hlb3.out ?_)
   | (refine wpList_storeG rfl _ _ rfl (w.heap.size + 1 + 1) b cg0 rfl rfl HB.out len0 hS3.r ?_))
  exact ret_cg2 rfl (w.heap.size + 1 + 1) b HB.out rfl _ rfl (hS3.setR b).r rfl ⟨by rw [HX.out]; rfl, (hS3.setR b).bel⟩
 ·rw [ga] at a4
  go_wp2_with (first
   | (refine wpList_loadG rfl 114 _ rfl _ rfl _ hpa3.out ?_) | (refine wpList_loadG rfl 114 _ rfl _ rfl _ hpb3.out ?_)
   | (refine wpList_loadG rfl 119 _ rfl _ rfl _ hlb3.out ?_)
   | (refine wpList_storeG rfl _ _ rfl (w.heap.size + 1 + 1) b cg0 rfl rfl HB.out len0 hS3.r ?_))
  exact ret_cg2 rfl (w.heap.size + 1 + 1) b HB.out rfl _ rfl (hS3.setR b).r rfl ⟨by rw [HX.out]; rfl, (hS3.setR b).bel⟩
theorem rj_ent (w : World) (a b : Cg) (ha : CgOk a) (hb : CgOk b) (hka : ckOk a = true) (hkb : ckOk b = true) (hpp : plEq a.pl b.pl = true) (hg : b.gone = false) (hk : b.pl.part = 2) : Calls Tryz.prog 143 #[.agg (cgC a), .agg (cgC b)] w fun e w' => e = .returned (.tuple #[.agg (cgC (joinX a b).1), .int .i64 (joinX a b).2]) ∧ Below w.heap.size w w' := by
 have HA : Hid (a.pt.bytes.length = 32) := ha.pt.ch.1
 have HB : Hid (b.pt.bytes.length = 32) := hb.pt.ch.1
 have hz := zeroCg
 have hS := two_laid w a b
 obtain ⟨w1, hw1⟩ : ∃ w1, (((w.alloc (.cells (cgC a) 119)).alloc (.cells (cgC b) 119)).alloc (.cells (cgC cg0) 119)) = w1 := ⟨_, rfl⟩
 rw [hw1] at hS
 have hla : Hid _ := hS.a.load HA.out
 have HX : Hid (joinX a b = (b, 0)) := by unfold Hid joinX; rw [hka, hkb, hpp]; simp only [if_true]; rw [hg, hk]; rfl
 go_enter Tryz.func143, Tryz.ntmps143
 go_wp2_with (refine wpList_loadG rfl 119 _ rfl _ rfl _ hla.out ?_)
 refine (rck_any _ a ha).mono ?_
 rintro e w2 ⟨rfl, hb2⟩
 rw [ckE_t hka]
 have hS2 := hS.below hb2
 have hlb2 : Hid _ := hS2.b.load HB.out
 go_wp2_with (refine wpList_loadG rfl 119 _ rfl _ rfl _ hlb2.out ?_)
 refine (rck_any _ b hb).mono ?_
 rintro e w3 ⟨rfl, hb3⟩
 rw [ckE_t hkb]
 have hS3 := hS2.below hb3
 have hpa3 : Hid ((Instr.loadAt 114 (.pointer (some ⟨w.heap.size, 0, none⟩))).run Tryz.prog w3 = .ok (.agg #[.int .u32 a.pl.ino, .int .i64 a.pl.part, .string a.pl.name, .int .u32 a.pl.chunk]) w3) := hS3.a.loadP
 have hpb3 : Hid ((Instr.loadAt 114 (.pointer (some ⟨w.heap.size + 1, 0, none⟩))).run Tryz.prog w3 = .ok (.agg #[.int .u32 b.pl.ino, .int .i64 b.pl.part, .string b.pl.name, .int .u32 b.pl.chunk]) w3) := hS3.b.loadP
 have heq : ∀ W, (binOp .neq 114 (.agg #[.int .u32 a.pl.ino, .int .i64 a.pl.part, .string a.pl.name, .int .u32 a.pl.chunk]) (.agg #[.int .u32 b.pl.ino, .int .i64 b.pl.part, .string b.pl.name, .int .u32 b.pl.chunk])).run Tryz.prog W = .ok (.bool (!plEq a.pl b.pl)) W := fun W => neq_places W a.pl b.pl
 rw [hpp] at heq
 have a4 := hS3.a.c4
 have b4 := hS3.b.c4
 have b5 := hS3.b.c5
 have b6 := hS3.b.c6
 have b1 := hS3.b.c1
 have hlb3 : Hid _ := hS3.b.load HB.out
 rw [hg] at b4
 rw [hk] at b1
 rw [(ck_ent hkb hg hk).1] at b6
 rw [(ck_ent hkb hg hk).2] at b5
 clear hk
 cases ga : a.gone
 ·rw [ga] at a4
  go_wp2_with (first
   | (refine wpList_loadG rfl 114 _ rfl _ rfl _ hpa3.out ?_) | (refine wpList_loadG rfl 114 _ rfl _ rfl _ hpb3.out ?_)
   | (refine wpList_loadG rfl 119 _ rfl _ rfl _ hlb3.out ?_)
   | (refine wpList_storeG rfl _ _ rfl (w.heap.size + 1 + 1) b cg0 rfl rfl HB.out len0 hS3.r ?_))
  exact ret_cg2 rfl (w.heap.size + 1 + 1) b HB.out rfl _ rfl (hS3.setR b).r rfl ⟨by rw [HX.out]; rfl, (hS3.setR b).bel⟩
 ·rw [ga] at a4
  go_wp2_with (first
   | (refine wpList_loadG rfl 114 _ rfl _ rfl _ hpa3.out ?_) | (refine wpList_loadG rfl 114 _ rfl _ rfl _ hpb3.out ?_)
   | (refine wpList_loadG rfl 119 _ rfl _ rfl _ hlb3.out ?_)
   | (refine wpList_storeG rfl _ _ rfl (w.heap.size + 1 + 1) b cg0 rfl rfl HB.out len0 hS3.r ?_))
  exact ret_cg2 rfl (w.heap.size + 1 + 1) b HB.out rfl _ rfl (hS3.setR b).r rfl ⟨by rw [HX.out]; rfl, (hS3.setR b).bel⟩
theorem rj_fa (w : World) (a b : Cg) (ha : CgOk a) (hb : CgOk b) (hka : ckOk a = true) (hkb : ckOk b = true) (hpp : plEq a.pl b.pl = true) (hg : b.gone = false) (hk : b.pl.part = 1) (hf : b.fresh = false) (ga : a.gone = true) : Calls Tryz.prog 143 #[.agg (cgC a), .agg (cgC b)] w fun e w' => e = .returned (.tuple #[.agg (cgC (joinX a b).1), .int .i64 (joinX a b).2]) ∧ Below w.heap.size w w' := by
 have HA : Hid (a.pt.bytes.length = 32) := ha.pt.ch.1
 have HB : Hid (b.pt.bytes.length = 32) := hb.pt.ch.1
 have hz := zeroCg
 have hS := two_laid w a b
 obtain ⟨w1, hw1⟩ : ∃ w1, (((w.alloc (.cells (cgC a) 119)).alloc (.cells (cgC b) 119)).alloc (.cells (cgC cg0) 119)) = w1 := ⟨_, rfl⟩
 rw [hw1] at hS
 have hla : Hid _ := hS.a.load HA.out
 have HX : Hid (joinX a b = (cg0, 3)) := by unfold Hid joinX; rw [hka, hkb, hpp]; simp only [if_true]; rw [hg, hk]; unfold jRX; rw [hf, ga]; rfl
 go_enter Tryz.func143, Tryz.ntmps143
 go_wp2_with (refine wpList_loadG rfl 119 _ rfl _ rfl _ hla.out ?_)
 refine (rck_any _ a ha).mono ?_
 rintro e w2 ⟨rfl, hb2⟩
 rw [ckE_t hka]
 have hS2 := hS.below hb2
 have hlb2 : Hid _ := hS2.b.load HB.out
 go_wp2_with (refine wpList_loadG rfl 119 _ rfl _ rfl _ hlb2.out ?_)
 refine (rck_any _ b hb).mono ?_
 rintro e w3 ⟨rfl, hb3⟩
 rw [ckE_t hkb]
 have hS3 := hS2.below hb3
 have hpa3 : Hid ((Instr.loadAt 114 (.pointer (some ⟨w.heap.size, 0, none⟩))).run Tryz.prog w3 = .ok (.agg #[.int .u32 a.pl.ino, .int .i64 a.pl.part, .string a.pl.name, .int .u32 a.pl.chunk]) w3) := hS3.a.loadP
 have hpb3 : Hid ((Instr.loadAt 114 (.pointer (some ⟨w.heap.size + 1, 0, none⟩))).run Tryz.prog w3 = .ok (.agg #[.int .u32 b.pl.ino, .int .i64 b.pl.part, .string b.pl.name, .int .u32 b.pl.chunk]) w3) := hS3.b.loadP
 have heq : ∀ W, (binOp .neq 114 (.agg #[.int .u32 a.pl.ino, .int .i64 a.pl.part, .string a.pl.name, .int .u32 a.pl.chunk]) (.agg #[.int .u32 b.pl.ino, .int .i64 b.pl.part, .string b.pl.name, .int .u32 b.pl.chunk])).run Tryz.prog W = .ok (.bool (!plEq a.pl b.pl)) W := fun W => neq_places W a.pl b.pl
 rw [hpp] at heq
 have a4 := hS3.a.c4
 have b4 := hS3.b.c4
 have b5 := hS3.b.c5
 have b6 := hS3.b.c6
 have b1 := hS3.b.c1
 have hlb3 : Hid _ := hS3.b.load HB.out
 rw [ga] at a4
 have h6 := ck_fields hkb hg hk hf
 clear hk
 go_wp2_with (first
  | (refine wpList_loadG rfl 114 _ rfl _ rfl _ hpa3.out ?_) | (refine wpList_loadG rfl 114 _ rfl _ rfl _ hpb3.out ?_)
  | (refine wpList_buildBy rfl 119 _ rfl _ rfl [] (by kernel_rfl) _ built_cg0 ?_)
  | (refine wpList_storeG rfl _ _ rfl (w.heap.size + 1 + 1) cg0 cg0 rfl rfl len0 len0 hS3.r ?_))
 exact ret_cg2 rfl (w.heap.size + 1 + 1) cg0 len0 rfl _ rfl (hS3.setR cg0).r rfl ⟨by rw [HX.out]; rfl, (hS3.setR cg0).bel⟩
theorem rj_fn (w : World) (a b : Cg) (ha : CgOk a) (hb : CgOk b) (hka : ckOk a = true) (hkb : ckOk b = true) (hpp : plEq a.pl b.pl = true) (hg : b.gone = false) (hk : b.pl.part = 1) (hf : b.fresh = false) (ga : a.gone = false) : Calls Tryz.prog 143 #[.agg (cgC a), .agg (cgC b)] w fun e w' => e = .returned (.tuple #[.agg (cgC (joinX a b).1), .int .i64 (joinX a b).2]) ∧ Below w.heap.size w w' := by
 have HA : Hid (a.pt.bytes.length = 32) := ha.pt.ch.1
 have HB : Hid (b.pt.bytes.length = 32) := hb.pt.ch.1
 have hz := zeroCg
 have hS := two_laid w a b
 obtain ⟨w1, hw1⟩ : ∃ w1, (((w.alloc (.cells (cgC a) 119)).alloc (.cells (cgC b) 119)).alloc (.cells (cgC cg0) 119)) = w1 := ⟨_, rfl⟩
 rw [hw1] at hS
 have hla : Hid _ := hS.a.load HA.out
 go_enter Tryz.func143, Tryz.ntmps143
 go_wp2_with (refine wpList_loadG rfl 119 _ rfl _ rfl _ hla.out ?_)
 refine (rck_any _ a ha).mono ?_
 rintro e w2 ⟨rfl, hb2⟩
 rw [ckE_t hka]
 have hS2 := hS.below hb2
 have hlb2 : Hid _ := hS2.b.load HB.out
 go_wp2_with (refine wpList_loadG rfl 119 _ rfl _ rfl _ hlb2.out ?_)
 refine (rck_any _ b hb).mono ?_
 rintro e w3 ⟨rfl, hb3⟩
 rw [ckE_t hkb]
 have hS3 := hS2.below hb3
 have hpa3 : Hid ((Instr.loadAt 114 (.pointer (some ⟨w.heap.size, 0, none⟩))).run Tryz.prog w3 = .ok (.agg #[.int .u32 a.pl.ino, .int .i64 a.pl.part, .string a.pl.name, .int .u32 a.pl.chunk]) w3) := hS3.a.loadP
 have hpb3 : Hid ((Instr.loadAt 114 (.pointer (some ⟨w.heap.size + 1, 0, none⟩))).run Tryz.prog w3 = .ok (.agg #[.int .u32 b.pl.ino, .int .i64 b.pl.part, .string b.pl.name, .int .u32 b.pl.chunk]) w3) := hS3.b.loadP
 have heq : ∀ W, (binOp .neq 114 (.agg #[.int .u32 a.pl.ino, .int .i64 a.pl.part, .string a.pl.name, .int .u32 a.pl.chunk]) (.agg #[.int .u32 b.pl.ino, .int .i64 b.pl.part, .string b.pl.name, .int .u32 b.pl.chunk])).run Tryz.prog W = .ok (.bool (!plEq a.pl b.pl)) W := fun W => neq_places W a.pl b.pl
 rw [hpp] at heq
 have a4 := hS3.a.c4
 have b4 := hS3.b.c4
 have b5 := hS3.b.c5
 have b6 := hS3.b.c6
 have b1 := hS3.b.c1
 have hlb3 : Hid _ := hS3.b.load HB.out
 rw [ga] at a4
 rw [hg] at b4
 rw [hf] at b5
 rw [hk] at b1
 have h6 := ck_fields hkb hg hk hf
 have HK1 : Hid (a.pl.part = 1) := by unfold Hid; rw [plEq_iff.1 hpp]; exact hk
 have HKB : Hid (b.pl.part = 1) := hk
 clear hk
 have hia : Hid _ := hS3.a.loadI
 go_wp2_with (first
  | (refine wpList_loadG rfl 114 _ rfl _ rfl _ hpa3.out ?_) | (refine wpList_loadG rfl 114 _ rfl _ rfl _ hpb3.out ?_)
  | (refine wpList_loadG rfl 91 _ rfl _ rfl _ hia.out ?_)
  | (refine wpList_loadG rfl 119 _ rfl _ rfl _ hlb3.out ?_))
 refine (rwith_any _ a.kind a.mode a.links a.size b).mono ?_
 rintro e w4 ⟨rfl, hb4⟩
 have hS4 := hS3.below hb4
 have hS5 := hS4.setA (recI a b)
 obtain ⟨w5, hw5⟩ : ∃ w5, w4.setRow w.heap.size (cgC (recI a b)) = w5 := ⟨_, rfl⟩
 rw [hw5] at hS5
 have HI : Hid ((recI a b).pt.bytes.length = 32) := HA.out
 have e5 : w5.cell? ⟨w.heap.size, 5, none⟩ = some (.bool a.fresh) := hS5.a.c5
 cases hf2 : a.fresh
 ·rw [hf2] at e5
  have e6 : w5.cell? ⟨w.heap.size, 6, none⟩ = some (.int .i64 a.fields) := hS5.a.c6
  have g6 := hS5.b.c6
  have fr6 := hS5.a.frozen 6
  have HJ : Hid (recJ a b = { recI a b with fields := orF a.fields b.fields }) := by unfold Hid recJ; rw [hf2]; rfl
  have hS5' := hS5.setAc 6 (.int .i64 (orF a.fields b.fields)) (recJ a b) (by rw [HJ.out]; rfl)
  obtain ⟨w55, hw55⟩ : ∃ w55, w5.setCell ⟨w.heap.size, 6, none⟩ (.int .i64 (orF a.fields b.fields)) = w55 := ⟨_, rfl⟩
  rw [hw55] at hS5'
  have HK : Hid ((recJ a b).pt.bytes.length = 32) := by unfold Hid; rw [recJ_len]; exact HA.out
  have hl5 : Hid _ := hS5'.a.load HK.out
  have hor : ∀ x y, bits .or .i64 x y = orF x y := fun _ _ => rfl
  go_wp2_with (first
   | (refine wpList_storeAt rfl 91 _ _ rfl w.heap.size 7 4 _ (recI a b) a rfl rfl rfl (by kernel_rfl) (by decide) (by kernel_rfl) HA.out hS4.a rfl ?_; rw [hw5])
   | (refine wpList_loadG rfl 119 _ rfl _ rfl _ hl5.out ?_))
  replace hS5 := hS5'
  refine (rck_any _ (recJ a b) (recJ_ok ha hb)).mono ?_
  rintro e w6 ⟨rfl, hb6⟩
  rw [ck_recJ hka ga HK1.out]
  have hS6 := hS5.below hb6
  have hl6 : Hid _ := hS6.a.load HK.out
  cases hr : recOk (recJ a b)
  ·have HX : Hid (joinX a b = (cg0, 1)) := by unfold Hid joinX; rw [hka, hkb, hpp]; simp only [if_true]; rw [hg, HKB.out]; unfold jRX; rw [hf, ga, hr]; rfl
   rw [if_neg (by decide)]
   go_wp2_with (first
    | (refine wpList_buildBy rfl 119 _ rfl _ rfl [] (by kernel_rfl) _ built_cg0 ?_)
    | (refine wpList_storeG rfl _ _ rfl (w.heap.size + 1 + 1) cg0 cg0 rfl rfl len0 len0 hS6.r ?_))
   exact ret_cg2 rfl (w.heap.size + 1 + 1) cg0 len0 rfl _ rfl (hS6.setR cg0).r rfl ⟨by rw [HX.out]; rfl, (hS6.setR cg0).bel⟩
  ·have HX : Hid (joinX a b = (recJ a b, 0)) := by unfold Hid joinX; rw [hka, hkb, hpp]; simp only [if_true]; rw [hg, HKB.out]; unfold jRX; rw [hf, ga, hr]; rfl
   rw [if_pos rfl]
   go_wp2_with (first
    | (refine wpList_loadG rfl 119 _ rfl _ rfl _ hl6.out ?_)
    | (refine wpList_storeG rfl _ _ rfl (w.heap.size + 1 + 1) (recJ a b) cg0 rfl rfl HK.out len0 hS6.r ?_))
   exact ret_cg2 rfl (w.heap.size + 1 + 1) (recJ a b) HK.out rfl _ rfl (hS6.setR (recJ a b)).r rfl ⟨by rw [HX.out]; rfl, (hS6.setR (recJ a b)).bel⟩
 ·rw [hf2] at e5
  have HJ : Hid (recI a b = recJ a b) := by unfold Hid recJ; rw [hf2]; rfl
  rw [HJ.out] at hS5 hw5 HI
  have HK := HI
  have hl5 : Hid _ := hS5.a.load HK.out
  go_wp2_with (first
   | (refine wpList_storeAt rfl 91 _ _ rfl w.heap.size 7 4 _ (recI a b) a rfl rfl rfl (by kernel_rfl) (by decide) (by kernel_rfl) HA.out hS4.a rfl ?_; rw [HJ.out, hw5])
   | (refine wpList_loadG rfl 119 _ rfl _ rfl _ hl5.out ?_))
  refine (rck_any _ (recJ a b) (recJ_ok ha hb)).mono ?_
  rintro e w6 ⟨rfl, hb6⟩
  rw [ck_recJ hka ga HK1.out]
  have hS6 := hS5.below hb6
  have hl6 : Hid _ := hS6.a.load HK.out
  cases hr : recOk (recJ a b)
  ·have HX : Hid (joinX a b = (cg0, 1)) := by unfold Hid joinX; rw [hka, hkb, hpp]; simp only [if_true]; rw [hg, HKB.out]; unfold jRX; rw [hf, ga, hr]; rfl
   rw [if_neg (by decide)]
   go_wp2_with (first
    | (refine wpList_buildBy rfl 119 _ rfl _ rfl [] (by kernel_rfl) _ built_cg0 ?_)
    | (refine wpList_storeG rfl _ _ rfl (w.heap.size + 1 + 1) cg0 cg0 rfl rfl len0 len0 hS6.r ?_))
   exact ret_cg2 rfl (w.heap.size + 1 + 1) cg0 len0 rfl _ rfl (hS6.setR cg0).r rfl ⟨by rw [HX.out]; rfl, (hS6.setR cg0).bel⟩
  ·have HX : Hid (joinX a b = (recJ a b, 0)) := by unfold Hid joinX; rw [hka, hkb, hpp]; simp only [if_true]; rw [hg, HKB.out]; unfold jRX; rw [hf, ga, hr]; rfl
   rw [if_pos rfl]
   go_wp2_with (first
    | (refine wpList_loadG rfl 119 _ rfl _ rfl _ hl6.out ?_)
    | (refine wpList_storeG rfl _ _ rfl (w.heap.size + 1 + 1) (recJ a b) cg0 rfl rfl HK.out len0 hS6.r ?_))
   exact ret_cg2 rfl (w.heap.size + 1 + 1) (recJ a b) HK.out rfl _ rfl (hS6.setR (recJ a b)).r rfl ⟨by rw [HX.out]; rfl, (hS6.setR (recJ a b)).bel⟩
theorem rj_dg (w : World) (a b : Cg) (ha : CgOk a) (hb : CgOk b) (hka : ckOk a = true) (hkb : ckOk b = true) (hpp : plEq a.pl b.pl = true) (hg : b.gone = false) (hk : b.pl.part = 3) (ga : a.gone = true) : Calls Tryz.prog 143 #[.agg (cgC a), .agg (cgC b)] w fun e w' => e = .returned (.tuple #[.agg (cgC (joinX a b).1), .int .i64 (joinX a b).2]) ∧ Below w.heap.size w w' := by
 have HA : Hid (a.pt.bytes.length = 32) := ha.pt.ch.1
 have HB : Hid (b.pt.bytes.length = 32) := hb.pt.ch.1
 have hz := zeroCg
 have hS := two_laid w a b
 obtain ⟨w1, hw1⟩ : ∃ w1, (((w.alloc (.cells (cgC a) 119)).alloc (.cells (cgC b) 119)).alloc (.cells (cgC cg0) 119)) = w1 := ⟨_, rfl⟩
 rw [hw1] at hS
 have hla : Hid _ := hS.a.load HA.out
 have HX : Hid (joinX a b = (frP b, 0)) := by unfold Hid joinX; rw [hka, hkb, hpp]; simp only [if_true]; rw [hg, hk]; unfold jDX; rw [ga]; rfl
 go_enter Tryz.func143, Tryz.ntmps143
 go_wp2_with (refine wpList_loadG rfl 119 _ rfl _ rfl _ hla.out ?_)
 refine (rck_any _ a ha).mono ?_
 rintro e w2 ⟨rfl, hb2⟩
 rw [ckE_t hka]
 have hS2 := hS.below hb2
 have hlb2 : Hid _ := hS2.b.load HB.out
 go_wp2_with (refine wpList_loadG rfl 119 _ rfl _ rfl _ hlb2.out ?_)
 refine (rck_any _ b hb).mono ?_
 rintro e w3 ⟨rfl, hb3⟩
 rw [ckE_t hkb]
 have hS3 := hS2.below hb3
 have hpa3 : Hid ((Instr.loadAt 114 (.pointer (some ⟨w.heap.size, 0, none⟩))).run Tryz.prog w3 = .ok (.agg #[.int .u32 a.pl.ino, .int .i64 a.pl.part, .string a.pl.name, .int .u32 a.pl.chunk]) w3) := hS3.a.loadP
 have hpb3 : Hid ((Instr.loadAt 114 (.pointer (some ⟨w.heap.size + 1, 0, none⟩))).run Tryz.prog w3 = .ok (.agg #[.int .u32 b.pl.ino, .int .i64 b.pl.part, .string b.pl.name, .int .u32 b.pl.chunk]) w3) := hS3.b.loadP
 have heq : ∀ W, (binOp .neq 114 (.agg #[.int .u32 a.pl.ino, .int .i64 a.pl.part, .string a.pl.name, .int .u32 a.pl.chunk]) (.agg #[.int .u32 b.pl.ino, .int .i64 b.pl.part, .string b.pl.name, .int .u32 b.pl.chunk])).run Tryz.prog W = .ok (.bool (!plEq a.pl b.pl)) W := fun W => neq_places W a.pl b.pl
 rw [hpp] at heq
 have a4 := hS3.a.c4
 have b4 := hS3.b.c4
 have b5 := hS3.b.c5
 have b6 := hS3.b.c6
 have b1 := hS3.b.c1
 have hlb3 : Hid _ := hS3.b.load HB.out
 rw [hg] at b4
 have ed := ck_dat hkb hg hk
 have e6 : b.fields = 0 := by rw [ed]; rfl
 have e5' : b.fresh = false := by rw [ed]; rfl
 rw [e6] at b6
 rw [e5'] at b5
 rw [hk] at b1
 clear ed
 clear hk
 rw [ga] at a4
 have b12 := hS3.b.c12
 have f12 := hS3.b.frozen 12
 have hS4 := hS3.setBc 12 (.bool true) (frP b) rfl
 have HK : Hid ((frP b).pt.bytes.length = 32) := HB.out
 obtain ⟨w4, hw4⟩ : ∃ w4, w3.setCell ⟨w.heap.size + 1, 12, none⟩ (.bool true) = w4 := ⟨_, rfl⟩
 rw [hw4] at hS4
 have hl4 : Hid _ := hS4.b.load HK.out
 go_wp2_with (first
  | (refine wpList_loadG rfl 114 _ rfl _ rfl _ hpa3.out ?_) | (refine wpList_loadG rfl 114 _ rfl _ rfl _ hpb3.out ?_)
  | (refine wpList_loadG rfl 119 _ rfl _ rfl _ hl4.out ?_)
  | (refine wpList_storeG rfl _ _ rfl (w.heap.size + 1 + 1) (frP b) cg0 rfl rfl HK.out len0 hS4.r ?_))
 exact ret_cg2 rfl (w.heap.size + 1 + 1) (frP b) HK.out rfl _ rfl (hS4.setR (frP b)).r rfl ⟨by rw [HX.out]; rfl, (hS4.setR (frP b)).bel⟩
theorem rj_dn (w : World) (a b : Cg) (ha : CgOk a) (hb : CgOk b) (hka : ckOk a = true) (hkb : ckOk b = true) (hpp : plEq a.pl b.pl = true) (hg : b.gone = false) (hk : b.pl.part = 3) (ga : a.gone = false) : Calls Tryz.prog 143 #[.agg (cgC a), .agg (cgC b)] w fun e w' => e = .returned (.tuple #[.agg (cgC (joinX a b).1), .int .i64 (joinX a b).2]) ∧ Below w.heap.size w w' := by
 have HA : Hid (a.pt.bytes.length = 32) := ha.pt.ch.1
 have HB : Hid (b.pt.bytes.length = 32) := hb.pt.ch.1
 have hz := zeroCg
 have hS := two_laid w a b
 obtain ⟨w1, hw1⟩ : ∃ w1, (((w.alloc (.cells (cgC a) 119)).alloc (.cells (cgC b) 119)).alloc (.cells (cgC cg0) 119)) = w1 := ⟨_, rfl⟩
 rw [hw1] at hS
 have hla : Hid _ := hS.a.load HA.out
 have HX : Hid (joinX a b = (joA a b, 0)) := by unfold Hid; rw [joA_is hka hkb ga hg (plEq_iff.1 hpp) hk]; unfold joinX; rw [hka, hkb, hpp]; simp only [if_true]; rw [hg, hk]; unfold jDX; rw [ga]; rfl
 go_enter Tryz.func143, Tryz.ntmps143
 go_wp2_with (refine wpList_loadG rfl 119 _ rfl _ rfl _ hla.out ?_)
 refine (rck_any _ a ha).mono ?_
 rintro e w2 ⟨rfl, hb2⟩
 rw [ckE_t hka]
 have hS2 := hS.below hb2
 have hlb2 : Hid _ := hS2.b.load HB.out
 go_wp2_with (refine wpList_loadG rfl 119 _ rfl _ rfl _ hlb2.out ?_)
 refine (rck_any _ b hb).mono ?_
 rintro e w3 ⟨rfl, hb3⟩
 rw [ckE_t hkb]
 have hS3 := hS2.below hb3
 have hpa3 : Hid ((Instr.loadAt 114 (.pointer (some ⟨w.heap.size, 0, none⟩))).run Tryz.prog w3 = .ok (.agg #[.int .u32 a.pl.ino, .int .i64 a.pl.part, .string a.pl.name, .int .u32 a.pl.chunk]) w3) := hS3.a.loadP
 have hpb3 : Hid ((Instr.loadAt 114 (.pointer (some ⟨w.heap.size + 1, 0, none⟩))).run Tryz.prog w3 = .ok (.agg #[.int .u32 b.pl.ino, .int .i64 b.pl.part, .string b.pl.name, .int .u32 b.pl.chunk]) w3) := hS3.b.loadP
 have heq : ∀ W, (binOp .neq 114 (.agg #[.int .u32 a.pl.ino, .int .i64 a.pl.part, .string a.pl.name, .int .u32 a.pl.chunk]) (.agg #[.int .u32 b.pl.ino, .int .i64 b.pl.part, .string b.pl.name, .int .u32 b.pl.chunk])).run Tryz.prog W = .ok (.bool (!plEq a.pl b.pl)) W := fun W => neq_places W a.pl b.pl
 rw [hpp] at heq
 have a4 := hS3.a.c4
 have b4 := hS3.b.c4
 have b5 := hS3.b.c5
 have b6 := hS3.b.c6
 have b1 := hS3.b.c1
 have hlb3 : Hid _ := hS3.b.load HB.out
 rw [hg] at b4
 have ed := ck_dat hkb hg hk
 have e6 : b.fields = 0 := by rw [ed]; rfl
 have e5' : b.fresh = false := by rw [ed]; rfl
 rw [e6] at b6
 rw [e5'] at b5
 rw [hk] at b1
 clear ed
 clear hk
 rw [ga] at a4
 have hta : Hid _ := hS3.a.loadT HA.out
 have htb : Hid _ := hS3.b.loadT HB.out
 have hJ := joinP_ok ha.pt hb.pt
 have HJ : Hid ((joinP a.pt b.pt).bytes.length = 32) := hJ.ch.1
 have HK : Hid ((joA a b).pt.bytes.length = 32) := hJ.ch.1
 go_wp2_with (first
  | (refine wpList_loadG rfl 114 _ rfl _ rfl _ hpa3.out ?_) | (refine wpList_loadG rfl 114 _ rfl _ rfl _ hpb3.out ?_)
  | (refine wpList_loadG rfl 117 _ rfl _ rfl _ hta.out ?_)
  | (refine wpList_loadG rfl 117 _ rfl _ rfl _ htb.out ?_))
 refine (rjoin_any _ a.pt b.pt ha.pt hb.pt).mono ?_
 rintro e w4 ⟨rfl, hb4⟩
 have hS4 := hS3.below hb4
 have hS5 := hS4.setA (joA a b)
 obtain ⟨w5, hw5⟩ : ∃ w5, w4.setRow w.heap.size (cgC (joA a b)) = w5 := ⟨_, rfl⟩
 rw [hw5] at hS5
 have hl5 : Hid _ := hS5.a.load HK.out
 go_wp2_with (first
  | (refine wpList_storeAt rfl 117 _ _ rfl w.heap.size 12 34 (ptC (joinP a.pt b.pt)) (joA a b) a rfl rfl (ptC_size HJ.out) size_pt (by decide) (one_pt _) HA.out hS4.a (cgL_pt a (joinP a.pt b.pt) HA.out) ?_; rw [hw5])
  | (refine wpList_loadG rfl 119 _ rfl _ rfl _ hl5.out ?_)
  | (refine wpList_storeG rfl _ _ rfl (w.heap.size + 1 + 1) (joA a b) cg0 rfl rfl HK.out len0 hS5.r ?_))
 exact ret_cg2 rfl (w.heap.size + 1 + 1) (joA a b) HK.out rfl _ rfl (hS5.setR (joA a b)).r rfl ⟨by rw [HX.out]; rfl, (hS5.setR (joA a b)).bel⟩
theorem rj_any (w : World) (a b : Cg) (ha : CgOk a) (hb : CgOk b) : Calls Tryz.prog 143 #[.agg (cgC a), .agg (cgC b)] w fun e w' => e = .returned (.tuple #[.agg (cgC (joinX a b).1), .int .i64 (joinX a b).2]) ∧ Below w.heap.size w w' := by
 cases hka : ckOk a
 ·exact rj_a w a b ha hb hka
 cases hkb : ckOk b
 ·exact rj_b w a b ha hb hka hkb
 cases hpp : plEq a.pl b.pl
 ·exact rj_p w a b ha hb hka hkb hpp
 cases hg : b.gone
 ·rcases plOk_part (ckOk_pl hkb) with hk | hk | hk
  ·cases hf : b.fresh
   ·cases ga : a.gone
    ·exact rj_fn w a b ha hb hka hkb hpp hg hk hf ga
    ·exact rj_fa w a b ha hb hka hkb hpp hg hk hf ga
   ·exact rj_fresh w a b ha hb hka hkb hpp hg hk hf
  ·exact rj_ent w a b ha hb hka hkb hpp hg hk
  ·cases ga : a.gone
   ·exact rj_dn w a b ha hb hka hkb hpp hg hk ga
   ·exact rj_dg w a b ha hb hka hkb hpp hg hk ga
 ·exact rj_gone w a b ha hb hka hkb hpp hg
end Go.Proofs.YtiplhhaehbjghaaGreat
