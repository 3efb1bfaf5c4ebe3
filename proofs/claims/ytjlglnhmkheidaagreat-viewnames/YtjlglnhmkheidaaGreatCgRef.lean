/- The contract of the document's Check. -/
import Derived.Test.YtjlglnhmkheidaaGreatCgJoin
import Derived.Test.YtjlglnhmkheidaaGreatP2
import Derived.Test.YtjlglnhmkheidaaGreatI4
import Derived.Test.YtjlglnhmkheidaaGreatT4
namespace Go.Proofs.YtjlglnhmkheidaaGreat
open Go.RowKit
set_option linter.unusedVariables false
set_option linter.unusedSimpArgs false
set_option maxRecDepth 100000

def plC (p : Pl) : Cg := ⟨p, false, false, 0, 0, 0, 0, 0, 0, pt0⟩
theorem bt_pl (p : Pl) : Tryz.prog.built 56 [(0, plV p)] = some (cgC (plC p)) := built_pl p
theorem ne_cgs (w : World) {x y : Cg} (hx : x.pt.bytes.length = 32) (hy : y.pt.bytes.length = 32) : (binOp .neq 56 (.agg (cgC x)) (.agg (cgC y))).run Tryz.prog w = .ok (.bool (!cgEq x y)) w := by
  rw [run_neq_struct, equal_cgs w 9996 hx hy]
  rfl

theorem ckE_no {c : Cg} (hp : plOk c.pl = false) : ckE c = 1 := by unfold ckE ckOk; rw [hp]; rfl
theorem ckE_gone {c : Cg} (hp : plOk c.pl = true) (hg : c.gone = true) : ckE c = if cgEq c (goneC c.pl) then 0 else 1 := by unfold ckE ckOk; rw [hp, hg]; rfl
theorem ckE_rec {c : Cg} (hp : plOk c.pl = true) (hg : c.gone = false) (hk : c.pl.part = 1) : ckE c = if recOk c then 0 else 1 := by unfold ckE ckOk; rw [hp, hg, hk]; rfl
theorem ckE_ent {c : Cg} (hp : plOk c.pl = true) (hg : c.gone = false) (hk : c.pl.part = 2) : ckE c = if entOk c then 0 else 1 := by unfold ckE ckOk; rw [hp, hg, hk]; rfl
theorem ckE_dat {c : Cg} (hp : plOk c.pl = true) (hg : c.gone = false) (h1 : c.pl.part ≠ 1) (h2 : c.pl.part ≠ 2) : ckE c = if datOk c then 0 else 1 := by unfold ckE ckOk; rw [hp, hg, if_neg h1, if_neg h2]; rfl
theorem recOk_f {c : Cg} (h : c.fresh = true) : recOk c = (cgEq c (freshC c.pl c.kind c.mode c.links c.size) && inoOk c.kind c.mode c.links c.size) := by unfold recOk; rw [h]; rfl
theorem recOk_n {c : Cg} (h : c.fresh = false) : recOk c = fieldsOk c := by unfold recOk; rw [h]; rfl

theorem fieldsOk_lo {c : Cg} (h : c.fields < 1) : fieldsOk c = false := by unfold fieldsOk; rw [if_pos h]
theorem fieldsOk_hi {c : Cg} (h : 7 < c.fields) : fieldsOk c = false := by unfold fieldsOk; rw [if_neg (show ¬ c.fields < 1 by omega), if_pos h]
theorem fieldsOk_in {c : Cg} (h1 : 1 ≤ c.fields) (h7 : c.fields ≤ 7) : fieldsOk c = (cgEq c (fieldsC c.pl c.fields 0 (wM c 0) (wL c 0) (wS c 0)) && inoOk 1 (wM c 0) (wL c 1) (wS c 0)) := by unfold fieldsOk; rw [if_neg (show ¬ c.fields < 1 by omega), if_neg (show ¬ c.fields > 7 by omega)]

/-- A change, and the one that is held against it. -/
structure ChkS (w W : World) (c o : Cg) : Prop where
  c : CgAt W w.heap.size c
  o : CgAt W (w.heap.size + 1) o
  bel : Below w.heap.size w W
theorem ChkS.below {w W W' : World} {c o : Cg} (h : ChkS w W c o) (hb : Below W.heap.size W W') : ChkS w W' c o := ⟨h.c.below hb, h.o.below hb, h.bel.trans (hb.mono h.bel.size)⟩
theorem ChkS.setR {w W : World} {c o : Cg} (h : ChkS w W c o) (z : Cg) : ChkS w (W.setRow (w.heap.size + 1) (cgC z)) c z := ⟨h.c.apartR _ _ (by omega), h.o.setRow z, below_setRow h.bel (by omega) _⟩
theorem ChkS.setC {w W : World} {c o : Cg} (h : ChkS w W c o) (i : Nat) (v : Value) (z : Cg) (hz : (cgL o).set i v = cgL z) : ChkS w (W.setCell ⟨w.heap.size + 1, i, none⟩ v) c z := ⟨h.c.apart _ _ _ (by omega), h.o.set i v z hz, h.bel.setCell (by dsimp only; omega) _⟩
theorem chk_laid (w : World) (c : Cg) : ChkS w ((w.alloc (.cells (cgC c) 56)).alloc (.cells (cgC cg0) 56)) c cg0 := by
  have h2 := CgAt.laid (w.alloc (.cells (cgC c) 56)) cg0
  rw [World.size_alloc] at h2
  exact ⟨(CgAt.laid w c).below ((Below.refl _ _).alloc (Nat.le_refl _) _), h2, ((Below.refl _ w).alloc (Nat.le_refl _) _).alloc (by simp) _⟩

set_option maxHeartbeats 4000000 in
theorem rck_gone_t (w : World) (c : Cg) (h : CgOk c) (hp : plOk c.pl = true) (hg : c.gone = true) : Calls Tryz.prog 49 #[.agg (cgC c)] w fun e w' => e = .returned (.int .i64 (ckE c)) ∧ Below w.heap.size w w' := by
  have HL : Hid (c.pt.bytes.length = 32) := h.pt.ch.1
  have hz := zeroCg
  have hp0 : Hid _ := (CgAt.laid w c).loadP
  have hS2 := chk_laid w c
  obtain ⟨w2, hw2⟩ : ∃ w2, ((w.alloc (.cells (cgC c) 56)).alloc (.cells (cgC cg0) 56)) = w2 := ⟨_, rfl⟩
  rw [hw2] at hS2
  have hS3 := hS2.setR (plC c.pl)
  obtain ⟨w3, hw3⟩ : ∃ w3, w2.setRow (w.heap.size + 1) (cgC (plC c.pl)) = w3 := ⟨_, rfl⟩
  rw [hw3] at hS3
  have hp3 : Hid _ := hS3.c.loadP
  go_enter Tryz.func49, Tryz.ntmps49
  go_wp2_with (first
    | (refine wpList_loadG rfl 26 _ rfl _ rfl _ hp0.out ?_)
    | (refine wpList_loadG rfl 26 _ rfl _ rfl _ hp3.out ?_)
    | (refine wpList_buildBy rfl 56 _ rfl _ rfl [(0, plV c.pl)] (by kernel_rfl) _ (bt_pl c.pl) ?_)
    | (refine wpList_storeG rfl _ _ rfl (w.heap.size + 1) (plC c.pl) cg0 rfl rfl len0 len0 hS2.o ?_; rw [hw3]))
  refine (refCheck_any _ c.pl h.pl).mono ?_
  rintro e w4 ⟨rfl, hb4⟩
  rw [plE_0 hp]
  have hS4 := hS3.below hb4
  have d4hS4 := hS4.c.c4
  rw [hg] at d4hS4
  have f4 := hS4.o.frozen 4
  have o4 := hS4.o.c4
  have hS5 := hS4.setC 4 (.bool true) (goneC c.pl) rfl
  obtain ⟨w5, hw5⟩ : ∃ w5, w4.setCell ⟨w.heap.size + 1, 4, none⟩ (.bool true) = w5 := ⟨_, rfl⟩
  rw [hw5] at hS5
  have hlc : Hid _ := hS5.c.load HL.out
  have hlo : Hid _ := hS5.o.load len0
  have hne := fun W => ne_cgs W (x := c) (y := (goneC c.pl)) HL.out len0
  cases hq : cgEq c (goneC c.pl)
  · rw [hq] at hne
    go_wp2_with (first
      | (refine wpList_loadG rfl 56 _ rfl _ rfl _ hlc.out ?_)
      | (refine wpList_loadG rfl 56 _ rfl _ rfl _ hlo.out ?_))
    go_ret
    exact ⟨by rw [ckE_gone hp hg, hq]; rfl, hS5.bel⟩
  · rw [hq] at hne
    go_wp2_with (first
      | (refine wpList_loadG rfl 56 _ rfl _ rfl _ hlc.out ?_)
      | (refine wpList_loadG rfl 56 _ rfl _ rfl _ hlo.out ?_))
    go_ret
    exact ⟨by rw [ckE_gone hp hg, hq]; rfl, hS5.bel⟩

set_option maxHeartbeats 4000000 in
theorem rck_gone_f (w : World) (c : Cg) (h : CgOk c) (hp : plOk c.pl = false) (hg : c.gone = true) : Calls Tryz.prog 49 #[.agg (cgC c)] w fun e w' => e = .returned (.int .i64 (ckE c)) ∧ Below w.heap.size w w' := by
  have HL : Hid (c.pt.bytes.length = 32) := h.pt.ch.1
  have hz := zeroCg
  have hp0 : Hid _ := (CgAt.laid w c).loadP
  have hS2 := chk_laid w c
  obtain ⟨w2, hw2⟩ : ∃ w2, ((w.alloc (.cells (cgC c) 56)).alloc (.cells (cgC cg0) 56)) = w2 := ⟨_, rfl⟩
  rw [hw2] at hS2
  have hS3 := hS2.setR (plC c.pl)
  obtain ⟨w3, hw3⟩ : ∃ w3, w2.setRow (w.heap.size + 1) (cgC (plC c.pl)) = w3 := ⟨_, rfl⟩
  rw [hw3] at hS3
  have hp3 : Hid _ := hS3.c.loadP
  go_enter Tryz.func49, Tryz.ntmps49
  go_wp2_with (first
    | (refine wpList_loadG rfl 26 _ rfl _ rfl _ hp0.out ?_)
    | (refine wpList_loadG rfl 26 _ rfl _ rfl _ hp3.out ?_)
    | (refine wpList_buildBy rfl 56 _ rfl _ rfl [(0, plV c.pl)] (by kernel_rfl) _ (bt_pl c.pl) ?_)
    | (refine wpList_storeG rfl _ _ rfl (w.heap.size + 1) (plC c.pl) cg0 rfl rfl len0 len0 hS2.o ?_; rw [hw3]))
  refine (refCheck_any _ c.pl h.pl).mono ?_
  rintro e w4 ⟨rfl, hb4⟩
  rw [plE_30 hp]
  have hS4 := hS3.below hb4
  have d4hS4 := hS4.c.c4
  rw [hg] at d4hS4
  have f4 := hS4.o.frozen 4
  have o4 := hS4.o.c4
  have hS5 := hS4.setC 4 (.bool true) (goneC c.pl) rfl
  obtain ⟨w5, hw5⟩ : ∃ w5, w4.setCell ⟨w.heap.size + 1, 4, none⟩ (.bool true) = w5 := ⟨_, rfl⟩
  rw [hw5] at hS5
  go_wp2
  go_ret
  exact ⟨by rw [ckE_no hp]; rfl, hS5.bel⟩

set_option maxHeartbeats 4000000 in
theorem rck_fresh_t (w : World) (c : Cg) (h : CgOk c) (hp : plOk c.pl = true) (hg : c.gone = false) (hk : c.pl.part = 1) (hf : c.fresh = true) : Calls Tryz.prog 49 #[.agg (cgC c)] w fun e w' => e = .returned (.int .i64 (ckE c)) ∧ Below w.heap.size w w' := by
  have HL : Hid (c.pt.bytes.length = 32) := h.pt.ch.1
  have hz := zeroCg
  have hp0 : Hid _ := (CgAt.laid w c).loadP
  have hS2 := chk_laid w c
  obtain ⟨w2, hw2⟩ : ∃ w2, ((w.alloc (.cells (cgC c) 56)).alloc (.cells (cgC cg0) 56)) = w2 := ⟨_, rfl⟩
  rw [hw2] at hS2
  have hS3 := hS2.setR (plC c.pl)
  obtain ⟨w3, hw3⟩ : ∃ w3, w2.setRow (w.heap.size + 1) (cgC (plC c.pl)) = w3 := ⟨_, rfl⟩
  rw [hw3] at hS3
  have hp3 : Hid _ := hS3.c.loadP
  go_enter Tryz.func49, Tryz.ntmps49
  go_wp2_with (first
    | (refine wpList_loadG rfl 26 _ rfl _ rfl _ hp0.out ?_)
    | (refine wpList_loadG rfl 26 _ rfl _ rfl _ hp3.out ?_)
    | (refine wpList_buildBy rfl 56 _ rfl _ rfl [(0, plV c.pl)] (by kernel_rfl) _ (bt_pl c.pl) ?_)
    | (refine wpList_storeG rfl _ _ rfl (w.heap.size + 1) (plC c.pl) cg0 rfl rfl len0 len0 hS2.o ?_; rw [hw3]))
  refine (refCheck_any _ c.pl h.pl).mono ?_
  rintro e w4 ⟨rfl, hb4⟩
  rw [plE_0 hp]
  have hS4 := hS3.below hb4
  have d4hS4 := hS4.c.c4
  rw [hg] at d4hS4
  have d1hS4 := hS4.c.c1
  rw [hk] at d1hS4
  have d5hS4 := hS4.c.c5
  rw [hf] at d5hS4
  have f5 := hS4.o.frozen 5
  have o5 := hS4.o.c5
  have hS5 := hS4.setC 5 (.bool true) (freshC c.pl 0 0 0 0) rfl
  obtain ⟨w5, hw5⟩ : ∃ w5, w4.setCell ⟨w.heap.size + 1, 5, none⟩ (.bool true) = w5 := ⟨_, rfl⟩
  rw [hw5] at hS5
  have hi5 : Hid _ := hS5.c.loadI
  have hS6 := hS5.setR (freshC c.pl c.kind c.mode c.links c.size)
  obtain ⟨w6, hw6⟩ : ∃ w6, w5.setRow (w.heap.size + 1) (cgC (freshC c.pl c.kind c.mode c.links c.size)) = w6 := ⟨_, rfl⟩
  rw [hw6] at hS6
  have hi6 : Hid _ := hS6.c.loadI
  go_wp2_with (first
    | (refine wpList_loadG rfl 42 _ rfl _ rfl _ hi5.out ?_)
    | (refine wpList_storeAt rfl 42 _ _ rfl (w.heap.size + 1) 7 4 _ (freshC c.pl c.kind c.mode c.links c.size) (freshC c.pl 0 0 0 0) rfl rfl rfl (by kernel_rfl) (by decide) (by kernel_rfl) len0 hS5.o rfl ?_; rw [hw6])
    | (refine wpList_loadG rfl 42 _ rfl _ rfl _ hi6.out ?_))
  refine (irefCheck_any _ c.kind c.mode c.links c.size).mono ?_
  rintro e w7 ⟨rfl, hb7⟩
  have hS7 := hS6.below hb7
  cases hi : inoOk c.kind c.mode c.links c.size
  · rw [inoE_11 hi]
    go_wp2
    go_ret
    exact ⟨by rw [ckE_rec hp hg hk, recOk_f hf, hi, Bool.and_false]; rfl, hS7.bel⟩
  · rw [inoE_0 hi]
    have hlc : Hid _ := hS7.c.load HL.out
    have hlo : Hid _ := hS7.o.load len0
    have hne := fun W => ne_cgs W (x := c) (y := (freshC c.pl c.kind c.mode c.links c.size)) HL.out len0
    cases hq : cgEq c (freshC c.pl c.kind c.mode c.links c.size)
    · rw [hq] at hne
      go_wp2_with (first
        | (refine wpList_loadG rfl 56 _ rfl _ rfl _ hlc.out ?_)
        | (refine wpList_loadG rfl 56 _ rfl _ rfl _ hlo.out ?_))
      go_ret
      exact ⟨by rw [ckE_rec hp hg hk, recOk_f hf, hi, hq]; rfl, hS7.bel⟩
    · rw [hq] at hne
      go_wp2_with (first
        | (refine wpList_loadG rfl 56 _ rfl _ rfl _ hlc.out ?_)
        | (refine wpList_loadG rfl 56 _ rfl _ rfl _ hlo.out ?_))
      go_ret
      exact ⟨by rw [ckE_rec hp hg hk, recOk_f hf, hi, hq]; rfl, hS7.bel⟩

set_option maxHeartbeats 4000000 in
theorem rck_fresh_f (w : World) (c : Cg) (h : CgOk c) (hp : plOk c.pl = false) (hg : c.gone = false) (hk : c.pl.part = 1) (hf : c.fresh = true) : Calls Tryz.prog 49 #[.agg (cgC c)] w fun e w' => e = .returned (.int .i64 (ckE c)) ∧ Below w.heap.size w w' := by
  have HL : Hid (c.pt.bytes.length = 32) := h.pt.ch.1
  have hz := zeroCg
  have hp0 : Hid _ := (CgAt.laid w c).loadP
  have hS2 := chk_laid w c
  obtain ⟨w2, hw2⟩ : ∃ w2, ((w.alloc (.cells (cgC c) 56)).alloc (.cells (cgC cg0) 56)) = w2 := ⟨_, rfl⟩
  rw [hw2] at hS2
  have hS3 := hS2.setR (plC c.pl)
  obtain ⟨w3, hw3⟩ : ∃ w3, w2.setRow (w.heap.size + 1) (cgC (plC c.pl)) = w3 := ⟨_, rfl⟩
  rw [hw3] at hS3
  have hp3 : Hid _ := hS3.c.loadP
  go_enter Tryz.func49, Tryz.ntmps49
  go_wp2_with (first
    | (refine wpList_loadG rfl 26 _ rfl _ rfl _ hp0.out ?_)
    | (refine wpList_loadG rfl 26 _ rfl _ rfl _ hp3.out ?_)
    | (refine wpList_buildBy rfl 56 _ rfl _ rfl [(0, plV c.pl)] (by kernel_rfl) _ (bt_pl c.pl) ?_)
    | (refine wpList_storeG rfl _ _ rfl (w.heap.size + 1) (plC c.pl) cg0 rfl rfl len0 len0 hS2.o ?_; rw [hw3]))
  refine (refCheck_any _ c.pl h.pl).mono ?_
  rintro e w4 ⟨rfl, hb4⟩
  rw [plE_30 hp]
  have hS4 := hS3.below hb4
  have d4hS4 := hS4.c.c4
  rw [hg] at d4hS4
  have d1hS4 := hS4.c.c1
  rw [hk] at d1hS4
  have d5hS4 := hS4.c.c5
  rw [hf] at d5hS4
  have f5 := hS4.o.frozen 5
  have o5 := hS4.o.c5
  have hS5 := hS4.setC 5 (.bool true) (freshC c.pl 0 0 0 0) rfl
  obtain ⟨w5, hw5⟩ : ∃ w5, w4.setCell ⟨w.heap.size + 1, 5, none⟩ (.bool true) = w5 := ⟨_, rfl⟩
  rw [hw5] at hS5
  have hi5 : Hid _ := hS5.c.loadI
  have hS6 := hS5.setR (freshC c.pl c.kind c.mode c.links c.size)
  obtain ⟨w6, hw6⟩ : ∃ w6, w5.setRow (w.heap.size + 1) (cgC (freshC c.pl c.kind c.mode c.links c.size)) = w6 := ⟨_, rfl⟩
  rw [hw6] at hS6
  have hi6 : Hid _ := hS6.c.loadI
  go_wp2_with (first  | (refine wpList_loadG rfl 42 _ rfl _ rfl _ hi5.out ?_) | (refine wpList_storeAt rfl 42 _ _ rfl (w.heap.size + 1) 7 4 _ (freshC c.pl c.kind c.mode c.links c.size) (freshC c.pl 0 0 0 0) rfl rfl rfl (by kernel_rfl) (by decide) (by kernel_rfl) len0 hS5.o rfl ?_; rw [hw6]))
  go_ret
  exact ⟨by rw [ckE_no hp]; rfl, hS6.bel⟩

set_option maxHeartbeats 4000000 in
theorem rck_fields_t (w : World) (c : Cg) (h : CgOk c) (hp : plOk c.pl = true) (hg : c.gone = false) (hk : c.pl.part = 1) (hf : c.fresh = false) : Calls Tryz.prog 49 #[.agg (cgC c)] w fun e w' => e = .returned (.int .i64 (ckE c)) ∧ Below w.heap.size w w' := by
  have HL : Hid (c.pt.bytes.length = 32) := h.pt.ch.1
  have hz := zeroCg
  have hp0 : Hid _ := (CgAt.laid w c).loadP
  have hS2 := chk_laid w c
  obtain ⟨w2, hw2⟩ : ∃ w2, ((w.alloc (.cells (cgC c) 56)).alloc (.cells (cgC cg0) 56)) = w2 := ⟨_, rfl⟩
  rw [hw2] at hS2
  have hS3 := hS2.setR (plC c.pl)
  obtain ⟨w3, hw3⟩ : ∃ w3, w2.setRow (w.heap.size + 1) (cgC (plC c.pl)) = w3 := ⟨_, rfl⟩
  rw [hw3] at hS3
  have hp3 : Hid _ := hS3.c.loadP
  go_enter Tryz.func49, Tryz.ntmps49
  go_wp2_with (first
    | (refine wpList_loadG rfl 26 _ rfl _ rfl _ hp0.out ?_)
    | (refine wpList_loadG rfl 26 _ rfl _ rfl _ hp3.out ?_)
    | (refine wpList_buildBy rfl 56 _ rfl _ rfl [(0, plV c.pl)] (by kernel_rfl) _ (bt_pl c.pl) ?_)
    | (refine wpList_storeG rfl _ _ rfl (w.heap.size + 1) (plC c.pl) cg0 rfl rfl len0 len0 hS2.o ?_; rw [hw3]))
  refine (refCheck_any _ c.pl h.pl).mono ?_
  rintro e w4 ⟨rfl, hb4⟩
  rw [plE_0 hp]
  have hS4 := hS3.below hb4
  have d4hS4 := hS4.c.c4
  rw [hg] at d4hS4
  have d1hS4 := hS4.c.c1
  rw [hk] at d1hS4
  have d5hS4 := hS4.c.c5
  rw [hf] at d5hS4
  have d6hS4 := hS4.c.c6
  have f6 := hS4.o.frozen 6
  have o6 := hS4.o.c6
  have hS5 := hS4.setC 6 (.int .i64 c.fields) (fieldsC c.pl c.fields 0 0 0 0) rfl
  obtain ⟨w5, hw5⟩ : ∃ w5, w4.setCell ⟨w.heap.size + 1, 6, none⟩ (.int .i64 c.fields) = w5 := ⟨_, rfl⟩
  rw [hw5] at hS5
  have hl5 : Hid _ := hS5.c.load HL.out
  go_wp2_with (refine wpList_loadG rfl 56 _ rfl _ rfl _ hl5.out ?_)
  refine (rwith_any _ 0 0 0 0 c).mono ?_
  rintro e w6 ⟨rfl, hb6⟩
  have hS6 := hS5.below hb6
  have hS7 := hS6.setR (fieldsC c.pl c.fields 0 (wM c 0) (wL c 0) (wS c 0))
  obtain ⟨w7, hw7⟩ : ∃ w7, w6.setRow (w.heap.size + 1) (cgC (fieldsC c.pl c.fields 0 (wM c 0) (wL c 0) (wS c 0))) = w7 := ⟨_, rfl⟩
  rw [hw7] at hS7
  have hl7 : Hid _ := hS7.c.load HL.out
  go_wp2_with (first
    | (refine wpList_storeAt rfl 42 _ _ rfl (w.heap.size + 1) 7 4 _ (fieldsC c.pl c.fields 0 (wM c 0) (wL c 0) (wS c 0)) (fieldsC c.pl c.fields 0 0 0 0) rfl rfl rfl (by kernel_rfl) (by decide) (by kernel_rfl) len0 hS6.o rfl ?_; rw [hw7])
    | (refine wpList_loadG rfl 56 _ rfl _ rfl _ hl7.out ?_))
  refine (rwith_any _ 1 0 1 0 c).mono ?_
  rintro e w8 ⟨rfl, hb8⟩
  have hS8 := hS7.below hb8
  have al8 : ∀ o, Below w8.heap.size w8 (w8.alloc o) := fun o => (Below.refl _ _).alloc (Nat.le_refl _) o
  have hS9 := hS8.below (al8 (.cells #[.int .i64 1, .int .i64 (wM c 0), .int .i64 (wL c 1), .int .i64 (wS c 0)] 42))
  have hj9 : InRow (w8.alloc (.cells #[.int .i64 1, .int .i64 (wM c 0), .int .i64 (wL c 1), .int .i64 (wS c 0)] 42)) w8.heap.size 1 (wM c 0) (wL c 1) (wS c 0) := ⟨heap_alloc_new _ _⟩
  obtain ⟨w9, hw9⟩ : ∃ w9, w8.alloc (.cells #[.int .i64 1, .int .i64 (wM c 0), .int .i64 (wL c 1), .int .i64 (wS c 0)] 42) = w9 := ⟨_, rfl⟩
  rw [hw9] at hS9 hj9
  have d6 := hS9.c.c6
  have hj : Hid _ := hj9.load
  by_cases h1 : c.fields < 1
  · have h1' : ¬ (1 ≤ c.fields) := by omega
    go_wp2
    go_ret
    exact ⟨by rw [ckE_rec hp hg hk, recOk_n hf, fieldsOk_lo (by omega)]; rfl, hS9.bel⟩
  have h1' : 1 ≤ c.fields := by omega
  by_cases h7 : c.fields > 7
  · have h7' : ¬ (c.fields ≤ 7) := by omega
    go_wp2
    go_ret
    exact ⟨by rw [ckE_rec hp hg hk, recOk_n hf, fieldsOk_hi (by omega)]; rfl, hS9.bel⟩
  have h7' : c.fields ≤ 7 := by omega
  have HX : Hid (ckE c = if (cgEq c (fieldsC c.pl c.fields 0 (wM c 0) (wL c 0) (wS c 0)) && inoOk 1 (wM c 0) (wL c 1) (wS c 0)) then 0 else 1) := by
    unfold Hid
    rw [ckE_rec hp hg hk, recOk_n hf, fieldsOk_in h1' h7']
  go_wp2_with (refine wpList_loadG rfl 42 _ rfl _ rfl _ hj.out ?_)
  refine (irefCheck_any _ 1 (wM c 0) (wL c 1) (wS c 0)).mono ?_
  rintro e w10 ⟨rfl, hb10⟩
  have hS10 := hS9.below hb10
  cases hi : inoOk 1 (wM c 0) (wL c 1) (wS c 0)
  · rw [inoE_11 hi]
    go_wp2
    go_ret
    exact ⟨by rw [HX.out, hi, Bool.and_false]; rfl, hS10.bel⟩
  · rw [inoE_0 hi]
    have hlc : Hid _ := hS10.c.load HL.out
    have hlo : Hid _ := hS10.o.load len0
    have hne := fun W => ne_cgs W (x := c) (y := (fieldsC c.pl c.fields 0 (wM c 0) (wL c 0) (wS c 0))) HL.out len0
    cases hq : cgEq c (fieldsC c.pl c.fields 0 (wM c 0) (wL c 0) (wS c 0))
    · rw [hq] at hne
      go_wp2_with (first
        | (refine wpList_loadG rfl 56 _ rfl _ rfl _ hlc.out ?_)
        | (refine wpList_loadG rfl 56 _ rfl _ rfl _ hlo.out ?_))
      go_ret
      exact ⟨by rw [HX.out, hi, hq]; rfl, hS10.bel⟩
    · rw [hq] at hne
      go_wp2_with (first
        | (refine wpList_loadG rfl 56 _ rfl _ rfl _ hlc.out ?_)
        | (refine wpList_loadG rfl 56 _ rfl _ rfl _ hlo.out ?_))
      go_ret
      exact ⟨by rw [HX.out, hi, hq]; rfl, hS10.bel⟩

set_option maxHeartbeats 4000000 in
theorem rck_fields_f (w : World) (c : Cg) (h : CgOk c) (hp : plOk c.pl = false) (hg : c.gone = false) (hk : c.pl.part = 1) (hf : c.fresh = false) : Calls Tryz.prog 49 #[.agg (cgC c)] w fun e w' => e = .returned (.int .i64 (ckE c)) ∧ Below w.heap.size w w' := by
  have HL : Hid (c.pt.bytes.length = 32) := h.pt.ch.1
  have hz := zeroCg
  have hp0 : Hid _ := (CgAt.laid w c).loadP
  have hS2 := chk_laid w c
  obtain ⟨w2, hw2⟩ : ∃ w2, ((w.alloc (.cells (cgC c) 56)).alloc (.cells (cgC cg0) 56)) = w2 := ⟨_, rfl⟩
  rw [hw2] at hS2
  have hS3 := hS2.setR (plC c.pl)
  obtain ⟨w3, hw3⟩ : ∃ w3, w2.setRow (w.heap.size + 1) (cgC (plC c.pl)) = w3 := ⟨_, rfl⟩
  rw [hw3] at hS3
  have hp3 : Hid _ := hS3.c.loadP
  go_enter Tryz.func49, Tryz.ntmps49
  go_wp2_with (first
    | (refine wpList_loadG rfl 26 _ rfl _ rfl _ hp0.out ?_)
    | (refine wpList_loadG rfl 26 _ rfl _ rfl _ hp3.out ?_)
    | (refine wpList_buildBy rfl 56 _ rfl _ rfl [(0, plV c.pl)] (by kernel_rfl) _ (bt_pl c.pl) ?_)
    | (refine wpList_storeG rfl _ _ rfl (w.heap.size + 1) (plC c.pl) cg0 rfl rfl len0 len0 hS2.o ?_; rw [hw3]))
  refine (refCheck_any _ c.pl h.pl).mono ?_
  rintro e w4 ⟨rfl, hb4⟩
  rw [plE_30 hp]
  have hS4 := hS3.below hb4
  have d4hS4 := hS4.c.c4
  rw [hg] at d4hS4
  have d1hS4 := hS4.c.c1
  rw [hk] at d1hS4
  have d5hS4 := hS4.c.c5
  rw [hf] at d5hS4
  have d6hS4 := hS4.c.c6
  have f6 := hS4.o.frozen 6
  have o6 := hS4.o.c6
  have hS5 := hS4.setC 6 (.int .i64 c.fields) (fieldsC c.pl c.fields 0 0 0 0) rfl
  obtain ⟨w5, hw5⟩ : ∃ w5, w4.setCell ⟨w.heap.size + 1, 6, none⟩ (.int .i64 c.fields) = w5 := ⟨_, rfl⟩
  rw [hw5] at hS5
  have hl5 : Hid _ := hS5.c.load HL.out
  go_wp2_with (refine wpList_loadG rfl 56 _ rfl _ rfl _ hl5.out ?_)
  refine (rwith_any _ 0 0 0 0 c).mono ?_
  rintro e w6 ⟨rfl, hb6⟩
  have hS6 := hS5.below hb6
  have hS7 := hS6.setR (fieldsC c.pl c.fields 0 (wM c 0) (wL c 0) (wS c 0))
  obtain ⟨w7, hw7⟩ : ∃ w7, w6.setRow (w.heap.size + 1) (cgC (fieldsC c.pl c.fields 0 (wM c 0) (wL c 0) (wS c 0))) = w7 := ⟨_, rfl⟩
  rw [hw7] at hS7
  have hl7 : Hid _ := hS7.c.load HL.out
  go_wp2_with (first
    | (refine wpList_storeAt rfl 42 _ _ rfl (w.heap.size + 1) 7 4 _ (fieldsC c.pl c.fields 0 (wM c 0) (wL c 0) (wS c 0)) (fieldsC c.pl c.fields 0 0 0 0) rfl rfl rfl (by kernel_rfl) (by decide) (by kernel_rfl) len0 hS6.o rfl ?_; rw [hw7])
    | (refine wpList_loadG rfl 56 _ rfl _ rfl _ hl7.out ?_))
  refine (rwith_any _ 1 0 1 0 c).mono ?_
  rintro e w8 ⟨rfl, hb8⟩
  have hS8 := hS7.below hb8
  have al8 : ∀ o, Below w8.heap.size w8 (w8.alloc o) := fun o => (Below.refl _ _).alloc (Nat.le_refl _) o
  have hS9 := hS8.below (al8 (.cells #[.int .i64 1, .int .i64 (wM c 0), .int .i64 (wL c 1), .int .i64 (wS c 0)] 42))
  have hj9 : InRow (w8.alloc (.cells #[.int .i64 1, .int .i64 (wM c 0), .int .i64 (wL c 1), .int .i64 (wS c 0)] 42)) w8.heap.size 1 (wM c 0) (wL c 1) (wS c 0) := ⟨heap_alloc_new _ _⟩
  obtain ⟨w9, hw9⟩ : ∃ w9, w8.alloc (.cells #[.int .i64 1, .int .i64 (wM c 0), .int .i64 (wL c 1), .int .i64 (wS c 0)] 42) = w9 := ⟨_, rfl⟩
  rw [hw9] at hS9 hj9
  have d6 := hS9.c.c6
  have hj : Hid _ := hj9.load
  go_wp2
  go_ret
  exact ⟨by rw [ckE_no hp]; rfl, hS9.bel⟩

set_option maxHeartbeats 4000000 in
theorem rck_ent_t (w : World) (c : Cg) (h : CgOk c) (hp : plOk c.pl = true) (hg : c.gone = false) (hk : c.pl.part = 2) : Calls Tryz.prog 49 #[.agg (cgC c)] w fun e w' => e = .returned (.int .i64 (ckE c)) ∧ Below w.heap.size w w' := by
  have HL : Hid (c.pt.bytes.length = 32) := h.pt.ch.1
  have hz := zeroCg
  have hp0 : Hid _ := (CgAt.laid w c).loadP
  have hS2 := chk_laid w c
  obtain ⟨w2, hw2⟩ : ∃ w2, ((w.alloc (.cells (cgC c) 56)).alloc (.cells (cgC cg0) 56)) = w2 := ⟨_, rfl⟩
  rw [hw2] at hS2
  have hS3 := hS2.setR (plC c.pl)
  obtain ⟨w3, hw3⟩ : ∃ w3, w2.setRow (w.heap.size + 1) (cgC (plC c.pl)) = w3 := ⟨_, rfl⟩
  rw [hw3] at hS3
  have hp3 : Hid _ := hS3.c.loadP
  go_enter Tryz.func49, Tryz.ntmps49
  go_wp2_with (first
    | (refine wpList_loadG rfl 26 _ rfl _ rfl _ hp0.out ?_)
    | (refine wpList_loadG rfl 26 _ rfl _ rfl _ hp3.out ?_)
    | (refine wpList_buildBy rfl 56 _ rfl _ rfl [(0, plV c.pl)] (by kernel_rfl) _ (bt_pl c.pl) ?_)
    | (refine wpList_storeG rfl _ _ rfl (w.heap.size + 1) (plC c.pl) cg0 rfl rfl len0 len0 hS2.o ?_; rw [hw3]))
  refine (refCheck_any _ c.pl h.pl).mono ?_
  rintro e w4 ⟨rfl, hb4⟩
  rw [plE_0 hp]
  have hS4 := hS3.below hb4
  have d4hS4 := hS4.c.c4
  rw [hg] at d4hS4
  have d1hS4 := hS4.c.c1
  rw [hk] at d1hS4
  have d11hS4 := hS4.c.c11
  have f11 := hS4.o.frozen 11
  have o11 := hS4.o.c11
  have hS5 := hS4.setC 11 (.int .u32 c.to) (entC c.pl c.to) rfl
  obtain ⟨w5, hw5⟩ : ∃ w5, w4.setCell ⟨w.heap.size + 1, 11, none⟩ (.int .u32 c.to) = w5 := ⟨_, rfl⟩
  rw [hw5] at hS5
  have e11 := hS5.c.c11
  cases ht : (c.to != 0)
  · go_wp2
    go_ret
    exact ⟨by rw [ckE_ent hp hg hk]; unfold entOk; rw [ht, Bool.and_false]; rfl, hS5.bel⟩
  have hlc : Hid _ := hS5.c.load HL.out
  have hlo : Hid _ := hS5.o.load len0
  have hne := fun W => ne_cgs W (x := c) (y := (entC c.pl c.to)) HL.out len0
  cases hq : cgEq c (entC c.pl c.to)
  · rw [hq] at hne
    go_wp2_with (first
      | (refine wpList_loadG rfl 56 _ rfl _ rfl _ hlc.out ?_)
      | (refine wpList_loadG rfl 56 _ rfl _ rfl _ hlo.out ?_))
    go_ret
    exact ⟨by rw [ckE_ent hp hg hk]; unfold entOk; rw [ht, hq]; rfl, hS5.bel⟩
  · rw [hq] at hne
    go_wp2_with (first
      | (refine wpList_loadG rfl 56 _ rfl _ rfl _ hlc.out ?_)
      | (refine wpList_loadG rfl 56 _ rfl _ rfl _ hlo.out ?_))
    go_ret
    exact ⟨by rw [ckE_ent hp hg hk]; unfold entOk; rw [ht, hq]; rfl, hS5.bel⟩

set_option maxHeartbeats 4000000 in
theorem rck_ent_f (w : World) (c : Cg) (h : CgOk c) (hp : plOk c.pl = false) (hg : c.gone = false) (hk : c.pl.part = 2) : Calls Tryz.prog 49 #[.agg (cgC c)] w fun e w' => e = .returned (.int .i64 (ckE c)) ∧ Below w.heap.size w w' := by
  have HL : Hid (c.pt.bytes.length = 32) := h.pt.ch.1
  have hz := zeroCg
  have hp0 : Hid _ := (CgAt.laid w c).loadP
  have hS2 := chk_laid w c
  obtain ⟨w2, hw2⟩ : ∃ w2, ((w.alloc (.cells (cgC c) 56)).alloc (.cells (cgC cg0) 56)) = w2 := ⟨_, rfl⟩
  rw [hw2] at hS2
  have hS3 := hS2.setR (plC c.pl)
  obtain ⟨w3, hw3⟩ : ∃ w3, w2.setRow (w.heap.size + 1) (cgC (plC c.pl)) = w3 := ⟨_, rfl⟩
  rw [hw3] at hS3
  have hp3 : Hid _ := hS3.c.loadP
  go_enter Tryz.func49, Tryz.ntmps49
  go_wp2_with (first
    | (refine wpList_loadG rfl 26 _ rfl _ rfl _ hp0.out ?_)
    | (refine wpList_loadG rfl 26 _ rfl _ rfl _ hp3.out ?_)
    | (refine wpList_buildBy rfl 56 _ rfl _ rfl [(0, plV c.pl)] (by kernel_rfl) _ (bt_pl c.pl) ?_)
    | (refine wpList_storeG rfl _ _ rfl (w.heap.size + 1) (plC c.pl) cg0 rfl rfl len0 len0 hS2.o ?_; rw [hw3]))
  refine (refCheck_any _ c.pl h.pl).mono ?_
  rintro e w4 ⟨rfl, hb4⟩
  rw [plE_30 hp]
  have hS4 := hS3.below hb4
  have d4hS4 := hS4.c.c4
  rw [hg] at d4hS4
  have d1hS4 := hS4.c.c1
  rw [hk] at d1hS4
  have d11hS4 := hS4.c.c11
  have f11 := hS4.o.frozen 11
  have o11 := hS4.o.c11
  have hS5 := hS4.setC 11 (.int .u32 c.to) (entC c.pl c.to) rfl
  obtain ⟨w5, hw5⟩ : ∃ w5, w4.setCell ⟨w.heap.size + 1, 11, none⟩ (.int .u32 c.to) = w5 := ⟨_, rfl⟩
  rw [hw5] at hS5
  have e11 := hS5.c.c11
  go_wp2
  go_ret
  exact ⟨by rw [ckE_no hp]; rfl, hS5.bel⟩

set_option maxHeartbeats 4000000 in
theorem rck_dat_t (w : World) (c : Cg) (h : CgOk c) (hp : plOk c.pl = true) (hg : c.gone = false) (h1 : c.pl.part ≠ 1) (h2 : c.pl.part ≠ 2) : Calls Tryz.prog 49 #[.agg (cgC c)] w fun e w' => e = .returned (.int .i64 (ckE c)) ∧ Below w.heap.size w w' := by
  have HL : Hid (c.pt.bytes.length = 32) := h.pt.ch.1
  have hz := zeroCg
  have hp0 : Hid _ := (CgAt.laid w c).loadP
  have hS2 := chk_laid w c
  obtain ⟨w2, hw2⟩ : ∃ w2, ((w.alloc (.cells (cgC c) 56)).alloc (.cells (cgC cg0) 56)) = w2 := ⟨_, rfl⟩
  rw [hw2] at hS2
  have hS3 := hS2.setR (plC c.pl)
  obtain ⟨w3, hw3⟩ : ∃ w3, w2.setRow (w.heap.size + 1) (cgC (plC c.pl)) = w3 := ⟨_, rfl⟩
  rw [hw3] at hS3
  have hp3 : Hid _ := hS3.c.loadP
  go_enter Tryz.func49, Tryz.ntmps49
  go_wp2_with (first
    | (refine wpList_loadG rfl 26 _ rfl _ rfl _ hp0.out ?_)
    | (refine wpList_loadG rfl 26 _ rfl _ rfl _ hp3.out ?_)
    | (refine wpList_buildBy rfl 56 _ rfl _ rfl [(0, plV c.pl)] (by kernel_rfl) _ (bt_pl c.pl) ?_)
    | (refine wpList_storeG rfl _ _ rfl (w.heap.size + 1) (plC c.pl) cg0 rfl rfl len0 len0 hS2.o ?_; rw [hw3]))
  refine (refCheck_any _ c.pl h.pl).mono ?_
  rintro e w4 ⟨rfl, hb4⟩
  rw [plE_0 hp]
  have hS4 := hS3.below hb4
  have d4hS4 := hS4.c.c4
  rw [hg] at d4hS4
  have d1hS4 := hS4.c.c1
  have hT := trimP_ok h.pt
  have HT : Hid ((trimP c.pt).bytes.length = 32) := hT.ch.1
  have ht4 : Hid _ := hS4.c.loadT HL.out
  go_wp2_with (refine wpList_loadG rfl 54 _ rfl _ rfl _ ht4.out ?_)
  refine (rtrim_any _ c.pt h.pt).mono ?_
  rintro e w5 ⟨rfl, hb5⟩
  have hS5 := hS4.below hb5
  have hS6 := hS5.setR (dataC c.pl (trimP c.pt))
  obtain ⟨w6, hw6⟩ : ∃ w6, w5.setRow (w.heap.size + 1) (cgC (dataC c.pl (trimP c.pt))) = w6 := ⟨_, rfl⟩
  rw [hw6] at hS6
  have hlc : Hid _ := hS6.c.load HL.out
  have hlo : Hid _ := hS6.o.load HT.out
  have hne := fun W => ne_cgs W (x := c) (y := (dataC c.pl (trimP c.pt))) HL.out HT.out
  cases hq : cgEq c (dataC c.pl (trimP c.pt))
  · rw [hq] at hne
    go_wp2_with (first
      | (refine wpList_loadG rfl 56 _ rfl _ rfl _ hlc.out ?_)
      | (refine wpList_loadG rfl 56 _ rfl _ rfl _ hlo.out ?_) | (refine wpList_storeAt rfl 54 _ _ rfl (w.heap.size + 1) 12 34 (ptC (trimP c.pt)) (dataC c.pl (trimP c.pt)) (plC c.pl) rfl rfl (ptC_size HT.out) size_pt (by decide) (one_pt _) len0 hS5.o (cgL_pt (plC c.pl) (trimP c.pt) len0) ?_; rw [hw6]))
    go_ret
    exact ⟨by rw [ckE_dat hp hg h1 h2]; unfold datOk; rw [hq]; rfl, hS6.bel⟩
  · rw [hq] at hne
    go_wp2_with (first
      | (refine wpList_loadG rfl 56 _ rfl _ rfl _ hlc.out ?_)
      | (refine wpList_loadG rfl 56 _ rfl _ rfl _ hlo.out ?_) | (refine wpList_storeAt rfl 54 _ _ rfl (w.heap.size + 1) 12 34 (ptC (trimP c.pt)) (dataC c.pl (trimP c.pt)) (plC c.pl) rfl rfl (ptC_size HT.out) size_pt (by decide) (one_pt _) len0 hS5.o (cgL_pt (plC c.pl) (trimP c.pt) len0) ?_; rw [hw6]))
    go_ret
    exact ⟨by rw [ckE_dat hp hg h1 h2]; unfold datOk; rw [hq]; rfl, hS6.bel⟩

set_option maxHeartbeats 4000000 in
theorem rck_dat_f (w : World) (c : Cg) (h : CgOk c) (hp : plOk c.pl = false) (hg : c.gone = false) (h1 : c.pl.part ≠ 1) (h2 : c.pl.part ≠ 2) : Calls Tryz.prog 49 #[.agg (cgC c)] w fun e w' => e = .returned (.int .i64 (ckE c)) ∧ Below w.heap.size w w' := by
  have HL : Hid (c.pt.bytes.length = 32) := h.pt.ch.1
  have hz := zeroCg
  have hp0 : Hid _ := (CgAt.laid w c).loadP
  have hS2 := chk_laid w c
  obtain ⟨w2, hw2⟩ : ∃ w2, ((w.alloc (.cells (cgC c) 56)).alloc (.cells (cgC cg0) 56)) = w2 := ⟨_, rfl⟩
  rw [hw2] at hS2
  have hS3 := hS2.setR (plC c.pl)
  obtain ⟨w3, hw3⟩ : ∃ w3, w2.setRow (w.heap.size + 1) (cgC (plC c.pl)) = w3 := ⟨_, rfl⟩
  rw [hw3] at hS3
  have hp3 : Hid _ := hS3.c.loadP
  go_enter Tryz.func49, Tryz.ntmps49
  go_wp2_with (first
    | (refine wpList_loadG rfl 26 _ rfl _ rfl _ hp0.out ?_)
    | (refine wpList_loadG rfl 26 _ rfl _ rfl _ hp3.out ?_)
    | (refine wpList_buildBy rfl 56 _ rfl _ rfl [(0, plV c.pl)] (by kernel_rfl) _ (bt_pl c.pl) ?_)
    | (refine wpList_storeG rfl _ _ rfl (w.heap.size + 1) (plC c.pl) cg0 rfl rfl len0 len0 hS2.o ?_; rw [hw3]))
  refine (refCheck_any _ c.pl h.pl).mono ?_
  rintro e w4 ⟨rfl, hb4⟩
  rw [plE_30 hp]
  have hS4 := hS3.below hb4
  have d4hS4 := hS4.c.c4
  rw [hg] at d4hS4
  have d1hS4 := hS4.c.c1
  have hT := trimP_ok h.pt
  have HT : Hid ((trimP c.pt).bytes.length = 32) := hT.ch.1
  have ht4 : Hid _ := hS4.c.loadT HL.out
  go_wp2_with (refine wpList_loadG rfl 54 _ rfl _ rfl _ ht4.out ?_)
  refine (rtrim_any _ c.pt h.pt).mono ?_
  rintro e w5 ⟨rfl, hb5⟩
  have hS5 := hS4.below hb5
  have hS6 := hS5.setR (dataC c.pl (trimP c.pt))
  obtain ⟨w6, hw6⟩ : ∃ w6, w5.setRow (w.heap.size + 1) (cgC (dataC c.pl (trimP c.pt))) = w6 := ⟨_, rfl⟩
  rw [hw6] at hS6
  go_wp2_with (first  | (refine wpList_storeAt rfl 54 _ _ rfl (w.heap.size + 1) 12 34 (ptC (trimP c.pt)) (dataC c.pl (trimP c.pt)) (plC c.pl) rfl rfl (ptC_size HT.out) size_pt (by decide) (one_pt _) len0 hS5.o (cgL_pt (plC c.pl) (trimP c.pt) len0) ?_; rw [hw6]))
  go_ret
  exact ⟨by rw [ckE_no hp]; rfl, hS6.bel⟩

theorem rck_any (w : World) (c : Cg) (h : CgOk c) : Calls Tryz.prog 49 #[.agg (cgC c)] w fun e w' => e = .returned (.int .i64 (ckE c)) ∧ Below w.heap.size w w' := by
  cases hg : c.gone
  · by_cases h1 : c.pl.part = 1
    · cases hf : c.fresh
      · cases hp : plOk c.pl
        · exact rck_fields_f w c h hp hg h1 hf
        · exact rck_fields_t w c h hp hg h1 hf
      · cases hp : plOk c.pl
        · exact rck_fresh_f w c h hp hg h1 hf
        · exact rck_fresh_t w c h hp hg h1 hf
    · by_cases h2 : c.pl.part = 2
      · cases hp : plOk c.pl
        · exact rck_ent_f w c h hp hg h2
        · exact rck_ent_t w c h hp hg h2
      · cases hp : plOk c.pl
        · exact rck_dat_f w c h hp hg h1 h2
        · exact rck_dat_t w c h hp hg h1 h2
  · cases hp : plOk c.pl
    · exact rck_gone_f w c h hp hg
    · exact rck_gone_t w c h hp hg

end Go.Proofs.YtjlglnhmkheidaaGreat
