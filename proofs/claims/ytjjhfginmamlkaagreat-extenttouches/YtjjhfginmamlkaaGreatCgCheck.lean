/- The contracts of delta.recordMayBe, entryMayBe, dataMayBe, mayBe, Check. -/
import Derived.Test.YtjjhfginmamlkaaGreatD2
import Derived.Test.YtjjhfginmamlkaaGreatT3
namespace Go.Proofs.YtjjhfginmamlkaaGreat
open Go.RowKit
set_option linter.unusedVariables false
set_option linter.unusedSimpArgs false
set_option maxRecDepth 100000

theorem OneS.below {w W W' : World} {c : Cg} (h : OneS w W c) (hb : Below W.heap.size W W') : OneS w W' c := ⟨h.c.below hb, h.bel.trans (hb.mono h.bel.size)⟩
theorem OneS.drew {w W : World} {c : Cg} (h : OneS w W c) : OneS w W.drew c := ⟨h.c.drew, h.bel.drew⟩

set_option maxHeartbeats 2000000 in
theorem recordMayBe_any (w : World) (c : Cg) (h : CgOk c) : Calls Tryz.prog 155 #[.agg (cgC c)] w fun e w' => e = .returned (.bool (recOk c)) ∧ Below w.heap.size w w' := by
  have HL : Hid (c.pt.bytes.length = 32) := h.pt.ch.1
  have hS := one_laid w c
  obtain ⟨w1, hw1⟩ : ∃ w1, w.alloc (.cells (cgC c) 94) = w1 := ⟨_, rfl⟩
  rw [hw1] at hS
  have hl1 : Hid _ := hS.c.load HL.out
  have hp1 : Hid _ := hS.c.loadP
  have hi1 : Hid _ := hS.c.loadI
  have c5 := hS.c.c5
  cases hf : c.fresh
  · have HR : Hid (recOk c = fieldsOk c) := by unfold Hid recOk; rw [hf]; exact if_neg (by decide)
    rw [hf] at c5
    rw [HR.out]
    go_enter Tryz.func155, Tryz.ntmps155
    go_wp2_with (refine wpList_loadG rfl 94 _ rfl _ rfl _ hl1.out ?_)
    refine (fieldsMayBe_any _ c h).mono ?_
    rintro e w2 ⟨rfl, hb2⟩
    go_wp2
    go_ret
    exact ⟨rfl, hS.bel.trans (hb2.mono hS.bel.size)⟩
  · have HR : Hid (recOk c = (cgEq c (freshC c.pl c.kind c.mode c.links c.size) && inoOk c.kind c.mode c.links c.size)) := by unfold Hid recOk; rw [hf]; exact if_pos rfl
    rw [hf] at c5
    rw [HR.out]
    have heq := fun W => eq_cgs W (x := c) (y := freshC c.pl c.kind c.mode c.links c.size) HL.out len0
    cases hq : cgEq c (freshC c.pl c.kind c.mode c.links c.size)
    · rw [hq] at heq
      go_enter Tryz.func155, Tryz.ntmps155
      go_wp2_with (first
        | (refine wpList_loadG rfl 94 _ rfl _ rfl _ hl1.out ?_)
        | (refine wpList_loadG rfl 87 _ rfl _ rfl _ hp1.out ?_)
        | (refine wpList_loadG rfl 89 _ rfl _ rfl _ hi1.out ?_)
        | (refine wpList_buildBy rfl 94 _ rfl _ rfl [(0, plV c.pl), (2, .bool true), (4, .agg #[.int .i64 c.kind, .int .i64 c.mode, .int .i64 c.links, .int .i64 c.size])] (by kernel_rfl) _ (bt_fresh c.pl c.kind c.mode c.links c.size) ?_))
      go_ret
      exact ⟨rfl, hS.bel⟩
    · rw [hq] at heq
      go_enter Tryz.func155, Tryz.ntmps155
      go_wp2_with (first
        | (refine wpList_loadG rfl 94 _ rfl _ rfl _ hl1.out ?_)
        | (refine wpList_loadG rfl 87 _ rfl _ rfl _ hp1.out ?_)
        | (refine wpList_loadG rfl 89 _ rfl _ rfl _ hi1.out ?_)
        | (refine wpList_buildBy rfl 94 _ rfl _ rfl [(0, plV c.pl), (2, .bool true), (4, .agg #[.int .i64 c.kind, .int .i64 c.mode, .int .i64 c.links, .int .i64 c.size])] (by kernel_rfl) _ (bt_fresh c.pl c.kind c.mode c.links c.size) ?_))
      refine (checkInode_any _ c.kind c.mode c.links c.size).mono ?_
      rintro e w2 ⟨rfl, hb2⟩
      have hB2 : Below w.heap.size w w2 := hS.bel.trans (hb2.mono hS.bel.size)
      cases hi : inoOk c.kind c.mode c.links c.size
      · rw [inoE_11 hi]
        go_wp2
        go_ret
        exact ⟨by rw [hi]; rfl, hB2⟩
      · rw [inoE_0 hi]
        go_wp2
        go_ret
        exact ⟨by rw [hi]; rfl, hB2⟩

set_option maxHeartbeats 2000000 in
theorem entryMayBe_any (w : World) (c : Cg) (h : CgOk c) : Calls Tryz.prog 157 #[.agg (cgC c)] w fun e w' => e = .returned (.bool (entOk c)) ∧ Below w.heap.size w w' := by
  have HL : Hid (c.pt.bytes.length = 32) := h.pt.ch.1
  have hS := one_laid w c
  obtain ⟨w1, hw1⟩ : ∃ w1, w.alloc (.cells (cgC c) 94) = w1 := ⟨_, rfl⟩
  rw [hw1] at hS
  have hl1 : Hid _ := hS.c.load HL.out
  have hp1 : Hid _ := hS.c.loadP
  have c11 := hS.c.c11
  unfold entOk
  have heq := fun W => eq_cgs W (x := c) (y := entC c.pl c.to) HL.out len0
  cases hq : cgEq c (entC c.pl c.to)
  · rw [hq] at heq
    go_enter Tryz.func157, Tryz.ntmps157
    go_wp2_with (first
      | (refine wpList_loadG rfl 94 _ rfl _ rfl _ hl1.out ?_)
      | (refine wpList_loadG rfl 87 _ rfl _ rfl _ hp1.out ?_)
      | (refine wpList_buildBy rfl 94 _ rfl _ rfl [(0, plV c.pl), (5, .int .u32 c.to)] (by kernel_rfl) _ (bt_ent c.pl c.to) ?_))
    go_ret
    exact ⟨rfl, hS.bel⟩
  · rw [hq] at heq
    go_enter Tryz.func157, Tryz.ntmps157
    go_wp2_with (first
      | (refine wpList_loadG rfl 94 _ rfl _ rfl _ hl1.out ?_)
      | (refine wpList_loadG rfl 87 _ rfl _ rfl _ hp1.out ?_)
      | (refine wpList_buildBy rfl 94 _ rfl _ rfl [(0, plV c.pl), (5, .int .u32 c.to)] (by kernel_rfl) _ (bt_ent c.pl c.to) ?_))
    go_ret
    exact ⟨rfl, hS.bel⟩

set_option maxHeartbeats 2000000 in
theorem dataMayBe_any (w : World) (c : Cg) (h : CgOk c) : Calls Tryz.prog 159 #[.agg (cgC c)] w fun e w' => e = .returned (.bool (datOk c)) ∧ Below w.heap.size w w' := by
  have HL : Hid (c.pt.bytes.length = 32) := h.pt.ch.1
  have hS := one_laid w c
  obtain ⟨w1, hw1⟩ : ∃ w1, w.alloc (.cells (cgC c) 94) = w1 := ⟨_, rfl⟩
  rw [hw1] at hS
  have hl1 : Hid _ := hS.c.load HL.out
  have hp1 : Hid _ := hS.c.loadP
  have hT := trimP_ok h.pt
  have HT : Hid ((trimP c.pt).bytes.length = 32) := hT.ch.1
  have tr := fun W => trim_any W c.pt h.pt
  have heq := fun W => eq_cgs W (x := c) (y := dataC c.pl (trimP c.pt)) HL.out HT.out
  go_enter Tryz.func159, Tryz.ntmps159
  go_wp2_with fail
  refine wp_region_noPanic ?_
  refine wp_region_held_drew (S := fun W => OneS w W c) (by kernel_rfl) hS.drew (fun hHeld => ?_)
  refine wpAnyH_take (i := 0) (v := .agg (cgC c)) rfl (by kernel_rfl) (by kernel_rfl) (by kernel_rfl) (fun _ _ _ h => h) (yields_load (by rfl) _ _ rfl _ rfl _ (fun W h => h.c.load HL.out)) (by assumption) ?_
  try simp only [List.getElem_toArray, List.getElem_cons_zero, List.getElem_cons_succ, Act.put, List.setIfInBounds_toArray, List.set_cons_zero, List.set_cons_succ]
  refine wpAnyH_take (i := 1) (v := .pointer (some ⟨w.heap.size, 0, none⟩)) rfl (by kernel_rfl) (by kernel_rfl) (by kernel_rfl) (fun _ _ _ h => h) (Or.inl ⟨by rfl, fun W hSw => by (try dsimp only at hSw); go_simp⟩) (by assumption) ?_
  try simp only [List.getElem_toArray, List.getElem_cons_zero, List.getElem_cons_succ, Act.put, List.setIfInBounds_toArray, List.set_cons_zero, List.set_cons_succ]
  refine wpAnyH_take (i := 2) (v := plV c.pl) rfl (by kernel_rfl) (by kernel_rfl) (by kernel_rfl) (fun _ _ _ h => h) (yields_load (by rfl) _ _ rfl _ rfl _ (fun W h => h.c.loadP)) (by assumption) ?_
  try simp only [List.getElem_toArray, List.getElem_cons_zero, List.getElem_cons_succ, Act.put, List.setIfInBounds_toArray, List.set_cons_zero, List.set_cons_succ]
  refine wpAnyH_take (i := 3) (v := .pointer (some ⟨w.heap.size, 12, none⟩)) rfl (by kernel_rfl) (by kernel_rfl) (by kernel_rfl) (fun _ _ _ h => h) (Or.inl ⟨by rfl, fun W hSw => by (try dsimp only at hSw); go_simp⟩) (by assumption) ?_
  try simp only [List.getElem_toArray, List.getElem_cons_zero, List.getElem_cons_succ, Act.put, List.setIfInBounds_toArray, List.set_cons_zero, List.set_cons_succ]
  refine wpAnyH_take (i := 4) (v := .agg (ptC c.pt)) rfl (by kernel_rfl) (by kernel_rfl) (by kernel_rfl) (fun _ _ _ h => h) (yields_load (by rfl) _ _ rfl _ rfl _ (fun W h => h.c.loadT HL.out)) (by assumption) ?_
  try simp only [List.getElem_toArray, List.getElem_cons_zero, List.getElem_cons_succ, Act.put, List.setIfInBounds_toArray, List.set_cons_zero, List.set_cons_succ]
  refine wpAnyH_ready (rs := [5]) (by kernel_rfl) (by simp) ?_
  refine AllReadyH.cons rfl (fun K hK => ?_) AllReadyH.nil
  go_simp
  go_wp2_with (go_at_call 169; refine (tr _).mono ?_; rintro e w2 ⟨rfl, hb_w2⟩)
  refine hK.out _ _ (hHeld.below hb_w2) (fun hHeld2 => ?_)
  clear hK K
  refine wpAnyH_take (i := 6) (v := .agg (cgC (dataC c.pl (trimP c.pt)))) rfl (by kernel_rfl) (by kernel_rfl) (by kernel_rfl) (fun _ _ _ h => h) (yields_build (by rfl) 94 _ rfl [(0, plV c.pl), (6, .agg (ptC (trimP c.pt)))] (by kernel_rfl) _ (bt_data c.pl HT.out)) (by assumption) ?_
  try simp only [List.getElem_toArray, List.getElem_cons_zero, List.getElem_cons_succ, Act.put, List.setIfInBounds_toArray, List.set_cons_zero, List.set_cons_succ]
  refine wpAnyH_take (i := 7) (v := .bool (cgEq c (dataC c.pl (trimP c.pt)))) rfl (by kernel_rfl) (by kernel_rfl) (by kernel_rfl) (fun _ _ _ h => h) (Or.inl ⟨by rfl, fun W hSw => by (try dsimp only at hSw); go_simp⟩) (by assumption) ?_
  try simp only [List.getElem_toArray, List.getElem_cons_zero, List.getElem_cons_succ, Act.put, List.setIfInBounds_toArray, List.set_cons_zero, List.set_cons_succ]
  refine wpAnyH_take (i := 8) (v := .bool (cgEq c (dataC c.pl (trimP c.pt)))) rfl (by kernel_rfl) (by kernel_rfl) (by kernel_rfl) (fun _ _ _ h => h) (Or.inl ⟨by rfl, fun W hSw => by (try dsimp only at hSw); go_simp⟩) (by assumption) ?_
  try simp only [List.getElem_toArray, List.getElem_cons_zero, List.getElem_cons_succ, Act.put, List.setIfInBounds_toArray, List.set_cons_zero, List.set_cons_succ]
  refine wpAnyH_done (by kernel_rfl) ?_ _
  refine NoPanic.normal ?_
  go_wp2
  go_ret
  exact ⟨rfl, hHeld2.bel⟩

def ckOk (c : Cg) : Bool := if plOk c.pl then (if c.gone then cgEq c (goneC c.pl) else if c.pl.part = 1 then recOk c else if c.pl.part = 2 then entOk c else datOk c) else false
def ckE (c : Cg) : Int := if ckOk c then 0 else 1
theorem plE_0 {p : Pl} (h : plOk p = true) : plE p = 0 := by unfold plE; rw [h]; rfl
theorem plE_30 {p : Pl} (h : plOk p = false) : plE p = 30 := by unfold plE; rw [h]; rfl
theorem plOk_part {p : Pl} (h : plOk p = true) : p.part = 1 ∨ p.part = 2 ∨ p.part = 3 := by
  unfold plOk at h
  by_cases h1 : p.part = 1
  · exact .inl h1
  by_cases h2 : p.part = 2
  · exact .inr (.inl h2)
  by_cases h3 : p.part = 3
  · exact .inr (.inr h3)
  simp [h1, h2, h3] at h

set_option maxHeartbeats 4000000 in
theorem mayBeK_1 (w : World) (c : Cg) (h : CgOk c) (hp : plOk c.pl = true) (hg : c.gone = false) (hk : c.pl.part = 1) : Calls Tryz.prog 135 #[.agg (cgC c)] w fun e w' => e = .returned (.bool (recOk c)) ∧ Below w.heap.size w w' := by
  have HL : Hid (c.pt.bytes.length = 32) := h.pt.ch.1
  have hS := one_laid w c
  obtain ⟨w1, hw1⟩ : ∃ w1, w.alloc (.cells (cgC c) 94) = w1 := ⟨_, rfl⟩
  rw [hw1] at hS
  have hl1 : Hid _ := hS.c.load HL.out
  have hp1 : Hid _ := hS.c.loadP
  have c4 := hS.c.c4
  rw [hg] at c4
  have hpc := (check_any w1 c.pl h.pl)
  rw [plE_0 hp] at hpc
  have po : ∀ W, Calls Tryz.prog 136 #[plV c.pl] W fun e w' => e = .returned (.agg #[.func (.func 155) #[] #[], .func (.func 156) #[] #[]]) ∧ Below W.heap.size W w' := by
    intro W
    have e : c.pl = ⟨c.pl.ino, 1, c.pl.name, c.pl.chunk⟩ := by rw [← hk]
    rw [e]; exact partOf_1 W _ _ _
  have ma := fun W => recordMayBe_any W c h
  have hfd : ∀ W, (Instr.field 221 (.agg #[.func (.func 155) #[] #[], .func (.func 156) #[] #[]]) 0).run Tryz.prog W = .ok (.func (.func 155) #[] #[]) W := fun W => by kernel_rfl
  clear hk
  go_enter Tryz.func135, Tryz.ntmps135
  go_wp2_with (refine wpList_loadG rfl 87 _ rfl _ rfl _ hp1.out ?_)
  refine hpc.mono ?_
  rintro e w2 ⟨rfl, hb2⟩
  have hS2 := hS.below hb2
  have d4 := hS2.c.c4
  rw [hg] at d4
  go_wp2_with fail
  refine wp_region_noPanic ?_
  refine wp_region_held_drew (S := fun W => OneS w W c) (by kernel_rfl) hS2.drew (fun hHeld => ?_)
  refine wpAnyH_take (i := 0) (v := .pointer (some ⟨w.heap.size, 0, none⟩)) rfl (by kernel_rfl) (by kernel_rfl) (by kernel_rfl) (fun _ _ _ h => h) (Or.inl ⟨by rfl, fun W hSw => by (try dsimp only at hSw); go_simp⟩) (by assumption) ?_
  try simp only [List.getElem_toArray, List.getElem_cons_zero, List.getElem_cons_succ, Act.put, List.setIfInBounds_toArray, List.set_cons_zero, List.set_cons_succ]
  refine wpAnyH_take (i := 1) (v := plV c.pl) rfl (by kernel_rfl) (by kernel_rfl) (by kernel_rfl) (fun _ _ _ h => h) (yields_load (by rfl) _ _ rfl _ rfl _ (fun W h => h.c.loadP)) (by assumption) ?_
  try simp only [List.getElem_toArray, List.getElem_cons_zero, List.getElem_cons_succ, Act.put, List.setIfInBounds_toArray, List.set_cons_zero, List.set_cons_succ]
  refine wpAnyH_take (i := 4) (v := .agg (cgC c)) rfl (by kernel_rfl) (by kernel_rfl) (by kernel_rfl) (fun _ _ _ h => h) (yields_load (by rfl) _ _ rfl _ rfl _ (fun W h => h.c.load HL.out)) (by assumption) ?_
  try simp only [List.getElem_toArray, List.getElem_cons_zero, List.getElem_cons_succ, Act.put, List.setIfInBounds_toArray, List.set_cons_zero, List.set_cons_succ]
  refine wpAnyH_ready (rs := [2]) (by kernel_rfl) (by simp) ?_
  refine AllReadyH.cons rfl (fun K hK => ?_) AllReadyH.nil
  go_simp
  go_wp2_with (go_at_call 136; refine (po _).mono ?_; rintro e w3 ⟨rfl, hb_w3⟩)
  refine hK.out _ _ (hHeld.below hb_w3) (fun hHeld2 => ?_)
  clear hK K
  refine wpAnyH_take (i := 3) (v := .func (.func 155) #[] #[]) rfl (by kernel_rfl) (by kernel_rfl) (by kernel_rfl) (fun _ _ _ h => h) (Or.inl ⟨by rfl, fun W hSw => by (try dsimp only at hSw); go_simp⟩) (by assumption) ?_
  try simp only [List.getElem_toArray, List.getElem_cons_zero, List.getElem_cons_succ, Act.put, List.setIfInBounds_toArray, List.set_cons_zero, List.set_cons_succ]
  refine wpAnyH_ready (rs := [5]) (by kernel_rfl) (by simp) ?_
  refine AllReadyH.cons rfl (fun K hK => ?_) AllReadyH.nil
  go_simp
  go_wp2_with (go_at_call 155; refine (ma _).mono ?_; rintro e w4 ⟨rfl, hb_w4⟩)
  refine hK.out _ _ (hHeld2.below hb_w4) (fun hHeld3 => ?_)
  clear hK K
  refine wpAnyH_take (i := 6) (v := .bool (recOk c)) rfl (by kernel_rfl) (by kernel_rfl) (by kernel_rfl) (fun _ _ _ h => h) (Or.inl ⟨by rfl, fun W hSw => by (try dsimp only at hSw); go_simp⟩) (by assumption) ?_
  try simp only [List.getElem_toArray, List.getElem_cons_zero, List.getElem_cons_succ, Act.put, List.setIfInBounds_toArray, List.set_cons_zero, List.set_cons_succ]
  refine wpAnyH_done (by kernel_rfl) ?_ _
  refine NoPanic.normal ?_
  go_wp2
  go_ret
  exact ⟨rfl, hHeld3.bel⟩

set_option maxHeartbeats 4000000 in
theorem mayBeK_2 (w : World) (c : Cg) (h : CgOk c) (hp : plOk c.pl = true) (hg : c.gone = false) (hk : c.pl.part = 2) : Calls Tryz.prog 135 #[.agg (cgC c)] w fun e w' => e = .returned (.bool (entOk c)) ∧ Below w.heap.size w w' := by
  have HL : Hid (c.pt.bytes.length = 32) := h.pt.ch.1
  have hS := one_laid w c
  obtain ⟨w1, hw1⟩ : ∃ w1, w.alloc (.cells (cgC c) 94) = w1 := ⟨_, rfl⟩
  rw [hw1] at hS
  have hl1 : Hid _ := hS.c.load HL.out
  have hp1 : Hid _ := hS.c.loadP
  have c4 := hS.c.c4
  rw [hg] at c4
  have hpc := (check_any w1 c.pl h.pl)
  rw [plE_0 hp] at hpc
  have po : ∀ W, Calls Tryz.prog 136 #[plV c.pl] W fun e w' => e = .returned (.agg #[.func (.func 157) #[] #[], .func (.func 158) #[] #[]]) ∧ Below W.heap.size W w' := by
    intro W
    have e : c.pl = ⟨c.pl.ino, 2, c.pl.name, c.pl.chunk⟩ := by rw [← hk]
    rw [e]; exact partOf_2 W _ _ _
  have ma := fun W => entryMayBe_any W c h
  have hfd : ∀ W, (Instr.field 221 (.agg #[.func (.func 157) #[] #[], .func (.func 158) #[] #[]]) 0).run Tryz.prog W = .ok (.func (.func 157) #[] #[]) W := fun W => by kernel_rfl
  clear hk
  go_enter Tryz.func135, Tryz.ntmps135
  go_wp2_with (refine wpList_loadG rfl 87 _ rfl _ rfl _ hp1.out ?_)
  refine hpc.mono ?_
  rintro e w2 ⟨rfl, hb2⟩
  have hS2 := hS.below hb2
  have d4 := hS2.c.c4
  rw [hg] at d4
  go_wp2_with fail
  refine wp_region_noPanic ?_
  refine wp_region_held_drew (S := fun W => OneS w W c) (by kernel_rfl) hS2.drew (fun hHeld => ?_)
  refine wpAnyH_take (i := 0) (v := .pointer (some ⟨w.heap.size, 0, none⟩)) rfl (by kernel_rfl) (by kernel_rfl) (by kernel_rfl) (fun _ _ _ h => h) (Or.inl ⟨by rfl, fun W hSw => by (try dsimp only at hSw); go_simp⟩) (by assumption) ?_
  try simp only [List.getElem_toArray, List.getElem_cons_zero, List.getElem_cons_succ, Act.put, List.setIfInBounds_toArray, List.set_cons_zero, List.set_cons_succ]
  refine wpAnyH_take (i := 1) (v := plV c.pl) rfl (by kernel_rfl) (by kernel_rfl) (by kernel_rfl) (fun _ _ _ h => h) (yields_load (by rfl) _ _ rfl _ rfl _ (fun W h => h.c.loadP)) (by assumption) ?_
  try simp only [List.getElem_toArray, List.getElem_cons_zero, List.getElem_cons_succ, Act.put, List.setIfInBounds_toArray, List.set_cons_zero, List.set_cons_succ]
  refine wpAnyH_take (i := 4) (v := .agg (cgC c)) rfl (by kernel_rfl) (by kernel_rfl) (by kernel_rfl) (fun _ _ _ h => h) (yields_load (by rfl) _ _ rfl _ rfl _ (fun W h => h.c.load HL.out)) (by assumption) ?_
  try simp only [List.getElem_toArray, List.getElem_cons_zero, List.getElem_cons_succ, Act.put, List.setIfInBounds_toArray, List.set_cons_zero, List.set_cons_succ]
  refine wpAnyH_ready (rs := [2]) (by kernel_rfl) (by simp) ?_
  refine AllReadyH.cons rfl (fun K hK => ?_) AllReadyH.nil
  go_simp
  go_wp2_with (go_at_call 136; refine (po _).mono ?_; rintro e w3 ⟨rfl, hb_w3⟩)
  refine hK.out _ _ (hHeld.below hb_w3) (fun hHeld2 => ?_)
  clear hK K
  refine wpAnyH_take (i := 3) (v := .func (.func 157) #[] #[]) rfl (by kernel_rfl) (by kernel_rfl) (by kernel_rfl) (fun _ _ _ h => h) (Or.inl ⟨by rfl, fun W hSw => by (try dsimp only at hSw); go_simp⟩) (by assumption) ?_
  try simp only [List.getElem_toArray, List.getElem_cons_zero, List.getElem_cons_succ, Act.put, List.setIfInBounds_toArray, List.set_cons_zero, List.set_cons_succ]
  refine wpAnyH_ready (rs := [5]) (by kernel_rfl) (by simp) ?_
  refine AllReadyH.cons rfl (fun K hK => ?_) AllReadyH.nil
  go_simp
  go_wp2_with (go_at_call 157; refine (ma _).mono ?_; rintro e w4 ⟨rfl, hb_w4⟩)
  refine hK.out _ _ (hHeld2.below hb_w4) (fun hHeld3 => ?_)
  clear hK K
  refine wpAnyH_take (i := 6) (v := .bool (entOk c)) rfl (by kernel_rfl) (by kernel_rfl) (by kernel_rfl) (fun _ _ _ h => h) (Or.inl ⟨by rfl, fun W hSw => by (try dsimp only at hSw); go_simp⟩) (by assumption) ?_
  try simp only [List.getElem_toArray, List.getElem_cons_zero, List.getElem_cons_succ, Act.put, List.setIfInBounds_toArray, List.set_cons_zero, List.set_cons_succ]
  refine wpAnyH_done (by kernel_rfl) ?_ _
  refine NoPanic.normal ?_
  go_wp2
  go_ret
  exact ⟨rfl, hHeld3.bel⟩

set_option maxHeartbeats 4000000 in
theorem mayBeK_3 (w : World) (c : Cg) (h : CgOk c) (hp : plOk c.pl = true) (hg : c.gone = false) (hk : c.pl.part = 3) : Calls Tryz.prog 135 #[.agg (cgC c)] w fun e w' => e = .returned (.bool (datOk c)) ∧ Below w.heap.size w w' := by
  have HL : Hid (c.pt.bytes.length = 32) := h.pt.ch.1
  have hS := one_laid w c
  obtain ⟨w1, hw1⟩ : ∃ w1, w.alloc (.cells (cgC c) 94) = w1 := ⟨_, rfl⟩
  rw [hw1] at hS
  have hl1 : Hid _ := hS.c.load HL.out
  have hp1 : Hid _ := hS.c.loadP
  have c4 := hS.c.c4
  rw [hg] at c4
  have hpc := (check_any w1 c.pl h.pl)
  rw [plE_0 hp] at hpc
  have po : ∀ W, Calls Tryz.prog 136 #[plV c.pl] W fun e w' => e = .returned (.agg #[.func (.func 159) #[] #[], .func (.func 160) #[] #[]]) ∧ Below W.heap.size W w' := by
    intro W
    have e : c.pl = ⟨c.pl.ino, 3, c.pl.name, c.pl.chunk⟩ := by rw [← hk]
    rw [e]; exact partOf_3 W _ _ _
  have ma := fun W => dataMayBe_any W c h
  have hfd : ∀ W, (Instr.field 221 (.agg #[.func (.func 159) #[] #[], .func (.func 160) #[] #[]]) 0).run Tryz.prog W = .ok (.func (.func 159) #[] #[]) W := fun W => by kernel_rfl
  clear hk
  go_enter Tryz.func135, Tryz.ntmps135
  go_wp2_with (refine wpList_loadG rfl 87 _ rfl _ rfl _ hp1.out ?_)
  refine hpc.mono ?_
  rintro e w2 ⟨rfl, hb2⟩
  have hS2 := hS.below hb2
  have d4 := hS2.c.c4
  rw [hg] at d4
  go_wp2_with fail
  refine wp_region_noPanic ?_
  refine wp_region_held_drew (S := fun W => OneS w W c) (by kernel_rfl) hS2.drew (fun hHeld => ?_)
  refine wpAnyH_take (i := 0) (v := .pointer (some ⟨w.heap.size, 0, none⟩)) rfl (by kernel_rfl) (by kernel_rfl) (by kernel_rfl) (fun _ _ _ h => h) (Or.inl ⟨by rfl, fun W hSw => by (try dsimp only at hSw); go_simp⟩) (by assumption) ?_
  try simp only [List.getElem_toArray, List.getElem_cons_zero, List.getElem_cons_succ, Act.put, List.setIfInBounds_toArray, List.set_cons_zero, List.set_cons_succ]
  refine wpAnyH_take (i := 1) (v := plV c.pl) rfl (by kernel_rfl) (by kernel_rfl) (by kernel_rfl) (fun _ _ _ h => h) (yields_load (by rfl) _ _ rfl _ rfl _ (fun W h => h.c.loadP)) (by assumption) ?_
  try simp only [List.getElem_toArray, List.getElem_cons_zero, List.getElem_cons_succ, Act.put, List.setIfInBounds_toArray, List.set_cons_zero, List.set_cons_succ]
  refine wpAnyH_take (i := 4) (v := .agg (cgC c)) rfl (by kernel_rfl) (by kernel_rfl) (by kernel_rfl) (fun _ _ _ h => h) (yields_load (by rfl) _ _ rfl _ rfl _ (fun W h => h.c.load HL.out)) (by assumption) ?_
  try simp only [List.getElem_toArray, List.getElem_cons_zero, List.getElem_cons_succ, Act.put, List.setIfInBounds_toArray, List.set_cons_zero, List.set_cons_succ]
  refine wpAnyH_ready (rs := [2]) (by kernel_rfl) (by simp) ?_
  refine AllReadyH.cons rfl (fun K hK => ?_) AllReadyH.nil
  go_simp
  go_wp2_with (go_at_call 136; refine (po _).mono ?_; rintro e w3 ⟨rfl, hb_w3⟩)
  refine hK.out _ _ (hHeld.below hb_w3) (fun hHeld2 => ?_)
  clear hK K
  refine wpAnyH_take (i := 3) (v := .func (.func 159) #[] #[]) rfl (by kernel_rfl) (by kernel_rfl) (by kernel_rfl) (fun _ _ _ h => h) (Or.inl ⟨by rfl, fun W hSw => by (try dsimp only at hSw); go_simp⟩) (by assumption) ?_
  try simp only [List.getElem_toArray, List.getElem_cons_zero, List.getElem_cons_succ, Act.put, List.setIfInBounds_toArray, List.set_cons_zero, List.set_cons_succ]
  refine wpAnyH_ready (rs := [5]) (by kernel_rfl) (by simp) ?_
  refine AllReadyH.cons rfl (fun K hK => ?_) AllReadyH.nil
  go_simp
  go_wp2_with (go_at_call 159; refine (ma _).mono ?_; rintro e w4 ⟨rfl, hb_w4⟩)
  refine hK.out _ _ (hHeld2.below hb_w4) (fun hHeld3 => ?_)
  clear hK K
  refine wpAnyH_take (i := 6) (v := .bool (datOk c)) rfl (by kernel_rfl) (by kernel_rfl) (by kernel_rfl) (fun _ _ _ h => h) (Or.inl ⟨by rfl, fun W hSw => by (try dsimp only at hSw); go_simp⟩) (by assumption) ?_
  try simp only [List.getElem_toArray, List.getElem_cons_zero, List.getElem_cons_succ, Act.put, List.setIfInBounds_toArray, List.set_cons_zero, List.set_cons_succ]
  refine wpAnyH_done (by kernel_rfl) ?_ _
  refine NoPanic.normal ?_
  go_wp2
  go_ret
  exact ⟨rfl, hHeld3.bel⟩

set_option maxHeartbeats 2000000 in
theorem dmayBe_any (w : World) (c : Cg) (h : CgOk c) : Calls Tryz.prog 135 #[.agg (cgC c)] w fun e w' => e = .returned (.bool (ckOk c)) ∧ Below w.heap.size w w' := by
  unfold ckOk
  cases hp : plOk c.pl
  · rw [if_neg (by decide)]
    have HL : Hid (c.pt.bytes.length = 32) := h.pt.ch.1
    have hS := one_laid w c
    obtain ⟨w1, hw1⟩ : ∃ w1, w.alloc (.cells (cgC c) 94) = w1 := ⟨_, rfl⟩
    rw [hw1] at hS
    have hl1 : Hid _ := hS.c.load HL.out
    have hp1 : Hid _ := hS.c.loadP
    have hpc := (check_any w1 c.pl h.pl)
    rw [plE_30 hp] at hpc
    go_enter Tryz.func135, Tryz.ntmps135
    go_wp2_with (refine wpList_loadG rfl 87 _ rfl _ rfl _ hp1.out ?_)
    refine hpc.mono ?_
    rintro e w2 ⟨rfl, hb2⟩
    go_wp2
    go_ret
    exact ⟨rfl, (hS.below hb2).bel⟩
  · rw [if_pos rfl]
    cases hg : c.gone
    · rw [if_neg (by decide)]
      rcases plOk_part hp with hk | hk | hk
      · rw [if_pos hk]; exact mayBeK_1 w c h hp hg hk
      · rw [if_neg (by omega), if_pos hk]; exact mayBeK_2 w c h hp hg hk
      · rw [if_neg (by omega), if_neg (by omega)]; exact mayBeK_3 w c h hp hg hk
    · rw [if_pos rfl]
      have HL : Hid (c.pt.bytes.length = 32) := h.pt.ch.1
      have hS := one_laid w c
      obtain ⟨w1, hw1⟩ : ∃ w1, w.alloc (.cells (cgC c) 94) = w1 := ⟨_, rfl⟩
      rw [hw1] at hS
      have hl1 : Hid _ := hS.c.load HL.out
      have hp1 : Hid _ := hS.c.loadP
      have hpc := (check_any w1 c.pl h.pl)
      rw [plE_0 hp] at hpc
      have heq := fun W => eq_cgs W (x := c) (y := goneC c.pl) HL.out len0
      go_enter Tryz.func135, Tryz.ntmps135
      go_wp2_with (refine wpList_loadG rfl 87 _ rfl _ rfl _ hp1.out ?_)
      refine hpc.mono ?_
      rintro e w2 ⟨rfl, hb2⟩
      have hS2 := hS.below hb2
      have d4 := hS2.c.c4
      rw [hg] at d4
      have hl2 : Hid _ := hS2.c.load HL.out
      have hp2 : Hid _ := hS2.c.loadP
      go_wp2_with (first
        | (refine wpList_loadG rfl 94 _ rfl _ rfl _ hl2.out ?_)
        | (refine wpList_loadG rfl 87 _ rfl _ rfl _ hp2.out ?_)
        | (refine wpList_buildBy rfl 94 _ rfl _ rfl [(0, plV c.pl), (1, .bool true)] (by kernel_rfl) _ (bt_gone c.pl) ?_))
      go_ret
      exact ⟨rfl, hS2.bel⟩

set_option maxHeartbeats 1000000 in
theorem dcheck_any (w : World) (c : Cg) (h : CgOk c) : Calls Tryz.prog 112 #[.agg (cgC c)] w fun e w' => e = .returned (.int .i64 (ckE c)) ∧ Below w.heap.size w w' := by
  have HL : Hid (c.pt.bytes.length = 32) := h.pt.ch.1
  have hS := one_laid w c
  obtain ⟨w1, hw1⟩ : ∃ w1, w.alloc (.cells (cgC c) 94) = w1 := ⟨_, rfl⟩
  rw [hw1] at hS
  have hl1 : Hid _ := hS.c.load HL.out
  have hp1 : Hid _ := hS.c.loadP
  go_enter Tryz.func112, Tryz.ntmps112
  go_wp2_with (refine wpList_loadG rfl 94 _ rfl _ rfl _ hl1.out ?_)
  refine (dmayBe_any _ c h).mono ?_
  rintro e w2 ⟨rfl, hb2⟩
  cases hk : ckOk c
  · go_wp2
    go_ret
    exact ⟨by unfold ckE; rw [hk]; rfl, (hS.below hb2).bel⟩
  · go_wp2
    go_ret
    exact ⟨by unfold ckE; rw [hk]; rfl, (hS.below hb2).bel⟩

end Go.Proofs.YtjjhfginmamlkaaGreat
