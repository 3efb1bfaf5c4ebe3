/- The contract of delta.undo. -/
import Derived.Test.YtpbokenambjclaaDlPut2
namespace Go.Proofs.Ytpbokenambjclaa
open Go.RowKit Go.Maps
set_option linter.unusedVariables false
set_option linter.unusedSimpArgs false
set_option maxRecDepth 100000

/-- What a Put found lies in a variable of its own. -/
structure PuAt (w : World) (g : Nat) (x : Pu) : Prop where
  row : w.heap[g]? = some (.cells (puC x) 76 (0, 0))
theorem PuAt.lt {w : World} {g : Nat} {x : Pu} (h : PuAt w g x) : g < w.heap.size := (Array.getElem?_eq_some_iff.1 h.row).1
theorem PuAt.below {w w' : World} {g : Nat} {x : Pu} (h : PuAt w g x) (hb : Below w.heap.size w w') : PuAt w' g x := ⟨(hb.block g h.lt).trans h.row⟩
theorem PuAt.c50 {w : World} {g : Nat} {x : Pu} (h : PuAt w g x) (hl : x.was.pt.bytes.length = 32) : w.cell? ⟨g, 50, none⟩ = some (.bool x.is) := by
  rw [cell_of_row _ _ _ _ _ (0, 0) h.row, ← Array.getElem?_toList]
  show (puL x)[50]? = _
  unfold puL
  rw [List.getElem?_append_right (show 4 ≤ 50 by decide), List.getElem?_append_right (by rw [cgL_len hl]; show 46 ≤ 50 - 4; decide), cgL_len hl]
  rfl
theorem puC_mid (x : Pu) (hl : x.was.pt.bytes.length = 32) : ((puC x).extract 4 (4 + 46)).toList = cgL x.was := by
  simp only [puC, puL, plCells, Array.toList_extract, List.extract_eq_take_drop]
  simp only [List.cons_append, List.nil_append, List.drop_succ_cons, List.drop_zero]
  rw [List.take_append_of_le_length (by rw [cgL_len hl]; decide)]
  exact List.take_of_length_le (by rw [cgL_len hl]; decide)
theorem PuAt.loadC {w : World} {g : Nat} {x : Pu} (h : PuAt w g x) (hl : x.was.pt.bytes.length = 32) : (Instr.loadAt 31 (.pointer (some ⟨g, 4, none⟩))).run Try.prog w = .ok (.agg (cgC x.was)) w := by
  have hr : w.rangeAt g 4 (cgL x.was) := by
    have := World.rangeAt_of_block h.row 4 46
    rwa [puC_mid x hl] at this
  exact run_loadAt_mid (P := Try.prog) w g 4 31 _ _ hr Try.underlying31 rfl (by rw [cgL_len hl]; exact size_cg)
theorem PuAt.loadP {w : World} {g : Nat} {x : Pu} (h : PuAt w g x) : (Instr.loadAt 24 (.pointer (some ⟨g, 0, none⟩))).run Try.prog w = .ok (plV x.pl) w := by
  have hr : w.rangeAt g 0 (plCells x.pl).toList := World.rangeAt_of_block h.row 0 4
  exact run_loadAt_mid w g 0 24 (plCells x.pl).toList _ hr Try.underlying24 rfl (by kernel_rfl)
theorem DlAt.mpT {w w' : World} {p b : Nat} {v : Value} {s : Dl} {L : List Cg} (h : DlAt w p b v s) (hg : w.grownBy w' (some b)) (hm : MpAt w' b L) (hL : LOk L) : DlAt w' p b v ⟨s.most, L, s.pus⟩ :=
  ⟨(hg.block p h.lt (fun e => h.bp (by cases e; rfl))).trans h.row, hm, own_keep h.pus hg.size (fun q hq hl => hg.block q hl (fun e => by
    cases e
    obtain ⟨cs, e1⟩ := own_row h.pus hq
    obtain ⟨x, cl, e2⟩ := h.mp.isMap
    rw [e1] at e2; cases e2)), ⟨h.ok.m0, h.ok.m1, hL, h.ok.pus⟩⟩

set_option maxHeartbeats 4000000 in
theorem undo1_any {w : World} {p b : Nat} {v : Value} {s : Dl} (h : DlAt w p b v s) (x : Pu) (hx : PuOk x) (hL : s.L.length ≤ 1000) : Calls Try.prog 37 #[.pointer (some ⟨p, 0, none⟩), .agg (puC x)] w fun e w' =>
    (∃ r, e = .returned r) ∧ DlAt w' p b v ⟨s.most, undo1 s.L x, s.pus⟩ ∧ Sole [b] w w' := by
  have HW : Hid (x.was.pt.bytes.length = 32) := hx.was.pt.ch.1
  have hb1 : Below w.heap.size w (w.alloc (.cells (puC x) 76)) := (Below.refl _ w).alloc (Nat.le_refl _) _
  have hx1 : PuAt (w.alloc (.cells (puC x) 76)) w.heap.size x := ⟨heap_alloc_new w _⟩
  have hD1 := h.below hb1
  obtain ⟨w1, hw1⟩ : ∃ w1, w.alloc (.cells (puC x) 76) = w1 := ⟨_, rfl⟩
  rw [hw1] at hb1 hx1 hD1
  have c50 := hx1.c50 HW.out
  have hDd : DlAt w1.drew p b v s := hD1.drew
  cases hi : x.is
  · rw [hi] at c50
    obtain ⟨w2, hde, hm2, ht2⟩ := hDd.mp.del hD1.ok.L hx.pl 0
    have hde' : ∀ ty, (Builtin.delete_ #[70, 24] ty #[.map (some b), plV x.pl]).run Try.prog w1.drew = .ok (.tuple #[]) w2 := fun ty => hde
    have hg2 := ht2.grown
    have HF : Hid (DlAt w2 p b v ⟨s.most, undo1 s.L x, s.pus⟩) := by
      unfold Hid undo1
      rw [hi]
      exact hDd.mpT hg2 hm2 (delL_ok hD1.ok.L _)
    have HS : Hid (Sole [b] w w2) := (Sole.of_below hb1 _).trans ⟨hg2.os, hg2.tape, hg2.output, hg2.size, fun k hk hn => hg2.block k hk (fun e => hn (by cases e; simp))⟩
    clear hde hm2 ht2 hg2
    go_enter Try.func37, Try.ntmps37
    go_wp2_with fail
    refine wp_region_noPanic ?_
    refine wp_region_sink 6 (S := fun W => Below w1.heap.size w1 W) (by kernel_rfl) (by kernel_rfl) (Below.refl _ _).drew (fun hHeld => ?_)
    refine wpAnyH_take (i := 0) (v := .pointer (some ⟨p, 0, none⟩)) rfl (by kernel_rfl) (by kernel_rfl) (by kernel_rfl) (fun _ _ _ h => h) (Or.inl ⟨by rfl, fun W hSw => by (try dsimp only at hSw); go_simp⟩) (by assumption) ?_
    try simp only [List.getElem_toArray, List.getElem_cons_zero, List.getElem_cons_succ, Act.put, List.setIfInBounds_toArray, List.set_cons_zero, List.set_cons_succ]
    refine wpAnyH_take (i := 1) (v := .pointer (some ⟨p, 0, none⟩)) rfl (by kernel_rfl) (by kernel_rfl) (by kernel_rfl) (fun _ _ _ h => h) (Or.inl ⟨by rfl, fun W hSw => by (try dsimp only at hSw); go_simp⟩) (by assumption) ?_
    try simp only [List.getElem_toArray, List.getElem_cons_zero, List.getElem_cons_succ, Act.put, List.setIfInBounds_toArray, List.set_cons_zero, List.set_cons_succ]
    refine wpAnyH_take (i := 2) (v := .pointer (some ⟨p, 1, none⟩)) rfl (by kernel_rfl) (by kernel_rfl) (by kernel_rfl) (fun _ _ _ h => h) (Or.inl ⟨by rfl, fun W hSw => by (try dsimp only at hSw); go_simp⟩) (by assumption) ?_
    try simp only [List.getElem_toArray, List.getElem_cons_zero, List.getElem_cons_succ, Act.put, List.setIfInBounds_toArray, List.set_cons_zero, List.set_cons_succ]
    refine wpAnyH_take (i := 3) (v := .map (some b)) rfl (by kernel_rfl) (by kernel_rfl) (by kernel_rfl) (fun _ _ _ h => h) (yields_load (by rfl) _ _ rfl _ rfl _ (fun W h => (hD1.below h).load1)) (by assumption) ?_
    try simp only [List.getElem_toArray, List.getElem_cons_zero, List.getElem_cons_succ, Act.put, List.setIfInBounds_toArray, List.set_cons_zero, List.set_cons_succ]
    refine wpAnyH_take (i := 4) (v := .pointer (some ⟨w.heap.size, 0, none⟩)) rfl (by kernel_rfl) (by kernel_rfl) (by kernel_rfl) (fun _ _ _ h => h) (Or.inl ⟨by rfl, fun W hSw => by (try dsimp only at hSw); go_simp⟩) (by assumption) ?_
    try simp only [List.getElem_toArray, List.getElem_cons_zero, List.getElem_cons_succ, Act.put, List.setIfInBounds_toArray, List.set_cons_zero, List.set_cons_succ]
    refine wpAnyH_take (i := 5) (v := plV x.pl) rfl (by kernel_rfl) (by kernel_rfl) (by kernel_rfl) (fun _ _ _ h => h) (yields_load (by rfl) _ _ rfl _ rfl _ (fun W h => (hx1.below h).loadP)) (by assumption) ?_
    try simp only [List.getElem_toArray, List.getElem_cons_zero, List.getElem_cons_succ, Act.put, List.setIfInBounds_toArray, List.set_cons_zero, List.set_cons_succ]
    refine wpAnyH_done (by kernel_rfl) ?_ _
    refine Behind.run (by rfl) ?_
    go_simp
    go_wp2
    refine NoPanic.normal ?_
    go_wp2
    go_end0
    exact ⟨⟨_, rfl⟩, HF.out, HS.out⟩
  · rw [hi] at c50
    obtain ⟨w2, hmu, hm2, ht2⟩ := hDd.mp.put hD1.ok.L (by unfold maxLen; omega) hx.was
    rw [hx.at_ hi] at hmu
    have hg2 := ht2.grown
    have HF : Hid (DlAt w2 p b v ⟨s.most, undo1 s.L x, s.pus⟩) := by
      unfold Hid undo1
      rw [hi]
      exact hDd.mpT hg2 hm2 (setL_ok hD1.ok.L hx.was)
    have HS : Hid (Sole [b] w w2) := (Sole.of_below hb1 _).trans ⟨hg2.os, hg2.tape, hg2.output, hg2.size, fun k hk hn => hg2.block k hk (fun e => hn (by cases e; simp))⟩
    clear hm2 ht2 hg2
    go_enter Try.func37, Try.ntmps37
    go_wp2_with fail
    refine wp_region_noPanic ?_
    refine wp_region_sink 8 (S := fun W => Below w1.heap.size w1 W) (by kernel_rfl) (by kernel_rfl) (Below.refl _ _).drew (fun hHeld => ?_)
    refine wpAnyH_take (i := 0) (v := .pointer (some ⟨p, 0, none⟩)) rfl (by kernel_rfl) (by kernel_rfl) (by kernel_rfl) (fun _ _ _ h => h) (Or.inl ⟨by rfl, fun W hSw => by (try dsimp only at hSw); go_simp⟩) (by assumption) ?_
    try simp only [List.getElem_toArray, List.getElem_cons_zero, List.getElem_cons_succ, Act.put, List.setIfInBounds_toArray, List.set_cons_zero, List.set_cons_succ]
    refine wpAnyH_take (i := 1) (v := .pointer (some ⟨p, 0, none⟩)) rfl (by kernel_rfl) (by kernel_rfl) (by kernel_rfl) (fun _ _ _ h => h) (Or.inl ⟨by rfl, fun W hSw => by (try dsimp only at hSw); go_simp⟩) (by assumption) ?_
    try simp only [List.getElem_toArray, List.getElem_cons_zero, List.getElem_cons_succ, Act.put, List.setIfInBounds_toArray, List.set_cons_zero, List.set_cons_succ]
    refine wpAnyH_take (i := 2) (v := .pointer (some ⟨p, 1, none⟩)) rfl (by kernel_rfl) (by kernel_rfl) (by kernel_rfl) (fun _ _ _ h => h) (Or.inl ⟨by rfl, fun W hSw => by (try dsimp only at hSw); go_simp⟩) (by assumption) ?_
    try simp only [List.getElem_toArray, List.getElem_cons_zero, List.getElem_cons_succ, Act.put, List.setIfInBounds_toArray, List.set_cons_zero, List.set_cons_succ]
    refine wpAnyH_take (i := 3) (v := .map (some b)) rfl (by kernel_rfl) (by kernel_rfl) (by kernel_rfl) (fun _ _ _ h => h) (yields_load (by rfl) _ _ rfl _ rfl _ (fun W h => (hD1.below h).load1)) (by assumption) ?_
    try simp only [List.getElem_toArray, List.getElem_cons_zero, List.getElem_cons_succ, Act.put, List.setIfInBounds_toArray, List.set_cons_zero, List.set_cons_succ]
    refine wpAnyH_take (i := 4) (v := .pointer (some ⟨w.heap.size, 0, none⟩)) rfl (by kernel_rfl) (by kernel_rfl) (by kernel_rfl) (fun _ _ _ h => h) (Or.inl ⟨by rfl, fun W hSw => by (try dsimp only at hSw); go_simp⟩) (by assumption) ?_
    try simp only [List.getElem_toArray, List.getElem_cons_zero, List.getElem_cons_succ, Act.put, List.setIfInBounds_toArray, List.set_cons_zero, List.set_cons_succ]
    refine wpAnyH_take (i := 5) (v := plV x.pl) rfl (by kernel_rfl) (by kernel_rfl) (by kernel_rfl) (fun _ _ _ h => h) (yields_load (by rfl) _ _ rfl _ rfl _ (fun W h => (hx1.below h).loadP)) (by assumption) ?_
    try simp only [List.getElem_toArray, List.getElem_cons_zero, List.getElem_cons_succ, Act.put, List.setIfInBounds_toArray, List.set_cons_zero, List.set_cons_succ]
    refine wpAnyH_take (i := 6) (v := .pointer (some ⟨w.heap.size, 4, none⟩)) rfl (by kernel_rfl) (by kernel_rfl) (by kernel_rfl) (fun _ _ _ h => h) (Or.inl ⟨by rfl, fun W hSw => by (try dsimp only at hSw); go_simp⟩) (by assumption) ?_
    try simp only [List.getElem_toArray, List.getElem_cons_zero, List.getElem_cons_succ, Act.put, List.setIfInBounds_toArray, List.set_cons_zero, List.set_cons_succ]
    refine wpAnyH_take (i := 7) (v := .agg (cgC x.was)) rfl (by kernel_rfl) (by kernel_rfl) (by kernel_rfl) (fun _ _ _ h => h) (yields_load (by rfl) _ _ rfl _ rfl _ (fun W h => (hx1.below h).loadC HW.out)) (by assumption) ?_
    try simp only [List.getElem_toArray, List.getElem_cons_zero, List.getElem_cons_succ, Act.put, List.setIfInBounds_toArray, List.set_cons_zero, List.set_cons_succ]
    refine wpAnyH_done (by kernel_rfl) ?_ _
    refine Behind.run (by rfl) ?_
    go_simp
    go_wp2
    refine NoPanic.normal ?_
    go_wp2
    go_end0
    exact ⟨⟨_, rfl⟩, HF.out, HS.out⟩

end Go.Proofs.Ytpbokenambjclaa
