/- The contract of wal's Let. -/
import Derived.Test.YtckcdmkgmbicfaaGreatMW7
namespace Go.Proofs.YtckcdmkgmbicfaaGreat
open Go.RowKit
set_option linter.unusedVariables false
set_option linter.unusedSimpArgs false
set_option maxRecDepth 4000

/-- The blocks of records that are let go. -/
def goneT (K : List Tm) : List Sl := K.flatMap fun x => slotsL x.blocks (x.at_ + x.blocks.length)
theorem goneT_len : ∀ (K : List Tm) (m : Nat), (∀ x ∈ K, x.blocks.length ≤ 1000) → K.length ≤ m → (goneT K).length ≤ 1000 * m
  | [], m, _, _ => Nat.zero_le _
  | x :: K, m, h, hm => by
    have h1 := goneT_len K (m - 1) (fun y hy => h y (List.mem_cons_of_mem _ hy)) (by simp at hm; omega)
    have h2 := h x (List.mem_cons_self)
    unfold goneT at *
    rw [List.flatMap_cons, List.length_append]
    simp [slotsL] at *
    omega
/-- The log without its first i records. -/
def Lo.drop_ (l : Lo) (i : Nat) : Lo := ⟨l.there.drop i, l.free ++ goneT (l.there.take i), l.next, l.tail, l.grown⟩
theorem own_same (a : Option Addr) (n m c : Nat) : (Value.slice a n c).ownBlock = (Value.slice a m c).ownBlock := by cases a <;> rfl
/-- What a call on a log leaves. -/
structure LoMoves (base : Nat) (w w' : World) (q p : Nat) (f : Int) (N : Nat) (tv fv : Value) (l' : Lo) : Prop where
  at_ : ∃ tv' fv', LoAt base w' q p f N tv' fv' l' ∧ (∀ k, tv'.ownBlock = some k → tv.ownBlock = some k ∨ w.heap.size ≤ k) ∧ (∀ k, fv'.ownBlock = some k → fv.ownBlock = some k ∨ w.heap.size ≤ k)
  sole : Sole (q :: (tv.ownBlock.toList ++ fv.ownBlock.toList)) w w'


set_option maxRecDepth 100000 in
set_option maxHeartbeats 4000000 in
theorem let_all {base : Nat} {w : World} {q p : Nat} {f : Int} {N : Nat} {tv fv : Value} {l : Lo} (h : LoAt base w q p f N tv fv l) (hbase : base ≤ w.heap.size) (hlen : l.there.length ≤ 2000) (hfl : l.free.length ≤ 1000000) (hb : ∀ x ∈ l.there, x.blocks.length ≤ 1000) (hat : ∀ x ∈ l.there, x.at_ ≤ 4611686018427387904) (to F : Nat) (hto : to = l.next) (hF : F = l.there.length) :
    Calls Tryz.prog 28 #[.pointer (some ⟨q, 0, none⟩), .int .u64 to] w fun e w' => e = .returned (.int .i64 0) ∧ LoMoves base w w' q p f N tv fv (l.drop_ F) := by
  obtain ⟨aT, cT, rfl⟩ := own_shape h.there
  obtain ⟨aF, cF, rfl⟩ := own_shape h.free
  obtain ⟨iS, hiS, hy0, hy1, hy2⟩ := info_parts Tryz.infoSl
  have HL : Hid (LoAt base w q p f N (.slice aT l.there.length cT) (.slice aF l.free.length cF) l) := h
  have hql := (Array.getElem?_eq_some_iff.1 h.row).1
  obtain ⟨w1, hw1⟩ : ∃ w1, w.alloc (.cells #[.int .u64 to] 34) = w1 := ⟨_, rfl⟩
  have hB1 : Below w.heap.size w w1 := by rw [← hw1]; exact (Below.refl _ w).alloc (Nat.le_refl _) _
  have hg1 : w1.heap[w.heap.size]? = some (.cells #[.int .u64 to] 34 (0, 0)) := by rw [← hw1]; exact heap_alloc_new w _
  have hlt1 : w.heap.size < w1.heap.size := (Array.getElem?_eq_some_iff.1 hg1).1
  have h1 := h.below hB1
  have c3 : w1.cell? ⟨q, 3, none⟩ = some (.slice aT l.there.length cT) := h1.cell 3 _ rfl
  have ci := indexT_any h1.there (by omega) hg1
  have HG1 : Hid _ := hg1
  have hcT : l.there.length ≤ cT ∧ cT ≤ maxLen := by
    obtain ⟨_, ⟨e, h2⟩ | ⟨g, cap, cur, e, _, _, h5, h6, _⟩⟩ := h.there
    · simp only [Value.slice.injEq] at e; rw [e.2.2, h2]; exact ⟨Nat.le_refl _, by decide⟩
    · simp only [Value.slice.injEq, true_and] at e; rw [e.2]; exact ⟨h5, h6⟩
  obtain ⟨hcT1, hcT2⟩ := hcT
  clear h h1 hg1
  have HTO : Hid (to = l.next) := hto
  clear hto
  subst hF
  go_enter Tryz.func28, Tryz.ntmps28
  go_wp2_with fail
  refine ci.mono ?_
  rintro e1 w2 ⟨rfl, hB2⟩
  have hB12 := thenB hB1 hB2
  have h2 := HL.out.below hB12
  have d0 : w2.cell? ⟨w.heap.size, 0, none⟩ = some (.int .u64 to) := (hB2.cell (p := ⟨w.heap.size, 0, none⟩) hlt1).trans (by rw [cell_of_row _ _ 0 _ _ (0, 0) HG1.out]; rfl)
  have d3 : w2.cell? ⟨q, 3, none⟩ = some (.slice aT l.there.length cT) := h2.cell 3 _ rfl
  have d5 : w2.cell? ⟨q, 5, none⟩ = some (.int .u64 l.next) := h2.cell 5 _ rfl
  clear ci c3
  obtain rfl : to = l.next := HTO.out
  generalize (if whichT l.next l.there = l.there.length then (-1 : Int) else (whichT l.next l.there : Int)) = IV at *
  go_wp2_with fail
  go_quiet (fail)
  have HL2 : Hid (LoAt base (w2.drewN nq) q p f N (.slice aT l.there.length cT) (.slice aF l.free.length cF) l) := h2.below ⟨rfl, rfl, rfl, Nat.le_refl _, fun _ _ => rfl⟩
  have hb02 : Below w.heap.size w (w2.drewN nq) := hB12.trans ⟨rfl, rfl, rfl, Nat.le_refl _, fun _ _ => rfl⟩
  have hql2 : q < (w2.drewN nq).heap.size := by have := hB12.size; show q < w2.heap.size; omega
  have hFI : (l.there.length : Int) ≤ l.there.length := by omega
  have hFc : l.there.length ≤ cT := by omega
  have d3' : (w2.drewN nq).cell? ⟨q, 3, none⟩ = some (.slice aT l.there.length cT) := HL2.out.cell 3 _ rfl
  clear h2 d0 d3 d5
  generalize w2.drewN nq = w4 at *
  clear hB12 hB2 hB1 HG1 hw1
  obtain ⟨FB, HFB⟩ : ∃ FB : List Nat, Hid (FB = (Value.slice aF l.free.length cF).ownBlock.toList) := ⟨_, rfl⟩
  have hs04 := hb02.size
  go_wp2
  clear d3'
  go_loopw [7, 34] (fun _ t wq => ∃ (j : Nat) (aG : Option Addr) (cG : Nat), j ≤ l.there.length ∧ t = .int .i64 j ∧
      Hid (wq.heap[q]? = some (.cells #[.pointer (some ⟨p, 0, none⟩), .int .i64 f, .int .i64 N, .slice aT l.there.length cT, .slice aG (l.free ++ goneT (l.there.take j)).length cG, .int .u64 l.next, .int .u64 l.tail, .bool l.grown] 77 (0, 0))) ∧
      Hid (wq.ownsRow base 84 2 (.slice aG (l.free ++ goneT (l.there.take j)).length cG) (l.free ++ goneT (l.there.take j)).length ((l.free ++ goneT (l.there.take j)).flatMap slC)) ∧
      Hid (∀ k, (Value.slice aG (l.free ++ goneT (l.there.take j)).length cG).ownBlock = some k → k ∈ FB ∨ w4.heap.size ≤ k) ∧ Sole (q :: FB) w4 wq) (fun _ t _ => l.there.length - (RowKit.intOf t).toNat)
  case atStart =>
    have e : l.free ++ goneT (l.there.take 0) = l.free := by simp [goneT]
    exact ⟨0, aF, cF, Nat.zero_le _, rfl, by rw [e]; exact HL2.out.row, by rw [e]; exact HL2.out.free, by rw [e]; exact fun k hk => .inl (by rw [HFB.out, Option.mem_toList]; exact hk), Sole.refl _ _⟩
  case round =>
    obtain ⟨j, aG, cG, hj, rfl, HG, HO, HK, hSq⟩ := hrel
    have hsq := hSq.size
    have HTq : Hid (wr.ownsRow base 94 2 (.slice aT l.there.length cT) l.there.length (l.there.flatMap tmC)) := own_keep HL2.out.there hsq (fun k hk hl => hSq.block k hl (by
      intro hm
      rcases List.mem_cons.1 hm with rfl | hm
      · exact row_apart (by decide) HL2.out.row HL2.out.there hk
      · rw [HFB.out, Option.mem_toList] at hm; exact types_apart (by decide) HL2.out.there HL2.out.free k hk hm))
    have HEq : Hid (∀ x ∈ l.there, wr.ownsRow base 3 1 x.bv x.blocks.length (blkC x.blocks)) := fun x hx => own_keep (HL2.out.each x hx) hsq (fun k hk hl => hSq.block k hl (by
      intro hm
      rcases List.mem_cons.1 hm with rfl | hm
      · exact row_apart (by decide) HL2.out.row (HL2.out.each x hx) hk
      · rw [HFB.out, Option.mem_toList] at hm; exact types_apart (by decide) (HL2.out.each x hx) HL2.out.free k hk hm))
    have hgl : (goneT (l.there.take j)).length ≤ 1000 * j := goneT_len _ _ (fun x hx => hb x (List.mem_of_mem_take hx)) (by rw [List.length_take]; omega)
    by_cases hjl : j < l.there.length
    · have hjI : (j : Int) < l.there.length := by omega
      obtain ⟨g, cap, hv, hcl, hcm, hgb, hgl2, hcell⟩ := own_tms (n := 0) HTq.out (by omega)
      simp only [Value.slice.injEq, true_and] at hv
      obtain ⟨rfl, rfl⟩ := hv
      obtain ⟨x, hx⟩ : ∃ x, l.there[j]? = some x := ⟨_, List.getElem?_eq_getElem (by omega)⟩
      have hxm : x ∈ l.there := List.mem_of_getElem? hx
      have hxb := hb x hxm
      have hxa := hat x hxm
      have c0 : wr.cell? ⟨g, j * 2, none⟩ = some (.int .u64 x.at_) := hcell j x hx 0 _ rfl
      have c1 : wr.cell? ⟨g, j * 2 + 1, none⟩ = some (.slice x.ba x.blocks.length x.bc) := hcell j x hx 1 _ rfl
      have HT1 : Hid (l.free ++ goneT (l.there.take (j + 1)) = (l.free ++ goneT (l.there.take j)) ++ slotsL x.blocks (x.at_ + x.blocks.length)) := by
        unfold Hid goneT; rw [List.take_add_one, hx, List.flatMap_append]; simp
      have hln : (l.free ++ goneT (l.there.take j)).length ≤ 3000000 := by rw [List.length_append]; omega
      generalize hGn : l.free ++ goneT (l.there.take j) = Gn at *
      obtain ⟨Z1, hZ1⟩ : ∃ Z1, wr.alloc (.cells #[.int .u64 x.at_, .slice x.ba x.blocks.length x.bc] 94) = Z1 := ⟨_, rfl⟩
      have hBZ1 : Below wr.heap.size wr Z1 := by rw [← hZ1]; exact (Below.refl _ wr).alloc (Nat.le_refl _) _
      have hgZ1 : Z1.heap[wr.heap.size]? = some (.cells #[.int .u64 x.at_, .slice x.ba x.blocks.length x.bc] 94 (0, 0)) := by rw [← hZ1]; exact heap_alloc_new wr _
      have hltZ : wr.heap.size < Z1.heap.size := (Array.getElem?_eq_some_iff.1 hgZ1).1
      clear hcell hGn
      go_wp2_with fail
      clear c0 c1
      have hOZ := own_keep HO.out hBZ1.size (fun q _ hl => hBZ1.block q hl)
      have hGZ := (hBZ1.block q (by omega)).trans HG.out
      have hne : ∀ k, (Value.slice aG Gn.length cG).ownBlock = some k → k ≠ q ∧ k < wr.heap.size := fun k hk => ⟨fun e => row_apart (by decide) HG.out HO.out (by rw [hk, e]), (World.ownsRow.lt HO.out k hk).2⟩
      obtain ⟨RB, HRB⟩ : ∃ RB : List Nat, Hid (RB = (Value.slice aG Gn.length cG).ownBlock.toList) := ⟨_, rfl⟩
      have hRB : ∀ k ∈ RB, k ≠ q ∧ k < wr.heap.size := fun k hk => by rw [HRB.out, Option.mem_toList] at hk; exact hne k hk
      have hRF : ∀ k ∈ RB, k ∈ FB ∨ w4.heap.size ≤ k := fun k hk => by rw [HRB.out, Option.mem_toList] at hk; exact HK.out k hk
      have p4 : ∀ W, Sole RB Z1 W → W.cell? ⟨q, 4, none⟩ = some (.slice aG Gn.length cG) := fun W hW => by
        rw [cell_of_row _ _ 4 _ _ (0, 0) ((hW.block _ (by omega) (fun e => (hRB _ e).1 rfl)).trans hGZ)]; rfl
      have p0 : ∀ W, Sole RB Z1 W → W.cell? ⟨wr.heap.size, 0, none⟩ = some (.int .u64 x.at_) := fun W hW => by
        rw [cell_of_row _ _ 0 _ _ (0, 0) ((hW.block _ (by omega) (fun e => by have := hRB _ e; omega)).trans hgZ1)]; rfl
      have p1 : ∀ W, Sole RB Z1 W → W.cell? ⟨wr.heap.size, 1, none⟩ = some (.slice x.ba x.blocks.length x.bc) := fun W hW => by
        rw [cell_of_row _ _ 1 _ _ (0, 0) ((hW.block _ (by omega) (fun e => by have := hRB _ e; omega)).trans hgZ1)]; rfl
      have cs := slotsOf_any Z1.drew x.at_ x.blocks x.ba x.bc (own_keep (HEq.out x hxm) (w' := Z1.drew) hBZ1.size (fun q _ hl => hBZ1.block q hl)) (by omega) (by omega)
      refine wp_region_noPanic ?_
      refine wp_region_sink 10 (S := fun W => Sole RB Z1 W) (by kernel_rfl) (by kernel_rfl) (Sole.drew _ _) (fun hHeld => ?_)
      refine wpAnyH_take (i := 0) (v := .pointer (some ⟨q, 0, none⟩)) rfl (by kernel_rfl) (by kernel_rfl) (by kernel_rfl) (fun _ _ _ h => h) (Or.inl ⟨by rfl, fun W hSw => by (try dsimp only at hSw); go_simp⟩) (by assumption) ?_
      simp only [List.getElem_toArray, List.getElem_cons_zero, List.getElem_cons_succ, Act.put, List.setIfInBounds_toArray, List.set_cons_zero, List.set_cons_succ]
      refine wpAnyH_take (i := 1) (v := .pointer (some ⟨q, 0, none⟩)) rfl (by kernel_rfl) (by kernel_rfl) (by kernel_rfl) (fun _ _ _ h => h) (Or.inl ⟨by rfl, fun W hSw => by (try dsimp only at hSw); go_simp⟩) (by assumption) ?_
      simp only [List.getElem_toArray, List.getElem_cons_zero, List.getElem_cons_succ, Act.put, List.setIfInBounds_toArray, List.set_cons_zero, List.set_cons_succ]
      refine wpAnyH_take (i := 2) (v := .pointer (some ⟨q, 0, none⟩)) rfl (by kernel_rfl) (by kernel_rfl) (by kernel_rfl) (fun _ _ _ h => h) (Or.inl ⟨by rfl, fun W hSw => by (try dsimp only at hSw); go_simp⟩) (by assumption) ?_
      simp only [List.getElem_toArray, List.getElem_cons_zero, List.getElem_cons_succ, Act.put, List.setIfInBounds_toArray, List.set_cons_zero, List.set_cons_succ]
      refine wpAnyH_take (i := 3) (v := .pointer (some ⟨q, 4, none⟩)) rfl (by kernel_rfl) (by kernel_rfl) (by kernel_rfl) (fun _ _ _ h => h) (Or.inl ⟨by rfl, fun W hSw => by (try dsimp only at hSw); go_simp⟩) (by assumption) ?_
      simp only [List.getElem_toArray, List.getElem_cons_zero, List.getElem_cons_succ, Act.put, List.setIfInBounds_toArray, List.set_cons_zero, List.set_cons_succ]
      refine wpAnyH_take (i := 4) (v := .slice aG Gn.length cG) rfl (by kernel_rfl) (by kernel_rfl) (by kernel_rfl) (fun _ _ _ h => h) (Or.inl ⟨by rfl, fun W hSw => by (try dsimp only at hSw); go_simp⟩) (by assumption) ?_
      simp only [List.getElem_toArray, List.getElem_cons_zero, List.getElem_cons_succ, Act.put, List.setIfInBounds_toArray, List.set_cons_zero, List.set_cons_succ]
      refine wpAnyH_take (i := 5) (v := .agg #[.int .u64 x.at_, .slice x.ba x.blocks.length x.bc]) rfl (by kernel_rfl) (by kernel_rfl) (by kernel_rfl) (fun _ _ _ h => h) (Or.inl ⟨by rfl, fun W hSw => by (try dsimp only at hSw); go_simp⟩) (by assumption) ?_
      simp only [List.getElem_toArray, List.getElem_cons_zero, List.getElem_cons_succ, Act.put, List.setIfInBounds_toArray, List.set_cons_zero, List.set_cons_succ]
      refine wpAnyH_ready (rs := [6]) (by kernel_rfl) (by simp) ?_
      refine AllReadyH.cons rfl (fun K hK => ?_) AllReadyH.nil
      go_simp
      go_wp2_with (go_at_call 50; refine cs.mono ?_; rintro e6 Z2 ⟨gs, rfl, hgs, hgsw, hB2'⟩)
      refine hK.out _ _ (keepS (by assumption) (by assumption)) (fun hHeld2 => ?_)
      clear hK K
      have hsl : (slotsL x.blocks (x.at_ + x.blocks.length)).length = x.blocks.length := by simp [slotsL]
      have hZ12 : Below Z1.heap.size Z1 Z2 := thenB (Below.refl _ Z1).drew hB2'
      have hO2 := own_keep hOZ hZ12.size (fun q _ hl => hZ12.block q hl)
      have hs12' := hZ12.size
      refine wpAnyH_ready (rs := [7]) (by kernel_rfl) (by simp) ?_
      refine AllReadyH.cons rfl (fun K' hK' => ?_) AllReadyH.nil
      rw [if_pos (by rfl)]
      obtain ⟨v3, Z3, hrun, h3o, h3g, _, h3a⟩ := run_append_own_at (P := Tryz.prog) Z2 base 75 75 84 iS _ 2 16 Tryz.underlying75 hiS hy0 hy1 hy2 rfl (by decide) (.slice aG Gn.length cG) Gn.length (Gn.flatMap slC) hO2 ⟨gs, 0, none⟩ x.blocks.length x.blocks.length ((slotsL x.blocks (x.at_ + x.blocks.length)).flatMap slC) (by rw [flat2_len, hsl]) (rowAdd hgsw) (fun u hu => slC_one hu) (by unfold maxLen; omega) (by omega) (by omega)
      obtain ⟨a3, c3, rfl⟩ := own_shape h3o
      refine wp_app _ _ 75 rfl _ _ rfl rfl hrun ?_
      have hS23 : Sole RB Z2 Z3 := ⟨h3g.os, h3g.tape, h3g.output, h3g.size, fun k hk hn => h3g.block k hk (fun e => hn (by rw [HRB.out, Option.mem_toList]; exact e.symm))⟩
      have hS13 : Sole RB Z1 Z3 := hHeld2.trans hS23
      refine hK'.out _ _ hS13 (fun hHeld4 => ?_)
      clear hK' K'
      simp only [List.getElem_toArray, List.getElem_cons_zero, List.getElem_cons_succ, Act.put, List.setIfInBounds_toArray, List.set_cons_zero, List.set_cons_succ]
      refine wpAnyH_take (i := 8) (v := .pointer (some ⟨q, 0, none⟩)) rfl (by kernel_rfl) (by kernel_rfl) (by kernel_rfl) (fun _ _ _ h => h) (Or.inl ⟨by rfl, fun W hSw => by (try dsimp only at hSw); go_simp⟩) (by assumption) ?_
      simp only [List.getElem_toArray, List.getElem_cons_zero, List.getElem_cons_succ, Act.put, List.setIfInBounds_toArray, List.set_cons_zero, List.set_cons_succ]
      refine wpAnyH_take (i := 9) (v := .pointer (some ⟨q, 4, none⟩)) rfl (by kernel_rfl) (by kernel_rfl) (by kernel_rfl) (fun _ _ _ h => h) (Or.inl ⟨by rfl, fun W hSw => by (try dsimp only at hSw); go_simp⟩) (by assumption) ?_
      simp only [List.getElem_toArray, List.getElem_cons_zero, List.getElem_cons_succ, Act.put, List.setIfInBounds_toArray, List.set_cons_zero, List.set_cons_succ]
      have hG3 := (hS13.block q (by omega) (fun e => (hRB _ e).1 rfl)).trans hGZ
      have x34 := p4 Z3 hS13
      have f34 := frozen_of_row Z3 q 4 _ _ hG3
      have hG4 := heap_setCell_same Z3 q 4 _ _ (.slice a3 (Gn.length + x.blocks.length) c3) hG3
      simp only [List.setIfInBounds_toArray, List.set_cons_zero, List.set_cons_succ] at hG4
      obtain ⟨Z4, hZ4⟩ : ∃ Z4, Z3.setCell ⟨q, 4, none⟩ (.slice a3 (Gn.length + x.blocks.length) c3) = Z4 := ⟨_, rfl⟩
      have hS34 : Sole [q] Z3 Z4 := by rw [← hZ4]; exact Sole.setCell _ _ (by simp)
      rw [hZ4] at hG4
      have HG4 : Hid _ := hG4
      have hn3 : ∀ k, (Value.slice a3 (Gn.length + x.blocks.length) c3).ownBlock = some k → k ≠ q := fun k hk e => row_apart (by decide) hG3 h3o (by rw [hk, e])
      have HO4 : Hid (Z4.ownsRow base 84 2 (.slice a3 (Gn.length + x.blocks.length) c3) (Gn.length + x.blocks.length) ((Gn ++ slotsL x.blocks (x.at_ + x.blocks.length)).flatMap slC)) := by
        unfold Hid
        rw [List.flatMap_append]
        exact own_keep h3o hS34.size (fun k hk hl => hS34.block k hl (by have := hn3 k hk; simpa using this))
      have HK4 : Hid (∀ k, (Value.slice a3 (Gn.length + x.blocks.length) c3).ownBlock = some k → k ∈ FB ∨ w4.heap.size ≤ k) := fun k hk => by
        rcases h3a with e | e
        · rw [hk] at e; exact HK.out k e.symm
        · rw [hk] at e; cases e; right; omega
      have hS4 : Sole (q :: FB) w4 Z4 := (((hSq.trans (Sole.of_below hBZ1 _)).after hS13 (fun k hk => (hRF k hk).imp (List.mem_cons_of_mem _) id))).after hS34 (fun k hk => .inl (by simp only [List.mem_singleton] at hk; subst hk; exact List.mem_cons_self))
      have HLn : Hid ((slotsL x.blocks (x.at_ + x.blocks.length)).length = x.blocks.length) := hsl
      clear hsl
      refine wpAnyH_done (by kernel_rfl) ?_ _
      refine Behind.run (by rfl) ?_
      go_simp
      go_wp2
      refine NoPanic.normal ?_
      clear p0 p1 p4 hG3 hG4 x34 f34 hrun h3o h3g h3a hO2 hOZ hGZ hgZ1 cs
      go_wp2
      go_roundw
      case rel => exact ⟨j + 1, a3, c3, by omega, by go_num, by rw [HT1.out, List.length_append, HLn.out]; exact HG4, by rw [HT1.out, List.length_append, HLn.out]; exact HO4, by rw [HT1.out, List.length_append, HLn.out]; exact HK4, hS4⟩
      case measure => simp [RowKit.intOf]; omega
    · have HJ : Hid (j = l.there.length) := by unfold Hid; omega
      have hjn : ¬ ((j : Int) < (l.there.length : Int)) := by omega
      have hjn2 : (l.there.length : Int) ≤ (j : Int) := by omega
      have cd : Calls Tryz.prog 51 #[.slice aT l.there.length cT, .int .i64 0, .int .i64 ((l.there.length : Nat) : Int)] wr fun e w' => e = .returned (.slice aT 0 cT) ∧ w'.ownsRow base 94 2 (.slice aT 0 cT) (l.there.drop j).length ((l.there.drop j).flatMap tmC) ∧ Sole (Value.slice aT l.there.length cT).ownBlock.toList wr w' := by
        have k := delTk_own HTq.out j (by omega)
        rw [HJ.out] at k ⊢
        rw [Nat.sub_self] at k
        exact k
      clear hj hjl
      have e3 : wr.cell? ⟨q, 3, none⟩ = some (.slice aT l.there.length cT) := by rw [cell_of_row _ _ 3 _ _ (0, 0) HG.out]; rfl
      go_wp2_with fail
      refine cd.mono ?_
      rintro e7 w5 ⟨rfl, hO5, hS5⟩
      clear cd e3
      have hqT : q ∉ (Value.slice aT l.there.length cT).ownBlock.toList := fun hm => by rw [Option.mem_toList] at hm; exact row_apart (by decide) HL2.out.row HL2.out.there hm
      have hql5 : q < wr.heap.size := by omega
      have hG5 := (hS5.block q hql5 hqT).trans HG.out
      have e3 : w5.cell? ⟨q, 3, none⟩ = some (.slice aT l.there.length cT) := by rw [cell_of_row _ _ 3 _ _ (0, 0) hG5]; rfl
      have f3 := frozen_of_row w5 q 3 _ _ hG5
      have hG6 := heap_setCell_same w5 q 3 _ _ (.slice aT 0 cT) hG5
      simp only [List.setIfInBounds_toArray, List.set_cons_zero, List.set_cons_succ] at hG6
      obtain ⟨w6, hw6⟩ : ∃ w6, w5.setCell ⟨q, 3, none⟩ (.slice aT 0 cT) = w6 := ⟨_, rfl⟩
      have hS6 : Sole [q] w5 w6 := by rw [← hw6]; exact Sole.setCell _ _ (by simp)
      rw [hw6] at hG6
      have hO6 := own_keep hO5 hS6.size (fun k hk hl => hS6.block k hl (by
        intro hm
        simp only [List.mem_singleton] at hm
        subst hm
        exact row_apart (by decide) hG5 hO5 hk))
      have hF5 := own_keep HO.out hS5.size (fun k hk hl => hS5.block k hl (by
        intro hm
        rw [Option.mem_toList] at hm
        exact types_apart (by decide) HO.out HTq.out k hk hm))
      have hF6 := own_keep hF5 hS6.size (fun k hk hl => hS6.block k hl (by
        intro hm
        simp only [List.mem_singleton] at hm
        subst hm
        exact row_apart (by decide) hG5 hF5 hk))
      have hE6 : ∀ x ∈ l.there.drop j, w6.ownsRow base 3 1 x.bv x.blocks.length (blkC x.blocks) := fun x hx => by
        have hxm := List.mem_of_mem_drop hx
        have k5 := own_keep (HEq.out x hxm) hS5.size (fun k hk hl => hS5.block k hl (by
          intro hm
          rw [Option.mem_toList] at hm
          exact types_apart (by decide) (HEq.out x hxm) HTq.out k hk hm))
        exact own_keep k5 hS6.size (fun k hk hl => hS6.block k hl (by
          intro hm
          simp only [List.mem_singleton] at hm
          subst hm
          exact row_apart (by decide) hG5 k5 hk))
      have HM : Hid (LoMoves base w w6 q p f N (.slice aT l.there.length cT) (.slice aF l.free.length cF) (l.drop_ j)) := by
        refine ⟨⟨.slice aT 0 cT, .slice aG (l.free ++ goneT (l.there.take j)).length cG, ⟨hG6, hO6, hF6, hE6⟩, fun k hk => .inl (by rw [own_same aT _ 0]; exact hk), fun k hk => ?_⟩, ?_⟩
        · rcases HK.out k hk with hm | hm
          · left; rw [HFB.out, Option.mem_toList] at hm; exact hm
          · right; omega
        · have s1 : Sole (q :: ((Value.slice aT l.there.length cT).ownBlock.toList ++ FB)) w wr := (Sole.of_below hb02 _).trans (hSq.mono (fun k hk => by
            rcases List.mem_cons.1 hk with rfl | hk
            · exact List.mem_cons_self
            · exact List.mem_cons_of_mem _ (List.mem_append_right _ hk)))
          have s2 := s1.trans (hS5.mono (fun k hk => List.mem_cons_of_mem _ (List.mem_append_left _ hk)))
          rw [← HFB.out]
          exact s2.trans (hS6.mono (fun k hk => by simp only [List.mem_singleton] at hk; subst hk; exact List.mem_cons_self))
      clear hG5 hG6 hO5 hO6 hF5 hF6 hE6 hS5 hS6
      go_wp2
      go_ret
      exact ⟨rfl, by have := HM.out; rw [HJ.out] at this; exact this⟩


set_option maxRecDepth 100000 in
set_option maxHeartbeats 4000000 in
theorem let_some {base : Nat} {w : World} {q p : Nat} {f : Int} {N : Nat} {tv fv : Value} {l : Lo} (h : LoAt base w q p f N tv fv l) (hbase : base ≤ w.heap.size) (hlen : l.there.length ≤ 2000) (hfl : l.free.length ≤ 1000000) (hb : ∀ x ∈ l.there, x.blocks.length ≤ 1000) (hat : ∀ x ∈ l.there, x.at_ ≤ 4611686018427387904) (to F : Nat) (hto : to ≠ l.next) (hF : whichT to l.there = F) (hFl : F < l.there.length) :
    Calls Tryz.prog 28 #[.pointer (some ⟨q, 0, none⟩), .int .u64 to] w fun e w' => e = .returned (.int .i64 0) ∧ LoMoves base w w' q p f N tv fv (l.drop_ F) := by
  obtain ⟨aT, cT, rfl⟩ := own_shape h.there
  obtain ⟨aF, cF, rfl⟩ := own_shape h.free
  obtain ⟨iS, hiS, hy0, hy1, hy2⟩ := info_parts Tryz.infoSl
  have HL : Hid (LoAt base w q p f N (.slice aT l.there.length cT) (.slice aF l.free.length cF) l) := h
  have hql := (Array.getElem?_eq_some_iff.1 h.row).1
  obtain ⟨w1, hw1⟩ : ∃ w1, w.alloc (.cells #[.int .u64 to] 34) = w1 := ⟨_, rfl⟩
  have hB1 : Below w.heap.size w w1 := by rw [← hw1]; exact (Below.refl _ w).alloc (Nat.le_refl _) _
  have hg1 : w1.heap[w.heap.size]? = some (.cells #[.int .u64 to] 34 (0, 0)) := by rw [← hw1]; exact heap_alloc_new w _
  have hlt1 : w.heap.size < w1.heap.size := (Array.getElem?_eq_some_iff.1 hg1).1
  have h1 := h.below hB1
  have c3 : w1.cell? ⟨q, 3, none⟩ = some (.slice aT l.there.length cT) := h1.cell 3 _ rfl
  have ci := indexT_any h1.there (by omega) hg1
  have HG1 : Hid _ := hg1
  have hcT : l.there.length ≤ cT ∧ cT ≤ maxLen := by
    obtain ⟨_, ⟨e, h2⟩ | ⟨g, cap, cur, e, _, _, h5, h6, _⟩⟩ := h.there
    · simp only [Value.slice.injEq] at e; rw [e.2.2, h2]; exact ⟨Nat.le_refl _, by decide⟩
    · simp only [Value.slice.injEq, true_and] at e; rw [e.2]; exact ⟨h5, h6⟩
  obtain ⟨hcT1, hcT2⟩ := hcT
  clear h h1 hg1
  rw [hF, if_neg (by omega)] at ci
  clear hF
  go_enter Tryz.func28, Tryz.ntmps28
  go_wp2_with fail
  refine ci.mono ?_
  rintro e1 w2 ⟨rfl, hB2⟩
  have hB12 := thenB hB1 hB2
  have h2 := HL.out.below hB12
  have d0 : w2.cell? ⟨w.heap.size, 0, none⟩ = some (.int .u64 to) := (hB2.cell (p := ⟨w.heap.size, 0, none⟩) hlt1).trans (by rw [cell_of_row _ _ 0 _ _ (0, 0) HG1.out]; rfl)
  have d3 : w2.cell? ⟨q, 3, none⟩ = some (.slice aT l.there.length cT) := h2.cell 3 _ rfl
  have d5 : w2.cell? ⟨q, 5, none⟩ = some (.int .u64 l.next) := h2.cell 5 _ rfl
  clear ci c3
  have hne : ((to : Int) == (l.next : Int)) = false := by simp; omega
  clear hto
  go_wp2_with fail
  go_quiet (fail)
  have HL2 : Hid (LoAt base (w2.drewN nq) q p f N (.slice aT l.there.length cT) (.slice aF l.free.length cF) l) := h2.below ⟨rfl, rfl, rfl, Nat.le_refl _, fun _ _ => rfl⟩
  have hb02 : Below w.heap.size w (w2.drewN nq) := hB12.trans ⟨rfl, rfl, rfl, Nat.le_refl _, fun _ _ => rfl⟩
  have hql2 : q < (w2.drewN nq).heap.size := by have := hB12.size; show q < w2.heap.size; omega
  have hFI : (F : Int) ≤ l.there.length := by omega
  have hFc : F ≤ cT := by omega
  have d3' : (w2.drewN nq).cell? ⟨q, 3, none⟩ = some (.slice aT l.there.length cT) := HL2.out.cell 3 _ rfl
  clear h2 d0 d3 d5
  generalize w2.drewN nq = w4 at *
  clear hB12 hB2 hB1 HG1 hw1
  obtain ⟨FB, HFB⟩ : ∃ FB : List Nat, Hid (FB = (Value.slice aF l.free.length cF).ownBlock.toList) := ⟨_, rfl⟩
  have hs04 := hb02.size
  go_wp2
  clear d3'
  go_loopw [7, 34] (fun _ t wq => ∃ (j : Nat) (aG : Option Addr) (cG : Nat), j ≤ F ∧ t = .int .i64 j ∧
      Hid (wq.heap[q]? = some (.cells #[.pointer (some ⟨p, 0, none⟩), .int .i64 f, .int .i64 N, .slice aT l.there.length cT, .slice aG (l.free ++ goneT (l.there.take j)).length cG, .int .u64 l.next, .int .u64 l.tail, .bool l.grown] 77 (0, 0))) ∧
      Hid (wq.ownsRow base 84 2 (.slice aG (l.free ++ goneT (l.there.take j)).length cG) (l.free ++ goneT (l.there.take j)).length ((l.free ++ goneT (l.there.take j)).flatMap slC)) ∧
      Hid (∀ k, (Value.slice aG (l.free ++ goneT (l.there.take j)).length cG).ownBlock = some k → k ∈ FB ∨ w4.heap.size ≤ k) ∧ Sole (q :: FB) w4 wq) (fun _ t _ => F - (RowKit.intOf t).toNat)
  case atStart =>
    have e : l.free ++ goneT (l.there.take 0) = l.free := by simp [goneT]
    exact ⟨0, aF, cF, Nat.zero_le _, rfl, by rw [e]; exact HL2.out.row, by rw [e]; exact HL2.out.free, by rw [e]; exact fun k hk => .inl (by rw [HFB.out, Option.mem_toList]; exact hk), Sole.refl _ _⟩
  case round =>
    obtain ⟨j, aG, cG, hj, rfl, HG, HO, HK, hSq⟩ := hrel
    have hsq := hSq.size
    have HTq : Hid (wr.ownsRow base 94 2 (.slice aT l.there.length cT) l.there.length (l.there.flatMap tmC)) := own_keep HL2.out.there hsq (fun k hk hl => hSq.block k hl (by
      intro hm
      rcases List.mem_cons.1 hm with rfl | hm
      · exact row_apart (by decide) HL2.out.row HL2.out.there hk
      · rw [HFB.out, Option.mem_toList] at hm; exact types_apart (by decide) HL2.out.there HL2.out.free k hk hm))
    have HEq : Hid (∀ x ∈ l.there, wr.ownsRow base 3 1 x.bv x.blocks.length (blkC x.blocks)) := fun x hx => own_keep (HL2.out.each x hx) hsq (fun k hk hl => hSq.block k hl (by
      intro hm
      rcases List.mem_cons.1 hm with rfl | hm
      · exact row_apart (by decide) HL2.out.row (HL2.out.each x hx) hk
      · rw [HFB.out, Option.mem_toList] at hm; exact types_apart (by decide) (HL2.out.each x hx) HL2.out.free k hk hm))
    have hgl : (goneT (l.there.take j)).length ≤ 1000 * j := goneT_len _ _ (fun x hx => hb x (List.mem_of_mem_take hx)) (by rw [List.length_take]; omega)
    by_cases hjl : j < F
    · have hjI : (j : Int) < F := by omega
      obtain ⟨g, cap, hv, hcl, hcm, hgb, hgl2, hcell⟩ := own_tms (n := 0) HTq.out (by omega)
      simp only [Value.slice.injEq, true_and] at hv
      obtain ⟨rfl, rfl⟩ := hv
      obtain ⟨x, hx⟩ : ∃ x, l.there[j]? = some x := ⟨_, List.getElem?_eq_getElem (by omega)⟩
      have hxm : x ∈ l.there := List.mem_of_getElem? hx
      have hxb := hb x hxm
      have hxa := hat x hxm
      have c0 : wr.cell? ⟨g, j * 2, none⟩ = some (.int .u64 x.at_) := hcell j x hx 0 _ rfl
      have c1 : wr.cell? ⟨g, j * 2 + 1, none⟩ = some (.slice x.ba x.blocks.length x.bc) := hcell j x hx 1 _ rfl
      have HT1 : Hid (l.free ++ goneT (l.there.take (j + 1)) = (l.free ++ goneT (l.there.take j)) ++ slotsL x.blocks (x.at_ + x.blocks.length)) := by
        unfold Hid goneT; rw [List.take_add_one, hx, List.flatMap_append]; simp
      have hln : (l.free ++ goneT (l.there.take j)).length ≤ 3000000 := by rw [List.length_append]; omega
      generalize hGn : l.free ++ goneT (l.there.take j) = Gn at *
      obtain ⟨Z1, hZ1⟩ : ∃ Z1, wr.alloc (.cells #[.int .u64 x.at_, .slice x.ba x.blocks.length x.bc] 94) = Z1 := ⟨_, rfl⟩
      have hBZ1 : Below wr.heap.size wr Z1 := by rw [← hZ1]; exact (Below.refl _ wr).alloc (Nat.le_refl _) _
      have hgZ1 : Z1.heap[wr.heap.size]? = some (.cells #[.int .u64 x.at_, .slice x.ba x.blocks.length x.bc] 94 (0, 0)) := by rw [← hZ1]; exact heap_alloc_new wr _
      have hltZ : wr.heap.size < Z1.heap.size := (Array.getElem?_eq_some_iff.1 hgZ1).1
      clear hcell hGn
      go_wp2_with fail
      clear c0 c1
      have hOZ := own_keep HO.out hBZ1.size (fun q _ hl => hBZ1.block q hl)
      have hGZ := (hBZ1.block q (by omega)).trans HG.out
      have hne : ∀ k, (Value.slice aG Gn.length cG).ownBlock = some k → k ≠ q ∧ k < wr.heap.size := fun k hk => ⟨fun e => row_apart (by decide) HG.out HO.out (by rw [hk, e]), (World.ownsRow.lt HO.out k hk).2⟩
      obtain ⟨RB, HRB⟩ : ∃ RB : List Nat, Hid (RB = (Value.slice aG Gn.length cG).ownBlock.toList) := ⟨_, rfl⟩
      have hRB : ∀ k ∈ RB, k ≠ q ∧ k < wr.heap.size := fun k hk => by rw [HRB.out, Option.mem_toList] at hk; exact hne k hk
      have hRF : ∀ k ∈ RB, k ∈ FB ∨ w4.heap.size ≤ k := fun k hk => by rw [HRB.out, Option.mem_toList] at hk; exact HK.out k hk
      have p4 : ∀ W, Sole RB Z1 W → W.cell? ⟨q, 4, none⟩ = some (.slice aG Gn.length cG) := fun W hW => by
        rw [cell_of_row _ _ 4 _ _ (0, 0) ((hW.block _ (by omega) (fun e => (hRB _ e).1 rfl)).trans hGZ)]; rfl
      have p0 : ∀ W, Sole RB Z1 W → W.cell? ⟨wr.heap.size, 0, none⟩ = some (.int .u64 x.at_) := fun W hW => by
        rw [cell_of_row _ _ 0 _ _ (0, 0) ((hW.block _ (by omega) (fun e => by have := hRB _ e; omega)).trans hgZ1)]; rfl
      have p1 : ∀ W, Sole RB Z1 W → W.cell? ⟨wr.heap.size, 1, none⟩ = some (.slice x.ba x.blocks.length x.bc) := fun W hW => by
        rw [cell_of_row _ _ 1 _ _ (0, 0) ((hW.block _ (by omega) (fun e => by have := hRB _ e; omega)).trans hgZ1)]; rfl
      have cs := slotsOf_any Z1.drew x.at_ x.blocks x.ba x.bc (own_keep (HEq.out x hxm) (w' := Z1.drew) hBZ1.size (fun q _ hl => hBZ1.block q hl)) (by omega) (by omega)
      refine wp_region_noPanic ?_
      refine wp_region_sink 10 (S := fun W => Sole RB Z1 W) (by kernel_rfl) (by kernel_rfl) (Sole.drew _ _) (fun hHeld => ?_)
      refine wpAnyH_take (i := 0) (v := .pointer (some ⟨q, 0, none⟩)) rfl (by kernel_rfl) (by kernel_rfl) (by kernel_rfl) (fun _ _ _ h => h) (Or.inl ⟨by rfl, fun W hSw => by (try dsimp only at hSw); go_simp⟩) (by assumption) ?_
      simp only [List.getElem_toArray, List.getElem_cons_zero, List.getElem_cons_succ, Act.put, List.setIfInBounds_toArray, List.set_cons_zero, List.set_cons_succ]
      refine wpAnyH_take (i := 1) (v := .pointer (some ⟨q, 0, none⟩)) rfl (by kernel_rfl) (by kernel_rfl) (by kernel_rfl) (fun _ _ _ h => h) (Or.inl ⟨by rfl, fun W hSw => by (try dsimp only at hSw); go_simp⟩) (by assumption) ?_
      simp only [List.getElem_toArray, List.getElem_cons_zero, List.getElem_cons_succ, Act.put, List.setIfInBounds_toArray, List.set_cons_zero, List.set_cons_succ]
      refine wpAnyH_take (i := 2) (v := .pointer (some ⟨q, 0, none⟩)) rfl (by kernel_rfl) (by kernel_rfl) (by kernel_rfl) (fun _ _ _ h => h) (Or.inl ⟨by rfl, fun W hSw => by (try dsimp only at hSw); go_simp⟩) (by assumption) ?_
      simp only [List.getElem_toArray, List.getElem_cons_zero, List.getElem_cons_succ, Act.put, List.setIfInBounds_toArray, List.set_cons_zero, List.set_cons_succ]
      refine wpAnyH_take (i := 3) (v := .pointer (some ⟨q, 4, none⟩)) rfl (by kernel_rfl) (by kernel_rfl) (by kernel_rfl) (fun _ _ _ h => h) (Or.inl ⟨by rfl, fun W hSw => by (try dsimp only at hSw); go_simp⟩) (by assumption) ?_
      simp only [List.getElem_toArray, List.getElem_cons_zero, List.getElem_cons_succ, Act.put, List.setIfInBounds_toArray, List.set_cons_zero, List.set_cons_succ]
      refine wpAnyH_take (i := 4) (v := .slice aG Gn.length cG) rfl (by kernel_rfl) (by kernel_rfl) (by kernel_rfl) (fun _ _ _ h => h) (Or.inl ⟨by rfl, fun W hSw => by (try dsimp only at hSw); go_simp⟩) (by assumption) ?_
      simp only [List.getElem_toArray, List.getElem_cons_zero, List.getElem_cons_succ, Act.put, List.setIfInBounds_toArray, List.set_cons_zero, List.set_cons_succ]
      refine wpAnyH_take (i := 5) (v := .agg #[.int .u64 x.at_, .slice x.ba x.blocks.length x.bc]) rfl (by kernel_rfl) (by kernel_rfl) (by kernel_rfl) (fun _ _ _ h => h) (Or.inl ⟨by rfl, fun W hSw => by (try dsimp only at hSw); go_simp⟩) (by assumption) ?_
      simp only [List.getElem_toArray, List.getElem_cons_zero, List.getElem_cons_succ, Act.put, List.setIfInBounds_toArray, List.set_cons_zero, List.set_cons_succ]
      refine wpAnyH_ready (rs := [6]) (by kernel_rfl) (by simp) ?_
      refine AllReadyH.cons rfl (fun K hK => ?_) AllReadyH.nil
      go_simp
      go_wp2_with (go_at_call 50; refine cs.mono ?_; rintro e6 Z2 ⟨gs, rfl, hgs, hgsw, hB2'⟩)
      refine hK.out _ _ (keepS (by assumption) (by assumption)) (fun hHeld2 => ?_)
      clear hK K
      have hsl : (slotsL x.blocks (x.at_ + x.blocks.length)).length = x.blocks.length := by simp [slotsL]
      have hZ12 : Below Z1.heap.size Z1 Z2 := thenB (Below.refl _ Z1).drew hB2'
      have hO2 := own_keep hOZ hZ12.size (fun q _ hl => hZ12.block q hl)
      have hs12' := hZ12.size
      refine wpAnyH_ready (rs := [7]) (by kernel_rfl) (by simp) ?_
      refine AllReadyH.cons rfl (fun K' hK' => ?_) AllReadyH.nil
      rw [if_pos (by rfl)]
      obtain ⟨v3, Z3, hrun, h3o, h3g, _, h3a⟩ := run_append_own_at (P := Tryz.prog) Z2 base 75 75 84 iS _ 2 16 Tryz.underlying75 hiS hy0 hy1 hy2 rfl (by decide) (.slice aG Gn.length cG) Gn.length (Gn.flatMap slC) hO2 ⟨gs, 0, none⟩ x.blocks.length x.blocks.length ((slotsL x.blocks (x.at_ + x.blocks.length)).flatMap slC) (by rw [flat2_len, hsl]) (rowAdd hgsw) (fun u hu => slC_one hu) (by unfold maxLen; omega) (by omega) (by omega)
      obtain ⟨a3, c3, rfl⟩ := own_shape h3o
      refine wp_app _ _ 75 rfl _ _ rfl rfl hrun ?_
      have hS23 : Sole RB Z2 Z3 := ⟨h3g.os, h3g.tape, h3g.output, h3g.size, fun k hk hn => h3g.block k hk (fun e => hn (by rw [HRB.out, Option.mem_toList]; exact e.symm))⟩
      have hS13 : Sole RB Z1 Z3 := hHeld2.trans hS23
      refine hK'.out _ _ hS13 (fun hHeld4 => ?_)
      clear hK' K'
      simp only [List.getElem_toArray, List.getElem_cons_zero, List.getElem_cons_succ, Act.put, List.setIfInBounds_toArray, List.set_cons_zero, List.set_cons_succ]
      refine wpAnyH_take (i := 8) (v := .pointer (some ⟨q, 0, none⟩)) rfl (by kernel_rfl) (by kernel_rfl) (by kernel_rfl) (fun _ _ _ h => h) (Or.inl ⟨by rfl, fun W hSw => by (try dsimp only at hSw); go_simp⟩) (by assumption) ?_
      simp only [List.getElem_toArray, List.getElem_cons_zero, List.getElem_cons_succ, Act.put, List.setIfInBounds_toArray, List.set_cons_zero, List.set_cons_succ]
      refine wpAnyH_take (i := 9) (v := .pointer (some ⟨q, 4, none⟩)) rfl (by kernel_rfl) (by kernel_rfl) (by kernel_rfl) (fun _ _ _ h => h) (Or.inl ⟨by rfl, fun W hSw => by (try dsimp only at hSw); go_simp⟩) (by assumption) ?_
      simp only [List.getElem_toArray, List.getElem_cons_zero, List.getElem_cons_succ, Act.put, List.setIfInBounds_toArray, List.set_cons_zero, List.set_cons_succ]
      have hG3 := (hS13.block q (by omega) (fun e => (hRB _ e).1 rfl)).trans hGZ
      have x34 := p4 Z3 hS13
      have f34 := frozen_of_row Z3 q 4 _ _ hG3
      have hG4 := heap_setCell_same Z3 q 4 _ _ (.slice a3 (Gn.length + x.blocks.length) c3) hG3
      simp only [List.setIfInBounds_toArray, List.set_cons_zero, List.set_cons_succ] at hG4
      obtain ⟨Z4, hZ4⟩ : ∃ Z4, Z3.setCell ⟨q, 4, none⟩ (.slice a3 (Gn.length + x.blocks.length) c3) = Z4 := ⟨_, rfl⟩
      have hS34 : Sole [q] Z3 Z4 := by rw [← hZ4]; exact Sole.setCell _ _ (by simp)
      rw [hZ4] at hG4
      have HG4 : Hid _ := hG4
      have hn3 : ∀ k, (Value.slice a3 (Gn.length + x.blocks.length) c3).ownBlock = some k → k ≠ q := fun k hk e => row_apart (by decide) hG3 h3o (by rw [hk, e])
      have HO4 : Hid (Z4.ownsRow base 84 2 (.slice a3 (Gn.length + x.blocks.length) c3) (Gn.length + x.blocks.length) ((Gn ++ slotsL x.blocks (x.at_ + x.blocks.length)).flatMap slC)) := by
        unfold Hid
        rw [List.flatMap_append]
        exact own_keep h3o hS34.size (fun k hk hl => hS34.block k hl (by have := hn3 k hk; simpa using this))
      have HK4 : Hid (∀ k, (Value.slice a3 (Gn.length + x.blocks.length) c3).ownBlock = some k → k ∈ FB ∨ w4.heap.size ≤ k) := fun k hk => by
        rcases h3a with e | e
        · rw [hk] at e; exact HK.out k e.symm
        · rw [hk] at e; cases e; right; omega
      have hS4 : Sole (q :: FB) w4 Z4 := (((hSq.trans (Sole.of_below hBZ1 _)).after hS13 (fun k hk => (hRF k hk).imp (List.mem_cons_of_mem _) id))).after hS34 (fun k hk => .inl (by simp only [List.mem_singleton] at hk; subst hk; exact List.mem_cons_self))
      have HLn : Hid ((slotsL x.blocks (x.at_ + x.blocks.length)).length = x.blocks.length) := hsl
      clear hsl
      refine wpAnyH_done (by kernel_rfl) ?_ _
      refine Behind.run (by rfl) ?_
      go_simp
      go_wp2
      refine NoPanic.normal ?_
      clear p0 p1 p4 hG3 hG4 x34 f34 hrun h3o h3g h3a hO2 hOZ hGZ hgZ1 cs
      go_wp2
      go_roundw
      case rel => exact ⟨j + 1, a3, c3, by omega, by go_num, by rw [HT1.out, List.length_append, HLn.out]; exact HG4, by rw [HT1.out, List.length_append, HLn.out]; exact HO4, by rw [HT1.out, List.length_append, HLn.out]; exact HK4, hS4⟩
      case measure => simp [RowKit.intOf]; omega
    · obtain rfl : j = F := by omega
      have cd := delTk_own HTq.out j (by omega)
      have e3 : wr.cell? ⟨q, 3, none⟩ = some (.slice aT l.there.length cT) := by rw [cell_of_row _ _ 3 _ _ (0, 0) HG.out]; rfl
      go_wp2_with fail
      refine cd.mono ?_
      rintro e7 w5 ⟨rfl, hO5, hS5⟩
      clear cd e3
      have hqT : q ∉ (Value.slice aT l.there.length cT).ownBlock.toList := fun hm => by rw [Option.mem_toList] at hm; exact row_apart (by decide) HL2.out.row HL2.out.there hm
      have hql5 : q < wr.heap.size := by omega
      have hG5 := (hS5.block q hql5 hqT).trans HG.out
      have e3 : w5.cell? ⟨q, 3, none⟩ = some (.slice aT l.there.length cT) := by rw [cell_of_row _ _ 3 _ _ (0, 0) hG5]; rfl
      have f3 := frozen_of_row w5 q 3 _ _ hG5
      have hG6 := heap_setCell_same w5 q 3 _ _ (.slice aT (l.there.length - j) cT) hG5
      simp only [List.setIfInBounds_toArray, List.set_cons_zero, List.set_cons_succ] at hG6
      obtain ⟨w6, hw6⟩ : ∃ w6, w5.setCell ⟨q, 3, none⟩ (.slice aT (l.there.length - j) cT) = w6 := ⟨_, rfl⟩
      have hS6 : Sole [q] w5 w6 := by rw [← hw6]; exact Sole.setCell _ _ (by simp)
      rw [hw6] at hG6
      have hO6 := own_keep hO5 hS6.size (fun k hk hl => hS6.block k hl (by
        intro hm
        simp only [List.mem_singleton] at hm
        subst hm
        exact row_apart (by decide) hG5 hO5 hk))
      have hF5 := own_keep HO.out hS5.size (fun k hk hl => hS5.block k hl (by
        intro hm
        rw [Option.mem_toList] at hm
        exact types_apart (by decide) HO.out HTq.out k hk hm))
      have hF6 := own_keep hF5 hS6.size (fun k hk hl => hS6.block k hl (by
        intro hm
        simp only [List.mem_singleton] at hm
        subst hm
        exact row_apart (by decide) hG5 hF5 hk))
      have hE6 : ∀ x ∈ l.there.drop j, w6.ownsRow base 3 1 x.bv x.blocks.length (blkC x.blocks) := fun x hx => by
        have hxm := List.mem_of_mem_drop hx
        have k5 := own_keep (HEq.out x hxm) hS5.size (fun k hk hl => hS5.block k hl (by
          intro hm
          rw [Option.mem_toList] at hm
          exact types_apart (by decide) (HEq.out x hxm) HTq.out k hk hm))
        exact own_keep k5 hS6.size (fun k hk hl => hS6.block k hl (by
          intro hm
          simp only [List.mem_singleton] at hm
          subst hm
          exact row_apart (by decide) hG5 k5 hk))
      have HM : Hid (LoMoves base w w6 q p f N (.slice aT l.there.length cT) (.slice aF l.free.length cF) (l.drop_ j)) := by
        refine ⟨⟨.slice aT (l.there.length - j) cT, .slice aG (l.free ++ goneT (l.there.take j)).length cG, ⟨hG6, hO6, hF6, hE6⟩, fun k hk => .inl (by rw [own_same aT _ (l.there.length - j)]; exact hk), fun k hk => ?_⟩, ?_⟩
        · rcases HK.out k hk with hm | hm
          · left; rw [HFB.out, Option.mem_toList] at hm; exact hm
          · right; omega
        · have s1 : Sole (q :: ((Value.slice aT l.there.length cT).ownBlock.toList ++ FB)) w wr := (Sole.of_below hb02 _).trans (hSq.mono (fun k hk => by
            rcases List.mem_cons.1 hk with rfl | hk
            · exact List.mem_cons_self
            · exact List.mem_cons_of_mem _ (List.mem_append_right _ hk)))
          have s2 := s1.trans (hS5.mono (fun k hk => List.mem_cons_of_mem _ (List.mem_append_left _ hk)))
          rw [← HFB.out]
          exact s2.trans (hS6.mono (fun k hk => by simp only [List.mem_singleton] at hk; subst hk; exact List.mem_cons_self))
      clear hG5 hG6 hO5 hO6 hF5 hF6 hE6 hS5 hS6
      go_wp2
      go_ret
      exact ⟨rfl, HM.out⟩


set_option maxHeartbeats 1000000 in
theorem let_none {base : Nat} {w : World} {q p : Nat} {f : Int} {N : Nat} {tv fv : Value} {l : Lo} (h : LoAt base w q p f N tv fv l) (hlen : l.there.length ≤ 2000) (to : Nat) (hto : to ≠ l.next) (hF : whichT to l.there = l.there.length) :
    Calls Tryz.prog 28 #[.pointer (some ⟨q, 0, none⟩), .int .u64 to] w fun e w' => e = .returned (.int .i64 1) ∧ Below w.heap.size w w' := by
  obtain ⟨aT, cT, rfl⟩ := own_shape h.there
  obtain ⟨aF, cF, rfl⟩ := own_shape h.free
  have HL : Hid (LoAt base w q p f N (.slice aT l.there.length cT) (.slice aF l.free.length cF) l) := h
  obtain ⟨w1, hw1⟩ : ∃ w1, w.alloc (.cells #[.int .u64 to] 34) = w1 := ⟨_, rfl⟩
  have hB1 : Below w.heap.size w w1 := by rw [← hw1]; exact (Below.refl _ w).alloc (Nat.le_refl _) _
  have hg1 : w1.heap[w.heap.size]? = some (.cells #[.int .u64 to] 34 (0, 0)) := by rw [← hw1]; exact heap_alloc_new w _
  have hlt1 : w.heap.size < w1.heap.size := (Array.getElem?_eq_some_iff.1 hg1).1
  have h1 := h.below hB1
  have c3 : w1.cell? ⟨q, 3, none⟩ = some (.slice aT l.there.length cT) := h1.cell 3 _ rfl
  have ci := indexT_any h1.there (by omega) hg1
  have HG1 : Hid _ := hg1
  clear h h1 hg1
  rw [hF, if_pos rfl] at ci
  clear hF
  go_enter Tryz.func28, Tryz.ntmps28
  go_wp2_with fail
  refine ci.mono ?_
  rintro e1 w2 ⟨rfl, hB2⟩
  have hB12 := thenB hB1 hB2
  have h2 := HL.out.below hB12
  have d0 : w2.cell? ⟨w.heap.size, 0, none⟩ = some (.int .u64 to) := (hB2.cell (p := ⟨w.heap.size, 0, none⟩) hlt1).trans (by rw [cell_of_row _ _ 0 _ _ (0, 0) HG1.out]; rfl)
  have d3 : w2.cell? ⟨q, 3, none⟩ = some (.slice aT l.there.length cT) := h2.cell 3 _ rfl
  have d5 : w2.cell? ⟨q, 5, none⟩ = some (.int .u64 l.next) := h2.cell 5 _ rfl
  clear ci c3
  have hne : ((to : Int) == (l.next : Int)) = false := by simp; omega
  clear hto
  go_wp2_with fail
  go_quiet (fail)
  go_wp2
  go_ret
  exact ⟨rfl, below_drewN hB12 _⟩

end Go.Proofs.YtckcdmkgmbicfaaGreat
