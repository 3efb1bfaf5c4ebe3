/- The contract of the document's Open. -/
import Derived.Test.YtakifnlfgaedjaaRBase
namespace Go.Proofs.Ytakifnlfgaedjaa
open Go.RowKit
set_option linter.unusedVariables false
set_option linter.unusedSimpArgs false
set_option maxRecDepth 4000

def openX (x : Rf) : Rf := ⟨x.root, x.ver, x.first, x.base, x.pl, x.l ++ [⟨x.l.length + 1, x.root, x.ver⟩]⟩

set_option maxHeartbeats 4000000 in
theorem ropen_any {B : Nat} {w : World} {p : Nat} {vp vl : Value} {x : Rf} (h : RfAt B w p vp vl x) (hB : B ≤ w.heap.size) (hln : x.l.length ≤ 1000) : Calls Try.prog 11 #[ptrR p] w fun e w' => e = .returned (.tuple #[.int .i64 ((x.l.length + 1 : Nat) : Int), .int .u32 x.root, .int .u64 x.ver]) ∧ RfMoves B w w' p vp vl (openX x) := by
  obtain ⟨iS, hiS, hy0, hy1, hy2⟩ := info_parts Try.infoSf
  obtain ⟨root, ver, first, base, pl, l⟩ := x
  obtain ⟨a, c, rfl⟩ := own_shape h.ol
  unfold openX
  dsimp only at *
  have H : Hid (RfAt B w p vp (.slice a l.length c) ⟨root, ver, first, base, pl, l⟩) := h
  have hp := h.lt
  have hap := h.apartL
  have hrow := h.row
  unfold rfC at hrow
  dsimp only at hrow
  have hO1 := h.ol
  dsimp only at hO1
  obtain ⟨RB, HRB⟩ : ∃ RB : List Nat, Hid (RB = (Value.slice a l.length c).ownBlock.toList) := ⟨_, rfl⟩
  have hRB : ∀ k ∈ RB, k ≠ p ∧ k < w.heap.size := fun k hk => by rw [HRB.out, Option.mem_toList] at hk; exact ⟨(hap k hk).1, (hap k hk).2.2⟩
  obtain ⟨n, hn⟩ : ∃ n, l.length = n := ⟨_, rfl⟩
  have HN : Hid (l.length = n) := hn
  have pk : ∀ W, Sole RB w W → W.heap[p]? = some (.cells #[.int .u32 root, .int .u64 ver, .int .u64 first, .int .u64 base, vp, .slice a n c] 42 (0, 0)) := fun W hW => by rw [← hn]; exact (hW.block p (by omega) (fun e => (hRB p e).1 rfl)).trans hrow
  have p0 : ∀ W, Sole RB w W → W.cell? ⟨p, 0, none⟩ = some (.int .u32 root) := fun W hW => by rw [cell_of_row _ _ 0 _ _ (0, 0) (pk W hW)]; rfl
  have p1 : ∀ W, Sole RB w W → W.cell? ⟨p, 1, none⟩ = some (.int .u64 ver) := fun W hW => by rw [cell_of_row _ _ 1 _ _ (0, 0) (pk W hW)]; rfl
  have p5 : ∀ W, Sole RB w W → W.cell? ⟨p, 5, none⟩ = some (.slice a n c) := fun W hW => by rw [cell_of_row _ _ 5 _ _ (0, 0) (pk W hW)]; rfl
  have HPK : Hid _ := pk
  rw [hn] at hO1 hln
  have HO1 : Hid _ := hO1
  have h1i : ((n + 1 : Nat) : Int) = (n : Int) + 1 := by omega
  rw [hn, h1i]
  clear h hrow hO1 pk hn hap
  unfold ptrR
  go_enter Try.func11, Try.ntmps11
  go_wp2_with fail
  refine wp_region_noPanic ?_
  refine wp_region_sink 24 (S := fun W => Sole RB w W) (by kernel_rfl) (by kernel_rfl) (Sole.drew _ _) (fun hHeld => ?_)
  refine wpAnyH_take (i := 0) (v := .pointer (some ⟨p, 0, none⟩)) rfl (by kernel_rfl) (by kernel_rfl) (by kernel_rfl) (fun _ _ _ h => h) (Or.inl ⟨by rfl, fun W hSw => by (try dsimp only at hSw); go_simp⟩) (by assumption) ?_
  simp only [List.getElem_toArray, List.getElem_cons_zero, List.getElem_cons_succ, Act.put, List.setIfInBounds_toArray, List.set_cons_zero, List.set_cons_succ]
  refine wpAnyH_take (i := 1) (v := .pointer (some ⟨p, 0, none⟩)) rfl (by kernel_rfl) (by kernel_rfl) (by kernel_rfl) (fun _ _ _ h => h) (Or.inl ⟨by rfl, fun W hSw => by (try dsimp only at hSw); go_simp⟩) (by assumption) ?_
  simp only [List.getElem_toArray, List.getElem_cons_zero, List.getElem_cons_succ, Act.put, List.setIfInBounds_toArray, List.set_cons_zero, List.set_cons_succ]
  refine wpAnyH_take (i := 2) (v := .pointer (some ⟨p, 0, none⟩)) rfl (by kernel_rfl) (by kernel_rfl) (by kernel_rfl) (fun _ _ _ h => h) (Or.inl ⟨by rfl, fun W hSw => by (try dsimp only at hSw); go_simp⟩) (by assumption) ?_
  simp only [List.getElem_toArray, List.getElem_cons_zero, List.getElem_cons_succ, Act.put, List.setIfInBounds_toArray, List.set_cons_zero, List.set_cons_succ]
  refine wpAnyH_take (i := 3) (v := .pointer (some ⟨p, 5, none⟩)) rfl (by kernel_rfl) (by kernel_rfl) (by kernel_rfl) (fun _ _ _ h => h) (Or.inl ⟨by rfl, fun W hSw => by (try dsimp only at hSw); go_simp⟩) (by assumption) ?_
  simp only [List.getElem_toArray, List.getElem_cons_zero, List.getElem_cons_succ, Act.put, List.setIfInBounds_toArray, List.set_cons_zero, List.set_cons_succ]
  refine wpAnyH_take (i := 4) (v := .slice a n c) rfl (by kernel_rfl) (by kernel_rfl) (by kernel_rfl) (fun _ _ _ h => h) (Or.inl ⟨by rfl, fun W hSw => by (try dsimp only at hSw); go_simp⟩) (by assumption) ?_
  simp only [List.getElem_toArray, List.getElem_cons_zero, List.getElem_cons_succ, Act.put, List.setIfInBounds_toArray, List.set_cons_zero, List.set_cons_succ]
  refine wpAnyH_take (i := 5) (v := .pointer (some ⟨p, 0, none⟩)) rfl (by kernel_rfl) (by kernel_rfl) (by kernel_rfl) (fun _ _ _ h => h) (Or.inl ⟨by rfl, fun W hSw => by (try dsimp only at hSw); go_simp⟩) (by assumption) ?_
  simp only [List.getElem_toArray, List.getElem_cons_zero, List.getElem_cons_succ, Act.put, List.setIfInBounds_toArray, List.set_cons_zero, List.set_cons_succ]
  refine wpAnyH_take (i := 6) (v := .pointer (some ⟨p, 0, none⟩)) rfl (by kernel_rfl) (by kernel_rfl) (by kernel_rfl) (fun _ _ _ h => h) (Or.inl ⟨by rfl, fun W hSw => by (try dsimp only at hSw); go_simp⟩) (by assumption) ?_
  simp only [List.getElem_toArray, List.getElem_cons_zero, List.getElem_cons_succ, Act.put, List.setIfInBounds_toArray, List.set_cons_zero, List.set_cons_succ]
  refine wpAnyH_take (i := 7) (v := .pointer (some ⟨p, 5, none⟩)) rfl (by kernel_rfl) (by kernel_rfl) (by kernel_rfl) (fun _ _ _ h => h) (Or.inl ⟨by rfl, fun W hSw => by (try dsimp only at hSw); go_simp⟩) (by assumption) ?_
  simp only [List.getElem_toArray, List.getElem_cons_zero, List.getElem_cons_succ, Act.put, List.setIfInBounds_toArray, List.set_cons_zero, List.set_cons_succ]
  refine wpAnyH_take (i := 8) (v := .slice a n c) rfl (by kernel_rfl) (by kernel_rfl) (by kernel_rfl) (fun _ _ _ h => h) (Or.inl ⟨by rfl, fun W hSw => by (try dsimp only at hSw); go_simp⟩) (by assumption) ?_
  simp only [List.getElem_toArray, List.getElem_cons_zero, List.getElem_cons_succ, Act.put, List.setIfInBounds_toArray, List.set_cons_zero, List.set_cons_succ]
  refine wpAnyH_take (i := 9) (v := .int .i64 n) rfl (by kernel_rfl) (by kernel_rfl) (by kernel_rfl) (fun _ _ _ h => h) (Or.inl ⟨by rfl, fun W hSw => by (try dsimp only at hSw); go_simp⟩) (by assumption) ?_
  simp only [List.getElem_toArray, List.getElem_cons_zero, List.getElem_cons_succ, Act.put, List.setIfInBounds_toArray, List.set_cons_zero, List.set_cons_succ]
  refine wpAnyH_take (i := 10) (v := .int .i64 ((n : Int) + 1)) rfl (by kernel_rfl) (by kernel_rfl) (by kernel_rfl) (fun _ _ _ h => h) (Or.inl ⟨by rfl, fun W hSw => by (try dsimp only at hSw); (go_simp <;> exact Go.IntWalk.i64_in _ (by omega))⟩) (by assumption) ?_
  simp only [List.getElem_toArray, List.getElem_cons_zero, List.getElem_cons_succ, Act.put, List.setIfInBounds_toArray, List.set_cons_zero, List.set_cons_succ]
  refine wpAnyH_take (i := 11) (v := .pointer (some ⟨p, 0, none⟩)) rfl (by kernel_rfl) (by kernel_rfl) (by kernel_rfl) (fun _ _ _ h => h) (Or.inl ⟨by rfl, fun W hSw => by (try dsimp only at hSw); go_simp⟩) (by assumption) ?_
  simp only [List.getElem_toArray, List.getElem_cons_zero, List.getElem_cons_succ, Act.put, List.setIfInBounds_toArray, List.set_cons_zero, List.set_cons_succ]
  refine wpAnyH_take (i := 12) (v := .pointer (some ⟨p, 0, none⟩)) rfl (by kernel_rfl) (by kernel_rfl) (by kernel_rfl) (fun _ _ _ h => h) (Or.inl ⟨by rfl, fun W hSw => by (try dsimp only at hSw); go_simp⟩) (by assumption) ?_
  simp only [List.getElem_toArray, List.getElem_cons_zero, List.getElem_cons_succ, Act.put, List.setIfInBounds_toArray, List.set_cons_zero, List.set_cons_succ]
  refine wpAnyH_take (i := 13) (v := .pointer (some ⟨p, 0, none⟩)) rfl (by kernel_rfl) (by kernel_rfl) (by kernel_rfl) (fun _ _ _ h => h) (Or.inl ⟨by rfl, fun W hSw => by (try dsimp only at hSw); go_simp⟩) (by assumption) ?_
  simp only [List.getElem_toArray, List.getElem_cons_zero, List.getElem_cons_succ, Act.put, List.setIfInBounds_toArray, List.set_cons_zero, List.set_cons_succ]
  refine wpAnyH_take (i := 14) (v := .int .u32 root) rfl (by kernel_rfl) (by kernel_rfl) (by kernel_rfl) (fun _ _ _ h => h) (Or.inl ⟨by rfl, fun W hSw => by (try dsimp only at hSw); go_simp⟩) (by assumption) ?_
  simp only [List.getElem_toArray, List.getElem_cons_zero, List.getElem_cons_succ, Act.put, List.setIfInBounds_toArray, List.set_cons_zero, List.set_cons_succ]
  refine wpAnyH_take (i := 15) (v := .pointer (some ⟨p, 0, none⟩)) rfl (by kernel_rfl) (by kernel_rfl) (by kernel_rfl) (fun _ _ _ h => h) (Or.inl ⟨by rfl, fun W hSw => by (try dsimp only at hSw); go_simp⟩) (by assumption) ?_
  simp only [List.getElem_toArray, List.getElem_cons_zero, List.getElem_cons_succ, Act.put, List.setIfInBounds_toArray, List.set_cons_zero, List.set_cons_succ]
  refine wpAnyH_take (i := 16) (v := .pointer (some ⟨p, 0, none⟩)) rfl (by kernel_rfl) (by kernel_rfl) (by kernel_rfl) (fun _ _ _ h => h) (Or.inl ⟨by rfl, fun W hSw => by (try dsimp only at hSw); go_simp⟩) (by assumption) ?_
  simp only [List.getElem_toArray, List.getElem_cons_zero, List.getElem_cons_succ, Act.put, List.setIfInBounds_toArray, List.set_cons_zero, List.set_cons_succ]
  refine wpAnyH_take (i := 17) (v := .pointer (some ⟨p, 1, none⟩)) rfl (by kernel_rfl) (by kernel_rfl) (by kernel_rfl) (fun _ _ _ h => h) (Or.inl ⟨by rfl, fun W hSw => by (try dsimp only at hSw); go_simp⟩) (by assumption) ?_
  simp only [List.getElem_toArray, List.getElem_cons_zero, List.getElem_cons_succ, Act.put, List.setIfInBounds_toArray, List.set_cons_zero, List.set_cons_succ]
  refine wpAnyH_take (i := 18) (v := .int .u64 ver) rfl (by kernel_rfl) (by kernel_rfl) (by kernel_rfl) (fun _ _ _ h => h) (Or.inl ⟨by rfl, fun W hSw => by (try dsimp only at hSw); go_simp⟩) (by assumption) ?_
  simp only [List.getElem_toArray, List.getElem_cons_zero, List.getElem_cons_succ, Act.put, List.setIfInBounds_toArray, List.set_cons_zero, List.set_cons_succ]
  refine wpAnyH_take (i := 19) (v := .agg #[.int .i64 ((n : Int) + 1), .int .u32 root, .int .u64 ver]) rfl (by kernel_rfl) (by kernel_rfl) (by kernel_rfl) (fun _ _ _ h => h) (Or.inl ⟨by rfl, fun W hSw => by (try dsimp only at hSw); go_simp⟩) (by assumption) ?_
  simp only [List.getElem_toArray, List.getElem_cons_zero, List.getElem_cons_succ, Act.put, List.setIfInBounds_toArray, List.set_cons_zero, List.set_cons_succ]
  refine wpAnyH_ready (rs := [20]) (by kernel_rfl) (by simp) ?_
  refine AllReadyH.cons rfl (fun K hK => ?_) AllReadyH.nil
  go_simp
  go_wp2
  have hg2 := heap_alloc_new w (.cells #[.int .i64 ((n : Int) + 1), .int .u32 root, .int .u64 ver] 66)
  have hb2 : Below w.heap.size w ((w.alloc (.cells #[.int .i64 ((n : Int) + 1), .int .u32 root, .int .u64 ver] 66)).drew) := ((Below.refl _ w).alloc (Nat.le_refl _) _).drew
  have hs2 : ((w.alloc (.cells #[.int .i64 ((n : Int) + 1), .int .u32 root, .int .u64 ver] 66)).drew).heap.size = w.heap.size + 1 := by simp
  refine hK.out _ _ (Sole.of_below hb2 RB) (fun hHeld2 => ?_)
  clear hK K
  have hg2' : ((w.alloc (.cells #[.int .i64 ((n : Int) + 1), .int .u32 root, .int .u64 ver] 66)).drew).heap[w.heap.size]? = some (.cells #[.int .i64 ((n : Int) + 1), .int .u32 root, .int .u64 ver] 66 (0, 0)) := hg2
  clear hg2
  generalize (w.alloc (.cells #[.int .i64 ((n : Int) + 1), .int .u32 root, .int .u64 ver] 66)).drew = Z2 at *
  have hO2 := own_below HO1.out hb2
  refine wpAnyH_ready (rs := [21]) (by kernel_rfl) (by simp) ?_
  refine AllReadyH.cons rfl (fun K hK => ?_) AllReadyH.nil
  rw [if_pos (by rfl)]
  obtain ⟨v3, Z3, hrun, h3o, h3g, _, h3a⟩ := run_append_own_at (P := Try.prog) Z2 B 40 40 66 iS _ 3 24 Try.underlying40 hiS hy0 hy1 hy2 rfl (by decide) (.slice a n c) n (l.flatMap sfC) hO2 ⟨w.heap.size, 0, none⟩ 1 1 [.int .i64 ((n : Int) + 1), .int .u32 root, .int .u64 ver] rfl (rowAdd hg2') (by intro u hu; simp at hu; rcases hu with rfl | rfl | rfl <;> rfl) (by unfold maxLen; omega) (by omega) (by omega)
  obtain ⟨a3, c3, rfl⟩ := own_shape h3o
  refine wp_app _ _ 40 rfl _ _ rfl rfl hrun ?_
  have hS23 : Sole RB Z2 Z3 := ⟨h3g.os, h3g.tape, h3g.output, h3g.size, fun k hk hn => h3g.block k hk (fun e => hn (by rw [HRB.out, Option.mem_toList]; rw [HN.out]; exact e.symm))⟩
  have hS13 : Sole RB w Z3 := hHeld2.trans hS23
  refine hK.out _ _ hS13 (fun hHeld4 => ?_)
  clear hK K
  try simp only [List.getElem_toArray, List.getElem_cons_zero, List.getElem_cons_succ, Act.put, List.setIfInBounds_toArray, List.set_cons_zero, List.set_cons_succ]
  refine wpAnyH_take (i := 22) (v := .pointer (some ⟨p, 0, none⟩)) rfl (by kernel_rfl) (by kernel_rfl) (by kernel_rfl) (fun _ _ _ h => h) (Or.inl ⟨by rfl, fun W hSw => by (try dsimp only at hSw); go_simp⟩) (by assumption) ?_
  simp only [List.getElem_toArray, List.getElem_cons_zero, List.getElem_cons_succ, Act.put, List.setIfInBounds_toArray, List.set_cons_zero, List.set_cons_succ]
  refine wpAnyH_take (i := 23) (v := .pointer (some ⟨p, 5, none⟩)) rfl (by kernel_rfl) (by kernel_rfl) (by kernel_rfl) (fun _ _ _ h => h) (Or.inl ⟨by rfl, fun W hSw => by (try dsimp only at hSw); go_simp⟩) (by assumption) ?_
  simp only [List.getElem_toArray, List.getElem_cons_zero, List.getElem_cons_succ, Act.put, List.setIfInBounds_toArray, List.set_cons_zero, List.set_cons_succ]
  have hG3 := HPK.out Z3 hS13
  have x35 := p5 Z3 hS13
  have f35 := frozen_of_row Z3 p 5 _ _ hG3
  have hG4 := heap_setCell_same Z3 p 5 _ _ (.slice a3 (n + 1) c3) hG3
  simp only [List.setIfInBounds_toArray, List.set_cons_zero, List.set_cons_succ] at hG4
  obtain ⟨Z4, hZ4⟩ : ∃ Z4, Z3.setCell ⟨p, 5, none⟩ (.slice a3 (n + 1) c3) = Z4 := ⟨_, rfl⟩
  have hS34 : Sole [p] Z3 Z4 := by rw [← hZ4]; exact Sole.setCell _ _ (by simp)
  rw [hZ4] at hG4
  have hn3 : ∀ k, (Value.slice a3 (n + 1) c3).ownBlock = some k → k ≠ p := fun k hk e => row_apart (by decide) hG3 h3o (by rw [hk, e])
  have hrow4 : Z4.heap[p]? = some (.cells (rfC vp (.slice a3 (n + 1) c3) ⟨root, ver, first, base, pl, l ++ [⟨n + 1, root, ver⟩]⟩) 42 (0, 0)) := by
    rw [hG4]; unfold rfC; dsimp only
  have hown4 : Z4.ownsRow B 66 3 (.slice a3 (n + 1) c3) (l ++ [⟨n + 1, root, ver⟩] : List Sf).length ((l ++ [⟨n + 1, root, ver⟩] : List Sf).flatMap sfC) := by
    rw [List.flatMap_append, List.length_append, HN.out]
    have := own_keep h3o hS34.size (fun k hk hl => hS34.block k hl (by have := hn3 k hk; simpa using this))
    simpa [sfC, h1i] using this
  have hS14 : Sole (rfB p vp (.slice a l.length c)) w Z4 := by
    refine (hS13.mono (fun k hk => ?_)).trans (hS34.mono (fun k hk => ?_))
    · rw [HRB.out] at hk; exact List.mem_cons_of_mem _ (List.mem_append_right _ hk)
    · simp only [List.mem_singleton] at hk; subst hk; exact List.mem_cons_self
  have hpl : Z4.ownsRow B 3 1 vp pl.length (pl.flatMap inC) := by
    refine own_keep H.out.op hS14.size (fun q hq hl => ?_)
    refine (hS34.block q (Nat.lt_of_lt_of_le hl hS13.size) (by have := (H.out.apartP q hq).1; simpa using this)).trans (hS13.block q hl (fun e => ?_))
    rw [HRB.out, Option.mem_toList] at e
    exact two_apart (by decide) H.out.op H.out.ol q hq e
  have HA : Hid (RfMoves B w Z4 p vp (.slice a l.length c) ⟨root, ver, first, base, pl, l ++ [⟨n + 1, root, ver⟩]⟩) := ⟨⟨vp, .slice a3 (n + 1) c3, ⟨hrow4, hpl, hown4⟩⟩, hS14⟩
  have x40 : Z4.cell? ⟨p, 0, none⟩ = some (.int .u32 root) := by rw [cell_of_row _ _ 0 _ _ (0, 0) hG4]; rfl
  have x41 : Z4.cell? ⟨p, 1, none⟩ = some (.int .u64 ver) := by rw [cell_of_row _ _ 1 _ _ (0, 0) hG4]; rfl
  have x45 : Z4.cell? ⟨p, 5, none⟩ = some (.slice a3 (n + 1) c3) := by rw [cell_of_row _ _ 5 _ _ (0, 0) hG4]; rfl
  clear hrow4 hown4 hG3 hG4 hrun h3o h3g h3a hO2 HO1 HPK p0 p1 p5 hg2' hn3 hb2 hS23 hS13 hS34 hS14 hpl
  refine wpAnyH_done (by kernel_rfl) ?_ _
  refine Behind.run (by rfl) ?_
  go_simp
  go_wp2
  refine NoPanic.normal ?_
  clear x35 f35
  go_wp2_with fail
  go_quiet (fail)
  go_wp2
  go_returns
  have hm := HA.out
  refine ⟨by simp, ?_⟩
  obtain ⟨⟨vp', vl', h1⟩, h3⟩ := hm
  rw [HN.out] at h3
  exact ⟨⟨vp', vl', h1.below (belowQ _ _ _)⟩, h3.trans (Sole.drewN _ _ _)⟩

end Go.Proofs.Ytakifnlfgaedjaa
