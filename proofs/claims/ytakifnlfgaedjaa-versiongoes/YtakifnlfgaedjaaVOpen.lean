/- The contract of version's Open. -/
import Derived.Test.YtakifnlfgaedjaaVSmall
import Derived.Deep.AppendSrc
import Derived.Great.BuildSlice
import Derived.Maps.AppendAt
import Derived.Handy
namespace Go.Proofs.Ytakifnlfgaedjaa
open Go.RowKit
set_option linter.unusedVariables false
set_option linter.unusedSimpArgs false
set_option maxRecDepth 4000

def openR (s : Rg) : Rg := ⟨s.t, s.base, s.last + 1, s.opn ++ [⟨s.last + 1, s.t⟩]⟩

theorem open_ok {s : Rg} (h : RgOk s) (hl : s.last < 1000) : RgOk (openR s) := by
  refine ⟨?_, fun x hx => ?_, by show s.last + 1 ≤ 1000; omega⟩
  · show (s.opn ++ [(⟨s.last + 1, s.t⟩ : Sn)]).Pairwise (fun a b => a.id < b.id)
    rw [List.pairwise_append]
    refine ⟨h.rise, List.pairwise_singleton _ _, fun a ha b hb => ?_⟩
    have := h.ids a ha
    simp only [List.mem_singleton] at hb
    subst hb
    show a.id < s.last + 1
    omega
  · have hx : x ∈ s.opn ++ [(⟨s.last + 1, s.t⟩ : Sn)] := hx
    show 1 ≤ x.id ∧ x.id ≤ s.last + 1
    rcases List.mem_append.1 hx with hx | hx
    · have := h.ids x hx; omega
    · simp only [List.mem_singleton] at hx
      subst hx
      show 1 ≤ s.last + 1 ∧ s.last + 1 ≤ s.last + 1
      omega

set_option maxHeartbeats 4000000 in
theorem open_any {B : Nat} {w : World} {p : Nat} {v : Value} {s : Rg} (h : RgAt B w p v s) (hB : B ≤ w.heap.size) (hk : RgOk s) : Calls Try.prog 10 #[ptrR p] w fun e w' => e = .returned (.tuple #[.int .i64 ((s.last + 1 : Nat) : Int), .int .u32 s.t.root, .int .u64 s.t.ver]) ∧ RgMoves B w w' p v (openR s) := by
  obtain ⟨iS, hiS, hy0, hy1, hy2⟩ := info_parts Try.infoSn
  obtain ⟨⟨root, ver, chg⟩, base, last, opn⟩ := s
  have hlen := hk.len
  have hm := hk.most
  obtain ⟨a, c, rfl⟩ := own_shape h.own
  unfold openR
  dsimp only at *
  have H : Hid (RgAt B w p (.slice a opn.length c) ⟨⟨root, ver, chg⟩, base, last, opn⟩) := h
  have hp := h.lt
  have hap := h.apart
  have hrow := h.row
  unfold rgC at hrow
  dsimp only at hrow
  have c4 : w.cell? ⟨p, 4, none⟩ = some (.int .i64 last) := h.cell 4 _ rfl
  have f4 := frozen_of_row w p 4 _ _ hrow
  obtain ⟨w1, hw1⟩ : ∃ w1, w.setCell ⟨p, 4, none⟩ (.int .i64 ((last : Int) + 1)) = w1 := ⟨_, rfl⟩
  have hS1 : Sole [p] w w1 := by rw [← hw1]; exact Sole.setCell _ _ (by simp)
  have g1 := heap_setCell_same w p 4 _ _ (.int .i64 ((last : Int) + 1)) hrow
  simp only [List.setIfInBounds_toArray, List.set_cons_zero, List.set_cons_succ] at g1
  rw [hw1] at g1
  have hO1 := own_keep h.own hS1.size (fun q hq hl => hS1.block q hl (by have := (hap q hq).1; simpa using this))
  dsimp only at hO1
  have hz1 : w1.heap.size = w.heap.size := by rw [← hw1]; simp [World.setCell]
  obtain ⟨RB, HRB⟩ : ∃ RB : List Nat, Hid (RB = (Value.slice a opn.length c).ownBlock.toList) := ⟨_, rfl⟩
  have hRB : ∀ k ∈ RB, k ≠ p ∧ k < w.heap.size := fun k hk => by rw [HRB.out, Option.mem_toList] at hk; exact ⟨(hap k hk).1, (hap k hk).2.2⟩
  have pk : ∀ W, Sole RB w1 W → W.heap[p]? = some (.cells #[.int .u32 root, .int .u64 ver, .int .i64 chg, .int .i64 base, .int .i64 ((last : Int) + 1), .slice a opn.length c] 62 (0, 0)) := fun W hW => (hW.block p (by omega) (fun e => (hRB p e).1 rfl)).trans g1
  have p0 : ∀ W, Sole RB w1 W → W.cell? ⟨p, 0, none⟩ = some (.int .u32 root) := fun W hW => by rw [cell_of_row _ _ 0 _ _ (0, 0) (pk W hW)]; rfl
  have p1 : ∀ W, Sole RB w1 W → W.cell? ⟨p, 1, none⟩ = some (.int .u64 ver) := fun W hW => by rw [cell_of_row _ _ 1 _ _ (0, 0) (pk W hW)]; rfl
  have p2 : ∀ W, Sole RB w1 W → W.cell? ⟨p, 2, none⟩ = some (.int .i64 chg) := fun W hW => by rw [cell_of_row _ _ 2 _ _ (0, 0) (pk W hW)]; rfl
  have p4 : ∀ W, Sole RB w1 W → W.cell? ⟨p, 4, none⟩ = some (.int .i64 ((last : Int) + 1)) := fun W hW => by rw [cell_of_row _ _ 4 _ _ (0, 0) (pk W hW)]; rfl
  have p5 : ∀ W, Sole RB w1 W → W.cell? ⟨p, 5, none⟩ = some (.slice a opn.length c) := fun W hW => by rw [cell_of_row _ _ 5 _ _ (0, 0) (pk W hW)]; rfl
  have HPK : Hid _ := pk
  have HO1 : Hid _ := hO1
  clear h hrow hk g1 hO1 pk
  have HZ : Hid (w1.heap.size = w.heap.size) := hz1
  clear hz1
  unfold ptrR
  go_enter Try.func10, Try.ntmps10
  go_wp2_with fail
  clear c4 f4
  refine wp_region_noPanic ?_
  refine wp_region_sink 18 (S := fun W => Sole RB w1 W) (by kernel_rfl) (by kernel_rfl) (Sole.drew _ _) (fun hHeld => ?_)
  refine wpAnyH_take (i := 0) (v := .pointer (some ⟨p, 0, none⟩)) rfl (by kernel_rfl) (by kernel_rfl) (by kernel_rfl) (fun _ _ _ h => h) (Or.inl ⟨by rfl, fun W hSw => by (try dsimp only at hSw); go_simp⟩) (by assumption) ?_
  simp only [List.getElem_toArray, List.getElem_cons_zero, List.getElem_cons_succ, Act.put, List.setIfInBounds_toArray, List.set_cons_zero, List.set_cons_succ]
  refine wpAnyH_take (i := 1) (v := .pointer (some ⟨p, 0, none⟩)) rfl (by kernel_rfl) (by kernel_rfl) (by kernel_rfl) (fun _ _ _ h => h) (Or.inl ⟨by rfl, fun W hSw => by (try dsimp only at hSw); go_simp⟩) (by assumption) ?_
  simp only [List.getElem_toArray, List.getElem_cons_zero, List.getElem_cons_succ, Act.put, List.setIfInBounds_toArray, List.set_cons_zero, List.set_cons_succ]
  refine wpAnyH_take (i := 2) (v := .pointer (some ⟨p, 0, none⟩)) rfl (by kernel_rfl) (by kernel_rfl) (by kernel_rfl) (fun _ _ _ h => h) (Or.inl ⟨by rfl, fun W hSw => by (try dsimp only at hSw); go_simp⟩) (by assumption) ?_
  simp only [List.getElem_toArray, List.getElem_cons_zero, List.getElem_cons_succ, Act.put, List.setIfInBounds_toArray, List.set_cons_zero, List.set_cons_succ]
  refine wpAnyH_take (i := 3) (v := .pointer (some ⟨p, 5, none⟩)) rfl (by kernel_rfl) (by kernel_rfl) (by kernel_rfl) (fun _ _ _ h => h) (Or.inl ⟨by rfl, fun W hSw => by (try dsimp only at hSw); go_simp⟩) (by assumption) ?_
  simp only [List.getElem_toArray, List.getElem_cons_zero, List.getElem_cons_succ, Act.put, List.setIfInBounds_toArray, List.set_cons_zero, List.set_cons_succ]
  refine wpAnyH_take (i := 4) (v := .slice a opn.length c) rfl (by kernel_rfl) (by kernel_rfl) (by kernel_rfl) (fun _ _ _ h => h) (Or.inl ⟨by rfl, fun W hSw => by (try dsimp only at hSw); go_simp⟩) (by assumption) ?_
  simp only [List.getElem_toArray, List.getElem_cons_zero, List.getElem_cons_succ, Act.put, List.setIfInBounds_toArray, List.set_cons_zero, List.set_cons_succ]
  refine wpAnyH_take (i := 5) (v := .pointer (some ⟨p, 0, none⟩)) rfl (by kernel_rfl) (by kernel_rfl) (by kernel_rfl) (fun _ _ _ h => h) (Or.inl ⟨by rfl, fun W hSw => by (try dsimp only at hSw); go_simp⟩) (by assumption) ?_
  simp only [List.getElem_toArray, List.getElem_cons_zero, List.getElem_cons_succ, Act.put, List.setIfInBounds_toArray, List.set_cons_zero, List.set_cons_succ]
  refine wpAnyH_take (i := 6) (v := .pointer (some ⟨p, 0, none⟩)) rfl (by kernel_rfl) (by kernel_rfl) (by kernel_rfl) (fun _ _ _ h => h) (Or.inl ⟨by rfl, fun W hSw => by (try dsimp only at hSw); go_simp⟩) (by assumption) ?_
  simp only [List.getElem_toArray, List.getElem_cons_zero, List.getElem_cons_succ, Act.put, List.setIfInBounds_toArray, List.set_cons_zero, List.set_cons_succ]
  refine wpAnyH_take (i := 7) (v := .pointer (some ⟨p, 4, none⟩)) rfl (by kernel_rfl) (by kernel_rfl) (by kernel_rfl) (fun _ _ _ h => h) (Or.inl ⟨by rfl, fun W hSw => by (try dsimp only at hSw); go_simp⟩) (by assumption) ?_
  simp only [List.getElem_toArray, List.getElem_cons_zero, List.getElem_cons_succ, Act.put, List.setIfInBounds_toArray, List.set_cons_zero, List.set_cons_succ]
  refine wpAnyH_take (i := 8) (v := .int .i64 ((last : Int) + 1)) rfl (by kernel_rfl) (by kernel_rfl) (by kernel_rfl) (fun _ _ _ h => h) (Or.inl ⟨by rfl, fun W hSw => by (try dsimp only at hSw); go_simp⟩) (by assumption) ?_
  simp only [List.getElem_toArray, List.getElem_cons_zero, List.getElem_cons_succ, Act.put, List.setIfInBounds_toArray, List.set_cons_zero, List.set_cons_succ]
  refine wpAnyH_take (i := 9) (v := .pointer (some ⟨p, 0, none⟩)) rfl (by kernel_rfl) (by kernel_rfl) (by kernel_rfl) (fun _ _ _ h => h) (Or.inl ⟨by rfl, fun W hSw => by (try dsimp only at hSw); go_simp⟩) (by assumption) ?_
  simp only [List.getElem_toArray, List.getElem_cons_zero, List.getElem_cons_succ, Act.put, List.setIfInBounds_toArray, List.set_cons_zero, List.set_cons_succ]
  refine wpAnyH_take (i := 10) (v := .pointer (some ⟨p, 0, none⟩)) rfl (by kernel_rfl) (by kernel_rfl) (by kernel_rfl) (fun _ _ _ h => h) (Or.inl ⟨by rfl, fun W hSw => by (try dsimp only at hSw); go_simp⟩) (by assumption) ?_
  simp only [List.getElem_toArray, List.getElem_cons_zero, List.getElem_cons_succ, Act.put, List.setIfInBounds_toArray, List.set_cons_zero, List.set_cons_succ]
  refine wpAnyH_take (i := 11) (v := .pointer (some ⟨p, 0, none⟩)) rfl (by kernel_rfl) (by kernel_rfl) (by kernel_rfl) (fun _ _ _ h => h) (Or.inl ⟨by rfl, fun W hSw => by (try dsimp only at hSw); go_simp⟩) (by assumption) ?_
  simp only [List.getElem_toArray, List.getElem_cons_zero, List.getElem_cons_succ, Act.put, List.setIfInBounds_toArray, List.set_cons_zero, List.set_cons_succ]
  refine wpAnyH_take (i := 12) (v := .agg #[.int .u32 root, .int .u64 ver, .int .i64 chg]) rfl (by kernel_rfl) (by kernel_rfl) (by kernel_rfl) (fun _ _ _ h => h) (Or.inl ⟨by rfl, fun W hSw => by (try dsimp only at hSw); go_simp⟩) (by assumption) ?_
  simp only [List.getElem_toArray, List.getElem_cons_zero, List.getElem_cons_succ, Act.put, List.setIfInBounds_toArray, List.set_cons_zero, List.set_cons_succ]
  refine wpAnyH_take (i := 13) (v := .agg #[.int .i64 ((last : Int) + 1), .int .u32 root, .int .u64 ver, .int .i64 chg]) rfl (by kernel_rfl) (by kernel_rfl) (by kernel_rfl) (fun _ _ _ h => h) (Or.inl ⟨by rfl, fun W hSw => by (try dsimp only at hSw); go_simp⟩) (by assumption) ?_
  simp only [List.getElem_toArray, List.getElem_cons_zero, List.getElem_cons_succ, Act.put, List.setIfInBounds_toArray, List.set_cons_zero, List.set_cons_succ]
  refine wpAnyH_ready (rs := [14]) (by kernel_rfl) (by simp) ?_
  refine AllReadyH.cons rfl (fun K hK => ?_) AllReadyH.nil
  go_simp
  go_wp2
  have hg2 := heap_alloc_new w1 (.cells #[.int .i64 ((last : Int) + 1), .int .u32 root, .int .u64 ver, .int .i64 chg] 64)
  have hb2 : Below w1.heap.size w1 ((w1.alloc (.cells #[.int .i64 ((last : Int) + 1), .int .u32 root, .int .u64 ver, .int .i64 chg] 64)).drew) := ((Below.refl _ w1).alloc (Nat.le_refl _) _).drew
  have hs2 : ((w1.alloc (.cells #[.int .i64 ((last : Int) + 1), .int .u32 root, .int .u64 ver, .int .i64 chg] 64)).drew).heap.size = w1.heap.size + 1 := by simp
  refine hK.out _ _ (Sole.of_below hb2 RB) (fun hHeld2 => ?_)
  clear hK K
  have hg2' : ((w1.alloc (.cells #[.int .i64 ((last : Int) + 1), .int .u32 root, .int .u64 ver, .int .i64 chg] 64)).drew).heap[w1.heap.size]? = some (.cells #[.int .i64 ((last : Int) + 1), .int .u32 root, .int .u64 ver, .int .i64 chg] 64 (0, 0)) := hg2
  clear hg2
  generalize (w1.alloc (.cells #[.int .i64 ((last : Int) + 1), .int .u32 root, .int .u64 ver, .int .i64 chg] 64)).drew = Z2 at *
  have hO2 := own_below HO1.out hb2
  refine wpAnyH_ready (rs := [15]) (by kernel_rfl) (by simp) ?_
  refine AllReadyH.cons rfl (fun K hK => ?_) AllReadyH.nil
  rw [if_pos (by rfl)]
  obtain ⟨v3, Z3, hrun, h3o, h3g, _, h3a⟩ := run_append_own_at (P := Try.prog) Z2 B 60 60 64 iS _ 4 32 Try.underlying60 hiS hy0 hy1 hy2 rfl (by decide) (.slice a opn.length c) opn.length (opn.flatMap snC) hO2 ⟨w1.heap.size, 0, none⟩ 1 1 [.int .i64 ((last : Int) + 1), .int .u32 root, .int .u64 ver, .int .i64 chg] rfl (rowAdd hg2') (by intro u hu; simp at hu; rcases hu with rfl | rfl | rfl | rfl <;> rfl) (by unfold maxLen; omega) (by omega) (by have := HZ.out; omega)
  obtain ⟨a3, c3, rfl⟩ := own_shape h3o
  refine wp_app _ _ 60 rfl _ _ rfl rfl hrun ?_
  have hS23 : Sole RB Z2 Z3 := ⟨h3g.os, h3g.tape, h3g.output, h3g.size, fun k hk hn => h3g.block k hk (fun e => hn (by rw [HRB.out, Option.mem_toList]; exact e.symm))⟩
  have hS13 : Sole RB w1 Z3 := hHeld2.trans hS23
  refine hK.out _ _ hS13 (fun hHeld4 => ?_)
  clear hK K
  simp only [List.getElem_toArray, List.getElem_cons_zero, List.getElem_cons_succ, Act.put, List.setIfInBounds_toArray, List.set_cons_zero, List.set_cons_succ]
  refine wpAnyH_take (i := 16) (v := .pointer (some ⟨p, 0, none⟩)) rfl (by kernel_rfl) (by kernel_rfl) (by kernel_rfl) (fun _ _ _ h => h) (Or.inl ⟨by rfl, fun W hSw => by (try dsimp only at hSw); go_simp⟩) (by assumption) ?_
  simp only [List.getElem_toArray, List.getElem_cons_zero, List.getElem_cons_succ, Act.put, List.setIfInBounds_toArray, List.set_cons_zero, List.set_cons_succ]
  refine wpAnyH_take (i := 17) (v := .pointer (some ⟨p, 5, none⟩)) rfl (by kernel_rfl) (by kernel_rfl) (by kernel_rfl) (fun _ _ _ h => h) (Or.inl ⟨by rfl, fun W hSw => by (try dsimp only at hSw); go_simp⟩) (by assumption) ?_
  simp only [List.getElem_toArray, List.getElem_cons_zero, List.getElem_cons_succ, Act.put, List.setIfInBounds_toArray, List.set_cons_zero, List.set_cons_succ]
  have hG3 := HPK.out Z3 hS13
  have x35 := p5 Z3 hS13
  have f35 := frozen_of_row Z3 p 5 _ _ hG3
  have hG4 := heap_setCell_same Z3 p 5 _ _ (.slice a3 (opn.length + 1) c3) hG3
  simp only [List.setIfInBounds_toArray, List.set_cons_zero, List.set_cons_succ] at hG4
  obtain ⟨Z4, hZ4⟩ : ∃ Z4, Z3.setCell ⟨p, 5, none⟩ (.slice a3 (opn.length + 1) c3) = Z4 := ⟨_, rfl⟩
  have hS34 : Sole [p] Z3 Z4 := by rw [← hZ4]; exact Sole.setCell _ _ (by simp)
  rw [hZ4] at hG4
  have hn3 : ∀ k, (Value.slice a3 (opn.length + 1) c3).ownBlock = some k → k ≠ p := fun k hk e => row_apart (by decide) hG3 h3o (by rw [hk, e])
  have hrow4 : Z4.heap[p]? = some (.cells (rgC (.slice a3 (opn.length + 1) c3) ⟨⟨root, ver, chg⟩, base, last + 1, opn ++ [⟨last + 1, ⟨root, ver, chg⟩⟩]⟩) 62 (0, 0)) := by
    rw [hG4]; unfold rgC; dsimp only; rw [show ((last + 1 : Nat) : Int) = (last : Int) + 1 from by omega]
  have hown4 : Z4.ownsRow B 64 4 (.slice a3 (opn.length + 1) c3) (opn ++ [⟨last + 1, ⟨root, ver, chg⟩⟩] : List Sn).length ((opn ++ [⟨last + 1, ⟨root, ver, chg⟩⟩] : List Sn).flatMap snC) := by
    rw [List.flatMap_append, List.length_append]
    exact own_keep h3o hS34.size (fun k hk hl => hS34.block k hl (by have := hn3 k hk; simpa using this))
  have HA : Hid (RgMoves B w Z4 p (.slice a opn.length c) ⟨⟨root, ver, chg⟩, base, last + 1, opn ++ [⟨last + 1, ⟨root, ver, chg⟩⟩]⟩) := by
    refine ⟨⟨.slice a3 (opn.length + 1) c3, ⟨hrow4, hown4⟩, fun k hk => ?_⟩, ?_⟩
    · rcases h3a with e | e
      · rw [hk] at e; exact .inl e.symm
      · rw [hk] at e; cases e; right; have := HZ.out; omega
    · refine ((hS1.mono (S' := p :: (Value.slice a opn.length c).ownBlock.toList) (by simp)).trans (hS13.mono (fun k hk => ?_))).trans (hS34.mono (by simp))
      rw [HRB.out] at hk
      exact List.mem_cons_of_mem _ hk
  have x40 : Z4.cell? ⟨p, 0, none⟩ = some (.int .u32 root) := by rw [cell_of_row _ _ 0 _ _ (0, 0) hG4]; rfl
  have x41 : Z4.cell? ⟨p, 1, none⟩ = some (.int .u64 ver) := by rw [cell_of_row _ _ 1 _ _ (0, 0) hG4]; rfl
  have x44 : Z4.cell? ⟨p, 4, none⟩ = some (.int .i64 ((last : Int) + 1)) := by rw [cell_of_row _ _ 4 _ _ (0, 0) hG4]; rfl
  clear hrow4 hown4 hG3 hG4 hrun h3o h3g h3a hO2 HO1 HPK p0 p1 p2 p4 p5 hg2' hn3 hb2 hS23 hS13 hS34
  refine wpAnyH_done (by kernel_rfl) ?_ _
  refine Behind.run (by rfl) ?_
  go_simp
  go_wp2
  refine NoPanic.normal ?_
  clear x35 f35
  go_wp2_with fail
  go_quiet (fail)
  go_wp2
  go_returns
  have hm := HA.out
  refine ⟨by simp, ?_⟩
  obtain ⟨⟨v', h1, h2⟩, h3⟩ := hm
  exact ⟨⟨v', h1.below (belowQ _ _ _), h2⟩, h3.trans (Sole.drewN _ _ _)⟩

end Go.Proofs.Ytakifnlfgaedjaa
