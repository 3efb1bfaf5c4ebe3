/- The contract of page.headBytes: its operations come in any order: from each stage on. -/
import Derived.Test.YtanbjdcffcnfgaaQConcat
import Derived.Test.YtanbjdcffcnfgaaQBytes
import Derived.Deep.RegionHeld3
namespace Go.Proofs.Ytanbjdcffcnfgaa
open Go.RowKit
set_option linter.unusedVariables false
set_option linter.unusedSimpArgs false
set_option maxRecDepth 4000

def hdV (h : Hd) : Value := .agg #[.int .u64 h.seq, .int .u64 h.version, .int .u64 h.log, .int .u32 h.root, .int .u32 h.next, .int .u32 h.items]

theorem keepA {w1 W : World} (h : Below w1.heap.size w1 W) (o : Obj) : Below w1.heap.size w1 (W.alloc o) := h.alloc h.size o

/-- A region's stage under a name. -/
theorem wpAnyH_named {P : Program} {md : Region.Mode} {ops : Array Oper} {Q : Exit → Act → World → Prop} {S : World → Prop} {fuel : Nat} {listed : Array Bool} {a : Act} {w : World}
    (h : ∀ G : Nat → Array Bool → Act → World → Prop, Hid (∀ f l a w, G f l a w ↔ wpAnyH P md ops Q S f l a w) → G fuel listed a w) : wpAnyH P md ops Q S fuel listed a w :=
  h _ (show Hid _ from fun _ _ _ _ => Iff.rfl)

/-- '[]byte("..")' of a constant: its row is marked. -/
theorem conv_const (W : World) (g n c : Nat) (cs : Array Value) (hg : W.heap[g]? = some (.cells cs 5 (0, 0))) :
    ∃ W', (convert 28 28 (.slice (some ⟨g, 0, none⟩) n c)).run Try.prog W = .ok (.slice (some ⟨g, 0, none⟩) n c) W' ∧ (∀ B, B ≤ g → Below B W W') ∧ (∀ p, W'.cell? p = W.cell? p) ∧ W'.heap.size = W.heap.size := by
  have hsh : W.shape? g = some (5, cs.size) := by unfold World.shape?; rw [hg]
  refine ⟨W.freeze ⟨g, cs.size, none⟩ 1, ?_, ?_, ?_, ?_⟩
  · simp [convert, run_underlying Try.underlying28, run_underlying Try.underlying5, markStringish, hsh]
  · intro B hB
    have hgr : W.grownBy (W.freeze ⟨g, cs.size, none⟩ 1) (some g) := by
      unfold World.freeze
      rw [if_neg (by decide)]
      refine ⟨rfl, rfl, rfl, by simp, fun k hk hne => ?_⟩
      have hne' : ¬ g = k := fun e => hne (by rw [e])
      show (W.heap.modify g _)[k]? = W.heap[k]?
      rw [Array.getElem?_modify, if_neg hne']
    exact (Below.refl B W).grown hgr (by have := (Array.getElem?_eq_some_iff.1 hg).1; omega) (fun k e => by cases e; exact hB)
  · intro p
    by_cases hp : g = p.block
    · have e1 : (W.freeze ⟨g, cs.size, none⟩ 1).heap[p.block]? = some (.cells cs 5 (cs.size, cs.size + 1)) := by
        unfold World.freeze
        rw [if_neg (by decide), ← hp]
        show (W.heap.modify g _)[g]? = _
        rw [Array.getElem?_modify, if_pos rfl, hg]
        rfl
      unfold World.cell?
      rw [e1, ← hp, hg]
    · refine World.cell?_of_block ?_
      unfold World.freeze
      rw [if_neg (by decide)]
      show (W.heap.modify g _)[p.block]? = W.heap[p.block]?
      rw [Array.getElem?_modify, if_neg hp]
  · unfold World.freeze
    rw [if_neg (by decide)]
    simp

theorem rd_cells {W W' : World} {v : Value} {xs : List Int} (h : Rd W v xs) (hc : ∀ p, W'.cell? p = W.cell? p) (hs : W'.heap.size = W.heap.size) : Rd W' v xs := by
  obtain ⟨a, cap, rfl, h1, h2, hnn, h3⟩ := h
  refine ⟨a, cap, rfl, h1, h2, hnn, fun hne => ?_⟩
  obtain ⟨b, off, rfl, hlt, hcs⟩ := h3 hne
  exact ⟨b, off, rfl, by omega, fun i hi => (hc _).trans (hcs i hi)⟩

theorem rd_magic {W : World} {g : Nat} (hg : W.heap[g]? = some (.cells #[.int .u8 97, .int .u8 114, .int .u8 109, .int .u8 111, .int .u8 105, .int .u8 114, .int .u8 101, .int .u8 49] 5 (0, 0))) : Rd W (.slice (some ⟨g, 0, none⟩) 8 8) magicL := by
  refine ⟨_, 8, rfl, by decide, by decide, (by intro e; cases e), fun _ => ⟨g, 0, rfl, (Array.getElem?_eq_some_iff.1 hg).1, fun i hi => ?_⟩⟩
  rw [Nat.zero_add, cell_of_row _ _ i _ _ _ hg]
  have hi8 : i < 8 := hi
  match i, hi8 with
  | 0, _ => rfl
  | 1, _ => rfl
  | 2, _ => rfl
  | 3, _ => rfl
  | 4, _ => rfl
  | 5, _ => rfl
  | 6, _ => rfl
  | 7, _ => rfl

set_option maxHeartbeats 8000000 in
theorem headBytes_any (w : World) (h : Hd) (hk : HdOk h) : Calls Try.prog 42 #[hdV h] w fun e w' => ∃ u, e = .returned u ∧ Own w' w.heap.size u (headRaw h) ∧ Below w.heap.size w w' := by
  obtain ⟨s, v, l, r, n, i⟩ := h
  obtain ⟨s0, s1, v0, v1, l0, l1, r0, r1, n0, n1, i0, i1⟩ := hk
  dsimp only at s0 s1 v0 v1 l0 l1 r0 r1 n0 n1 i0 i1
  unfold hdV
  dsimp only
  have hfl : [magicL, fixB s.toNat 8, fixB v.toNat 8, fixB l.toNat 8, fixB r.toNat 4, fixB n.toNat 4, fixB i.toNat 4].flatten = headRaw ⟨s, v, l, r, n, i⟩ := by simp [headRaw]
  obtain ⟨w1, hw1⟩ : ∃ w1, w.alloc (.cells #[.int .u64 s, .int .u64 v, .int .u64 l, .int .u32 r, .int .u32 n, .int .u32 i] 40) = w1 := ⟨_, rfl⟩
  have hB : Below w.heap.size w w1 := by rw [← hw1]; exact (Below.refl _ w).alloc (Nat.le_refl _) _
  have hg1 : w1.heap[w.heap.size]? = some (.cells #[.int .u64 s, .int .u64 v, .int .u64 l, .int .u32 r, .int .u32 n, .int .u32 i] 40 (0, 0)) := by rw [← hw1]; exact heap_alloc_new w _
  have hlt : w.heap.size < w1.heap.size := (Array.getElem?_eq_some_iff.1 hg1).1
  have hC : ∀ j u, #[Value.int .u64 s, .int .u64 v, .int .u64 l, .int .u32 r, .int .u32 n, .int .u32 i][j]? = some u → ∀ W, Below w1.heap.size w1 W → W.cell? ⟨w.heap.size, j, none⟩ = some u := fun j u hv W hW => by
    rw [cell_of_row W _ j _ _ (0, 0) ((hW.block _ hlt).trans hg1)]; exact hv
  have hC0 := hC 0 _ rfl
  have hC1 := hC 1 _ rfl
  have hC2 := hC 2 _ rfl
  have hC3 := hC 3 _ rfl
  have hC4 := hC 4 _ rfl
  have hC5 := hC 5 _ rfl
  have f0 : ∀ W, Calls Try.prog 47 #[.int .u64 s, .int .i64 8] W fun e w' => ∃ y, e = .returned y ∧ Own w' W.heap.size y (fixB s.toNat 8) ∧ Below W.heap.size W w' := fun W => fixed_ok W s 8 (by omega) (by decide) (by decide) (by omega)
  have f1 : ∀ W, Calls Try.prog 47 #[.int .u64 v, .int .i64 8] W fun e w' => ∃ y, e = .returned y ∧ Own w' W.heap.size y (fixB v.toNat 8) ∧ Below W.heap.size W w' := fun W => fixed_ok W v 8 (by omega) (by decide) (by decide) (by omega)
  have f2 : ∀ W, Calls Try.prog 47 #[.int .u64 l, .int .i64 8] W fun e w' => ∃ y, e = .returned y ∧ Own w' W.heap.size y (fixB l.toNat 8) ∧ Below W.heap.size W w' := fun W => fixed_ok W l 8 (by omega) (by decide) (by decide) (by omega)
  have f3 : ∀ W, Calls Try.prog 47 #[.int .u64 r, .int .i64 4] W fun e w' => ∃ y, e = .returned y ∧ Own w' W.heap.size y (fixB r.toNat 4) ∧ Below W.heap.size W w' := fun W => fixed_ok W r 4 (by omega) (by decide) (by decide) (by omega)
  have f4 : ∀ W, Calls Try.prog 47 #[.int .u64 n, .int .i64 4] W fun e w' => ∃ y, e = .returned y ∧ Own w' W.heap.size y (fixB n.toNat 4) ∧ Below W.heap.size W w' := fun W => fixed_ok W n 4 (by omega) (by decide) (by decide) (by omega)
  have f5 : ∀ W, Calls Try.prog 47 #[.int .u64 i, .int .i64 4] W fun e w' => ∃ y, e = .returned y ∧ Own w' W.heap.size y (fixB i.toNat 4) ∧ Below W.heap.size W w' := fun W => fixed_ok W i 4 (by omega) (by decide) (by decide) (by omega)
  clear hC hg1 hlt s0 s1 v0 v1 l0 l1
  generalize headRaw ⟨s, v, l, r, n, i⟩ = HR at *
  have z0 := fixB_length s.toNat 8
  generalize fixB s.toNat 8 = F0 at *
  have z1 := fixB_length v.toNat 8
  generalize fixB v.toNat 8 = F1 at *
  have z2 := fixB_length l.toNat 8
  generalize fixB l.toNat 8 = F2 at *
  have z3 := fixB_length r.toNat 4
  generalize fixB r.toNat 4 = F3 at *
  have z4 := fixB_length n.toNat 4
  generalize fixB n.toNat 4 = F4 at *
  have z5 := fixB_length i.toNat 4
  generalize fixB i.toNat 4 = F5 at *
  go_enter Try.func42, Try.ntmps42
  go_wp2_with fail
  refine wp_region_noPanic ?_
  refine wp_region_held_drew (S := fun W => Below w1.heap.size w1 W) (by kernel_rfl) (Below.refl _ _).drew (fun hHeld => ?_)
  refine wpAnyH_take (i := 2) (v := .pointer (some ⟨w.heap.size, 0, none⟩)) rfl (by kernel_rfl) (by kernel_rfl) (by kernel_rfl) (fun _ _ _ h => h) (Or.inl ⟨by rfl, fun W hSw => by (try dsimp only at hSw); go_simp⟩) (by assumption) ?_
  simp only [List.getElem_toArray, List.getElem_cons_zero, List.getElem_cons_succ, Act.put, List.setIfInBounds_toArray, List.set_cons_zero, List.set_cons_succ]
  refine wpAnyH_take (i := 3) (v := .int .u64 s) rfl (by kernel_rfl) (by kernel_rfl) (by kernel_rfl) (fun _ _ _ h => h) (Or.inl ⟨by rfl, fun W hSw => by (try dsimp only at hSw); go_simp⟩) (by assumption) ?_
  simp only [List.getElem_toArray, List.getElem_cons_zero, List.getElem_cons_succ, Act.put, List.setIfInBounds_toArray, List.set_cons_zero, List.set_cons_succ]
  refine wpAnyH_take (i := 5) (v := .pointer (some ⟨w.heap.size, 1, none⟩)) rfl (by kernel_rfl) (by kernel_rfl) (by kernel_rfl) (fun _ _ _ h => h) (Or.inl ⟨by rfl, fun W hSw => by (try dsimp only at hSw); go_simp⟩) (by assumption) ?_
  simp only [List.getElem_toArray, List.getElem_cons_zero, List.getElem_cons_succ, Act.put, List.setIfInBounds_toArray, List.set_cons_zero, List.set_cons_succ]
  refine wpAnyH_take (i := 6) (v := .int .u64 v) rfl (by kernel_rfl) (by kernel_rfl) (by kernel_rfl) (fun _ _ _ h => h) (Or.inl ⟨by rfl, fun W hSw => by (try dsimp only at hSw); go_simp⟩) (by assumption) ?_
  simp only [List.getElem_toArray, List.getElem_cons_zero, List.getElem_cons_succ, Act.put, List.setIfInBounds_toArray, List.set_cons_zero, List.set_cons_succ]
  refine wpAnyH_take (i := 8) (v := .pointer (some ⟨w.heap.size, 2, none⟩)) rfl (by kernel_rfl) (by kernel_rfl) (by kernel_rfl) (fun _ _ _ h => h) (Or.inl ⟨by rfl, fun W hSw => by (try dsimp only at hSw); go_simp⟩) (by assumption) ?_
  simp only [List.getElem_toArray, List.getElem_cons_zero, List.getElem_cons_succ, Act.put, List.setIfInBounds_toArray, List.set_cons_zero, List.set_cons_succ]
  refine wpAnyH_take (i := 9) (v := .int .u64 l) rfl (by kernel_rfl) (by kernel_rfl) (by kernel_rfl) (fun _ _ _ h => h) (Or.inl ⟨by rfl, fun W hSw => by (try dsimp only at hSw); go_simp⟩) (by assumption) ?_
  simp only [List.getElem_toArray, List.getElem_cons_zero, List.getElem_cons_succ, Act.put, List.setIfInBounds_toArray, List.set_cons_zero, List.set_cons_succ]
  refine wpAnyH_take (i := 11) (v := .pointer (some ⟨w.heap.size, 3, none⟩)) rfl (by kernel_rfl) (by kernel_rfl) (by kernel_rfl) (fun _ _ _ h => h) (Or.inl ⟨by rfl, fun W hSw => by (try dsimp only at hSw); go_simp⟩) (by assumption) ?_
  simp only [List.getElem_toArray, List.getElem_cons_zero, List.getElem_cons_succ, Act.put, List.setIfInBounds_toArray, List.set_cons_zero, List.set_cons_succ]
  refine wpAnyH_take (i := 12) (v := .int .u32 r) rfl (by kernel_rfl) (by kernel_rfl) (by kernel_rfl) (fun _ _ _ h => h) (Or.inl ⟨by rfl, fun W hSw => by (try dsimp only at hSw); go_simp⟩) (by assumption) ?_
  simp only [List.getElem_toArray, List.getElem_cons_zero, List.getElem_cons_succ, Act.put, List.setIfInBounds_toArray, List.set_cons_zero, List.set_cons_succ]
  refine wpAnyH_take (i := 13) (v := .int .u64 r) rfl (by kernel_rfl) (by kernel_rfl) (by kernel_rfl) (fun _ _ _ h => h) (Or.inl ⟨by rfl, fun W hSw => by (try dsimp only at hSw); (go_simp; rw [IntKind.wrap_u64]; omega)⟩) (by assumption) ?_
  simp only [List.getElem_toArray, List.getElem_cons_zero, List.getElem_cons_succ, Act.put, List.setIfInBounds_toArray, List.set_cons_zero, List.set_cons_succ]
  refine wpAnyH_take (i := 15) (v := .pointer (some ⟨w.heap.size, 4, none⟩)) rfl (by kernel_rfl) (by kernel_rfl) (by kernel_rfl) (fun _ _ _ h => h) (Or.inl ⟨by rfl, fun W hSw => by (try dsimp only at hSw); go_simp⟩) (by assumption) ?_
  simp only [List.getElem_toArray, List.getElem_cons_zero, List.getElem_cons_succ, Act.put, List.setIfInBounds_toArray, List.set_cons_zero, List.set_cons_succ]
  refine wpAnyH_take (i := 16) (v := .int .u32 n) rfl (by kernel_rfl) (by kernel_rfl) (by kernel_rfl) (fun _ _ _ h => h) (Or.inl ⟨by rfl, fun W hSw => by (try dsimp only at hSw); go_simp⟩) (by assumption) ?_
  simp only [List.getElem_toArray, List.getElem_cons_zero, List.getElem_cons_succ, Act.put, List.setIfInBounds_toArray, List.set_cons_zero, List.set_cons_succ]
  refine wpAnyH_take (i := 17) (v := .int .u64 n) rfl (by kernel_rfl) (by kernel_rfl) (by kernel_rfl) (fun _ _ _ h => h) (Or.inl ⟨by rfl, fun W hSw => by (try dsimp only at hSw); (go_simp; rw [IntKind.wrap_u64]; omega)⟩) (by assumption) ?_
  simp only [List.getElem_toArray, List.getElem_cons_zero, List.getElem_cons_succ, Act.put, List.setIfInBounds_toArray, List.set_cons_zero, List.set_cons_succ]
  refine wpAnyH_take (i := 19) (v := .pointer (some ⟨w.heap.size, 5, none⟩)) rfl (by kernel_rfl) (by kernel_rfl) (by kernel_rfl) (fun _ _ _ h => h) (Or.inl ⟨by rfl, fun W hSw => by (try dsimp only at hSw); go_simp⟩) (by assumption) ?_
  simp only [List.getElem_toArray, List.getElem_cons_zero, List.getElem_cons_succ, Act.put, List.setIfInBounds_toArray, List.set_cons_zero, List.set_cons_succ]
  refine wpAnyH_take (i := 20) (v := .int .u32 i) rfl (by kernel_rfl) (by kernel_rfl) (by kernel_rfl) (fun _ _ _ h => h) (Or.inl ⟨by rfl, fun W hSw => by (try dsimp only at hSw); go_simp⟩) (by assumption) ?_
  simp only [List.getElem_toArray, List.getElem_cons_zero, List.getElem_cons_succ, Act.put, List.setIfInBounds_toArray, List.set_cons_zero, List.set_cons_succ]
  refine wpAnyH_take (i := 21) (v := .int .u64 i) rfl (by kernel_rfl) (by kernel_rfl) (by kernel_rfl) (fun _ _ _ h => h) (Or.inl ⟨by rfl, fun W hSw => by (try dsimp only at hSw); (go_simp; rw [IntKind.wrap_u64]; omega)⟩) (by assumption) ?_
  simp only [List.getElem_toArray, List.getElem_cons_zero, List.getElem_cons_succ, Act.put, List.setIfInBounds_toArray, List.set_cons_zero, List.set_cons_succ]
  clear hC0 hC1 hC2 hC3 hC4 hC5 r0 r1 n0 n1 i0 i1 hw1
  refine wpAnyH_named (fun G hG => ?_)
  have H62 : ∀ (W : World) (g : Nat) (a0 : Option Addr) (c0 : Nat) (a1 : Option Addr) (c1 : Nat) (a2 : Option Addr) (c2 : Nat) (a3 : Option Addr) (c3 : Nat) (a4 : Option Addr) (c4 : Nat) (a5 : Option Addr) (c5 : Nat), Below w1.heap.size w1 W → Rd W (.slice (some ⟨g, 0, none⟩) 8 8) magicL → Rd W (.slice a0 8 c0) F0 → Rd W (.slice a1 8 c1) F1 → Rd W (.slice a2 8 c2) F2 → Rd W (.slice a3 4 c3) F3 → Rd W (.slice a4 4 c4) F4 → Rd W (.slice a5 4 c5) F5 → G 3 #[true, true, true, true, true, true, true, true, true, true, true, true, true, true, true, true, true, true, true, true, true, true, true, false, false, false] { tmps := #[.agg #[.int .u64 s, .int .u64 v, .int .u64 l, .int .u32 r, .int .u32 n, .int .u32 i], .pointer (some ⟨w.heap.size, 0, none⟩), .slice none 0 0, .slice (some ⟨g, 0, none⟩) 8 8, .slice (some ⟨g, 0, none⟩) 8 8, .pointer (some ⟨w.heap.size, 0, none⟩), .int .u64 s, .slice a0 8 c0, .pointer (some ⟨w.heap.size, 1, none⟩), .int .u64 v, .slice a1 8 c1, .pointer (some ⟨w.heap.size, 2, none⟩), .int .u64 l, .slice a2 8 c2, .pointer (some ⟨w.heap.size, 3, none⟩), .int .u32 r, .int .u64 r, .slice a3 4 c3, .pointer (some ⟨w.heap.size, 4, none⟩), .int .u32 n, .int .u64 n, .slice a4 4 c4, .pointer (some ⟨w.heap.size, 5, none⟩), .int .u32 i, .int .u64 i, .slice a5 4 c5, undef, undef], defers := [] } W := by
    intro W g a0 c0 a1 c1 a2 c2 a3 c3 a4 c4 a5 c5 hS hm h0 h1 h2 h3 h4 h5
    refine (hG.out _ _ _ _).2 ?_
    have hHeld := hS
    refine wpAnyH_ready (rs := [23]) (by kernel_rfl) (by simp) ?_
    refine AllReadyH.cons rfl (fun K hK => ?_) AllReadyH.nil
    go_simp
    go_wp2
    refine hK.out _ _ (keepA (by assumption) _) (fun hHeld2 => ?_)
    clear hK K
    have hcon : Calls Try.prog 46 #[.slice (some ⟨W.heap.size, 0, none⟩) 7 7] (W.alloc (.cells #[.slice (some ⟨g, 0, none⟩) 8 8, .slice a0 8 c0, .slice a1 8 c1, .slice a2 8 c2, .slice a3 4 c3, .slice a4 4 c4, .slice a5 4 c5] 28)) fun e w' => ∃ y, e = .returned y ∧ Own w' W.heap.size y [magicL, F0, F1, F2, F3, F4, F5].flatten ∧ Below W.heap.size W w' :=
      concat_lit W [.slice (some ⟨g, 0, none⟩) 8 8, .slice a0 8 c0, .slice a1 8 c1, .slice a2 8 c2, .slice a3 4 c3, .slice a4 4 c4, .slice a5 4 c5] [magicL, F0, F1, F2, F3, F4, F5] rfl (by simp) (fun q hq => by
        match q, hq with
        | 0, _ => exact hm
        | 1, _ => exact h0
        | 2, _ => exact h1
        | 3, _ => exact h2
        | 4, _ => exact h3
        | 5, _ => exact h4
        | 6, _ => exact h5
        ) (by simp only [List.flatten_cons, List.flatten_nil, List.length_append, List.length_nil]; unfold magicL; simp; omega)
    rw [hfl] at hcon
    refine wpAnyH_ready (rs := [24]) (by kernel_rfl) (by simp) ?_
    refine AllReadyH.cons rfl (fun K hK => ?_) AllReadyH.nil
    go_simp
    go_wp2_with (go_at_call 46; refine hcon.mono ?_; rintro e wa ⟨va, rfl, hoa, hba⟩)
    refine hK.out _ _ (hS.trans (hba.mono hS.size)) (fun hHeld2 => ?_)
    clear hK K
    refine wpAnyH_take (i := 25) (v := va) rfl (by kernel_rfl) (by kernel_rfl) (by kernel_rfl) (fun _ _ _ h => h) (Or.inl ⟨by rfl, fun W hSw => by (try dsimp only at hSw); go_simp⟩) (by assumption) ?_
    simp only [List.getElem_toArray, List.getElem_cons_zero, List.getElem_cons_succ, Act.put, List.setIfInBounds_toArray, List.set_cons_zero, List.set_cons_succ]
    refine wpAnyH_done (by kernel_rfl) ?_ _
    refine NoPanic.normal ?_
    go_wp2
    go_ret
    exact ⟨_, rfl, hoa.mono (Nat.le_trans hB.size hS.size), hB.trans (hHeld2.mono hB.size)⟩
  have H52 : ∀ (W : World) (g : Nat) (a0 : Option Addr) (c0 : Nat) (a1 : Option Addr) (c1 : Nat) (a2 : Option Addr) (c2 : Nat) (a3 : Option Addr) (c3 : Nat) (a4 : Option Addr) (c4 : Nat), Below w1.heap.size w1 W → Rd W (.slice (some ⟨g, 0, none⟩) 8 8) magicL → Rd W (.slice a0 8 c0) F0 → Rd W (.slice a1 8 c1) F1 → Rd W (.slice a2 8 c2) F2 → Rd W (.slice a3 4 c3) F3 → Rd W (.slice a4 4 c4) F4 → G 4 #[true, true, true, true, true, true, true, true, true, true, true, true, true, true, true, true, true, true, true, true, true, true, false, false, false, false] { tmps := #[.agg #[.int .u64 s, .int .u64 v, .int .u64 l, .int .u32 r, .int .u32 n, .int .u32 i], .pointer (some ⟨w.heap.size, 0, none⟩), .slice none 0 0, .slice (some ⟨g, 0, none⟩) 8 8, .slice (some ⟨g, 0, none⟩) 8 8, .pointer (some ⟨w.heap.size, 0, none⟩), .int .u64 s, .slice a0 8 c0, .pointer (some ⟨w.heap.size, 1, none⟩), .int .u64 v, .slice a1 8 c1, .pointer (some ⟨w.heap.size, 2, none⟩), .int .u64 l, .slice a2 8 c2, .pointer (some ⟨w.heap.size, 3, none⟩), .int .u32 r, .int .u64 r, .slice a3 4 c3, .pointer (some ⟨w.heap.size, 4, none⟩), .int .u32 n, .int .u64 n, .slice a4 4 c4, .pointer (some ⟨w.heap.size, 5, none⟩), .int .u32 i, .int .u64 i, undef, undef, undef], defers := [] } W := by
    intro W g a0 c0 a1 c1 a2 c2 a3 c3 a4 c4 hS hm h0 h1 h2 h3 h4
    refine (hG.out _ _ _ _).2 ?_
    refine wpAnyH_ready (rs := [22]) (by kernel_rfl) (by simp) ?_
    refine AllReadyH.cons rfl (fun K hK => ?_) AllReadyH.nil
    · go_simp
      go_wp2_with (go_at_call 47; refine (f5 _).mono ?_; rintro e xq ⟨uq, rfl, hoq, hbq⟩; obtain ⟨aq, cq, rfl, -⟩ := id hoq.rd; rw [z5] at hoq ⊢)
      refine hK.out _ _ (keep2 hbq hS) (fun hHeld2 => ?_)
      exact (hG.out _ _ _ _).1 (H62 _ g a0 c0 a1 c1 a2 c2 a3 c3 a4 c4 _ _ hHeld2 (hm.below hbq) (h0.below hbq) (h1.below hbq) (h2.below hbq) (h3.below hbq) (h4.below hbq) hoq.rd)
  have H42 : ∀ (W : World) (g : Nat) (a0 : Option Addr) (c0 : Nat) (a1 : Option Addr) (c1 : Nat) (a2 : Option Addr) (c2 : Nat) (a3 : Option Addr) (c3 : Nat), Below w1.heap.size w1 W → Rd W (.slice (some ⟨g, 0, none⟩) 8 8) magicL → Rd W (.slice a0 8 c0) F0 → Rd W (.slice a1 8 c1) F1 → Rd W (.slice a2 8 c2) F2 → Rd W (.slice a3 4 c3) F3 → G 5 #[true, true, true, true, true, true, true, true, true, true, true, true, true, true, true, true, true, true, false, true, true, true, false, false, false, false] { tmps := #[.agg #[.int .u64 s, .int .u64 v, .int .u64 l, .int .u32 r, .int .u32 n, .int .u32 i], .pointer (some ⟨w.heap.size, 0, none⟩), .slice none 0 0, .slice (some ⟨g, 0, none⟩) 8 8, .slice (some ⟨g, 0, none⟩) 8 8, .pointer (some ⟨w.heap.size, 0, none⟩), .int .u64 s, .slice a0 8 c0, .pointer (some ⟨w.heap.size, 1, none⟩), .int .u64 v, .slice a1 8 c1, .pointer (some ⟨w.heap.size, 2, none⟩), .int .u64 l, .slice a2 8 c2, .pointer (some ⟨w.heap.size, 3, none⟩), .int .u32 r, .int .u64 r, .slice a3 4 c3, .pointer (some ⟨w.heap.size, 4, none⟩), .int .u32 n, .int .u64 n, undef, .pointer (some ⟨w.heap.size, 5, none⟩), .int .u32 i, .int .u64 i, undef, undef, undef], defers := [] } W := by
    intro W g a0 c0 a1 c1 a2 c2 a3 c3 hS hm h0 h1 h2 h3
    refine (hG.out _ _ _ _).2 ?_
    refine wpAnyH_ready (rs := [18]) (by kernel_rfl) (by simp) ?_
    refine AllReadyH.cons rfl (fun K hK => ?_) AllReadyH.nil
    · go_simp
      go_wp2_with (go_at_call 47; refine (f4 _).mono ?_; rintro e xq ⟨uq, rfl, hoq, hbq⟩; obtain ⟨aq, cq, rfl, -⟩ := id hoq.rd; rw [z4] at hoq ⊢)
      refine hK.out _ _ (keep2 hbq hS) (fun hHeld2 => ?_)
      exact (hG.out _ _ _ _).1 (H52 _ g a0 c0 a1 c1 a2 c2 a3 c3 _ _ hHeld2 (hm.below hbq) (h0.below hbq) (h1.below hbq) (h2.below hbq) (h3.below hbq) hoq.rd)
  have H32 : ∀ (W : World) (g : Nat) (a0 : Option Addr) (c0 : Nat) (a1 : Option Addr) (c1 : Nat) (a2 : Option Addr) (c2 : Nat), Below w1.heap.size w1 W → Rd W (.slice (some ⟨g, 0, none⟩) 8 8) magicL → Rd W (.slice a0 8 c0) F0 → Rd W (.slice a1 8 c1) F1 → Rd W (.slice a2 8 c2) F2 → G 6 #[true, true, true, true, true, true, true, true, true, true, true, true, true, true, false, true, true, true, false, true, true, true, false, false, false, false] { tmps := #[.agg #[.int .u64 s, .int .u64 v, .int .u64 l, .int .u32 r, .int .u32 n, .int .u32 i], .pointer (some ⟨w.heap.size, 0, none⟩), .slice none 0 0, .slice (some ⟨g, 0, none⟩) 8 8, .slice (some ⟨g, 0, none⟩) 8 8, .pointer (some ⟨w.heap.size, 0, none⟩), .int .u64 s, .slice a0 8 c0, .pointer (some ⟨w.heap.size, 1, none⟩), .int .u64 v, .slice a1 8 c1, .pointer (some ⟨w.heap.size, 2, none⟩), .int .u64 l, .slice a2 8 c2, .pointer (some ⟨w.heap.size, 3, none⟩), .int .u32 r, .int .u64 r, undef, .pointer (some ⟨w.heap.size, 4, none⟩), .int .u32 n, .int .u64 n, undef, .pointer (some ⟨w.heap.size, 5, none⟩), .int .u32 i, .int .u64 i, undef, undef, undef], defers := [] } W := by
    intro W g a0 c0 a1 c1 a2 c2 hS hm h0 h1 h2
    refine (hG.out _ _ _ _).2 ?_
    refine wpAnyH_ready (rs := [14]) (by kernel_rfl) (by simp) ?_
    refine AllReadyH.cons rfl (fun K hK => ?_) AllReadyH.nil
    · go_simp
      go_wp2_with (go_at_call 47; refine (f3 _).mono ?_; rintro e xq ⟨uq, rfl, hoq, hbq⟩; obtain ⟨aq, cq, rfl, -⟩ := id hoq.rd; rw [z3] at hoq ⊢)
      refine hK.out _ _ (keep2 hbq hS) (fun hHeld2 => ?_)
      exact (hG.out _ _ _ _).1 (H42 _ g a0 c0 a1 c1 a2 c2 _ _ hHeld2 (hm.below hbq) (h0.below hbq) (h1.below hbq) (h2.below hbq) hoq.rd)
  have H22 : ∀ (W : World) (g : Nat) (a0 : Option Addr) (c0 : Nat) (a1 : Option Addr) (c1 : Nat), Below w1.heap.size w1 W → Rd W (.slice (some ⟨g, 0, none⟩) 8 8) magicL → Rd W (.slice a0 8 c0) F0 → Rd W (.slice a1 8 c1) F1 → G 7 #[true, true, true, true, true, true, true, true, true, true, false, true, true, true, false, true, true, true, false, true, true, true, false, false, false, false] { tmps := #[.agg #[.int .u64 s, .int .u64 v, .int .u64 l, .int .u32 r, .int .u32 n, .int .u32 i], .pointer (some ⟨w.heap.size, 0, none⟩), .slice none 0 0, .slice (some ⟨g, 0, none⟩) 8 8, .slice (some ⟨g, 0, none⟩) 8 8, .pointer (some ⟨w.heap.size, 0, none⟩), .int .u64 s, .slice a0 8 c0, .pointer (some ⟨w.heap.size, 1, none⟩), .int .u64 v, .slice a1 8 c1, .pointer (some ⟨w.heap.size, 2, none⟩), .int .u64 l, undef, .pointer (some ⟨w.heap.size, 3, none⟩), .int .u32 r, .int .u64 r, undef, .pointer (some ⟨w.heap.size, 4, none⟩), .int .u32 n, .int .u64 n, undef, .pointer (some ⟨w.heap.size, 5, none⟩), .int .u32 i, .int .u64 i, undef, undef, undef], defers := [] } W := by
    intro W g a0 c0 a1 c1 hS hm h0 h1
    refine (hG.out _ _ _ _).2 ?_
    refine wpAnyH_ready (rs := [10]) (by kernel_rfl) (by simp) ?_
    refine AllReadyH.cons rfl (fun K hK => ?_) AllReadyH.nil
    · go_simp
      go_wp2_with (go_at_call 47; refine (f2 _).mono ?_; rintro e xq ⟨uq, rfl, hoq, hbq⟩; obtain ⟨aq, cq, rfl, -⟩ := id hoq.rd; rw [z2] at hoq ⊢)
      refine hK.out _ _ (keep2 hbq hS) (fun hHeld2 => ?_)
      exact (hG.out _ _ _ _).1 (H32 _ g a0 c0 a1 c1 _ _ hHeld2 (hm.below hbq) (h0.below hbq) (h1.below hbq) hoq.rd)
  have H12 : ∀ (W : World) (g : Nat) (a0 : Option Addr) (c0 : Nat), Below w1.heap.size w1 W → Rd W (.slice (some ⟨g, 0, none⟩) 8 8) magicL → Rd W (.slice a0 8 c0) F0 → G 8 #[true, true, true, true, true, true, true, false, true, true, false, true, true, true, false, true, true, true, false, true, true, true, false, false, false, false] { tmps := #[.agg #[.int .u64 s, .int .u64 v, .int .u64 l, .int .u32 r, .int .u32 n, .int .u32 i], .pointer (some ⟨w.heap.size, 0, none⟩), .slice none 0 0, .slice (some ⟨g, 0, none⟩) 8 8, .slice (some ⟨g, 0, none⟩) 8 8, .pointer (some ⟨w.heap.size, 0, none⟩), .int .u64 s, .slice a0 8 c0, .pointer (some ⟨w.heap.size, 1, none⟩), .int .u64 v, undef, .pointer (some ⟨w.heap.size, 2, none⟩), .int .u64 l, undef, .pointer (some ⟨w.heap.size, 3, none⟩), .int .u32 r, .int .u64 r, undef, .pointer (some ⟨w.heap.size, 4, none⟩), .int .u32 n, .int .u64 n, undef, .pointer (some ⟨w.heap.size, 5, none⟩), .int .u32 i, .int .u64 i, undef, undef, undef], defers := [] } W := by
    intro W g a0 c0 hS hm h0
    refine (hG.out _ _ _ _).2 ?_
    refine wpAnyH_ready (rs := [7]) (by kernel_rfl) (by simp) ?_
    refine AllReadyH.cons rfl (fun K hK => ?_) AllReadyH.nil
    · go_simp
      go_wp2_with (go_at_call 47; refine (f1 _).mono ?_; rintro e xq ⟨uq, rfl, hoq, hbq⟩; obtain ⟨aq, cq, rfl, -⟩ := id hoq.rd; rw [z1] at hoq ⊢)
      refine hK.out _ _ (keep2 hbq hS) (fun hHeld2 => ?_)
      exact (hG.out _ _ _ _).1 (H22 _ g a0 c0 _ _ hHeld2 (hm.below hbq) (h0.below hbq) hoq.rd)
  have H02 : ∀ (W : World) (g : Nat), Below w1.heap.size w1 W → Rd W (.slice (some ⟨g, 0, none⟩) 8 8) magicL → G 9 #[true, true, true, true, false, true, true, false, true, true, false, true, true, true, false, true, true, true, false, true, true, true, false, false, false, false] { tmps := #[.agg #[.int .u64 s, .int .u64 v, .int .u64 l, .int .u32 r, .int .u32 n, .int .u32 i], .pointer (some ⟨w.heap.size, 0, none⟩), .slice none 0 0, .slice (some ⟨g, 0, none⟩) 8 8, .slice (some ⟨g, 0, none⟩) 8 8, .pointer (some ⟨w.heap.size, 0, none⟩), .int .u64 s, undef, .pointer (some ⟨w.heap.size, 1, none⟩), .int .u64 v, undef, .pointer (some ⟨w.heap.size, 2, none⟩), .int .u64 l, undef, .pointer (some ⟨w.heap.size, 3, none⟩), .int .u32 r, .int .u64 r, undef, .pointer (some ⟨w.heap.size, 4, none⟩), .int .u32 n, .int .u64 n, undef, .pointer (some ⟨w.heap.size, 5, none⟩), .int .u32 i, .int .u64 i, undef, undef, undef], defers := [] } W := by
    intro W g hS hm
    refine (hG.out _ _ _ _).2 ?_
    refine wpAnyH_ready (rs := [4]) (by kernel_rfl) (by simp) ?_
    refine AllReadyH.cons rfl (fun K hK => ?_) AllReadyH.nil
    · go_simp
      go_wp2_with (go_at_call 47; refine (f0 _).mono ?_; rintro e xq ⟨uq, rfl, hoq, hbq⟩; obtain ⟨aq, cq, rfl, -⟩ := id hoq.rd; rw [z0] at hoq ⊢)
      refine hK.out _ _ (keep2 hbq hS) (fun hHeld2 => ?_)
      exact (hG.out _ _ _ _).1 (H12 _ g _ _ hHeld2 (hm.below hbq) hoq.rd)
  have H61 : ∀ (W : World) (g : Nat) (a0 : Option Addr) (c0 : Nat) (a1 : Option Addr) (c1 : Nat) (a2 : Option Addr) (c2 : Nat) (a3 : Option Addr) (c3 : Nat) (a4 : Option Addr) (c4 : Nat) (a5 : Option Addr) (c5 : Nat), Below w1.heap.size w1 W → W.heap[g]? = some (.cells #[.int .u8 97, .int .u8 114, .int .u8 109, .int .u8 111, .int .u8 105, .int .u8 114, .int .u8 101, .int .u8 49] 5 (0, 0)) → w1.heap.size ≤ g → Rd W (.slice a0 8 c0) F0 → Rd W (.slice a1 8 c1) F1 → Rd W (.slice a2 8 c2) F2 → Rd W (.slice a3 4 c3) F3 → Rd W (.slice a4 4 c4) F4 → Rd W (.slice a5 4 c5) F5 → G 4 #[true, false, true, true, true, true, true, true, true, true, true, true, true, true, true, true, true, true, true, true, true, true, true, false, false, false] { tmps := #[.agg #[.int .u64 s, .int .u64 v, .int .u64 l, .int .u32 r, .int .u32 n, .int .u32 i], .pointer (some ⟨w.heap.size, 0, none⟩), .slice none 0 0, .slice (some ⟨g, 0, none⟩) 8 8, undef, .pointer (some ⟨w.heap.size, 0, none⟩), .int .u64 s, .slice a0 8 c0, .pointer (some ⟨w.heap.size, 1, none⟩), .int .u64 v, .slice a1 8 c1, .pointer (some ⟨w.heap.size, 2, none⟩), .int .u64 l, .slice a2 8 c2, .pointer (some ⟨w.heap.size, 3, none⟩), .int .u32 r, .int .u64 r, .slice a3 4 c3, .pointer (some ⟨w.heap.size, 4, none⟩), .int .u32 n, .int .u64 n, .slice a4 4 c4, .pointer (some ⟨w.heap.size, 5, none⟩), .int .u32 i, .int .u64 i, .slice a5 4 c5, undef, undef], defers := [] } W := by
    intro W g a0 c0 a1 c1 a2 c2 a3 c3 a4 c4 a5 c5 hS hg hgw h0 h1 h2 h3 h4 h5
    refine (hG.out _ _ _ _).2 ?_
    obtain ⟨W', hcv, hcb, hcc, hcs⟩ := conv_const W g 8 8 _ hg
    refine wpAnyH_ready (rs := [1]) (by kernel_rfl) (by simp) ?_
    refine AllReadyH.cons rfl (fun K hK => ?_) AllReadyH.nil
    · go_simp
      go_wp2
      refine hK.out _ _ (hS.trans (hcb _ hgw)) (fun hHeld2 => ?_)
      exact (hG.out _ _ _ _).1 (H62 _ g a0 c0 a1 c1 a2 c2 a3 c3 a4 c4 a5 c5 hHeld2 (rd_cells (rd_magic hg) hcc hcs) (rd_cells h0 hcc hcs) (rd_cells h1 hcc hcs) (rd_cells h2 hcc hcs) (rd_cells h3 hcc hcs) (rd_cells h4 hcc hcs) (rd_cells h5 hcc hcs))
  have H51 : ∀ (W : World) (g : Nat) (a0 : Option Addr) (c0 : Nat) (a1 : Option Addr) (c1 : Nat) (a2 : Option Addr) (c2 : Nat) (a3 : Option Addr) (c3 : Nat) (a4 : Option Addr) (c4 : Nat), Below w1.heap.size w1 W → W.heap[g]? = some (.cells #[.int .u8 97, .int .u8 114, .int .u8 109, .int .u8 111, .int .u8 105, .int .u8 114, .int .u8 101, .int .u8 49] 5 (0, 0)) → w1.heap.size ≤ g → Rd W (.slice a0 8 c0) F0 → Rd W (.slice a1 8 c1) F1 → Rd W (.slice a2 8 c2) F2 → Rd W (.slice a3 4 c3) F3 → Rd W (.slice a4 4 c4) F4 → G 5 #[true, false, true, true, true, true, true, true, true, true, true, true, true, true, true, true, true, true, true, true, true, true, false, false, false, false] { tmps := #[.agg #[.int .u64 s, .int .u64 v, .int .u64 l, .int .u32 r, .int .u32 n, .int .u32 i], .pointer (some ⟨w.heap.size, 0, none⟩), .slice none 0 0, .slice (some ⟨g, 0, none⟩) 8 8, undef, .pointer (some ⟨w.heap.size, 0, none⟩), .int .u64 s, .slice a0 8 c0, .pointer (some ⟨w.heap.size, 1, none⟩), .int .u64 v, .slice a1 8 c1, .pointer (some ⟨w.heap.size, 2, none⟩), .int .u64 l, .slice a2 8 c2, .pointer (some ⟨w.heap.size, 3, none⟩), .int .u32 r, .int .u64 r, .slice a3 4 c3, .pointer (some ⟨w.heap.size, 4, none⟩), .int .u32 n, .int .u64 n, .slice a4 4 c4, .pointer (some ⟨w.heap.size, 5, none⟩), .int .u32 i, .int .u64 i, undef, undef, undef], defers := [] } W := by
    intro W g a0 c0 a1 c1 a2 c2 a3 c3 a4 c4 hS hg hgw h0 h1 h2 h3 h4
    refine (hG.out _ _ _ _).2 ?_
    obtain ⟨W', hcv, hcb, hcc, hcs⟩ := conv_const W g 8 8 _ hg
    refine wpAnyH_ready (rs := [1, 22]) (by kernel_rfl) (by simp) ?_
    refine AllReadyH.cons rfl (fun K hK => ?_) (AllReadyH.cons rfl (fun K hK => ?_) AllReadyH.nil)
    · go_simp
      go_wp2
      refine hK.out _ _ (hS.trans (hcb _ hgw)) (fun hHeld2 => ?_)
      exact (hG.out _ _ _ _).1 (H52 _ g a0 c0 a1 c1 a2 c2 a3 c3 a4 c4 hHeld2 (rd_cells (rd_magic hg) hcc hcs) (rd_cells h0 hcc hcs) (rd_cells h1 hcc hcs) (rd_cells h2 hcc hcs) (rd_cells h3 hcc hcs) (rd_cells h4 hcc hcs))
    · go_simp
      go_wp2_with (go_at_call 47; refine (f5 _).mono ?_; rintro e xq ⟨uq, rfl, hoq, hbq⟩; obtain ⟨aq, cq, rfl, -⟩ := id hoq.rd; rw [z5] at hoq ⊢)
      refine hK.out _ _ (keep2 hbq hS) (fun hHeld2 => ?_)
      exact (hG.out _ _ _ _).1 (H61 _ g a0 c0 a1 c1 a2 c2 a3 c3 a4 c4 _ _ hHeld2 ((hbq.block g (Array.getElem?_eq_some_iff.1 hg).1).trans hg) hgw (h0.below hbq) (h1.below hbq) (h2.below hbq) (h3.below hbq) (h4.below hbq) hoq.rd)
  have H41 : ∀ (W : World) (g : Nat) (a0 : Option Addr) (c0 : Nat) (a1 : Option Addr) (c1 : Nat) (a2 : Option Addr) (c2 : Nat) (a3 : Option Addr) (c3 : Nat), Below w1.heap.size w1 W → W.heap[g]? = some (.cells #[.int .u8 97, .int .u8 114, .int .u8 109, .int .u8 111, .int .u8 105, .int .u8 114, .int .u8 101, .int .u8 49] 5 (0, 0)) → w1.heap.size ≤ g → Rd W (.slice a0 8 c0) F0 → Rd W (.slice a1 8 c1) F1 → Rd W (.slice a2 8 c2) F2 → Rd W (.slice a3 4 c3) F3 → G 6 #[true, false, true, true, true, true, true, true, true, true, true, true, true, true, true, true, true, true, false, true, true, true, false, false, false, false] { tmps := #[.agg #[.int .u64 s, .int .u64 v, .int .u64 l, .int .u32 r, .int .u32 n, .int .u32 i], .pointer (some ⟨w.heap.size, 0, none⟩), .slice none 0 0, .slice (some ⟨g, 0, none⟩) 8 8, undef, .pointer (some ⟨w.heap.size, 0, none⟩), .int .u64 s, .slice a0 8 c0, .pointer (some ⟨w.heap.size, 1, none⟩), .int .u64 v, .slice a1 8 c1, .pointer (some ⟨w.heap.size, 2, none⟩), .int .u64 l, .slice a2 8 c2, .pointer (some ⟨w.heap.size, 3, none⟩), .int .u32 r, .int .u64 r, .slice a3 4 c3, .pointer (some ⟨w.heap.size, 4, none⟩), .int .u32 n, .int .u64 n, undef, .pointer (some ⟨w.heap.size, 5, none⟩), .int .u32 i, .int .u64 i, undef, undef, undef], defers := [] } W := by
    intro W g a0 c0 a1 c1 a2 c2 a3 c3 hS hg hgw h0 h1 h2 h3
    refine (hG.out _ _ _ _).2 ?_
    obtain ⟨W', hcv, hcb, hcc, hcs⟩ := conv_const W g 8 8 _ hg
    refine wpAnyH_ready (rs := [1, 18]) (by kernel_rfl) (by simp) ?_
    refine AllReadyH.cons rfl (fun K hK => ?_) (AllReadyH.cons rfl (fun K hK => ?_) AllReadyH.nil)
    · go_simp
      go_wp2
      refine hK.out _ _ (hS.trans (hcb _ hgw)) (fun hHeld2 => ?_)
      exact (hG.out _ _ _ _).1 (H42 _ g a0 c0 a1 c1 a2 c2 a3 c3 hHeld2 (rd_cells (rd_magic hg) hcc hcs) (rd_cells h0 hcc hcs) (rd_cells h1 hcc hcs) (rd_cells h2 hcc hcs) (rd_cells h3 hcc hcs))
    · go_simp
      go_wp2_with (go_at_call 47; refine (f4 _).mono ?_; rintro e xq ⟨uq, rfl, hoq, hbq⟩; obtain ⟨aq, cq, rfl, -⟩ := id hoq.rd; rw [z4] at hoq ⊢)
      refine hK.out _ _ (keep2 hbq hS) (fun hHeld2 => ?_)
      exact (hG.out _ _ _ _).1 (H51 _ g a0 c0 a1 c1 a2 c2 a3 c3 _ _ hHeld2 ((hbq.block g (Array.getElem?_eq_some_iff.1 hg).1).trans hg) hgw (h0.below hbq) (h1.below hbq) (h2.below hbq) (h3.below hbq) hoq.rd)
  have H31 : ∀ (W : World) (g : Nat) (a0 : Option Addr) (c0 : Nat) (a1 : Option Addr) (c1 : Nat) (a2 : Option Addr) (c2 : Nat), Below w1.heap.size w1 W → W.heap[g]? = some (.cells #[.int .u8 97, .int .u8 114, .int .u8 109, .int .u8 111, .int .u8 105, .int .u8 114, .int .u8 101, .int .u8 49] 5 (0, 0)) → w1.heap.size ≤ g → Rd W (.slice a0 8 c0) F0 → Rd W (.slice a1 8 c1) F1 → Rd W (.slice a2 8 c2) F2 → G 7 #[true, false, true, true, true, true, true, true, true, true, true, true, true, true, false, true, true, true, false, true, true, true, false, false, false, false] { tmps := #[.agg #[.int .u64 s, .int .u64 v, .int .u64 l, .int .u32 r, .int .u32 n, .int .u32 i], .pointer (some ⟨w.heap.size, 0, none⟩), .slice none 0 0, .slice (some ⟨g, 0, none⟩) 8 8, undef, .pointer (some ⟨w.heap.size, 0, none⟩), .int .u64 s, .slice a0 8 c0, .pointer (some ⟨w.heap.size, 1, none⟩), .int .u64 v, .slice a1 8 c1, .pointer (some ⟨w.heap.size, 2, none⟩), .int .u64 l, .slice a2 8 c2, .pointer (some ⟨w.heap.size, 3, none⟩), .int .u32 r, .int .u64 r, undef, .pointer (some ⟨w.heap.size, 4, none⟩), .int .u32 n, .int .u64 n, undef, .pointer (some ⟨w.heap.size, 5, none⟩), .int .u32 i, .int .u64 i, undef, undef, undef], defers := [] } W := by
    intro W g a0 c0 a1 c1 a2 c2 hS hg hgw h0 h1 h2
    refine (hG.out _ _ _ _).2 ?_
    obtain ⟨W', hcv, hcb, hcc, hcs⟩ := conv_const W g 8 8 _ hg
    refine wpAnyH_ready (rs := [1, 14]) (by kernel_rfl) (by simp) ?_
    refine AllReadyH.cons rfl (fun K hK => ?_) (AllReadyH.cons rfl (fun K hK => ?_) AllReadyH.nil)
    · go_simp
      go_wp2
      refine hK.out _ _ (hS.trans (hcb _ hgw)) (fun hHeld2 => ?_)
      exact (hG.out _ _ _ _).1 (H32 _ g a0 c0 a1 c1 a2 c2 hHeld2 (rd_cells (rd_magic hg) hcc hcs) (rd_cells h0 hcc hcs) (rd_cells h1 hcc hcs) (rd_cells h2 hcc hcs))
    · go_simp
      go_wp2_with (go_at_call 47; refine (f3 _).mono ?_; rintro e xq ⟨uq, rfl, hoq, hbq⟩; obtain ⟨aq, cq, rfl, -⟩ := id hoq.rd; rw [z3] at hoq ⊢)
      refine hK.out _ _ (keep2 hbq hS) (fun hHeld2 => ?_)
      exact (hG.out _ _ _ _).1 (H41 _ g a0 c0 a1 c1 a2 c2 _ _ hHeld2 ((hbq.block g (Array.getElem?_eq_some_iff.1 hg).1).trans hg) hgw (h0.below hbq) (h1.below hbq) (h2.below hbq) hoq.rd)
  have H21 : ∀ (W : World) (g : Nat) (a0 : Option Addr) (c0 : Nat) (a1 : Option Addr) (c1 : Nat), Below w1.heap.size w1 W → W.heap[g]? = some (.cells #[.int .u8 97, .int .u8 114, .int .u8 109, .int .u8 111, .int .u8 105, .int .u8 114, .int .u8 101, .int .u8 49] 5 (0, 0)) → w1.heap.size ≤ g → Rd W (.slice a0 8 c0) F0 → Rd W (.slice a1 8 c1) F1 → G 8 #[true, false, true, true, true, true, true, true, true, true, false, true, true, true, false, true, true, true, false, true, true, true, false, false, false, false] { tmps := #[.agg #[.int .u64 s, .int .u64 v, .int .u64 l, .int .u32 r, .int .u32 n, .int .u32 i], .pointer (some ⟨w.heap.size, 0, none⟩), .slice none 0 0, .slice (some ⟨g, 0, none⟩) 8 8, undef, .pointer (some ⟨w.heap.size, 0, none⟩), .int .u64 s, .slice a0 8 c0, .pointer (some ⟨w.heap.size, 1, none⟩), .int .u64 v, .slice a1 8 c1, .pointer (some ⟨w.heap.size, 2, none⟩), .int .u64 l, undef, .pointer (some ⟨w.heap.size, 3, none⟩), .int .u32 r, .int .u64 r, undef, .pointer (some ⟨w.heap.size, 4, none⟩), .int .u32 n, .int .u64 n, undef, .pointer (some ⟨w.heap.size, 5, none⟩), .int .u32 i, .int .u64 i, undef, undef, undef], defers := [] } W := by
    intro W g a0 c0 a1 c1 hS hg hgw h0 h1
    refine (hG.out _ _ _ _).2 ?_
    obtain ⟨W', hcv, hcb, hcc, hcs⟩ := conv_const W g 8 8 _ hg
    refine wpAnyH_ready (rs := [1, 10]) (by kernel_rfl) (by simp) ?_
    refine AllReadyH.cons rfl (fun K hK => ?_) (AllReadyH.cons rfl (fun K hK => ?_) AllReadyH.nil)
    · go_simp
      go_wp2
      refine hK.out _ _ (hS.trans (hcb _ hgw)) (fun hHeld2 => ?_)
      exact (hG.out _ _ _ _).1 (H22 _ g a0 c0 a1 c1 hHeld2 (rd_cells (rd_magic hg) hcc hcs) (rd_cells h0 hcc hcs) (rd_cells h1 hcc hcs))
    · go_simp
      go_wp2_with (go_at_call 47; refine (f2 _).mono ?_; rintro e xq ⟨uq, rfl, hoq, hbq⟩; obtain ⟨aq, cq, rfl, -⟩ := id hoq.rd; rw [z2] at hoq ⊢)
      refine hK.out _ _ (keep2 hbq hS) (fun hHeld2 => ?_)
      exact (hG.out _ _ _ _).1 (H31 _ g a0 c0 a1 c1 _ _ hHeld2 ((hbq.block g (Array.getElem?_eq_some_iff.1 hg).1).trans hg) hgw (h0.below hbq) (h1.below hbq) hoq.rd)
  have H11 : ∀ (W : World) (g : Nat) (a0 : Option Addr) (c0 : Nat), Below w1.heap.size w1 W → W.heap[g]? = some (.cells #[.int .u8 97, .int .u8 114, .int .u8 109, .int .u8 111, .int .u8 105, .int .u8 114, .int .u8 101, .int .u8 49] 5 (0, 0)) → w1.heap.size ≤ g → Rd W (.slice a0 8 c0) F0 → G 9 #[true, false, true, true, true, true, true, false, true, true, false, true, true, true, false, true, true, true, false, true, true, true, false, false, false, false] { tmps := #[.agg #[.int .u64 s, .int .u64 v, .int .u64 l, .int .u32 r, .int .u32 n, .int .u32 i], .pointer (some ⟨w.heap.size, 0, none⟩), .slice none 0 0, .slice (some ⟨g, 0, none⟩) 8 8, undef, .pointer (some ⟨w.heap.size, 0, none⟩), .int .u64 s, .slice a0 8 c0, .pointer (some ⟨w.heap.size, 1, none⟩), .int .u64 v, undef, .pointer (some ⟨w.heap.size, 2, none⟩), .int .u64 l, undef, .pointer (some ⟨w.heap.size, 3, none⟩), .int .u32 r, .int .u64 r, undef, .pointer (some ⟨w.heap.size, 4, none⟩), .int .u32 n, .int .u64 n, undef, .pointer (some ⟨w.heap.size, 5, none⟩), .int .u32 i, .int .u64 i, undef, undef, undef], defers := [] } W := by
    intro W g a0 c0 hS hg hgw h0
    refine (hG.out _ _ _ _).2 ?_
    obtain ⟨W', hcv, hcb, hcc, hcs⟩ := conv_const W g 8 8 _ hg
    refine wpAnyH_ready (rs := [1, 7]) (by kernel_rfl) (by simp) ?_
    refine AllReadyH.cons rfl (fun K hK => ?_) (AllReadyH.cons rfl (fun K hK => ?_) AllReadyH.nil)
    · go_simp
      go_wp2
      refine hK.out _ _ (hS.trans (hcb _ hgw)) (fun hHeld2 => ?_)
      exact (hG.out _ _ _ _).1 (H12 _ g a0 c0 hHeld2 (rd_cells (rd_magic hg) hcc hcs) (rd_cells h0 hcc hcs))
    · go_simp
      go_wp2_with (go_at_call 47; refine (f1 _).mono ?_; rintro e xq ⟨uq, rfl, hoq, hbq⟩; obtain ⟨aq, cq, rfl, -⟩ := id hoq.rd; rw [z1] at hoq ⊢)
      refine hK.out _ _ (keep2 hbq hS) (fun hHeld2 => ?_)
      exact (hG.out _ _ _ _).1 (H21 _ g a0 c0 _ _ hHeld2 ((hbq.block g (Array.getElem?_eq_some_iff.1 hg).1).trans hg) hgw (h0.below hbq) hoq.rd)
  have H01 : ∀ (W : World) (g : Nat), Below w1.heap.size w1 W → W.heap[g]? = some (.cells #[.int .u8 97, .int .u8 114, .int .u8 109, .int .u8 111, .int .u8 105, .int .u8 114, .int .u8 101, .int .u8 49] 5 (0, 0)) → w1.heap.size ≤ g → G 10 #[true, false, true, true, false, true, true, false, true, true, false, true, true, true, false, true, true, true, false, true, true, true, false, false, false, false] { tmps := #[.agg #[.int .u64 s, .int .u64 v, .int .u64 l, .int .u32 r, .int .u32 n, .int .u32 i], .pointer (some ⟨w.heap.size, 0, none⟩), .slice none 0 0, .slice (some ⟨g, 0, none⟩) 8 8, undef, .pointer (some ⟨w.heap.size, 0, none⟩), .int .u64 s, undef, .pointer (some ⟨w.heap.size, 1, none⟩), .int .u64 v, undef, .pointer (some ⟨w.heap.size, 2, none⟩), .int .u64 l, undef, .pointer (some ⟨w.heap.size, 3, none⟩), .int .u32 r, .int .u64 r, undef, .pointer (some ⟨w.heap.size, 4, none⟩), .int .u32 n, .int .u64 n, undef, .pointer (some ⟨w.heap.size, 5, none⟩), .int .u32 i, .int .u64 i, undef, undef, undef], defers := [] } W := by
    intro W g hS hg hgw
    refine (hG.out _ _ _ _).2 ?_
    obtain ⟨W', hcv, hcb, hcc, hcs⟩ := conv_const W g 8 8 _ hg
    refine wpAnyH_ready (rs := [1, 4]) (by kernel_rfl) (by simp) ?_
    refine AllReadyH.cons rfl (fun K hK => ?_) (AllReadyH.cons rfl (fun K hK => ?_) AllReadyH.nil)
    · go_simp
      go_wp2
      refine hK.out _ _ (hS.trans (hcb _ hgw)) (fun hHeld2 => ?_)
      exact (hG.out _ _ _ _).1 (H02 _ g hHeld2 (rd_cells (rd_magic hg) hcc hcs))
    · go_simp
      go_wp2_with (go_at_call 47; refine (f0 _).mono ?_; rintro e xq ⟨uq, rfl, hoq, hbq⟩; obtain ⟨aq, cq, rfl, -⟩ := id hoq.rd; rw [z0] at hoq ⊢)
      refine hK.out _ _ (keep2 hbq hS) (fun hHeld2 => ?_)
      exact (hG.out _ _ _ _).1 (H11 _ g _ _ hHeld2 ((hbq.block g (Array.getElem?_eq_some_iff.1 hg).1).trans hg) hgw hoq.rd)
  have H60 : ∀ (W : World) (a0 : Option Addr) (c0 : Nat) (a1 : Option Addr) (c1 : Nat) (a2 : Option Addr) (c2 : Nat) (a3 : Option Addr) (c3 : Nat) (a4 : Option Addr) (c4 : Nat) (a5 : Option Addr) (c5 : Nat), Below w1.heap.size w1 W → Rd W (.slice a0 8 c0) F0 → Rd W (.slice a1 8 c1) F1 → Rd W (.slice a2 8 c2) F2 → Rd W (.slice a3 4 c3) F3 → Rd W (.slice a4 4 c4) F4 → Rd W (.slice a5 4 c5) F5 → G 5 #[false, false, true, true, true, true, true, true, true, true, true, true, true, true, true, true, true, true, true, true, true, true, true, false, false, false] { tmps := #[.agg #[.int .u64 s, .int .u64 v, .int .u64 l, .int .u32 r, .int .u32 n, .int .u32 i], .pointer (some ⟨w.heap.size, 0, none⟩), .slice none 0 0, undef, undef, .pointer (some ⟨w.heap.size, 0, none⟩), .int .u64 s, .slice a0 8 c0, .pointer (some ⟨w.heap.size, 1, none⟩), .int .u64 v, .slice a1 8 c1, .pointer (some ⟨w.heap.size, 2, none⟩), .int .u64 l, .slice a2 8 c2, .pointer (some ⟨w.heap.size, 3, none⟩), .int .u32 r, .int .u64 r, .slice a3 4 c3, .pointer (some ⟨w.heap.size, 4, none⟩), .int .u32 n, .int .u64 n, .slice a4 4 c4, .pointer (some ⟨w.heap.size, 5, none⟩), .int .u32 i, .int .u64 i, .slice a5 4 c5, undef, undef], defers := [] } W := by
    intro W a0 c0 a1 c1 a2 c2 a3 c3 a4 c4 a5 c5 hS h0 h1 h2 h3 h4 h5
    refine (hG.out _ _ _ _).2 ?_
    refine wpAnyH_ready (rs := [0]) (by kernel_rfl) (by simp) ?_
    refine AllReadyH.cons rfl (fun K hK => ?_) AllReadyH.nil
    · go_simp
      go_wp2
      refine hK.out _ _ (keepA hS _) (fun hHeld2 => ?_)
      exact (hG.out _ _ _ _).1 (H61 _ W.heap.size a0 c0 a1 c1 a2 c2 a3 c3 a4 c4 a5 c5 hHeld2 (heap_alloc_new W _) hS.size (h0.below ((Below.refl _ W).alloc (Nat.le_refl _) _)) (h1.below ((Below.refl _ W).alloc (Nat.le_refl _) _)) (h2.below ((Below.refl _ W).alloc (Nat.le_refl _) _)) (h3.below ((Below.refl _ W).alloc (Nat.le_refl _) _)) (h4.below ((Below.refl _ W).alloc (Nat.le_refl _) _)) (h5.below ((Below.refl _ W).alloc (Nat.le_refl _) _)))
  have H50 : ∀ (W : World) (a0 : Option Addr) (c0 : Nat) (a1 : Option Addr) (c1 : Nat) (a2 : Option Addr) (c2 : Nat) (a3 : Option Addr) (c3 : Nat) (a4 : Option Addr) (c4 : Nat), Below w1.heap.size w1 W → Rd W (.slice a0 8 c0) F0 → Rd W (.slice a1 8 c1) F1 → Rd W (.slice a2 8 c2) F2 → Rd W (.slice a3 4 c3) F3 → Rd W (.slice a4 4 c4) F4 → G 6 #[false, false, true, true, true, true, true, true, true, true, true, true, true, true, true, true, true, true, true, true, true, true, false, false, false, false] { tmps := #[.agg #[.int .u64 s, .int .u64 v, .int .u64 l, .int .u32 r, .int .u32 n, .int .u32 i], .pointer (some ⟨w.heap.size, 0, none⟩), .slice none 0 0, undef, undef, .pointer (some ⟨w.heap.size, 0, none⟩), .int .u64 s, .slice a0 8 c0, .pointer (some ⟨w.heap.size, 1, none⟩), .int .u64 v, .slice a1 8 c1, .pointer (some ⟨w.heap.size, 2, none⟩), .int .u64 l, .slice a2 8 c2, .pointer (some ⟨w.heap.size, 3, none⟩), .int .u32 r, .int .u64 r, .slice a3 4 c3, .pointer (some ⟨w.heap.size, 4, none⟩), .int .u32 n, .int .u64 n, .slice a4 4 c4, .pointer (some ⟨w.heap.size, 5, none⟩), .int .u32 i, .int .u64 i, undef, undef, undef], defers := [] } W := by
    intro W a0 c0 a1 c1 a2 c2 a3 c3 a4 c4 hS h0 h1 h2 h3 h4
    refine (hG.out _ _ _ _).2 ?_
    refine wpAnyH_ready (rs := [0, 22]) (by kernel_rfl) (by simp) ?_
    refine AllReadyH.cons rfl (fun K hK => ?_) (AllReadyH.cons rfl (fun K hK => ?_) AllReadyH.nil)
    · go_simp
      go_wp2
      refine hK.out _ _ (keepA hS _) (fun hHeld2 => ?_)
      exact (hG.out _ _ _ _).1 (H51 _ W.heap.size a0 c0 a1 c1 a2 c2 a3 c3 a4 c4 hHeld2 (heap_alloc_new W _) hS.size (h0.below ((Below.refl _ W).alloc (Nat.le_refl _) _)) (h1.below ((Below.refl _ W).alloc (Nat.le_refl _) _)) (h2.below ((Below.refl _ W).alloc (Nat.le_refl _) _)) (h3.below ((Below.refl _ W).alloc (Nat.le_refl _) _)) (h4.below ((Below.refl _ W).alloc (Nat.le_refl _) _)))
    · go_simp
      go_wp2_with (go_at_call 47; refine (f5 _).mono ?_; rintro e xq ⟨uq, rfl, hoq, hbq⟩; obtain ⟨aq, cq, rfl, -⟩ := id hoq.rd; rw [z5] at hoq ⊢)
      refine hK.out _ _ (keep2 hbq hS) (fun hHeld2 => ?_)
      exact (hG.out _ _ _ _).1 (H60 _ a0 c0 a1 c1 a2 c2 a3 c3 a4 c4 _ _ hHeld2 (h0.below hbq) (h1.below hbq) (h2.below hbq) (h3.below hbq) (h4.below hbq) hoq.rd)
  have H40 : ∀ (W : World) (a0 : Option Addr) (c0 : Nat) (a1 : Option Addr) (c1 : Nat) (a2 : Option Addr) (c2 : Nat) (a3 : Option Addr) (c3 : Nat), Below w1.heap.size w1 W → Rd W (.slice a0 8 c0) F0 → Rd W (.slice a1 8 c1) F1 → Rd W (.slice a2 8 c2) F2 → Rd W (.slice a3 4 c3) F3 → G 7 #[false, false, true, true, true, true, true, true, true, true, true, true, true, true, true, true, true, true, false, true, true, true, false, false, false, false] { tmps := #[.agg #[.int .u64 s, .int .u64 v, .int .u64 l, .int .u32 r, .int .u32 n, .int .u32 i], .pointer (some ⟨w.heap.size, 0, none⟩), .slice none 0 0, undef, undef, .pointer (some ⟨w.heap.size, 0, none⟩), .int .u64 s, .slice a0 8 c0, .pointer (some ⟨w.heap.size, 1, none⟩), .int .u64 v, .slice a1 8 c1, .pointer (some ⟨w.heap.size, 2, none⟩), .int .u64 l, .slice a2 8 c2, .pointer (some ⟨w.heap.size, 3, none⟩), .int .u32 r, .int .u64 r, .slice a3 4 c3, .pointer (some ⟨w.heap.size, 4, none⟩), .int .u32 n, .int .u64 n, undef, .pointer (some ⟨w.heap.size, 5, none⟩), .int .u32 i, .int .u64 i, undef, undef, undef], defers := [] } W := by
    intro W a0 c0 a1 c1 a2 c2 a3 c3 hS h0 h1 h2 h3
    refine (hG.out _ _ _ _).2 ?_
    refine wpAnyH_ready (rs := [0, 18]) (by kernel_rfl) (by simp) ?_
    refine AllReadyH.cons rfl (fun K hK => ?_) (AllReadyH.cons rfl (fun K hK => ?_) AllReadyH.nil)
    · go_simp
      go_wp2
      refine hK.out _ _ (keepA hS _) (fun hHeld2 => ?_)
      exact (hG.out _ _ _ _).1 (H41 _ W.heap.size a0 c0 a1 c1 a2 c2 a3 c3 hHeld2 (heap_alloc_new W _) hS.size (h0.below ((Below.refl _ W).alloc (Nat.le_refl _) _)) (h1.below ((Below.refl _ W).alloc (Nat.le_refl _) _)) (h2.below ((Below.refl _ W).alloc (Nat.le_refl _) _)) (h3.below ((Below.refl _ W).alloc (Nat.le_refl _) _)))
    · go_simp
      go_wp2_with (go_at_call 47; refine (f4 _).mono ?_; rintro e xq ⟨uq, rfl, hoq, hbq⟩; obtain ⟨aq, cq, rfl, -⟩ := id hoq.rd; rw [z4] at hoq ⊢)
      refine hK.out _ _ (keep2 hbq hS) (fun hHeld2 => ?_)
      exact (hG.out _ _ _ _).1 (H50 _ a0 c0 a1 c1 a2 c2 a3 c3 _ _ hHeld2 (h0.below hbq) (h1.below hbq) (h2.below hbq) (h3.below hbq) hoq.rd)
  have H30 : ∀ (W : World) (a0 : Option Addr) (c0 : Nat) (a1 : Option Addr) (c1 : Nat) (a2 : Option Addr) (c2 : Nat), Below w1.heap.size w1 W → Rd W (.slice a0 8 c0) F0 → Rd W (.slice a1 8 c1) F1 → Rd W (.slice a2 8 c2) F2 → G 8 #[false, false, true, true, true, true, true, true, true, true, true, true, true, true, false, true, true, true, false, true, true, true, false, false, false, false] { tmps := #[.agg #[.int .u64 s, .int .u64 v, .int .u64 l, .int .u32 r, .int .u32 n, .int .u32 i], .pointer (some ⟨w.heap.size, 0, none⟩), .slice none 0 0, undef, undef, .pointer (some ⟨w.heap.size, 0, none⟩), .int .u64 s, .slice a0 8 c0, .pointer (some ⟨w.heap.size, 1, none⟩), .int .u64 v, .slice a1 8 c1, .pointer (some ⟨w.heap.size, 2, none⟩), .int .u64 l, .slice a2 8 c2, .pointer (some ⟨w.heap.size, 3, none⟩), .int .u32 r, .int .u64 r, undef, .pointer (some ⟨w.heap.size, 4, none⟩), .int .u32 n, .int .u64 n, undef, .pointer (some ⟨w.heap.size, 5, none⟩), .int .u32 i, .int .u64 i, undef, undef, undef], defers := [] } W := by
    intro W a0 c0 a1 c1 a2 c2 hS h0 h1 h2
    refine (hG.out _ _ _ _).2 ?_
    refine wpAnyH_ready (rs := [0, 14]) (by kernel_rfl) (by simp) ?_
    refine AllReadyH.cons rfl (fun K hK => ?_) (AllReadyH.cons rfl (fun K hK => ?_) AllReadyH.nil)
    · go_simp
      go_wp2
      refine hK.out _ _ (keepA hS _) (fun hHeld2 => ?_)
      exact (hG.out _ _ _ _).1 (H31 _ W.heap.size a0 c0 a1 c1 a2 c2 hHeld2 (heap_alloc_new W _) hS.size (h0.below ((Below.refl _ W).alloc (Nat.le_refl _) _)) (h1.below ((Below.refl _ W).alloc (Nat.le_refl _) _)) (h2.below ((Below.refl _ W).alloc (Nat.le_refl _) _)))
    · go_simp
      go_wp2_with (go_at_call 47; refine (f3 _).mono ?_; rintro e xq ⟨uq, rfl, hoq, hbq⟩; obtain ⟨aq, cq, rfl, -⟩ := id hoq.rd; rw [z3] at hoq ⊢)
      refine hK.out _ _ (keep2 hbq hS) (fun hHeld2 => ?_)
      exact (hG.out _ _ _ _).1 (H40 _ a0 c0 a1 c1 a2 c2 _ _ hHeld2 (h0.below hbq) (h1.below hbq) (h2.below hbq) hoq.rd)
  have H20 : ∀ (W : World) (a0 : Option Addr) (c0 : Nat) (a1 : Option Addr) (c1 : Nat), Below w1.heap.size w1 W → Rd W (.slice a0 8 c0) F0 → Rd W (.slice a1 8 c1) F1 → G 9 #[false, false, true, true, true, true, true, true, true, true, false, true, true, true, false, true, true, true, false, true, true, true, false, false, false, false] { tmps := #[.agg #[.int .u64 s, .int .u64 v, .int .u64 l, .int .u32 r, .int .u32 n, .int .u32 i], .pointer (some ⟨w.heap.size, 0, none⟩), .slice none 0 0, undef, undef, .pointer (some ⟨w.heap.size, 0, none⟩), .int .u64 s, .slice a0 8 c0, .pointer (some ⟨w.heap.size, 1, none⟩), .int .u64 v, .slice a1 8 c1, .pointer (some ⟨w.heap.size, 2, none⟩), .int .u64 l, undef, .pointer (some ⟨w.heap.size, 3, none⟩), .int .u32 r, .int .u64 r, undef, .pointer (some ⟨w.heap.size, 4, none⟩), .int .u32 n, .int .u64 n, undef, .pointer (some ⟨w.heap.size, 5, none⟩), .int .u32 i, .int .u64 i, undef, undef, undef], defers := [] } W := by
    intro W a0 c0 a1 c1 hS h0 h1
    refine (hG.out _ _ _ _).2 ?_
    refine wpAnyH_ready (rs := [0, 10]) (by kernel_rfl) (by simp) ?_
    refine AllReadyH.cons rfl (fun K hK => ?_) (AllReadyH.cons rfl (fun K hK => ?_) AllReadyH.nil)
    · go_simp
      go_wp2
      refine hK.out _ _ (keepA hS _) (fun hHeld2 => ?_)
      exact (hG.out _ _ _ _).1 (H21 _ W.heap.size a0 c0 a1 c1 hHeld2 (heap_alloc_new W _) hS.size (h0.below ((Below.refl _ W).alloc (Nat.le_refl _) _)) (h1.below ((Below.refl _ W).alloc (Nat.le_refl _) _)))
    · go_simp
      go_wp2_with (go_at_call 47; refine (f2 _).mono ?_; rintro e xq ⟨uq, rfl, hoq, hbq⟩; obtain ⟨aq, cq, rfl, -⟩ := id hoq.rd; rw [z2] at hoq ⊢)
      refine hK.out _ _ (keep2 hbq hS) (fun hHeld2 => ?_)
      exact (hG.out _ _ _ _).1 (H30 _ a0 c0 a1 c1 _ _ hHeld2 (h0.below hbq) (h1.below hbq) hoq.rd)
  have H10 : ∀ (W : World) (a0 : Option Addr) (c0 : Nat), Below w1.heap.size w1 W → Rd W (.slice a0 8 c0) F0 → G 10 #[false, false, true, true, true, true, true, false, true, true, false, true, true, true, false, true, true, true, false, true, true, true, false, false, false, false] { tmps := #[.agg #[.int .u64 s, .int .u64 v, .int .u64 l, .int .u32 r, .int .u32 n, .int .u32 i], .pointer (some ⟨w.heap.size, 0, none⟩), .slice none 0 0, undef, undef, .pointer (some ⟨w.heap.size, 0, none⟩), .int .u64 s, .slice a0 8 c0, .pointer (some ⟨w.heap.size, 1, none⟩), .int .u64 v, undef, .pointer (some ⟨w.heap.size, 2, none⟩), .int .u64 l, undef, .pointer (some ⟨w.heap.size, 3, none⟩), .int .u32 r, .int .u64 r, undef, .pointer (some ⟨w.heap.size, 4, none⟩), .int .u32 n, .int .u64 n, undef, .pointer (some ⟨w.heap.size, 5, none⟩), .int .u32 i, .int .u64 i, undef, undef, undef], defers := [] } W := by
    intro W a0 c0 hS h0
    refine (hG.out _ _ _ _).2 ?_
    refine wpAnyH_ready (rs := [0, 7]) (by kernel_rfl) (by simp) ?_
    refine AllReadyH.cons rfl (fun K hK => ?_) (AllReadyH.cons rfl (fun K hK => ?_) AllReadyH.nil)
    · go_simp
      go_wp2
      refine hK.out _ _ (keepA hS _) (fun hHeld2 => ?_)
      exact (hG.out _ _ _ _).1 (H11 _ W.heap.size a0 c0 hHeld2 (heap_alloc_new W _) hS.size (h0.below ((Below.refl _ W).alloc (Nat.le_refl _) _)))
    · go_simp
      go_wp2_with (go_at_call 47; refine (f1 _).mono ?_; rintro e xq ⟨uq, rfl, hoq, hbq⟩; obtain ⟨aq, cq, rfl, -⟩ := id hoq.rd; rw [z1] at hoq ⊢)
      refine hK.out _ _ (keep2 hbq hS) (fun hHeld2 => ?_)
      exact (hG.out _ _ _ _).1 (H20 _ a0 c0 _ _ hHeld2 (h0.below hbq) hoq.rd)
  have H00 : ∀ (W : World), Below w1.heap.size w1 W → G 11 #[false, false, true, true, false, true, true, false, true, true, false, true, true, true, false, true, true, true, false, true, true, true, false, false, false, false] { tmps := #[.agg #[.int .u64 s, .int .u64 v, .int .u64 l, .int .u32 r, .int .u32 n, .int .u32 i], .pointer (some ⟨w.heap.size, 0, none⟩), .slice none 0 0, undef, undef, .pointer (some ⟨w.heap.size, 0, none⟩), .int .u64 s, undef, .pointer (some ⟨w.heap.size, 1, none⟩), .int .u64 v, undef, .pointer (some ⟨w.heap.size, 2, none⟩), .int .u64 l, undef, .pointer (some ⟨w.heap.size, 3, none⟩), .int .u32 r, .int .u64 r, undef, .pointer (some ⟨w.heap.size, 4, none⟩), .int .u32 n, .int .u64 n, undef, .pointer (some ⟨w.heap.size, 5, none⟩), .int .u32 i, .int .u64 i, undef, undef, undef], defers := [] } W := by
    intro W hS
    refine (hG.out _ _ _ _).2 ?_
    refine wpAnyH_ready (rs := [0, 4]) (by kernel_rfl) (by simp) ?_
    refine AllReadyH.cons rfl (fun K hK => ?_) (AllReadyH.cons rfl (fun K hK => ?_) AllReadyH.nil)
    · go_simp
      go_wp2
      refine hK.out _ _ (keepA hS _) (fun hHeld2 => ?_)
      exact (hG.out _ _ _ _).1 (H01 _ W.heap.size hHeld2 (heap_alloc_new W _) hS.size)
    · go_simp
      go_wp2_with (go_at_call 47; refine (f0 _).mono ?_; rintro e xq ⟨uq, rfl, hoq, hbq⟩; obtain ⟨aq, cq, rfl, -⟩ := id hoq.rd; rw [z0] at hoq ⊢)
      refine hK.out _ _ (keep2 hbq hS) (fun hHeld2 => ?_)
      exact (hG.out _ _ _ _).1 (H10 _ _ _ hHeld2 hoq.rd)
  exact H00 _ hHeld

end Go.Proofs.Ytanbjdcffcnfgaa
