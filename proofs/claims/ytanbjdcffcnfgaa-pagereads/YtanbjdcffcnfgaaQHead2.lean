/- The contracts of page.headOf, EncodeHead, DecodeHead. -/
import Derived.Test.YtanbjdcffcnfgaaQHead
import Derived.Test.YtanbjdcffcnfgaaQDecode
namespace Go.Proofs.Ytanbjdcffcnfgaa
open Go.RowKit
set_option linter.unusedVariables false
set_option linter.unusedSimpArgs false
set_option maxRecDepth 4000

theorem encodeHead_any (w : World) (h : Hd) (hk : HdOk h) : Calls Try.prog 22 #[hdV h] w fun e w' => ∃ u, e = .returned u ∧ Own w' w.heap.size u (headBlock h) ∧ Below w.heap.size w w' := by
  have hB0 := (Below.refl w.heap.size w).alloc (Nat.le_refl _) (.cells #[.int .u64 h.seq, .int .u64 h.version, .int .u64 h.log, .int .u32 h.root, .int .u32 h.next, .int .u32 h.items] 40)
  have hh := fun W => headBytes_any W h hk
  have hbk := fun W v hv => blockOf_any W v (headRaw h) hv (headRaw_byt h) (by rw [headRaw_length]; omega)
  have he : sealed (padL (headRaw h)) = headBlock h := rfl
  rw [he] at hbk
  clear he
  unfold hdV at *
  go_enter Try.func22, Try.ntmps22
  go_wp2_with fail
  refine (hh _).mono ?_
  rintro e w1 ⟨v1, rfl, ho1, hb1⟩
  go_wp2_with fail
  refine (hbk w1 v1 ho1.rd).mono ?_
  rintro e w2 ⟨v2, rfl, ho2, hb2⟩
  go_wp2
  go_ret
  have s0 := hB0.size
  have s1 := hb1.size
  exact ⟨_, rfl, ho2.mono (by omega), hB0.trans ((hb1.trans (hb2.mono s1)).mono s0)⟩

/-- A result that lies in a variable: a head's six cells. -/
theorem ret_head {fn : Func} {R : Ending → World → Prop} {a : Act} {w : World} {p : Tmp} (h : fn.results = #[.cell p 40]) (g : Nat) (v0 v1 v2 v3 v4 v5 : Value) {t : TypeId} {fr : Nat × Nat} (hp : a.tmps.getD p undef = .pointer (some ⟨g, 0, none⟩))
    (hg : w.heap[g]? = some (.cells #[v0, v1, v2, v3, v4, v5] t fr)) (hd : a.defers = []) (hR : R (.returned (.agg #[v0, v1, v2, v3, v4, v5])) w) : bodyPost Try.prog fn R .ret a w :=
  bodyPost_ret (results_cell_row h a.tmps w g t #[v0, v1, v2, v3, v4, v5] fr _ hp hg Try.underlying40 rfl (by kernel_rfl)) hd hR

theorem ret_head2 {fn : Func} {R : Ending → World → Prop} {a : Act} {w : World} {p u : Tmp} (h : fn.results = #[.cell p 40, .tmp u]) (g : Nat) (v0 v1 v2 v3 v4 v5 : Value) {t : TypeId} {fr : Nat × Nat} (hp : a.tmps.getD p undef = .pointer (some ⟨g, 0, none⟩)) (v : Value) (hu : a.tmps.getD u undef = v)
    (hg : w.heap[g]? = some (.cells #[v0, v1, v2, v3, v4, v5] t fr)) (hd : a.defers = []) (hR : R (.returned (.tuple #[.agg #[v0, v1, v2, v3, v4, v5], v])) w) : bodyPost Try.prog fn R .ret a w := by
  refine bodyPost_ret ?_ hd hR
  have hp' : a.tmps[p]?.getD undef = .pointer (some ⟨g, 0, none⟩) := by simpa using hp
  have hu' : a.tmps[u]?.getD undef = v := by simpa using hu
  have hl := run_loadVar_row (P := Try.prog) w g t 40 #[v0, v1, v2, v3, v4, v5] fr _ hg Try.underlying40 rfl (by kernel_rfl)
  simp [results, h, hp', hu', asAddr, hl, Result.andThen]

theorem box6 {W : World} {B : Nat} {v0 v1 v2 v3 v4 v5 : Value} {t : TypeId} (h : W.heap[B]? = some (.cells #[v0, v1, v2, v3, v4, v5] t (0, 0))) :
    (W.cell? ⟨B, 0, none⟩ = some v0 ∧ W.cell? ⟨B, 1, none⟩ = some v1 ∧ W.cell? ⟨B, 2, none⟩ = some v2 ∧ W.cell? ⟨B, 3, none⟩ = some v3 ∧ W.cell? ⟨B, 4, none⟩ = some v4 ∧ W.cell? ⟨B, 5, none⟩ = some v5) ∧ (W.frozen? ⟨B, 0, none⟩ = false ∧ W.frozen? ⟨B, 1, none⟩ = false ∧ W.frozen? ⟨B, 2, none⟩ = false ∧ W.frozen? ⟨B, 3, none⟩ = false ∧ W.frozen? ⟨B, 4, none⟩ = false ∧ W.frozen? ⟨B, 5, none⟩ = false) :=
  ⟨⟨cell_of_row W _ 0 _ _ (0, 0) h, cell_of_row W _ 1 _ _ (0, 0) h, cell_of_row W _ 2 _ _ (0, 0) h, cell_of_row W _ 3 _ _ (0, 0) h, cell_of_row W _ 4 _ _ (0, 0) h, cell_of_row W _ 5 _ _ (0, 0) h⟩, by simp [World.frozen?, h], by simp [World.frozen?, h], by simp [World.frozen?, h], by simp [World.frozen?, h], by simp [World.frozen?, h], by simp [World.frozen?, h]⟩

/-- A head stored into a variable. -/
theorem fin_head {W : World} {B : Nat} {y0 y1 y2 y3 y4 y5 : Value} (x0 x1 x2 x3 x4 x5 : Value) {t : TypeId} (h : W.heap[B]? = some (.cells #[y0, y1, y2, y3, y4, y5] t (0, 0))) :
    ((((((W.setCell ⟨B, 0, none⟩ x0).setCell ⟨B, 1, none⟩ x1).setCell ⟨B, 2, none⟩ x2).setCell ⟨B, 3, none⟩ x3).setCell ⟨B, 4, none⟩ x4).setCell ⟨B, 5, none⟩ x5).heap[B]? = some (.cells #[x0, x1, x2, x3, x4, x5] t (0, 0)) ∧
    ∀ b, b ≤ B → Below b W ((((((W.setCell ⟨B, 0, none⟩ x0).setCell ⟨B, 1, none⟩ x1).setCell ⟨B, 2, none⟩ x2).setCell ⟨B, 3, none⟩ x3).setCell ⟨B, 4, none⟩ x4).setCell ⟨B, 5, none⟩ x5) :=
  ⟨setCell_row (setCell_row (setCell_row (setCell_row (setCell_row (setCell_row h 0 x0) 1 x1) 2 x2) 3 x3) 4 x4) 5 x5, fun b hb => ((((((Below.refl b W).setCell (p := ⟨B, 0, none⟩) hb x0).setCell (p := ⟨B, 1, none⟩) hb x1).setCell (p := ⟨B, 2, none⟩) hb x2).setCell (p := ⟨B, 3, none⟩) hb x3).setCell (p := ⟨B, 4, none⟩) hb x4).setCell (p := ⟨B, 5, none⟩) hb x5⟩

set_option maxHeartbeats 4000000 in
theorem headOf_any (w : World) (b off cap : Nat) (xs : List Int) (hr : Rd w (.slice (some ⟨b, off, none⟩) 508 cap) xs) (hy : Byt xs) :
    Calls Try.prog 40 #[.slice (some ⟨b, off, none⟩) 508 cap] w fun e w' => e = .returned (hdV (rdHead xs)) ∧ Below w.heap.size w w' := by
  have hl := rd_length hr
  have hcap := hr.cap
  have hmax := hr.capMax
  unfold maxLen at hmax
  unfold rdHead hdV
  dsimp only
  have hB0 : Below w.heap.size w (w.alloc (.cells #[.int .u64 0, .int .u64 0, .int .u64 0, .int .u32 0, .int .u32 0, .int .u32 0] 40)) := (Below.refl _ w).alloc (Nat.le_refl _) _
  have hg0 := heap_alloc_new w (.cells #[.int .u64 0, .int .u64 0, .int .u64 0, .int .u32 0, .int .u32 0, .int .u32 0] 40)
  generalize hW0 : w.alloc (.cells #[.int .u64 0, .int .u64 0, .int .u64 0, .int .u32 0, .int .u32 0, .int .u32 0] 40) = W0 at *
  have hrW := hr.below hB0
  have r0 := hrW.mid 8 500 (by omega) (by omega)
  have d0 : (xs.drop 8).take 500 = xs.drop 8 := List.take_of_length_le (by rw [List.length_drop]; omega)
  rw [d0] at r0
  have n0 : Calls Try.prog 61 #[.slice (some ⟨b, off + 8, none⟩) 500 (cap - 8), .int .i64 8] W0.drew fun e w' => e = .returned (.int .u64 (valB ((xs.drop 8).take 8))) ∧ w' = W0.drew := number_ok W0.drew _ _ 8 (rd_drew r0) (hy.drop _) (by decide) (by decide) (by rw [List.length_drop]; omega)
  have e0 : ¬ cap = 8 := by omega
  have r1 := hrW.mid 16 492 (by omega) (by omega)
  have d1 : (xs.drop 16).take 492 = xs.drop 16 := List.take_of_length_le (by rw [List.length_drop]; omega)
  rw [d1] at r1
  have n1 : Calls Try.prog 61 #[.slice (some ⟨b, off + 16, none⟩) 492 (cap - 16), .int .i64 8] W0.drew fun e w' => e = .returned (.int .u64 (valB ((xs.drop 16).take 8))) ∧ w' = W0.drew := number_ok W0.drew _ _ 8 (rd_drew r1) (hy.drop _) (by decide) (by decide) (by rw [List.length_drop]; omega)
  have e1 : ¬ cap = 16 := by omega
  have r2 := hrW.mid 24 484 (by omega) (by omega)
  have d2 : (xs.drop 24).take 484 = xs.drop 24 := List.take_of_length_le (by rw [List.length_drop]; omega)
  rw [d2] at r2
  have n2 : Calls Try.prog 61 #[.slice (some ⟨b, off + 24, none⟩) 484 (cap - 24), .int .i64 8] W0.drew fun e w' => e = .returned (.int .u64 (valB ((xs.drop 24).take 8))) ∧ w' = W0.drew := number_ok W0.drew _ _ 8 (rd_drew r2) (hy.drop _) (by decide) (by decide) (by rw [List.length_drop]; omega)
  have e2 : ¬ cap = 24 := by omega
  have r3 := hrW.mid 32 476 (by omega) (by omega)
  have d3 : (xs.drop 32).take 476 = xs.drop 32 := List.take_of_length_le (by rw [List.length_drop]; omega)
  rw [d3] at r3
  have n3 : Calls Try.prog 61 #[.slice (some ⟨b, off + 32, none⟩) 476 (cap - 32), .int .i64 4] W0.drew fun e w' => e = .returned (.int .u64 (valB ((xs.drop 32).take 4))) ∧ w' = W0.drew := number_ok W0.drew _ _ 4 (rd_drew r3) (hy.drop _) (by decide) (by decide) (by rw [List.length_drop]; omega)
  have e3 : ¬ cap = 32 := by omega
  obtain ⟨b30, b31⟩ := valB_byt4 (xs.drop 32) (hy.drop _)
  have r4 := hrW.mid 36 472 (by omega) (by omega)
  have d4 : (xs.drop 36).take 472 = xs.drop 36 := List.take_of_length_le (by rw [List.length_drop]; omega)
  rw [d4] at r4
  have n4 : Calls Try.prog 61 #[.slice (some ⟨b, off + 36, none⟩) 472 (cap - 36), .int .i64 4] W0.drew fun e w' => e = .returned (.int .u64 (valB ((xs.drop 36).take 4))) ∧ w' = W0.drew := number_ok W0.drew _ _ 4 (rd_drew r4) (hy.drop _) (by decide) (by decide) (by rw [List.length_drop]; omega)
  have e4 : ¬ cap = 36 := by omega
  obtain ⟨b40, b41⟩ := valB_byt4 (xs.drop 36) (hy.drop _)
  have r5 := hrW.mid 40 468 (by omega) (by omega)
  have d5 : (xs.drop 40).take 468 = xs.drop 40 := List.take_of_length_le (by rw [List.length_drop]; omega)
  rw [d5] at r5
  have n5 : Calls Try.prog 61 #[.slice (some ⟨b, off + 40, none⟩) 468 (cap - 40), .int .i64 4] W0.drew fun e w' => e = .returned (.int .u64 (valB ((xs.drop 40).take 4))) ∧ w' = W0.drew := number_ok W0.drew _ _ 4 (rd_drew r5) (hy.drop _) (by decide) (by decide) (by rw [List.length_drop]; omega)
  have e5 : ¬ cap = 40 := by omega
  obtain ⟨b50, b51⟩ := valB_byt4 (xs.drop 40) (hy.drop _)
  generalize (valB ((xs.drop 8).take 8) : Int) = V0 at *
  generalize (valB ((xs.drop 16).take 8) : Int) = V1 at *
  generalize (valB ((xs.drop 24).take 8) : Int) = V2 at *
  generalize (valB ((xs.drop 32).take 4) : Int) = V3 at *
  generalize (valB ((xs.drop 36).take 4) : Int) = V4 at *
  generalize (valB ((xs.drop 40).take 4) : Int) = V5 at *
  obtain ⟨⟨q0, q1, q2, q3, q4, q5⟩, f0, f1, f2, f3, f4, f5⟩ := box6 hg0
  have hf := fin_head (W := W0) (.int .u64 V0) (.int .u64 V1) (.int .u64 V2) (.int .u32 V3) (.int .u32 V4) (.int .u32 V5) hg0
  have HF : Hid _ := hf
  clear hf r0 r1 r2 r3 r4 r5 d0 d1 d2 d3 d4 d5 hr hrW hy
  have hcI : ∀ k : Nat, k ≤ 40 → (k : Int) ≤ cap := fun k hk => by omega
  have c8 : (8 : Int) ≤ cap := by omega
  have c16 : (16 : Int) ≤ cap := by omega
  have c24 : (24 : Int) ≤ cap := by omega
  have c32 : (32 : Int) ≤ cap := by omega
  have c36 : (36 : Int) ≤ cap := by omega
  have c40 : (40 : Int) ≤ cap := by omega
  clear hcI
  go_enter Try.func40, Try.ntmps40
  go_wp2_with fail
  refine wp_region_noPanic ?_
  refine wp_region_held_drew (S := fun _ => True) (by kernel_rfl) trivial (fun hHeld => ?_)
  refine wpAnyH_take (i := 0) (v := .slice (some ⟨b, off, none⟩) 508 cap) rfl (by kernel_rfl) (by kernel_rfl) (by kernel_rfl) (fun _ _ _ h => h) (Or.inl ⟨by rfl, fun W hSw => by (try dsimp only at hSw); go_simp⟩) trivial ?_
  simp only [List.getElem_toArray, List.getElem_cons_zero, List.getElem_cons_succ, Act.put, List.setIfInBounds_toArray, List.set_cons_zero, List.set_cons_succ]
  refine wpAnyH_take (i := 1) (v := .slice (some ⟨b, off + 8, none⟩) 500 (cap - 8)) rfl (by kernel_rfl) (by kernel_rfl) (by kernel_rfl) (fun _ _ _ h => h) (Or.inl ⟨by rfl, fun W hSw => by (try dsimp only at hSw); go_simp⟩) trivial ?_
  simp only [List.getElem_toArray, List.getElem_cons_zero, List.getElem_cons_succ, Act.put, List.setIfInBounds_toArray, List.set_cons_zero, List.set_cons_succ]
  refine wpAnyH_take (i := 3) (v := .slice (some ⟨b, off, none⟩) 508 cap) rfl (by kernel_rfl) (by kernel_rfl) (by kernel_rfl) (fun _ _ _ h => h) (Or.inl ⟨by rfl, fun W hSw => by (try dsimp only at hSw); go_simp⟩) trivial ?_
  simp only [List.getElem_toArray, List.getElem_cons_zero, List.getElem_cons_succ, Act.put, List.setIfInBounds_toArray, List.set_cons_zero, List.set_cons_succ]
  refine wpAnyH_take (i := 4) (v := .slice (some ⟨b, off + 16, none⟩) 492 (cap - 16)) rfl (by kernel_rfl) (by kernel_rfl) (by kernel_rfl) (fun _ _ _ h => h) (Or.inl ⟨by rfl, fun W hSw => by (try dsimp only at hSw); go_simp⟩) trivial ?_
  simp only [List.getElem_toArray, List.getElem_cons_zero, List.getElem_cons_succ, Act.put, List.setIfInBounds_toArray, List.set_cons_zero, List.set_cons_succ]
  refine wpAnyH_take (i := 6) (v := .slice (some ⟨b, off, none⟩) 508 cap) rfl (by kernel_rfl) (by kernel_rfl) (by kernel_rfl) (fun _ _ _ h => h) (Or.inl ⟨by rfl, fun W hSw => by (try dsimp only at hSw); go_simp⟩) trivial ?_
  simp only [List.getElem_toArray, List.getElem_cons_zero, List.getElem_cons_succ, Act.put, List.setIfInBounds_toArray, List.set_cons_zero, List.set_cons_succ]
  refine wpAnyH_take (i := 7) (v := .slice (some ⟨b, off + 24, none⟩) 484 (cap - 24)) rfl (by kernel_rfl) (by kernel_rfl) (by kernel_rfl) (fun _ _ _ h => h) (Or.inl ⟨by rfl, fun W hSw => by (try dsimp only at hSw); go_simp⟩) trivial ?_
  simp only [List.getElem_toArray, List.getElem_cons_zero, List.getElem_cons_succ, Act.put, List.setIfInBounds_toArray, List.set_cons_zero, List.set_cons_succ]
  refine wpAnyH_take (i := 9) (v := .slice (some ⟨b, off, none⟩) 508 cap) rfl (by kernel_rfl) (by kernel_rfl) (by kernel_rfl) (fun _ _ _ h => h) (Or.inl ⟨by rfl, fun W hSw => by (try dsimp only at hSw); go_simp⟩) trivial ?_
  simp only [List.getElem_toArray, List.getElem_cons_zero, List.getElem_cons_succ, Act.put, List.setIfInBounds_toArray, List.set_cons_zero, List.set_cons_succ]
  refine wpAnyH_take (i := 10) (v := .slice (some ⟨b, off + 32, none⟩) 476 (cap - 32)) rfl (by kernel_rfl) (by kernel_rfl) (by kernel_rfl) (fun _ _ _ h => h) (Or.inl ⟨by rfl, fun W hSw => by (try dsimp only at hSw); go_simp⟩) trivial ?_
  simp only [List.getElem_toArray, List.getElem_cons_zero, List.getElem_cons_succ, Act.put, List.setIfInBounds_toArray, List.set_cons_zero, List.set_cons_succ]
  refine wpAnyH_take (i := 13) (v := .slice (some ⟨b, off, none⟩) 508 cap) rfl (by kernel_rfl) (by kernel_rfl) (by kernel_rfl) (fun _ _ _ h => h) (Or.inl ⟨by rfl, fun W hSw => by (try dsimp only at hSw); go_simp⟩) trivial ?_
  simp only [List.getElem_toArray, List.getElem_cons_zero, List.getElem_cons_succ, Act.put, List.setIfInBounds_toArray, List.set_cons_zero, List.set_cons_succ]
  refine wpAnyH_take (i := 14) (v := .slice (some ⟨b, off + 36, none⟩) 472 (cap - 36)) rfl (by kernel_rfl) (by kernel_rfl) (by kernel_rfl) (fun _ _ _ h => h) (Or.inl ⟨by rfl, fun W hSw => by (try dsimp only at hSw); go_simp⟩) trivial ?_
  simp only [List.getElem_toArray, List.getElem_cons_zero, List.getElem_cons_succ, Act.put, List.setIfInBounds_toArray, List.set_cons_zero, List.set_cons_succ]
  refine wpAnyH_take (i := 17) (v := .slice (some ⟨b, off, none⟩) 508 cap) rfl (by kernel_rfl) (by kernel_rfl) (by kernel_rfl) (fun _ _ _ h => h) (Or.inl ⟨by rfl, fun W hSw => by (try dsimp only at hSw); go_simp⟩) trivial ?_
  simp only [List.getElem_toArray, List.getElem_cons_zero, List.getElem_cons_succ, Act.put, List.setIfInBounds_toArray, List.set_cons_zero, List.set_cons_succ]
  refine wpAnyH_take (i := 18) (v := .slice (some ⟨b, off + 40, none⟩) 468 (cap - 40)) rfl (by kernel_rfl) (by kernel_rfl) (by kernel_rfl) (fun _ _ _ h => h) (Or.inl ⟨by rfl, fun W hSw => by (try dsimp only at hSw); go_simp⟩) trivial ?_
  simp only [List.getElem_toArray, List.getElem_cons_zero, List.getElem_cons_succ, Act.put, List.setIfInBounds_toArray, List.set_cons_zero, List.set_cons_succ]
  refine wpAnyH_ready (rs := [2]) (by kernel_rfl) (by simp) ?_
  refine AllReadyH.cons rfl (fun K hK => ?_) AllReadyH.nil
  go_simp
  go_wp2_with (go_at_call 61; refine n0.mono ?_; rintro e w' ⟨rfl, rfl⟩)
  refine hK.out _ _ trivial (fun _ => ?_)
  clear hK K
  refine wpAnyH_ready (rs := [5]) (by kernel_rfl) (by simp) ?_
  refine AllReadyH.cons rfl (fun K hK => ?_) AllReadyH.nil
  go_simp
  go_wp2_with (go_at_call 61; refine n1.mono ?_; rintro e w' ⟨rfl, rfl⟩)
  refine hK.out _ _ trivial (fun _ => ?_)
  clear hK K
  refine wpAnyH_ready (rs := [8]) (by kernel_rfl) (by simp) ?_
  refine AllReadyH.cons rfl (fun K hK => ?_) AllReadyH.nil
  go_simp
  go_wp2_with (go_at_call 61; refine n2.mono ?_; rintro e w' ⟨rfl, rfl⟩)
  refine hK.out _ _ trivial (fun _ => ?_)
  clear hK K
  refine wpAnyH_ready (rs := [11]) (by kernel_rfl) (by simp) ?_
  refine AllReadyH.cons rfl (fun K hK => ?_) AllReadyH.nil
  go_simp
  go_wp2_with (go_at_call 61; refine n3.mono ?_; rintro e w' ⟨rfl, rfl⟩)
  refine hK.out _ _ trivial (fun _ => ?_)
  clear hK K
  refine wpAnyH_take (i := 12) (v := .int .u32 V3) rfl (by kernel_rfl) (by kernel_rfl) (by kernel_rfl) (fun _ _ _ h => h) (Or.inl ⟨by rfl, fun W hSw => by (try dsimp only at hSw); (go_simp; rw [IntKind.wrap_u32]; omega)⟩) trivial ?_
  simp only [List.getElem_toArray, List.getElem_cons_zero, List.getElem_cons_succ, Act.put, List.setIfInBounds_toArray, List.set_cons_zero, List.set_cons_succ]
  refine wpAnyH_ready (rs := [15]) (by kernel_rfl) (by simp) ?_
  refine AllReadyH.cons rfl (fun K hK => ?_) AllReadyH.nil
  go_simp
  go_wp2_with (go_at_call 61; refine n4.mono ?_; rintro e w' ⟨rfl, rfl⟩)
  refine hK.out _ _ trivial (fun _ => ?_)
  clear hK K
  refine wpAnyH_take (i := 16) (v := .int .u32 V4) rfl (by kernel_rfl) (by kernel_rfl) (by kernel_rfl) (fun _ _ _ h => h) (Or.inl ⟨by rfl, fun W hSw => by (try dsimp only at hSw); (go_simp; rw [IntKind.wrap_u32]; omega)⟩) trivial ?_
  simp only [List.getElem_toArray, List.getElem_cons_zero, List.getElem_cons_succ, Act.put, List.setIfInBounds_toArray, List.set_cons_zero, List.set_cons_succ]
  refine wpAnyH_ready (rs := [19]) (by kernel_rfl) (by simp) ?_
  refine AllReadyH.cons rfl (fun K hK => ?_) AllReadyH.nil
  go_simp
  go_wp2_with (go_at_call 61; refine n5.mono ?_; rintro e w' ⟨rfl, rfl⟩)
  refine hK.out _ _ trivial (fun _ => ?_)
  clear hK K
  refine wpAnyH_take (i := 20) (v := .int .u32 V5) rfl (by kernel_rfl) (by kernel_rfl) (by kernel_rfl) (fun _ _ _ h => h) (Or.inl ⟨by rfl, fun W hSw => by (try dsimp only at hSw); (go_simp; rw [IntKind.wrap_u32]; omega)⟩) trivial ?_
  simp only [List.getElem_toArray, List.getElem_cons_zero, List.getElem_cons_succ, Act.put, List.setIfInBounds_toArray, List.set_cons_zero, List.set_cons_succ]
  refine wpAnyH_take (i := 21) (v := .agg #[.int .u64 V0, .int .u64 V1, .int .u64 V2, .int .u32 V3, .int .u32 V4, .int .u32 V5]) rfl (by kernel_rfl) (by kernel_rfl) (by kernel_rfl) (fun _ _ _ h => h) (Or.inl ⟨by rfl, fun W hSw => by (try dsimp only at hSw); go_simp⟩) trivial ?_
  simp only [List.getElem_toArray, List.getElem_cons_zero, List.getElem_cons_succ, Act.put, List.setIfInBounds_toArray, List.set_cons_zero, List.set_cons_succ]
  refine wpAnyH_ready (rs := [22]) (by kernel_rfl) (by simp) ?_
  refine AllReadyH.cons rfl (fun K hK => ?_) AllReadyH.nil
  go_simp
  go_wp2
  refine hK.out _ _ trivial (fun _ => ?_)
  clear hK K
  refine wpAnyH_done (by kernel_rfl) ?_ _
  refine NoPanic.normal ?_
  go_wp2
  exact ret_head rfl w.heap.size _ _ _ _ _ _ rfl HF.out.1 rfl ⟨rfl, (hB0.trans (HF.out.2 _ (Nat.le_refl _))).drew⟩

end Go.Proofs.Ytanbjdcffcnfgaa
