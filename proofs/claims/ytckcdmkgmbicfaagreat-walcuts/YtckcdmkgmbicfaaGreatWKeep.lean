/- The contract of wal's keep. -/
import Derived.Test.YtckcdmkgmbicfaaGreatMW4
namespace Go.Proofs.YtckcdmkgmbicfaaGreat
open Go.RowKit
set_option linter.unusedVariables false
set_option linter.unusedSimpArgs false
set_option maxRecDepth 4000

set_option maxRecDepth 100000 in
set_option maxHeartbeats 2000000 in
theorem keep_any {w : World} {q base p : Nat} {f : Int} {N : Nat} {L : List Fv} {a : Option Addr} {cp T E0 : Nat} (hq : w.heap[q]? = some (.cells #[.pointer (some ⟨p, 0, none⟩), .int .i64 f, .int .i64 N, .slice a L.length cp, .int .u64 T, .slice none 0 0, .int .u64 E0] 88 (0, 0)))
    (hF : FsAt base w (.slice a L.length cp) L) (hqb : q < base) (hl : L.length ≤ 1024) (hat : ∀ x ∈ L, x.p.at_ ≤ 4611686018427387904) (hT : T ≤ 4611686018427387904) :
    Calls Tryz.prog 64 #[.pointer (some ⟨q, 0, none⟩)] w fun e w' => e = .returned (.tuple #[]) ∧ ∃ aK cK K, K.map whOf = keepL (L.map fdOf) T ∧
      w'.heap[q]? = some (.cells #[.pointer (some ⟨p, 0, none⟩), .int .i64 f, .int .i64 N, .slice a L.length cp, .int .u64 T, .slice aK K.length cK, .int .u64 (keepE (L.map fdOf) T)] 88 (0, 0)) ∧ WsAt w.heap.size w' (.slice aK K.length cK) K ∧ Sole [q] w w' := by
  have hlq := (Array.getElem?_eq_some_iff.1 hq).1
  obtain ⟨iW, hiW, hW0, hW1, hW2⟩ := info_parts Tryz.infoWh
  obtain ⟨w1, hw1⟩ : ∃ w1, w.alloc (.cells #[.pointer (some ⟨q, 0, none⟩)] 155) = w1 := ⟨_, rfl⟩
  have hB1 : Below w.heap.size w w1 := by rw [← hw1]; exact (Below.refl _ w).alloc (Nat.le_refl _) _
  have hg1 : w1.heap[w.heap.size]? = some (.cells #[.pointer (some ⟨q, 0, none⟩)] 155 (0, 0)) := by rw [← hw1]; exact heap_alloc_new w _
  have hlt1 : w.heap.size < w1.heap.size := (Array.getElem?_eq_some_iff.1 hg1).1
  have hq1 := (hB1.block _ hlq).trans hq
  have s0 : ∀ W, Below w1.heap.size w1 W → W.cell? ⟨w.heap.size, 0, none⟩ = some (.pointer (some ⟨q, 0, none⟩)) := fun W hW => by
    rw [cell_of_row _ _ 0 _ _ (0, 0) ((hW.block _ hlt1).trans hg1)]; rfl
  have s4 : ∀ W, Below w1.heap.size w1 W → W.cell? ⟨q, 4, none⟩ = some (.int .u64 T) := fun W hW => by
    rw [cell_of_row _ _ 4 _ _ (0, 0) ((hW.block _ (by omega)).trans hq1)]; rfl
  have hq1d : w1.drew.heap[q]? = some (.cells #[.pointer (some ⟨p, 0, none⟩), .int .i64 f, .int .i64 N, .slice a L.length cp, .int .u64 T, .slice none 0 0, .int .u64 E0] 88 (0, 0)) := hq1
  have d6 : w1.drew.cell? ⟨q, 6, none⟩ = some (.int .u64 E0) := by rw [cell_of_row _ _ 6 _ _ (0, 0) hq1d]; rfl
  have fd6 := frozen_of_row w1.drew q 6 _ _ hq1d
  have hq2 := heap_setCell_same w1.drew q 6 _ _ (.int .u64 T) hq1d
  obtain ⟨w2, hw2⟩ : ∃ w2, w1.drew.setCell ⟨q, 6, none⟩ (.int .u64 T) = w2 := ⟨_, rfl⟩
  rw [hw2] at hq2
  have hS2 : Sole [q] w w2 := (Sole.of_below (hB1.trans (Below.refl _ w1).drew) _).trans (by rw [← hw2]; exact Sole.setCell _ _ (by simp))
  have hs2 : w2.heap.size = w1.heap.size := by rw [← hw2]; simp [World.setCell]
  have hc2 : w2.heap[w.heap.size]? = some (.cells #[.pointer (some ⟨q, 0, none⟩)] 155 (0, 0)) := by
    rw [← hw2, heap_setCell_other _ _ _ _ (show w.heap.size ≠ q from by omega)]; exact hg1
  have t0 : w2.cell? ⟨w.heap.size, 0, none⟩ = some (.pointer (some ⟨q, 0, none⟩)) := by rw [cell_of_row _ _ 0 _ _ (0, 0) hc2]; rfl
  have t3 : w2.cell? ⟨q, 3, none⟩ = some (.slice a L.length cp) := by rw [cell_of_row _ _ 3 _ _ (0, 0) hq2]; rfl
  have HF : Hid (FsAt base w (.slice a L.length cp) L) := hF
  have HQ2 : Hid _ := hq2
  have HC2 : Hid _ := hc2
  clear hq hF hq1 hq1d hg1 hq2 hc2 hB1
  go_enter Tryz.func64, Tryz.ntmps64
  go_wp2_with fail
  refine wp_region_noPanic ?_
  refine wp_region_sink 7 (S := fun W => Below w1.heap.size w1 W) (by kernel_rfl) (by kernel_rfl) (Below.refl _ _).drew (fun hHeld => ?_)
  refine wpAnyH_take (i := 0) (v := .pointer (some ⟨q, 0, none⟩)) rfl (by kernel_rfl) (by kernel_rfl) (by kernel_rfl) (fun _ _ _ h => h) (Or.inl ⟨by rfl, fun W hSw => by (try dsimp only at hSw); go_simp⟩) (by assumption) ?_
  simp only [List.getElem_toArray, List.getElem_cons_zero, List.getElem_cons_succ, Act.put, List.setIfInBounds_toArray, List.set_cons_zero, List.set_cons_succ]
  refine wpAnyH_take (i := 1) (v := .pointer (some ⟨q, 0, none⟩)) rfl (by kernel_rfl) (by kernel_rfl) (by kernel_rfl) (fun _ _ _ h => h) (Or.inl ⟨by rfl, fun W hSw => by (try dsimp only at hSw); go_simp⟩) (by assumption) ?_
  simp only [List.getElem_toArray, List.getElem_cons_zero, List.getElem_cons_succ, Act.put, List.setIfInBounds_toArray, List.set_cons_zero, List.set_cons_succ]
  refine wpAnyH_take (i := 2) (v := .pointer (some ⟨q, 0, none⟩)) rfl (by kernel_rfl) (by kernel_rfl) (by kernel_rfl) (fun _ _ _ h => h) (Or.inl ⟨by rfl, fun W hSw => by (try dsimp only at hSw); go_simp⟩) (by assumption) ?_
  simp only [List.getElem_toArray, List.getElem_cons_zero, List.getElem_cons_succ, Act.put, List.setIfInBounds_toArray, List.set_cons_zero, List.set_cons_succ]
  refine wpAnyH_take (i := 3) (v := .pointer (some ⟨q, 4, none⟩)) rfl (by kernel_rfl) (by kernel_rfl) (by kernel_rfl) (fun _ _ _ h => h) (Or.inl ⟨by rfl, fun W hSw => by (try dsimp only at hSw); go_simp⟩) (by assumption) ?_
  simp only [List.getElem_toArray, List.getElem_cons_zero, List.getElem_cons_succ, Act.put, List.setIfInBounds_toArray, List.set_cons_zero, List.set_cons_succ]
  refine wpAnyH_take (i := 4) (v := .int .u64 T) rfl (by kernel_rfl) (by kernel_rfl) (by kernel_rfl) (fun _ _ _ h => h) (Or.inl ⟨by rfl, fun W hSw => by (try dsimp only at hSw); go_simp⟩) (by assumption) ?_
  simp only [List.getElem_toArray, List.getElem_cons_zero, List.getElem_cons_succ, Act.put, List.setIfInBounds_toArray, List.set_cons_zero, List.set_cons_succ]
  refine wpAnyH_take (i := 5) (v := .pointer (some ⟨q, 0, none⟩)) rfl (by kernel_rfl) (by kernel_rfl) (by kernel_rfl) (fun _ _ _ h => h) (Or.inl ⟨by rfl, fun W hSw => by (try dsimp only at hSw); go_simp⟩) (by assumption) ?_
  simp only [List.getElem_toArray, List.getElem_cons_zero, List.getElem_cons_succ, Act.put, List.setIfInBounds_toArray, List.set_cons_zero, List.set_cons_succ]
  refine wpAnyH_take (i := 6) (v := .pointer (some ⟨q, 6, none⟩)) rfl (by kernel_rfl) (by kernel_rfl) (by kernel_rfl) (fun _ _ _ h => h) (Or.inl ⟨by rfl, fun W hSw => by (try dsimp only at hSw); go_simp⟩) (by assumption) ?_
  simp only [List.getElem_toArray, List.getElem_cons_zero, List.getElem_cons_succ, Act.put, List.setIfInBounds_toArray, List.set_cons_zero, List.set_cons_succ]
  refine wpAnyH_done (by kernel_rfl) ?_ _
  refine Behind.run (by rfl) ?_
  go_simp
  go_wp2
  refine NoPanic.normal ?_
  clear s0 s4 d6 fd6
  go_wp2
  go_loopw [2, 3, 4, 17] (fun _ _ _ t wr => ∃ (k : Nat) (K : List Wm) (aK : Option Addr) (cK e : Nat), k ≤ L.length ∧ t = .int .i64 k ∧
      Hid (wr.heap[q]? = some (.cells #[.pointer (some ⟨p, 0, none⟩), .int .i64 f, .int .i64 N, .slice a L.length cp, .int .u64 T, .slice aK K.length cK, .int .u64 e] 88 (0, 0))) ∧ Hid (wr.heap[w.heap.size]? = some (.cells #[.pointer (some ⟨q, 0, none⟩)] 155 (0, 0))) ∧
      Hid (WsAt (w.heap.size + 1) wr (.slice aK K.length cK) K) ∧ K.length ≤ k ∧ Hid (K.map whOf ++ keepL ((L.drop k).map fdOf) e = keepL (L.map fdOf) T) ∧ Hid (keepE ((L.drop k).map fdOf) e = keepE (L.map fdOf) T) ∧ e ≤ 4611686018427388904 ∧ Sole [q] w wr ∧ w.heap.size < wr.heap.size) (fun _ _ _ t _ => L.length - (RowKit.intOf t).toNat)
  case atStart =>
    exact ⟨0, [], none, 0, T, Nat.zero_le _, rfl, HQ2, HC2, WsAt.nil _ _, Nat.le_refl _, rfl, rfl, by omega, hS2, by omega⟩
  case round =>
    obtain ⟨k, K, aK, cK, e, hk, rfl, HG, HC, HW, hKk, HKL, HKE, he, hSr, hsr⟩ := hrel
    by_cases hlt : k < L.length
    · have hkI : (k : Int) < L.length := by omega
      obtain ⟨X1, hX1⟩ : ∃ X1, wr.alloc (.cells #[.int .i64 (k : Int)] 3) = X1 := ⟨_, rfl⟩
      have hBX1 : Below wr.heap.size wr X1 := by rw [← hX1]; exact (Below.refl _ wr).alloc (Nat.le_refl _) _
      have hgX1 : X1.heap[wr.heap.size]? = some (.cells #[.int .i64 (k : Int)] 3 (0, 0)) := by rw [← hX1]; exact heap_alloc_new wr _
      have hltX1 : wr.heap.size < X1.heap.size := (Array.getElem?_eq_some_iff.1 hgX1).1
      have hSX1 : Sole [q] w X1 := hSr.trans (Sole.of_below hBX1 _)
      have HFX1 := HF.out.sole hSX1 (fun j hj => by simp only [List.mem_singleton] at hj; omega)
      have ct := tryWhole k hlt hl ((hBX1.block _ hsr).trans HC.out) hgX1 ((hBX1.block _ (by omega)).trans HG.out) rfl HFX1
      have hdr : (L.drop k).map fdOf = fdOf L[k] :: (L.drop (k + 1)).map fdOf := by rw [List.drop_eq_getElem_cons hlt]; rfl
      have HK1 := keepL_cons (fdOf L[k]) ((L.drop (k + 1)).map fdOf) e
      have HE1 := keepE_cons (fdOf L[k]) ((L.drop (k + 1)).map fdOf) e
      rw [← hdr] at HK1 HE1
      have hWat : ∀ W, wholeOf ((L.drop k).map fdOf) = some W → W.at_ ≤ 4611686018427387904 ∧ W.blocks.length ≤ 1000 := fun W hW => by
        rw [hdr] at hW
        have h1 := (whole_at hW).1
        refine ⟨by rw [h1]; exact hat L[k] (List.getElem_mem hlt), ?_⟩
        exact whole_len hW (HF.out.each L[k] (List.getElem_mem hlt)).ok.length
      cases hwo : wholeOf ((L.drop k).map fdOf) with
      | none =>
        rw [hwo] at ct HK1 HE1
        dsimp only at ct HK1 HE1
        have HKL' : Hid (K.map whOf ++ keepL ((L.drop (k + 1)).map fdOf) e = keepL (L.map fdOf) T) := by unfold Hid; rw [← HK1]; exact HKL.out
        have HKE' : Hid (keepE ((L.drop (k + 1)).map fdOf) e = keepE (L.map fdOf) T) := by unfold Hid; rw [← HE1]; exact HKE.out
        clear HKL HKE hwo HK1 HE1 hdr hWat
        go_wp2_with fail
        refine ct.mono ?_
        rintro e5 X2 ⟨hbX2, rfl⟩
        clear ct
        go_wp2_with fail
        go_quiet (fail)
        go_wp2
        go_roundw
        case rel =>
          have hb : Below wr.heap.size wr ((X2.alloc (.cells #[.int .u64 0, .slice none 0 0, .slice none 0 0, .bool false] 126)).drewN nq) := below_drewN ((thenB hBX1 hbX2).alloc (by have := hbX2.size; omega) _) _
          exact ⟨k + 1, K, aK, cK, e, by omega, by go_num, (hb.block _ (by omega)).trans HG.out, (hb.block _ hsr).trans HC.out, HW.out.keep hb.size (fun j _ hj => hb.block j hj), by omega, HKL', HKE', he, hSr.trans (Sole.of_below hb _), by have := hb.size; omega⟩
        case measure => simp [RowKit.intOf]; omega
      | some Wv =>
        obtain ⟨hA1, hA2⟩ := hWat _ hwo
        rw [hwo] at ct HK1 HE1
        dsimp only at ct HK1 HE1
        obtain ⟨At, Bs, Gs, Bg⟩ := Wv
        dsimp only at *
        clear hwo hdr hWat
        have HK2 : At = e ∨ (e < At ∧ Bg = true) → Hid (K.map whOf ++ [(⟨At, Bs, Gs, Bg⟩ : Wh)] ++ keepL ((L.drop (k + 1)).map fdOf) (At + Bs.length) = keepL (L.map fdOf) T) := fun h => by
          unfold Hid; rw [← HKL.out, HK1, if_pos h]; simp
        have HE2 : At = e ∨ (e < At ∧ Bg = true) → Hid (keepE ((L.drop (k + 1)).map fdOf) (At + Bs.length) = keepE (L.map fdOf) T) := fun h => by
          unfold Hid; rw [← HKE.out, HE1, if_pos h]
        have HK3 : ¬ (At = e ∨ (e < At ∧ Bg = true)) → Hid (K.map whOf ++ keepL ((L.drop (k + 1)).map fdOf) e = keepL (L.map fdOf) T) := fun h => by
          unfold Hid; rw [← HKL.out, HK1, if_neg h]
        have HE3 : ¬ (At = e ∨ (e < At ∧ Bg = true)) → Hid (keepE ((L.drop (k + 1)).map fdOf) e = keepE (L.map fdOf) T) := fun h => by
          unfold Hid; rw [← HKE.out, HE1, if_neg h]
        clear HKL HKE HK1 HE1
        go_wp2_with fail
        refine ct.mono ?_
        rintro e5 X2 ⟨hbX2, bd, bp, ad, ap, rfl, ho1, ho2⟩
        clear ct
        have hs2' := hbX2.size
        obtain ⟨X3, hX3⟩ : ∃ X3, X2.alloc (.cells #[.int .u64 At, .slice bd Bs.length bp, .slice ad Gs.length ap, .bool Bg] 126) = X3 := ⟨_, rfl⟩
        have hBX3 : Below X2.heap.size X2 X3 := by rw [← hX3]; exact (Below.refl _ X2).alloc (Nat.le_refl _) _
        have hgX3 : X3.heap[X2.heap.size]? = some (.cells #[.int .u64 At, .slice bd Bs.length bp, .slice ad Gs.length ap, .bool Bg] 126 (0, 0)) := by rw [← hX3]; exact heap_alloc_new X2 _
        have hltX3 : X2.heap.size < X3.heap.size := (Array.getElem?_eq_some_iff.1 hgX3).1
        have hb3 : Below wr.heap.size wr X3 := thenB hBX1 (thenB hbX2 hBX3)
        have hG3 := (hb3.block _ (by omega : q < wr.heap.size)).trans HG.out
        have hC3 := (hb3.block _ hsr).trans HC.out
        have HLO : ∀ g, (Value.slice aK K.length cK).ownBlock = some g → g < wr.heap.size := fun g hg => (World.ownsRow.lt HW.out.own g hg).2
        have HX3 : WmAt (w.heap.size + 1) X3 ⟨At, Bs, bd, bp, Gs, ad, ap, Bg⟩ := ⟨own_mono (own_keep ho1 hBX3.size (fun j _ hj => hBX3.block j hj)) (by omega), own_mono (own_keep ho2 hBX3.size (fun j _ hj => hBX3.block j hj)) (by omega)⟩
        have HAP : Hid (∀ x ∈ K, ∀ g, x.gv.ownBlock = some g → (Value.slice ad Gs.length ap).ownBlock ≠ some g) := fun x hx g hg h2 => by
          have h1 := (World.ownsRow.lt (HW.out.each x hx).g g hg).2
          have h3 := (World.ownsRow.lt ho2 g h2).1
          have h4 := hBX1.size
          omega
        have HW3 := HW.out.keep hb3.size (fun j _ hj => hb3.block j hj)
        have hS3 : Sole [q] w X3 := hSr.trans (Sole.of_below hb3 _)
        have d0 : X3.cell? ⟨X2.heap.size, 0, none⟩ = some (.int .u64 At) := by rw [cell_of_row _ _ 0 _ _ (0, 0) hgX3]; rfl
        have d3 : X3.cell? ⟨X2.heap.size, 3, none⟩ = some (.bool Bg) := by rw [cell_of_row _ _ 3 _ _ (0, 0) hgX3]; rfl
        have u0 : X3.cell? ⟨w.heap.size, 0, none⟩ = some (.pointer (some ⟨q, 0, none⟩)) := by rw [cell_of_row _ _ 0 _ _ (0, 0) hC3]; rfl
        have u6 : X3.cell? ⟨q, 6, none⟩ = some (.int .u64 e) := by rw [cell_of_row _ _ 6 _ _ (0, 0) hG3]; rfl
        have hs3 := hb3.size
        clear ho1 ho2 hgX1 HFX1 hSX1 hBX1 hbX2 hBX3 HW HG HC
        go_wp2_with fail
        clear hX3
        by_cases h1 : At = e
        · have hB : ((At : Int) == (e : Int)) = true := by simp [h1]
          have H1 := HK2 (.inl h1)
          have H2 := HE2 (.inl h1)
          clear HK2 HE2 HK3 HE3 hB
          subst h1
          have hB : ((At : Int) == (At : Int)) = true := by simp
          go_quiet (fail)
          obtain ⟨X4, hX4⟩ : ∃ X4, X3.drewN nq = X4 := ⟨_, rfl⟩
          have hb4 : Below X3.heap.size X3 X4 := by rw [← hX4]; exact below_drewN (Below.refl _ X3) _
          have hs4 : X4.heap.size = X3.heap.size := by rw [← hX4]; rfl
          rw [hX4]
          clear hX4 d0 d3 u0 u6 hB
          have hG4 := (hb4.block _ (by omega : q < X3.heap.size)).trans hG3
          have hC4 := (hb4.block _ (by omega : w.heap.size < X3.heap.size)).trans hC3
          have hg4 := (hb4.block _ hltX3).trans hgX3
          have HX4 : WmAt (w.heap.size + 1) X4 ⟨At, Bs, bd, bp, Gs, ad, ap, Bg⟩ := ⟨own_keep HX3.b hb4.size (fun j _ hj => hb4.block j hj), own_keep HX3.g hb4.size (fun j _ hj => hb4.block j hj)⟩
          have HW4 := HW3.keep hb4.size (fun j _ hj => hb4.block j hj)
          have hS4 : Sole [q] w X4 := hS3.trans (Sole.of_below hb4 _)
          obtain ⟨RB, HRB⟩ : ∃ RB : List Nat, Hid (RB = (Value.slice aK K.length cK).ownBlock.toList) := ⟨_, rfl⟩
          have hRBn : ∀ j ∈ RB, w.heap.size + 1 ≤ j := fun j hj => by
            rw [HRB.out, Option.mem_toList] at hj
            exact (World.ownsRow.lt HW4.own j hj).1
          have hRBp : X2.heap.size ∉ RB := fun hj => by
            rw [HRB.out, Option.mem_toList] at hj
            have := HLO _ hj
            omega
          have q0 : ∀ W, Sole RB X4 W → W.cell? ⟨w.heap.size, 0, none⟩ = some (.pointer (some ⟨q, 0, none⟩)) := fun W hW => by
            rw [cell_of_row _ _ 0 _ _ (0, 0) ((hW.block _ (by omega) (fun h => by have := hRBn _ h; omega)).trans hC4)]; rfl
          have q5 : ∀ W, Sole RB X4 W → W.cell? ⟨q, 5, none⟩ = some (.slice aK K.length cK) := fun W hW => by
            rw [cell_of_row _ _ 5 _ _ (0, 0) ((hW.block _ (by omega) (fun h => by have := hRBn _ h; omega)).trans hG4)]; rfl
          have qd : ∀ j v, (#[.int .u64 At, .slice bd Bs.length bp, .slice ad Gs.length ap, .bool Bg] : Array Value)[j]? = some v → ∀ W, Sole RB X4 W → W.cell? ⟨X2.heap.size, j, none⟩ = some v := fun j v hv W hW => by
            rw [cell_of_row _ _ j _ _ (0, 0) ((hW.block _ (by omega) hRBp).trans hg4)]; exact hv
          have qd0 := qd 0 _ rfl
          have qd1 := qd 1 _ rfl
          have qd2 := qd 2 _ rfl
          have qd3 := qd 3 _ rfl
          clear qd
          go_wp2_with fail
          refine wp_region_noPanic ?_
          refine wp_region_sink 10 (S := fun W => Sole RB X4 W) (by kernel_rfl) (by kernel_rfl) (Sole.drew _ _) (fun hHeld => ?_)
          refine wpAnyH_take (i := 0) (v := .pointer (some ⟨q, 0, none⟩)) rfl (by kernel_rfl) (by kernel_rfl) (by kernel_rfl) (fun _ _ _ h => h) (Or.inl ⟨by rfl, fun W hSw => by (try dsimp only at hSw); go_simp⟩) (by assumption) ?_
          simp only [List.getElem_toArray, List.getElem_cons_zero, List.getElem_cons_succ, Act.put, List.setIfInBounds_toArray, List.set_cons_zero, List.set_cons_succ]
          refine wpAnyH_take (i := 1) (v := .pointer (some ⟨q, 0, none⟩)) rfl (by kernel_rfl) (by kernel_rfl) (by kernel_rfl) (fun _ _ _ h => h) (Or.inl ⟨by rfl, fun W hSw => by (try dsimp only at hSw); go_simp⟩) (by assumption) ?_
          simp only [List.getElem_toArray, List.getElem_cons_zero, List.getElem_cons_succ, Act.put, List.setIfInBounds_toArray, List.set_cons_zero, List.set_cons_succ]
          refine wpAnyH_take (i := 2) (v := .pointer (some ⟨q, 0, none⟩)) rfl (by kernel_rfl) (by kernel_rfl) (by kernel_rfl) (fun _ _ _ h => h) (Or.inl ⟨by rfl, fun W hSw => by (try dsimp only at hSw); go_simp⟩) (by assumption) ?_
          simp only [List.getElem_toArray, List.getElem_cons_zero, List.getElem_cons_succ, Act.put, List.setIfInBounds_toArray, List.set_cons_zero, List.set_cons_succ]
          refine wpAnyH_take (i := 3) (v := .pointer (some ⟨q, 5, none⟩)) rfl (by kernel_rfl) (by kernel_rfl) (by kernel_rfl) (fun _ _ _ h => h) (Or.inl ⟨by rfl, fun W hSw => by (try dsimp only at hSw); go_simp⟩) (by assumption) ?_
          simp only [List.getElem_toArray, List.getElem_cons_zero, List.getElem_cons_succ, Act.put, List.setIfInBounds_toArray, List.set_cons_zero, List.set_cons_succ]
          refine wpAnyH_take (i := 4) (v := .slice aK K.length cK) rfl (by kernel_rfl) (by kernel_rfl) (by kernel_rfl) (fun _ _ _ h => h) (Or.inl ⟨by rfl, fun W hSw => by (try dsimp only at hSw); go_simp⟩) (by assumption) ?_
          simp only [List.getElem_toArray, List.getElem_cons_zero, List.getElem_cons_succ, Act.put, List.setIfInBounds_toArray, List.set_cons_zero, List.set_cons_succ]
          refine wpAnyH_take (i := 5) (v := .agg #[.int .u64 At, .slice bd Bs.length bp, .slice ad Gs.length ap, .bool Bg]) rfl (by kernel_rfl) (by kernel_rfl) (by kernel_rfl) (fun _ _ _ h => h) (Or.inl ⟨by rfl, fun W hSw => by (try dsimp only at hSw); go_simp⟩) (by assumption) ?_
          simp only [List.getElem_toArray, List.getElem_cons_zero, List.getElem_cons_succ, Act.put, List.setIfInBounds_toArray, List.set_cons_zero, List.set_cons_succ]
          refine wpAnyH_ready (rs := [6]) (by kernel_rfl) (by simp) ?_
          refine AllReadyH.cons rfl (fun K hK => ?_) AllReadyH.nil
          go_simp
          go_wp2
          refine hK.out _ _ (keepSA (by assumption) _) (fun hHeld2 => ?_)
          clear hK K
          obtain ⟨X5, hX5⟩ : ∃ X5, (X4.alloc (.cells #[.int .u64 At, .slice bd Bs.length bp, .slice ad Gs.length ap, .bool Bg] 126)).drew = X5 := ⟨_, rfl⟩
          have hnew : X5.heap[X4.heap.size]? = some (.cells #[.int .u64 At, .slice bd Bs.length bp, .slice ad Gs.length ap, .bool Bg] 126 (0, 0)) := by rw [← hX5]; exact heap_alloc_new X4 _
          have hb45 : Below X4.heap.size X4 X5 := by rw [← hX5]; exact ((Below.refl _ X4).alloc (Nat.le_refl _) _).drew
          rw [hX5] at hHeld2 ⊢
          have HW5 := HW4.keep hb45.size (fun j _ hj => hb45.block j hj)
          have HX5 : WmAt (w.heap.size + 1) X5 ⟨At, Bs, bd, bp, Gs, ad, ap, Bg⟩ := ⟨own_keep HX4.b hb45.size (fun j _ hj => hb45.block j hj), own_keep HX4.g hb45.size (fun j _ hj => hb45.block j hj)⟩
          have hs45 := hb45.size
          rw [hs4] at hnew
          refine wpAnyH_ready (rs := [7]) (by kernel_rfl) (by simp) ?_
          refine AllReadyH.cons rfl (fun K' hK' => ?_) AllReadyH.nil
          rw [if_pos (by rfl)]
          obtain ⟨v6, X6, hrun, h6o, h6g, _, h6a⟩ := run_append_own_at (P := Tryz.prog) X5 (w.heap.size + 1) 86 86 126 iW _ 4 64 Tryz.underlying86 hiW hW0 hW1 hW2 rfl (by decide) (.slice aK K.length cK) K.length (K.flatMap wmC) HW5.own ⟨X3.heap.size, 0, none⟩ 1 1 (wmC ⟨At, Bs, bd, bp, Gs, ad, ap, Bg⟩) rfl (rowAdd hnew) (by simp [wmC, Wm.bv, Wm.gv, Value.oneCell']) (by unfold maxLen; omega) (by omega) (by omega)
          obtain ⟨a6, c6, rfl⟩ := own_shape h6o
          have hrun' := hrun
          refine wp_app _ _ 86 rfl _ _ rfl (by first | rfl | (rw [hs4]; rfl)) hrun ?_
          have hS56 : Sole RB X5 X6 := ⟨h6g.os, h6g.tape, h6g.output, h6g.size, fun j hj hn => h6g.block j hj (fun h => hn (by rw [HRB.out, Option.mem_toList]; exact h.symm))⟩
          have hS46 : Sole RB X4 X6 := hHeld2.trans hS56
          have HW6 := HW5.snoc h6o h6g HX5 HAP.out
          refine hK'.out _ _ hS46 (fun hHeld4 => ?_)
          clear hK' K'
          simp only [List.getElem_toArray, List.getElem_cons_zero, List.getElem_cons_succ, Act.put, List.setIfInBounds_toArray, List.set_cons_zero, List.set_cons_succ]
          refine wpAnyH_take (i := 8) (v := .pointer (some ⟨q, 0, none⟩)) rfl (by kernel_rfl) (by kernel_rfl) (by kernel_rfl) (fun _ _ _ h => h) (Or.inl ⟨by rfl, fun W hSw => by (try dsimp only at hSw); go_simp⟩) (by assumption) ?_
          simp only [List.getElem_toArray, List.getElem_cons_zero, List.getElem_cons_succ, Act.put, List.setIfInBounds_toArray, List.set_cons_zero, List.set_cons_succ]
          refine wpAnyH_take (i := 9) (v := .pointer (some ⟨q, 5, none⟩)) rfl (by kernel_rfl) (by kernel_rfl) (by kernel_rfl) (fun _ _ _ h => h) (Or.inl ⟨by rfl, fun W hSw => by (try dsimp only at hSw); go_simp⟩) (by assumption) ?_
          simp only [List.getElem_toArray, List.getElem_cons_zero, List.getElem_cons_succ, Act.put, List.setIfInBounds_toArray, List.set_cons_zero, List.set_cons_succ]
          have hG6 := (hS46.block q (by omega) (fun h => by have := hRBn _ h; omega)).trans hG4
          have hC6 := (hS46.block w.heap.size (by omega) (fun h => by have := hRBn _ h; omega)).trans hC4
          have hg6 := (hS46.block X2.heap.size (by omega) hRBp).trans hg4
          have x65 := q5 X6 hS46
          have f65 := frozen_of_row X6 q 5 _ _ hG6
          have hG7 := heap_setCell_same X6 q 5 _ _ (.slice a6 (K.length + 1) c6) hG6
          obtain ⟨X7, hX7⟩ : ∃ X7, X6.setCell ⟨q, 5, none⟩ (.slice a6 (K.length + 1) c6) = X7 := ⟨_, rfl⟩
          have hS67 : Sole [q] X6 X7 := by rw [← hX7]; exact Sole.setCell _ _ (by simp)
          have hs7 : X7.heap.size = X6.heap.size := by rw [← hX7]; simp [World.setCell]
          have hs46 := hS46.size
          rw [hX7] at hG7
          have hC7 := (hS67.block w.heap.size (by omega) (by simp; omega)).trans hC6
          have hg7 := (hS67.block X2.heap.size (by omega) (by simp; omega)).trans hg6
          have HW7 := HW6.keep hS67.size (fun j hj hl => hS67.block j hl (by simp; omega))
          have hS7 : Sole [q] w X7 := (hS4.after hS46 (fun j hj => .inr (by have := hRBn j hj; omega))).trans hS67
          refine wpAnyH_done (by kernel_rfl) ?_ _
          refine Behind.run (by rfl) ?_
          go_simp
          go_wp2
          refine NoPanic.normal ?_
          clear q0 q5 qd0 qd1 qd2 qd3 x65 f65 hrun hrun' h6o h6g h6a HX4 HX5 HW4 HW5 HW6 hnew HX3 HW3 hG4 hC4 hg4 hG6 hC6 hg6
          have p0 : ∀ W, Below X7.heap.size X7 W → W.cell? ⟨w.heap.size, 0, none⟩ = some (.pointer (some ⟨q, 0, none⟩)) := fun W hW => by
            rw [cell_of_row _ _ 0 _ _ (0, 0) ((hW.block _ (by omega)).trans hC7)]; rfl
          have pd0 : ∀ W, Below X7.heap.size X7 W → W.cell? ⟨X2.heap.size, 0, none⟩ = some (.int .u64 At) := fun W hW => by
            rw [cell_of_row _ _ 0 _ _ (0, 0) ((hW.block _ (by omega)).trans hg7)]; rfl
          have pd1 : ∀ W, Below X7.heap.size X7 W → W.cell? ⟨X2.heap.size, 1, none⟩ = some (.slice bd Bs.length bp) := fun W hW => by
            rw [cell_of_row _ _ 1 _ _ (0, 0) ((hW.block _ (by omega)).trans hg7)]; rfl
          have ce := fun W => end_any W At bd Bs.length bp (by omega) (by omega)
          have HS7 : Hid (X7.heap.size = X6.heap.size) := hs7
          clear hs7
          go_wp2_with fail
          refine wp_region_noPanic ?_
          refine wp_region_sink 6 (S := fun W => Below X7.heap.size X7 W) (by kernel_rfl) (by kernel_rfl) (Below.refl _ _).drew (fun hHeld => ?_)
          refine wpAnyH_take (i := 0) (v := .pointer (some ⟨q, 0, none⟩)) rfl (by kernel_rfl) (by kernel_rfl) (by kernel_rfl) (fun _ _ _ h => h) (Or.inl ⟨by rfl, fun W hSw => by (try dsimp only at hSw); go_simp⟩) (by assumption) ?_
          simp only [List.getElem_toArray, List.getElem_cons_zero, List.getElem_cons_succ, Act.put, List.setIfInBounds_toArray, List.set_cons_zero, List.set_cons_succ]
          refine wpAnyH_take (i := 1) (v := .pointer (some ⟨X2.heap.size, 0, none⟩)) rfl (by kernel_rfl) (by kernel_rfl) (by kernel_rfl) (fun _ _ _ h => h) (Or.inl ⟨by rfl, fun W hSw => by (try dsimp only at hSw); go_simp⟩) (by assumption) ?_
          simp only [List.getElem_toArray, List.getElem_cons_zero, List.getElem_cons_succ, Act.put, List.setIfInBounds_toArray, List.set_cons_zero, List.set_cons_succ]
          refine wpAnyH_take (i := 2) (v := .agg #[.int .u64 At, .slice bd Bs.length bp]) rfl (by kernel_rfl) (by kernel_rfl) (by kernel_rfl) (fun _ _ _ h => h) (Or.inl ⟨by rfl, fun W hSw => by (try dsimp only at hSw); go_simp⟩) (by assumption) ?_
          simp only [List.getElem_toArray, List.getElem_cons_zero, List.getElem_cons_succ, Act.put, List.setIfInBounds_toArray, List.set_cons_zero, List.set_cons_succ]
          refine wpAnyH_ready (rs := [3]) (by kernel_rfl) (by simp) ?_
          refine AllReadyH.cons rfl (fun K hK => ?_) AllReadyH.nil
          go_simp
          go_wp2_with (go_at_call 73; refine (ce _).mono ?_; rintro e8 X8 ⟨rfl, hb8⟩)
          refine hK.out _ _ (keep2 (by assumption) (by assumption)) (fun hHeld2 => ?_)
          clear hK K
          refine wpAnyH_take (i := 4) (v := .pointer (some ⟨q, 0, none⟩)) rfl (by kernel_rfl) (by kernel_rfl) (by kernel_rfl) (fun _ _ _ h => h) (Or.inl ⟨by rfl, fun W hSw => by (try dsimp only at hSw); go_simp⟩) (by assumption) ?_
          simp only [List.getElem_toArray, List.getElem_cons_zero, List.getElem_cons_succ, Act.put, List.setIfInBounds_toArray, List.set_cons_zero, List.set_cons_succ]
          refine wpAnyH_take (i := 5) (v := .pointer (some ⟨q, 6, none⟩)) rfl (by kernel_rfl) (by kernel_rfl) (by kernel_rfl) (fun _ _ _ h => h) (Or.inl ⟨by rfl, fun W hSw => by (try dsimp only at hSw); go_simp⟩) (by assumption) ?_
          simp only [List.getElem_toArray, List.getElem_cons_zero, List.getElem_cons_succ, Act.put, List.setIfInBounds_toArray, List.set_cons_zero, List.set_cons_succ]
          have hs7 := HS7.out
          have hG8 := (hHeld2.block q (by omega)).trans hG7
          have hC8 := (hHeld2.block w.heap.size (by omega)).trans hC7
          have x86 : X8.cell? ⟨q, 6, none⟩ = some (.int .u64 At) := by rw [cell_of_row _ _ 6 _ _ (0, 0) hG8]; rfl
          have f86 := frozen_of_row X8 q 6 _ _ hG8
          have hG9 := heap_setCell_same X8 q 6 _ _ (.int .u64 ((At : Int) + (Bs.length : Int))) hG8
          have HW8 := HW7.keep hHeld2.size (fun j _ hj => hHeld2.block j hj)
          have hs78 := hHeld2.size
          obtain ⟨X9, hX9⟩ : ∃ X9, X8.setCell ⟨q, 6, none⟩ (.int .u64 ((At : Int) + (Bs.length : Int))) = X9 := ⟨_, rfl⟩
          have hS89 : Sole [q] X8 X9 := by rw [← hX9]; exact Sole.setCell _ _ (by simp)
          rw [hX9] at hG9
          have hs89 := hS89.size
          have HC9 : Hid _ := (hS89.block w.heap.size (by omega) (by simp; omega)).trans hC8
          have HW9 : Hid _ := HW8.keep hS89.size (fun j hj hl => hS89.block j hl (by simp; omega))
          have hS9 : Sole [q] w X9 := (hS7.trans (Sole.of_below hHeld2 _)).trans hS89
          have HG9 : Hid _ := hG9
          have hs9 : w.heap.size < X9.heap.size := by omega
          clear p0 pd0 pd1 hG7 hC7 hg7 HW7 hG8 hC8 HW8 hG9 hs7 HS7
          refine wpAnyH_done (by kernel_rfl) ?_ _
          refine Behind.run (by rfl) ?_
          go_simp
          go_wp2
          refine NoPanic.normal ?_
          go_wp2
          go_roundw
          case rel =>
            refine ⟨k + 1, K ++ [⟨At, Bs, bd, bp, Gs, ad, ap, Bg⟩], a6, c6, At + Bs.length, by omega, by go_num, ?_, HC9.out, ?_, by simp; omega, ?_, H2, by omega, hS9, hs9⟩
            · rw [List.length_append]; exact HG9.out
            · rw [List.length_append]; exact HW9.out
            · unfold Hid; rw [List.map_append]; exact H1.out
          case measure => simp [RowKit.intOf]; omega
        · have hB : ((At : Int) == (e : Int)) = false := by simp; omega
          by_cases h2 : e < At
          · have hgt : (e : Int) < At := by omega
            by_cases h3 : Bg = true
            · have H1 := HK2 (.inr ⟨h2, h3⟩)
              have H2 := HE2 (.inr ⟨h2, h3⟩)
              subst h3
              clear HK2 HE2 HK3 HE3
              go_quiet (fail)
              obtain ⟨X4, hX4⟩ : ∃ X4, X3.drewN nq = X4 := ⟨_, rfl⟩
              have hb4 : Below X3.heap.size X3 X4 := by rw [← hX4]; exact below_drewN (Below.refl _ X3) _
              have hs4 : X4.heap.size = X3.heap.size := by rw [← hX4]; rfl
              rw [hX4]
              clear hX4 d0 d3 u0 u6 hB
              have hG4 := (hb4.block _ (by omega : q < X3.heap.size)).trans hG3
              have hC4 := (hb4.block _ (by omega : w.heap.size < X3.heap.size)).trans hC3
              have hg4 := (hb4.block _ hltX3).trans hgX3
              have HX4 : WmAt (w.heap.size + 1) X4 ⟨At, Bs, bd, bp, Gs, ad, ap, true⟩ := ⟨own_keep HX3.b hb4.size (fun j _ hj => hb4.block j hj), own_keep HX3.g hb4.size (fun j _ hj => hb4.block j hj)⟩
              have HW4 := HW3.keep hb4.size (fun j _ hj => hb4.block j hj)
              have hS4 : Sole [q] w X4 := hS3.trans (Sole.of_below hb4 _)
              obtain ⟨RB, HRB⟩ : ∃ RB : List Nat, Hid (RB = (Value.slice aK K.length cK).ownBlock.toList) := ⟨_, rfl⟩
              have hRBn : ∀ j ∈ RB, w.heap.size + 1 ≤ j := fun j hj => by
                rw [HRB.out, Option.mem_toList] at hj
                exact (World.ownsRow.lt HW4.own j hj).1
              have hRBp : X2.heap.size ∉ RB := fun hj => by
                rw [HRB.out, Option.mem_toList] at hj
                have := HLO _ hj
                omega
              have q0 : ∀ W, Sole RB X4 W → W.cell? ⟨w.heap.size, 0, none⟩ = some (.pointer (some ⟨q, 0, none⟩)) := fun W hW => by
                rw [cell_of_row _ _ 0 _ _ (0, 0) ((hW.block _ (by omega) (fun h => by have := hRBn _ h; omega)).trans hC4)]; rfl
              have q5 : ∀ W, Sole RB X4 W → W.cell? ⟨q, 5, none⟩ = some (.slice aK K.length cK) := fun W hW => by
                rw [cell_of_row _ _ 5 _ _ (0, 0) ((hW.block _ (by omega) (fun h => by have := hRBn _ h; omega)).trans hG4)]; rfl
              have qd : ∀ j v, (#[.int .u64 At, .slice bd Bs.length bp, .slice ad Gs.length ap, .bool true] : Array Value)[j]? = some v → ∀ W, Sole RB X4 W → W.cell? ⟨X2.heap.size, j, none⟩ = some v := fun j v hv W hW => by
                rw [cell_of_row _ _ j _ _ (0, 0) ((hW.block _ (by omega) hRBp).trans hg4)]; exact hv
              have qd0 := qd 0 _ rfl
              have qd1 := qd 1 _ rfl
              have qd2 := qd 2 _ rfl
              have qd3 := qd 3 _ rfl
              clear qd
              go_wp2_with fail
              refine wp_region_noPanic ?_
              refine wp_region_sink 10 (S := fun W => Sole RB X4 W) (by kernel_rfl) (by kernel_rfl) (Sole.drew _ _) (fun hHeld => ?_)
              refine wpAnyH_take (i := 0) (v := .pointer (some ⟨q, 0, none⟩)) rfl (by kernel_rfl) (by kernel_rfl) (by kernel_rfl) (fun _ _ _ h => h) (Or.inl ⟨by rfl, fun W hSw => by (try dsimp only at hSw); go_simp⟩) (by assumption) ?_
              simp only [List.getElem_toArray, List.getElem_cons_zero, List.getElem_cons_succ, Act.put, List.setIfInBounds_toArray, List.set_cons_zero, List.set_cons_succ]
              refine wpAnyH_take (i := 1) (v := .pointer (some ⟨q, 0, none⟩)) rfl (by kernel_rfl) (by kernel_rfl) (by kernel_rfl) (fun _ _ _ h => h) (Or.inl ⟨by rfl, fun W hSw => by (try dsimp only at hSw); go_simp⟩) (by assumption) ?_
              simp only [List.getElem_toArray, List.getElem_cons_zero, List.getElem_cons_succ, Act.put, List.setIfInBounds_toArray, List.set_cons_zero, List.set_cons_succ]
              refine wpAnyH_take (i := 2) (v := .pointer (some ⟨q, 0, none⟩)) rfl (by kernel_rfl) (by kernel_rfl) (by kernel_rfl) (fun _ _ _ h => h) (Or.inl ⟨by rfl, fun W hSw => by (try dsimp only at hSw); go_simp⟩) (by assumption) ?_
              simp only [List.getElem_toArray, List.getElem_cons_zero, List.getElem_cons_succ, Act.put, List.setIfInBounds_toArray, List.set_cons_zero, List.set_cons_succ]
              refine wpAnyH_take (i := 3) (v := .pointer (some ⟨q, 5, none⟩)) rfl (by kernel_rfl) (by kernel_rfl) (by kernel_rfl) (fun _ _ _ h => h) (Or.inl ⟨by rfl, fun W hSw => by (try dsimp only at hSw); go_simp⟩) (by assumption) ?_
              simp only [List.getElem_toArray, List.getElem_cons_zero, List.getElem_cons_succ, Act.put, List.setIfInBounds_toArray, List.set_cons_zero, List.set_cons_succ]
              refine wpAnyH_take (i := 4) (v := .slice aK K.length cK) rfl (by kernel_rfl) (by kernel_rfl) (by kernel_rfl) (fun _ _ _ h => h) (Or.inl ⟨by rfl, fun W hSw => by (try dsimp only at hSw); go_simp⟩) (by assumption) ?_
              simp only [List.getElem_toArray, List.getElem_cons_zero, List.getElem_cons_succ, Act.put, List.setIfInBounds_toArray, List.set_cons_zero, List.set_cons_succ]
              refine wpAnyH_take (i := 5) (v := .agg #[.int .u64 At, .slice bd Bs.length bp, .slice ad Gs.length ap, .bool true]) rfl (by kernel_rfl) (by kernel_rfl) (by kernel_rfl) (fun _ _ _ h => h) (Or.inl ⟨by rfl, fun W hSw => by (try dsimp only at hSw); go_simp⟩) (by assumption) ?_
              simp only [List.getElem_toArray, List.getElem_cons_zero, List.getElem_cons_succ, Act.put, List.setIfInBounds_toArray, List.set_cons_zero, List.set_cons_succ]
              refine wpAnyH_ready (rs := [6]) (by kernel_rfl) (by simp) ?_
              refine AllReadyH.cons rfl (fun K hK => ?_) AllReadyH.nil
              go_simp
              go_wp2
              refine hK.out _ _ (keepSA (by assumption) _) (fun hHeld2 => ?_)
              clear hK K
              obtain ⟨X5, hX5⟩ : ∃ X5, (X4.alloc (.cells #[.int .u64 At, .slice bd Bs.length bp, .slice ad Gs.length ap, .bool true] 126)).drew = X5 := ⟨_, rfl⟩
              have hnew : X5.heap[X4.heap.size]? = some (.cells #[.int .u64 At, .slice bd Bs.length bp, .slice ad Gs.length ap, .bool true] 126 (0, 0)) := by rw [← hX5]; exact heap_alloc_new X4 _
              have hb45 : Below X4.heap.size X4 X5 := by rw [← hX5]; exact ((Below.refl _ X4).alloc (Nat.le_refl _) _).drew
              rw [hX5] at hHeld2 ⊢
              have HW5 := HW4.keep hb45.size (fun j _ hj => hb45.block j hj)
              have HX5 : WmAt (w.heap.size + 1) X5 ⟨At, Bs, bd, bp, Gs, ad, ap, true⟩ := ⟨own_keep HX4.b hb45.size (fun j _ hj => hb45.block j hj), own_keep HX4.g hb45.size (fun j _ hj => hb45.block j hj)⟩
              have hs45 := hb45.size
              rw [hs4] at hnew
              refine wpAnyH_ready (rs := [7]) (by kernel_rfl) (by simp) ?_
              refine AllReadyH.cons rfl (fun K' hK' => ?_) AllReadyH.nil
              rw [if_pos (by rfl)]
              obtain ⟨v6, X6, hrun, h6o, h6g, _, h6a⟩ := run_append_own_at (P := Tryz.prog) X5 (w.heap.size + 1) 86 86 126 iW _ 4 64 Tryz.underlying86 hiW hW0 hW1 hW2 rfl (by decide) (.slice aK K.length cK) K.length (K.flatMap wmC) HW5.own ⟨X3.heap.size, 0, none⟩ 1 1 (wmC ⟨At, Bs, bd, bp, Gs, ad, ap, true⟩) rfl (rowAdd hnew) (by simp [wmC, Wm.bv, Wm.gv, Value.oneCell']) (by unfold maxLen; omega) (by omega) (by omega)
              obtain ⟨a6, c6, rfl⟩ := own_shape h6o
              have hrun' := hrun
              refine wp_app _ _ 86 rfl _ _ rfl (by first | rfl | (rw [hs4]; rfl)) hrun ?_
              have hS56 : Sole RB X5 X6 := ⟨h6g.os, h6g.tape, h6g.output, h6g.size, fun j hj hn => h6g.block j hj (fun h => hn (by rw [HRB.out, Option.mem_toList]; exact h.symm))⟩
              have hS46 : Sole RB X4 X6 := hHeld2.trans hS56
              have HW6 := HW5.snoc h6o h6g HX5 HAP.out
              refine hK'.out _ _ hS46 (fun hHeld4 => ?_)
              clear hK' K'
              simp only [List.getElem_toArray, List.getElem_cons_zero, List.getElem_cons_succ, Act.put, List.setIfInBounds_toArray, List.set_cons_zero, List.set_cons_succ]
              refine wpAnyH_take (i := 8) (v := .pointer (some ⟨q, 0, none⟩)) rfl (by kernel_rfl) (by kernel_rfl) (by kernel_rfl) (fun _ _ _ h => h) (Or.inl ⟨by rfl, fun W hSw => by (try dsimp only at hSw); go_simp⟩) (by assumption) ?_
              simp only [List.getElem_toArray, List.getElem_cons_zero, List.getElem_cons_succ, Act.put, List.setIfInBounds_toArray, List.set_cons_zero, List.set_cons_succ]
              refine wpAnyH_take (i := 9) (v := .pointer (some ⟨q, 5, none⟩)) rfl (by kernel_rfl) (by kernel_rfl) (by kernel_rfl) (fun _ _ _ h => h) (Or.inl ⟨by rfl, fun W hSw => by (try dsimp only at hSw); go_simp⟩) (by assumption) ?_
              simp only [List.getElem_toArray, List.getElem_cons_zero, List.getElem_cons_succ, Act.put, List.setIfInBounds_toArray, List.set_cons_zero, List.set_cons_succ]
              have hG6 := (hS46.block q (by omega) (fun h => by have := hRBn _ h; omega)).trans hG4
              have hC6 := (hS46.block w.heap.size (by omega) (fun h => by have := hRBn _ h; omega)).trans hC4
              have hg6 := (hS46.block X2.heap.size (by omega) hRBp).trans hg4
              have x65 := q5 X6 hS46
              have f65 := frozen_of_row X6 q 5 _ _ hG6
              have hG7 := heap_setCell_same X6 q 5 _ _ (.slice a6 (K.length + 1) c6) hG6
              obtain ⟨X7, hX7⟩ : ∃ X7, X6.setCell ⟨q, 5, none⟩ (.slice a6 (K.length + 1) c6) = X7 := ⟨_, rfl⟩
              have hS67 : Sole [q] X6 X7 := by rw [← hX7]; exact Sole.setCell _ _ (by simp)
              have hs7 : X7.heap.size = X6.heap.size := by rw [← hX7]; simp [World.setCell]
              have hs46 := hS46.size
              rw [hX7] at hG7
              have hC7 := (hS67.block w.heap.size (by omega) (by simp; omega)).trans hC6
              have hg7 := (hS67.block X2.heap.size (by omega) (by simp; omega)).trans hg6
              have HW7 := HW6.keep hS67.size (fun j hj hl => hS67.block j hl (by simp; omega))
              have hS7 : Sole [q] w X7 := (hS4.after hS46 (fun j hj => .inr (by have := hRBn j hj; omega))).trans hS67
              refine wpAnyH_done (by kernel_rfl) ?_ _
              refine Behind.run (by rfl) ?_
              go_simp
              go_wp2
              refine NoPanic.normal ?_
              clear q0 q5 qd0 qd1 qd2 qd3 x65 f65 hrun hrun' h6o h6g h6a HX4 HX5 HW4 HW5 HW6 hnew HX3 HW3 hG4 hC4 hg4 hG6 hC6 hg6
              have p0 : ∀ W, Below X7.heap.size X7 W → W.cell? ⟨w.heap.size, 0, none⟩ = some (.pointer (some ⟨q, 0, none⟩)) := fun W hW => by
                rw [cell_of_row _ _ 0 _ _ (0, 0) ((hW.block _ (by omega)).trans hC7)]; rfl
              have pd0 : ∀ W, Below X7.heap.size X7 W → W.cell? ⟨X2.heap.size, 0, none⟩ = some (.int .u64 At) := fun W hW => by
                rw [cell_of_row _ _ 0 _ _ (0, 0) ((hW.block _ (by omega)).trans hg7)]; rfl
              have pd1 : ∀ W, Below X7.heap.size X7 W → W.cell? ⟨X2.heap.size, 1, none⟩ = some (.slice bd Bs.length bp) := fun W hW => by
                rw [cell_of_row _ _ 1 _ _ (0, 0) ((hW.block _ (by omega)).trans hg7)]; rfl
              have ce := fun W => end_any W At bd Bs.length bp (by omega) (by omega)
              have HS7 : Hid (X7.heap.size = X6.heap.size) := hs7
              clear hs7
              go_wp2_with fail
              refine wp_region_noPanic ?_
              refine wp_region_sink 6 (S := fun W => Below X7.heap.size X7 W) (by kernel_rfl) (by kernel_rfl) (Below.refl _ _).drew (fun hHeld => ?_)
              refine wpAnyH_take (i := 0) (v := .pointer (some ⟨q, 0, none⟩)) rfl (by kernel_rfl) (by kernel_rfl) (by kernel_rfl) (fun _ _ _ h => h) (Or.inl ⟨by rfl, fun W hSw => by (try dsimp only at hSw); go_simp⟩) (by assumption) ?_
              simp only [List.getElem_toArray, List.getElem_cons_zero, List.getElem_cons_succ, Act.put, List.setIfInBounds_toArray, List.set_cons_zero, List.set_cons_succ]
              refine wpAnyH_take (i := 1) (v := .pointer (some ⟨X2.heap.size, 0, none⟩)) rfl (by kernel_rfl) (by kernel_rfl) (by kernel_rfl) (fun _ _ _ h => h) (Or.inl ⟨by rfl, fun W hSw => by (try dsimp only at hSw); go_simp⟩) (by assumption) ?_
              simp only [List.getElem_toArray, List.getElem_cons_zero, List.getElem_cons_succ, Act.put, List.setIfInBounds_toArray, List.set_cons_zero, List.set_cons_succ]
              refine wpAnyH_take (i := 2) (v := .agg #[.int .u64 At, .slice bd Bs.length bp]) rfl (by kernel_rfl) (by kernel_rfl) (by kernel_rfl) (fun _ _ _ h => h) (Or.inl ⟨by rfl, fun W hSw => by (try dsimp only at hSw); go_simp⟩) (by assumption) ?_
              simp only [List.getElem_toArray, List.getElem_cons_zero, List.getElem_cons_succ, Act.put, List.setIfInBounds_toArray, List.set_cons_zero, List.set_cons_succ]
              refine wpAnyH_ready (rs := [3]) (by kernel_rfl) (by simp) ?_
              refine AllReadyH.cons rfl (fun K hK => ?_) AllReadyH.nil
              go_simp
              go_wp2_with (go_at_call 73; refine (ce _).mono ?_; rintro e8 X8 ⟨rfl, hb8⟩)
              refine hK.out _ _ (keep2 (by assumption) (by assumption)) (fun hHeld2 => ?_)
              clear hK K
              refine wpAnyH_take (i := 4) (v := .pointer (some ⟨q, 0, none⟩)) rfl (by kernel_rfl) (by kernel_rfl) (by kernel_rfl) (fun _ _ _ h => h) (Or.inl ⟨by rfl, fun W hSw => by (try dsimp only at hSw); go_simp⟩) (by assumption) ?_
              simp only [List.getElem_toArray, List.getElem_cons_zero, List.getElem_cons_succ, Act.put, List.setIfInBounds_toArray, List.set_cons_zero, List.set_cons_succ]
              refine wpAnyH_take (i := 5) (v := .pointer (some ⟨q, 6, none⟩)) rfl (by kernel_rfl) (by kernel_rfl) (by kernel_rfl) (fun _ _ _ h => h) (Or.inl ⟨by rfl, fun W hSw => by (try dsimp only at hSw); go_simp⟩) (by assumption) ?_
              simp only [List.getElem_toArray, List.getElem_cons_zero, List.getElem_cons_succ, Act.put, List.setIfInBounds_toArray, List.set_cons_zero, List.set_cons_succ]
              have hs7 := HS7.out
              have hG8 := (hHeld2.block q (by omega)).trans hG7
              have hC8 := (hHeld2.block w.heap.size (by omega)).trans hC7
              have x86 : X8.cell? ⟨q, 6, none⟩ = some (.int .u64 e) := by rw [cell_of_row _ _ 6 _ _ (0, 0) hG8]; rfl
              have f86 := frozen_of_row X8 q 6 _ _ hG8
              have hG9 := heap_setCell_same X8 q 6 _ _ (.int .u64 ((At : Int) + (Bs.length : Int))) hG8
              have HW8 := HW7.keep hHeld2.size (fun j _ hj => hHeld2.block j hj)
              have hs78 := hHeld2.size
              obtain ⟨X9, hX9⟩ : ∃ X9, X8.setCell ⟨q, 6, none⟩ (.int .u64 ((At : Int) + (Bs.length : Int))) = X9 := ⟨_, rfl⟩
              have hS89 : Sole [q] X8 X9 := by rw [← hX9]; exact Sole.setCell _ _ (by simp)
              rw [hX9] at hG9
              have hs89 := hS89.size
              have HC9 : Hid _ := (hS89.block w.heap.size (by omega) (by simp; omega)).trans hC8
              have HW9 : Hid _ := HW8.keep hS89.size (fun j hj hl => hS89.block j hl (by simp; omega))
              have hS9 : Sole [q] w X9 := (hS7.trans (Sole.of_below hHeld2 _)).trans hS89
              have HG9 : Hid _ := hG9
              have hs9 : w.heap.size < X9.heap.size := by omega
              clear p0 pd0 pd1 hG7 hC7 hg7 HW7 hG8 hC8 HW8 hG9 hs7 HS7
              refine wpAnyH_done (by kernel_rfl) ?_ _
              refine Behind.run (by rfl) ?_
              go_simp
              go_wp2
              refine NoPanic.normal ?_
              go_wp2
              go_roundw
              case rel =>
                refine ⟨k + 1, K ++ [⟨At, Bs, bd, bp, Gs, ad, ap, true⟩], a6, c6, At + Bs.length, by omega, by go_num, ?_, HC9.out, ?_, by simp; omega, ?_, H2, by omega, hS9, hs9⟩
                · rw [List.length_append]; exact HG9.out
                · rw [List.length_append]; exact HW9.out
                · unfold Hid; rw [List.map_append]; exact H1.out
              case measure => simp [RowKit.intOf]; omega
            · have hn : ¬ (At = e ∨ (e < At ∧ Bg = true)) := fun h => h.elim h1 (fun h => h3 h.2)
              have H1 := HK3 hn
              have H2 := HE3 hn
              have h3' : Bg = false := by simpa using h3
              subst h3'
              clear HK2 HE2 HK3 HE3
              go_quiet (fail)
              go_wp2
              go_roundw
              case rel =>
                have hb : Below X3.heap.size X3 (X3.drewN nq) := below_drewN (Below.refl _ X3) _
                exact ⟨k + 1, K, aK, cK, e, by omega, by go_num, (hb.block _ (by omega)).trans hG3, (hb.block _ (by omega)).trans hC3, HW3.keep hb.size (fun j _ hj => hb.block j hj), by omega, H1, H2, he, hS3.trans (Sole.of_below hb _), by have := hb.size; omega⟩
              case measure => simp [RowKit.intOf]; omega
          · have hgt : ¬ (e : Int) < At := by omega
            have hn : ¬ (At = e ∨ (e < At ∧ Bg = true)) := fun h => h.elim h1 (fun h => h2 h.1)
            have H1 := HK3 hn
            have H2 := HE3 hn
            clear HK2 HE2 HK3 HE3
            go_quiet (fail)
            go_wp2
            go_roundw
            case rel =>
              have hb : Below X3.heap.size X3 (X3.drewN nq) := below_drewN (Below.refl _ X3) _
              exact ⟨k + 1, K, aK, cK, e, by omega, by go_num, (hb.block _ (by omega)).trans hG3, (hb.block _ (by omega)).trans hC3, HW3.keep hb.size (fun j _ hj => hb.block j hj), by omega, H1, H2, he, hS3.trans (Sole.of_below hb _), by have := hb.size; omega⟩
            case measure => simp [RowKit.intOf]; omega
    · obtain rfl : k = L.length := by omega
      rw [List.drop_length] at HKL HKE
      have hG := HG.out
      go_wp2
      go_end0
      refine ⟨rfl, aK, cK, K, ?_, ?_, ?_, hSr⟩
      · have := HKL.out; simpa [keepL] using this
      · rw [← HKE.out]; exact hG
      · exact HW.out.mono' (Nat.le_succ _)

end Go.Proofs.YtckcdmkgmbicfaaGreat
