/- WEnc, WRingC, WReadP, WTryP, WFindA: in one text. -/
import Derived.Test.YtckcdmkgmbicfaaGreatMW2
import Derived.Test.YtckcdmkgmbicfaaGreatIConcat
import Derived.Test.YtckcdmkgmbicfaaGreatSeal
import Derived.Deep.RegionHeld3
import Derived.Test.YtckcdmkgmbicfaaGreatDRead
import Derived.Test.YtckcdmkgmbicfaaGreatDWrite
import Derived.Test.YtckcdmkgmbicfaaGreatDBar
import Derived.BigQuiet
import Derived.Test.YtckcdmkgmbicfaaGreatUnseal
import Derived.Maps.AppendAt
namespace Go.Proofs.YtckcdmkgmbicfaaGreat
open Go.RowKit
set_option linter.unusedVariables false
set_option linter.unusedSimpArgs false
set_option maxRecDepth 4000

theorem keepA {w1 W : World} (h : Below w1.heap.size w1 W) (o : Obj) : Below w1.heap.size w1 (W.alloc o) := h.alloc h.size o
theorem thenB {A B C : World} (h : Below A.heap.size A B) (k : Below B.heap.size B C) : Below A.heap.size A C := h.trans (k.mono h.size)

theorem below_setRow {B : Nat} {w0 w : World} {g : Nat} (hb : Below B w0 w) (hg : B ≤ g) (cs : Array Value) : Below B w0 (w.setRow g cs) := by
  refine ⟨hb.os, hb.tape, hb.output, by simpa [World.setRow] using hb.size, fun k hk => ?_⟩
  rw [← hb.block k hk]
  simp only [World.setRow, Array.getElem?_modify]
  rw [if_neg (by omega)]

theorem concat_lit (w : World) (us : List Value) (L : List (List Int)) (hl : us.length = L.length) (hn : us.length ≤ 100) (hr : ∀ i, i < us.length → Rd w (us.getD i undef) (L.getD i [])) (hs : L.flatten.length ≤ 140737488355328) :
    Calls Tryz.prog 79 #[.slice (some ⟨w.heap.size, 0, none⟩) us.length us.length] (w.alloc (.cells us.toArray 80)) fun e w' => ∃ v, e = .returned v ∧ Own w' w.heap.size v L.flatten ∧ Below w.heap.size w w' := by
  have hB : Below w.heap.size w (w.alloc (.cells us.toArray 80)) := (Below.refl _ w).alloc (Nat.le_refl _) _
  refine (concat_any (w.alloc (.cells us.toArray 80)) w.heap.size us.length (fun i => us.getD i undef) L hl.symm (by unfold maxLen; omega) (by simp) ?_ (fun i hi => (hr i hi).below hB) hs).mono ?_
  · intro i hi
    rw [cell_of_row _ _ i _ _ _ (heap_alloc_new w _)]
    rw [List.getElem?_toArray, List.getD_eq_getElem?_getD, List.getElem?_eq_getElem hi]
    rfl
  · rintro e w' ⟨v, rfl, ho, hb⟩
    exact ⟨v, rfl, ho.mono hB.size, hB.trans (hb.mono hB.size)⟩

/-- A number of so many bytes that fits. -/
theorem wfix_fits (w : World) (n k : Nat) (h1 : 1 ≤ k) (h2 : k ≤ 8) (hn : n < 256 ^ k) : Calls Tryz.prog 80 #[.int .u64 n, .int .i64 k] w fun e w' => ∃ a c, e = .returned (.slice a k c) ∧ Own w' w.heap.size (.slice a k c) (fixB n k) ∧ Below w.heap.size w w' := by
  have h64 : (n : Int) < 2 ^ 64 := by
    have : 256 ^ k ≤ 256 ^ 8 := Nat.pow_le_pow_right (by decide) h2
    have e : (256 : Nat) ^ 8 = 18446744073709551616 := by decide
    omega
  have hE : fixE n k = 0 := by
    unfold fixE
    rw [if_neg (by omega), if_neg]
    have : n / 2 ^ (8 * k) = 0 := Nat.div_eq_of_lt (by rw [Nat.pow_mul]; exact hn)
    rw [Int.toNat_natCast, div_nat, this]
    decide
  have hL : fixL n k = fixB n k := by unfold fixL; rw [if_pos hE, Int.toNat_natCast, Int.toNat_natCast]
  have h := wfixed_any w n k (by omega) h64
  rw [hL, fixB_length] at h
  exact h

def pcV (p : Pc) (v : Value) : Value := .agg #[.int .u8 p.kind, .int .u64 p.tail, .int .u64 p.at_, .int .i64 p.index, .int .i64 p.length, v]

set_option maxRecDepth 100000 in
set_option maxHeartbeats 4000000 in
theorem encode_any (w : World) (p : Pc) (h : PcOk p) (v : Value) (hr : Rd w v p.body) :
    Calls Tryz.prog 56 #[pcV p v] w fun e w' => ∃ a c, e = .returned (.slice a 512 c) ∧ Rd w' (.slice a 512 c) (encP p) ∧ Below w.heap.size w w' := by
  obtain ⟨bd, bc, rfl, hb1, hb2, hb3, hb4⟩ := id hr
  have hbl := h.body
  have hby := h.byt
  have hel := encP_length hbl
  unfold pcV
  obtain ⟨K, hK⟩ : ∃ K, p.kind = K := ⟨_, rfl⟩
  obtain ⟨tl, htl⟩ : ∃ tl, p.tail = tl := ⟨_, rfl⟩
  obtain ⟨a, ha⟩ : ∃ a, p.at_ = a := ⟨_, rfl⟩
  obtain ⟨x, hx⟩ : ∃ x, p.index = x := ⟨_, rfl⟩
  obtain ⟨l, hl⟩ : ∃ l, p.length = l := ⟨_, rfl⟩
  have HH : Hid (headL p = [fixB K 1, fixB tl 8, fixB a 8, fixB x 1, fixB l 2].flatten) := by unfold Hid; unfold headL; rw [hK, htl, ha, hx, hl]; simp
  have k0 := h.kind; have t0 := h.tail; have a0 := h.at_; have x0 := h.index; have l0 := h.length
  rw [hK] at k0 ⊢; rw [htl] at t0 ⊢; rw [ha] at a0 ⊢; rw [hx] at x0 ⊢; rw [hl] at l0 ⊢
  have HP : Hid (padL p = (headL p ++ p.body) ++ List.replicate (508 - (headL p ++ p.body).length) 0) := by
    unfold Hid; unfold padL; rw [List.length_append, headL_length]; congr 2; omega
  have HE : Hid (encP p = padL p ++ sealB (padL p)) := rfl
  have hpy := padL_byt hby
  have hpl := padL_length hbl
  have hhl := headL_length p
  generalize hbn : p.body.length = bn at *
  obtain ⟨w1, hw1⟩ : ∃ w1, w.alloc (.cells #[.int .u8 K, .int .u64 tl, .int .u64 a, .int .i64 x, .int .i64 l, .slice bd bn bc] 82) = w1 := ⟨_, rfl⟩
  have hB : Below w.heap.size w w1 := by rw [← hw1]; exact (Below.refl _ w).alloc (Nat.le_refl _) _
  have hg1 : w1.heap[w.heap.size]? = some (.cells #[.int .u8 K, .int .u64 tl, .int .u64 a, .int .i64 x, .int .i64 l, .slice bd bn bc] 82 (0, 0)) := by rw [← hw1]; exact heap_alloc_new w _
  have hlt : w.heap.size < w1.heap.size := (Array.getElem?_eq_some_iff.1 hg1).1
  have hC : ∀ j v, (#[.int .u8 K, .int .u64 tl, .int .u64 a, .int .i64 x, .int .i64 l, .slice bd bn bc] : Array Value)[j]? = some v → ∀ W, Below w1.heap.size w1 W → W.cell? ⟨w.heap.size, j, none⟩ = some v := fun j v hv W hW => by
    rw [cell_of_row W _ j _ _ (0, 0) ((hW.block _ hlt).trans hg1)]; exact hv
  have hC0 := hC 0 _ rfl
  have hC1 := hC 1 _ rfl
  have hC2 := hC 2 _ rfl
  have hC3 := hC 3 _ rfl
  have hC4 := hC 4 _ rfl
  have hC5 := hC 5 _ rfl
  have f1 : ∀ W, Calls Tryz.prog 80 #[.int .u64 K, .int .i64 1] W fun e w' => ∃ a c, e = .returned (.slice a 1 c) ∧ Own w' W.heap.size (.slice a 1 c) (fixB K 1) ∧ Below W.heap.size W w' := fun W => wfix_fits W K 1 (by decide) (by decide) (by omega)
  have f2 : ∀ W, Calls Tryz.prog 80 #[.int .u64 tl, .int .i64 8] W fun e w' => ∃ a c, e = .returned (.slice a 8 c) ∧ Own w' W.heap.size (.slice a 8 c) (fixB tl 8) ∧ Below W.heap.size W w' := fun W => wfix_fits W tl 8 (by decide) (by decide) (by omega)
  have f3 : ∀ W, Calls Tryz.prog 80 #[.int .u64 a, .int .i64 8] W fun e w' => ∃ a1 c, e = .returned (.slice a1 8 c) ∧ Own w' W.heap.size (.slice a1 8 c) (fixB a 8) ∧ Below W.heap.size W w' := fun W => wfix_fits W a 8 (by decide) (by decide) (by omega)
  have f4 : ∀ W, Calls Tryz.prog 80 #[.int .u64 x, .int .i64 1] W fun e w' => ∃ a c, e = .returned (.slice a 1 c) ∧ Own w' W.heap.size (.slice a 1 c) (fixB x 1) ∧ Below W.heap.size W w' := fun W => wfix_fits W x 1 (by decide) (by decide) (by omega)
  have f5 : ∀ W, Calls Tryz.prog 80 #[.int .u64 l, .int .i64 2] W fun e w' => ∃ a c, e = .returned (.slice a 2 c) ∧ Own w' W.heap.size (.slice a 2 c) (fixB l 2) ∧ Below W.heap.size W w' := fun W => wfix_fits W l 2 (by decide) (by decide) (by omega)
  clear h hC hg1 hlt hb4
  go_enter Tryz.func56, Tryz.ntmps56
  go_wp2_with fail
  refine wp_region_noPanic ?_
  refine wp_region_held_drew (S := fun W => Below w1.heap.size w1 W) (by kernel_rfl) (Below.refl _ _).drew (fun hHeld => ?_)
  refine wpAnyH_take (i := 0) (v := .pointer (some ⟨w.heap.size, 0, none⟩)) rfl (by kernel_rfl) (by kernel_rfl) (by kernel_rfl) (fun _ _ _ h => h) (Or.inl ⟨by rfl, fun W hSw => by (try dsimp only at hSw); go_simp⟩) (by assumption) ?_
  simp only [List.getElem_toArray, List.getElem_cons_zero, List.getElem_cons_succ, Act.put, List.setIfInBounds_toArray, List.set_cons_zero, List.set_cons_succ]
  refine wpAnyH_take (i := 1) (v := .int .u8 K) rfl (by kernel_rfl) (by kernel_rfl) (by kernel_rfl) (fun _ _ _ h => h) (Or.inl ⟨by rfl, fun W hSw => by (try dsimp only at hSw); go_simp⟩) (by assumption) ?_
  simp only [List.getElem_toArray, List.getElem_cons_zero, List.getElem_cons_succ, Act.put, List.setIfInBounds_toArray, List.set_cons_zero, List.set_cons_succ]
  refine wpAnyH_take (i := 2) (v := .int .u64 K) rfl (by kernel_rfl) (by kernel_rfl) (by kernel_rfl) (fun _ _ _ h => h) (Or.inl ⟨by rfl, fun W hSw => by (try dsimp only at hSw); (go_simp; rw [IntKind.wrap_u64]; omega)⟩) (by assumption) ?_
  simp only [List.getElem_toArray, List.getElem_cons_zero, List.getElem_cons_succ, Act.put, List.setIfInBounds_toArray, List.set_cons_zero, List.set_cons_succ]
  refine wpAnyH_take (i := 4) (v := .pointer (some ⟨w.heap.size, 1, none⟩)) rfl (by kernel_rfl) (by kernel_rfl) (by kernel_rfl) (fun _ _ _ h => h) (Or.inl ⟨by rfl, fun W hSw => by (try dsimp only at hSw); go_simp⟩) (by assumption) ?_
  simp only [List.getElem_toArray, List.getElem_cons_zero, List.getElem_cons_succ, Act.put, List.setIfInBounds_toArray, List.set_cons_zero, List.set_cons_succ]
  refine wpAnyH_take (i := 5) (v := .int .u64 tl) rfl (by kernel_rfl) (by kernel_rfl) (by kernel_rfl) (fun _ _ _ h => h) (Or.inl ⟨by rfl, fun W hSw => by (try dsimp only at hSw); go_simp⟩) (by assumption) ?_
  simp only [List.getElem_toArray, List.getElem_cons_zero, List.getElem_cons_succ, Act.put, List.setIfInBounds_toArray, List.set_cons_zero, List.set_cons_succ]
  refine wpAnyH_take (i := 7) (v := .pointer (some ⟨w.heap.size, 2, none⟩)) rfl (by kernel_rfl) (by kernel_rfl) (by kernel_rfl) (fun _ _ _ h => h) (Or.inl ⟨by rfl, fun W hSw => by (try dsimp only at hSw); go_simp⟩) (by assumption) ?_
  simp only [List.getElem_toArray, List.getElem_cons_zero, List.getElem_cons_succ, Act.put, List.setIfInBounds_toArray, List.set_cons_zero, List.set_cons_succ]
  refine wpAnyH_take (i := 8) (v := .int .u64 a) rfl (by kernel_rfl) (by kernel_rfl) (by kernel_rfl) (fun _ _ _ h => h) (Or.inl ⟨by rfl, fun W hSw => by (try dsimp only at hSw); go_simp⟩) (by assumption) ?_
  simp only [List.getElem_toArray, List.getElem_cons_zero, List.getElem_cons_succ, Act.put, List.setIfInBounds_toArray, List.set_cons_zero, List.set_cons_succ]
  refine wpAnyH_take (i := 10) (v := .pointer (some ⟨w.heap.size, 3, none⟩)) rfl (by kernel_rfl) (by kernel_rfl) (by kernel_rfl) (fun _ _ _ h => h) (Or.inl ⟨by rfl, fun W hSw => by (try dsimp only at hSw); go_simp⟩) (by assumption) ?_
  simp only [List.getElem_toArray, List.getElem_cons_zero, List.getElem_cons_succ, Act.put, List.setIfInBounds_toArray, List.set_cons_zero, List.set_cons_succ]
  refine wpAnyH_take (i := 11) (v := .int .i64 x) rfl (by kernel_rfl) (by kernel_rfl) (by kernel_rfl) (fun _ _ _ h => h) (Or.inl ⟨by rfl, fun W hSw => by (try dsimp only at hSw); go_simp⟩) (by assumption) ?_
  simp only [List.getElem_toArray, List.getElem_cons_zero, List.getElem_cons_succ, Act.put, List.setIfInBounds_toArray, List.set_cons_zero, List.set_cons_succ]
  refine wpAnyH_take (i := 12) (v := .int .u64 x) rfl (by kernel_rfl) (by kernel_rfl) (by kernel_rfl) (fun _ _ _ h => h) (Or.inl ⟨by rfl, fun W hSw => by (try dsimp only at hSw); (go_simp; rw [IntKind.wrap_u64]; omega)⟩) (by assumption) ?_
  simp only [List.getElem_toArray, List.getElem_cons_zero, List.getElem_cons_succ, Act.put, List.setIfInBounds_toArray, List.set_cons_zero, List.set_cons_succ]
  refine wpAnyH_take (i := 14) (v := .pointer (some ⟨w.heap.size, 4, none⟩)) rfl (by kernel_rfl) (by kernel_rfl) (by kernel_rfl) (fun _ _ _ h => h) (Or.inl ⟨by rfl, fun W hSw => by (try dsimp only at hSw); go_simp⟩) (by assumption) ?_
  simp only [List.getElem_toArray, List.getElem_cons_zero, List.getElem_cons_succ, Act.put, List.setIfInBounds_toArray, List.set_cons_zero, List.set_cons_succ]
  refine wpAnyH_take (i := 15) (v := .int .i64 l) rfl (by kernel_rfl) (by kernel_rfl) (by kernel_rfl) (fun _ _ _ h => h) (Or.inl ⟨by rfl, fun W hSw => by (try dsimp only at hSw); go_simp⟩) (by assumption) ?_
  simp only [List.getElem_toArray, List.getElem_cons_zero, List.getElem_cons_succ, Act.put, List.setIfInBounds_toArray, List.set_cons_zero, List.set_cons_succ]
  refine wpAnyH_take (i := 16) (v := .int .u64 l) rfl (by kernel_rfl) (by kernel_rfl) (by kernel_rfl) (fun _ _ _ h => h) (Or.inl ⟨by rfl, fun W hSw => by (try dsimp only at hSw); (go_simp; rw [IntKind.wrap_u64]; omega)⟩) (by assumption) ?_
  simp only [List.getElem_toArray, List.getElem_cons_zero, List.getElem_cons_succ, Act.put, List.setIfInBounds_toArray, List.set_cons_zero, List.set_cons_succ]
  refine wpAnyH_ready (rs := [3]) (by kernel_rfl) (by simp) ?_
  refine AllReadyH.cons rfl (fun K hK => ?_) AllReadyH.nil
  go_simp
  go_wp2_with (go_at_call 80; refine (f1 _).mono ?_; rintro e w2 ⟨a2, c2, rfl, ho2, hb2'⟩)
  refine hK.out _ _ (keep2 (by assumption) (by assumption)) (fun hHeld2 => ?_)
  clear hK K
  refine wpAnyH_ready (rs := [6]) (by kernel_rfl) (by simp) ?_
  refine AllReadyH.cons rfl (fun K hK => ?_) AllReadyH.nil
  go_simp
  go_wp2_with (go_at_call 80; refine (f2 _).mono ?_; rintro e w3 ⟨a3, c3, rfl, ho3, hb3'⟩)
  refine hK.out _ _ (keep2 (by assumption) (by assumption)) (fun hHeld2 => ?_)
  clear hK K
  refine wpAnyH_ready (rs := [9]) (by kernel_rfl) (by simp) ?_
  refine AllReadyH.cons rfl (fun K hK => ?_) AllReadyH.nil
  go_simp
  go_wp2_with (go_at_call 80; refine (f3 _).mono ?_; rintro e w4 ⟨a4, c4, rfl, ho4, hb4'⟩)
  refine hK.out _ _ (keep2 (by assumption) (by assumption)) (fun hHeld2 => ?_)
  clear hK K
  refine wpAnyH_ready (rs := [13]) (by kernel_rfl) (by simp) ?_
  refine AllReadyH.cons rfl (fun K hK => ?_) AllReadyH.nil
  go_simp
  go_wp2_with (go_at_call 80; refine (f4 _).mono ?_; rintro e w5 ⟨a5, c5, rfl, ho5, hb5'⟩)
  refine hK.out _ _ (keep2 (by assumption) (by assumption)) (fun hHeld2 => ?_)
  clear hK K
  refine wpAnyH_ready (rs := [17]) (by kernel_rfl) (by simp) ?_
  refine AllReadyH.cons rfl (fun K hK => ?_) AllReadyH.nil
  go_simp
  go_wp2_with (go_at_call 80; refine (f5 _).mono ?_; rintro e w6 ⟨a6, c6, rfl, ho6, hb6'⟩)
  refine hK.out _ _ (keep2 (by assumption) (by assumption)) (fun hHeld2 => ?_)
  clear hK K
  refine wpAnyH_ready (rs := [18]) (by kernel_rfl) (by simp) ?_
  refine AllReadyH.cons rfl (fun K hK => ?_) AllReadyH.nil
  go_simp
  go_wp2
  refine hK.out _ _ (keepA (by assumption) _) (fun hHeld2 => ?_)
  clear hK K
  have hr7 := concat_lit w6 [.slice a2 1 c2, .slice a3 8 c3, .slice a4 8 c4, .slice a5 1 c5, .slice a6 2 c6] [fixB K 1, fixB tl 8, fixB a 8, fixB x 1, fixB l 2] rfl (by simp) (fun i hi => by
    match i, hi with
    | 0, _ => exact ((((ho2.below hb3').below hb4').below hb5').below hb6').rd
    | 1, _ => exact (((ho3.below hb4').below hb5').below hb6').rd
    | 2, _ => exact ((ho4.below hb5').below hb6').rd
    | 3, _ => exact (ho5.below hb6').rd
    | 4, _ => exact ho6.rd) (by simp [fixB_length])
  rw [← HH.out] at hr7
  refine wpAnyH_ready (rs := [19]) (by kernel_rfl) (by simp) ?_
  refine AllReadyH.cons rfl (fun K hK => ?_) AllReadyH.nil
  go_simp
  go_wp2_with (go_at_call 79; refine hr7.mono ?_; rintro e w7 ⟨v7, rfl, ho7, hb7⟩)
  refine hK.out _ _ (keep2 (by assumption) (by assumption)) (fun hHeld2 => ?_)
  clear hK K
  obtain ⟨a7, c7, rfl, -⟩ := id ho7.rd
  rw [hhl] at ho7
  refine wpAnyH_take (i := 20) (v := .slice a7 20 c7) rfl (by kernel_rfl) (by kernel_rfl) (by kernel_rfl) (fun _ _ _ h => h) (Or.inl ⟨by rfl, fun W hSw => by (try dsimp only at hSw); go_simp⟩) (by assumption) ?_
  simp only [List.getElem_toArray, List.getElem_cons_zero, List.getElem_cons_succ, Act.put, List.setIfInBounds_toArray, List.set_cons_zero, List.set_cons_succ]
  refine wpAnyH_done (by kernel_rfl) ?_ _
  refine NoPanic.normal ?_
  have hw7 : Below w1.heap.size w1 w7 := hHeld2
  have hc5 := hC5 w7 hw7
  clear hC0 hC1 hC2 hC3 hC4 f1 f2 f3 f4 f5 hr7 hHeld2
  have hmk := make_bytes w7 508 508 rfl (by decide)
  obtain ⟨M, hM⟩ : ∃ M : Array Value, (List.replicate 508 (Value.int .u8 0)).toArray = M := ⟨_, rfl⟩
  have hMl : M.toList = List.replicate 508 (Value.int .u8 0) := by rw [← hM]
  rw [hM] at hmk
  clear hM
  have hMs : M.size = 508 := by rw [← Array.length_toList, hMl, List.length_replicate]
  obtain ⟨w8, hw8⟩ : ∃ w8, w7.alloc (.cells M 5) = w8 := ⟨_, rfl⟩
  have hB8 : Below w7.heap.size w7 w8 := by rw [← hw8]; exact (Below.refl _ _).alloc (Nat.le_refl _) _
  have hg8 : w8.heap[w7.heap.size]? = some (.cells M 5 (0, 0)) := by rw [← hw8]; exact heap_alloc_new w7 _
  have hlt8 : w7.heap.size < w8.heap.size := (Array.getElem?_eq_some_iff.1 hg8).1
  rw [hw8] at hmk
  have hW8 : Below w1.heap.size w1 w8 := thenB hw7 hB8
  have hr1 : Rd w8 (.slice a7 20 c7) (headL p) := by have := (ho7.below hB8).rd; exact this
  have hr0 : Rd w8 (.slice bd bn bc) p.body := hr.below (thenB hB hW8)
  have hc5' : w8.cell? ⟨w.heap.size, 5, none⟩ = some (.slice bd bn bc) := hC5 w8 hW8
  have hcc := concat_lit w8 [.slice a7 20 c7, .slice bd bn bc] [headL p, p.body] rfl (by simp) (fun i hi => by
    match i, hi with
    | 0, _ => exact hr1
    | 1, _ => exact hr0) (by simp only [List.flatten_cons, List.flatten_nil, List.append_nil, List.length_append]; omega)
  rw [show [headL p, p.body].flatten = headL p ++ p.body from by simp] at hcc
  clear hw8 hc5 hC5
  go_wp2_with (go_at_call 79; refine hcc.mono ?_; rintro e w9 ⟨v9, rfl, ho9, hb9⟩)
  have hg9 := (hb9.block _ hlt8).trans hg8
  have hl9 : (headL p ++ p.body).length ≤ 508 := by rw [List.length_append]; omega
  have hcp := copy_rd w9 w7.heap.size 0 508 508 M 5 hg9 v9 (headL p ++ p.body) ho9.rd hl9 (by omega)
  obtain ⟨M2, hM2⟩ : ∃ M2, (M.toList.take 0 ++ (headL p ++ p.body).map (Value.int .u8) ++ M.toList.drop (0 + (headL p ++ p.body).length)).toArray = M2 := ⟨_, rfl⟩
  have hcs : M2.toList = (padL p).map (Value.int .u8) := by
    rw [← hM2, HP.out, hMl, List.drop_replicate, List.take_zero, List.nil_append, Nat.zero_add, List.map_append (l₂ := List.replicate _ _), List.map_replicate]
  rw [hM2] at hcp
  obtain ⟨w10, hw10⟩ : ∃ w10, w9.setRow w7.heap.size M2 = w10 := ⟨_, rfl⟩
  have hg10 : w10.heap[w7.heap.size]? = some (.cells M2 5 (0, 0)) := by rw [← hw10]; exact setRow_heap w9 _ _ M2 _ _ hg9
  have hB10 : Below w7.heap.size w7 w10 := by rw [← hw10]; exact below_setRow (thenB hB8 hb9) (Nat.le_refl _) _
  rw [hw10] at hcp
  have hr10 : Rd w10 (.slice (some ⟨w7.heap.size, 0, none⟩) 508 508) (padL p) := by
    refine ⟨_, 508, by rw [hpl], by omega, by decide, (by intro e; cases e), fun _ => ⟨w7.heap.size, 0, rfl, (Array.getElem?_eq_some_iff.1 hg10).1, fun i hi => ?_⟩⟩
    rw [Nat.zero_add, cell_of_row _ _ i _ _ (0, 0) hg10, ← Array.getElem?_toList, hcs, List.getElem?_map, List.getElem?_eq_getElem hi, List.getD_eq_getElem?_getD, List.getElem?_eq_getElem hi]
    rfl
  have hse := seal_any w10 _ (padL p) hr10 hpy (by omega)
  rw [← HE.out] at hse
  clear hw10 hM2 hg9 hg10 hg8 hcs hr10 hcc
  go_wp2_with fail
  rw [hcp]
  go_wp2_with (go_at_call 81; refine hse.mono ?_; rintro e w11 ⟨u, rfl, ho, hb11⟩)
  obtain ⟨a11, c11, rfl, -⟩ := id ho.rd
  rw [hel] at ho
  go_ret
  exact ⟨a11, c11, by rw [hel]; rfl, ho.rd, thenB hB (thenB hw7 (thenB hB10 hb11))⟩

def ringV (p : Nat) (f c : Int) : Value := .agg #[ptr p, .int .i64 f, .int .i64 c]
def ringC (p : Nat) (f c : Int) : Array Value := #[ptr p, .int .i64 f, .int .i64 c]
def ring0 : Array Value := #[.pointer none, .int .i64 0, .int .i64 0]

/-- What ringOn tells. -/
def ringE (s : St) (f c : Int) : Int := if f < 0 ∨ c < 4 ∨ s.blocks - f < c then 1 else if s.off then 20 else 0

theorem ret_ring {fn : Func} {R : Ending → World → Prop} {a : Act} {w : World} {p u : Tmp} (h : fn.results = #[.cell p 71, .tmp u]) (g : Nat) (cs : Array Value) (hcs : cs.size = 3) {t : TypeId} {fr : Nat × Nat} (hp : a.tmps.getD p undef = .pointer (some ⟨g, 0, none⟩)) (v : Value) (hu : a.tmps.getD u undef = v)
    (hg : w.heap[g]? = some (.cells cs t fr)) (hd : a.defers = []) (hR : R (.returned (.tuple #[.agg cs, v])) w) : bodyPost Tryz.prog fn R .ret a w := by
  refine bodyPost_ret ?_ hd hR
  have hp' : a.tmps[p]?.getD undef = .pointer (some ⟨g, 0, none⟩) := by simpa using hp
  have hu' : a.tmps[u]?.getD undef = v := by simpa using hu
  have hl := run_loadVar_row (P := Tryz.prog) w g t 71 cs fr _ hg Tryz.underlying71 rfl (by rw [hcs]; kernel_rfl)
  simp [results, h, hp', hu', asAddr, hl, Result.andThen]

/-- The first result's variable: a ring. -/
structure RVar (w w1 : World) : Prop where
  below : Below w.heap.size w w1
  row : w1.heap[w.heap.size]? = some (.cells #[.pointer none, .int .i64 0, .int .i64 0] 71 (0, 0))
theorem RVar.of (w : World) : RVar w (w.alloc (.cells #[.pointer none, .int .i64 0, .int .i64 0] 71)) := ⟨(Below.refl _ w).alloc (Nat.le_refl _) _, heap_alloc_new w _⟩
def put3 (w : World) (g : Nat) (x y z : Value) : World := ((w.setCell ⟨g, 0, none⟩ x).setCell ⟨g, 1, none⟩ y).setCell ⟨g, 2, none⟩ z
theorem RVar.put {w w1 W : World} (h : RVar w w1) (hW : Below w1.heap.size w1 W) (x y z : Value) : Below w.heap.size w (put3 W w.heap.size x y z) ∧ (put3 W w.heap.size x y z).heap[w.heap.size]? = some (.cells #[x, y, z] 71 (0, 0)) := by
  have hlt : w.heap.size < w1.heap.size := (Array.getElem?_eq_some_iff.1 h.row).1
  have g0 := (hW.block _ hlt).trans h.row
  have g1 := heap_setCell_same W w.heap.size 0 _ _ x g0
  have g2 := heap_setCell_same _ w.heap.size 1 _ _ y g1
  have g3 := heap_setCell_same _ w.heap.size 2 _ _ z g2
  exact ⟨(((thenB h.below hW).setCell (p := ⟨w.heap.size, 0, none⟩) (Nat.le_refl _) _).setCell (p := ⟨w.heap.size, 1, none⟩) (Nat.le_refl _) _).setCell (p := ⟨w.heap.size, 2, none⟩) (Nat.le_refl _) _, g3⟩
theorem RVar.cells {w w1 : World} (h : RVar w w1) : (w1.cell? ⟨w.heap.size, 0, none⟩ = some (.pointer none) ∧ w1.cell? ⟨w.heap.size, 1, none⟩ = some (.int .i64 0) ∧ w1.cell? ⟨w.heap.size, 2, none⟩ = some (.int .i64 0)) ∧ ∀ j, w1.frozen? ⟨w.heap.size, j, none⟩ = false := by
  refine ⟨⟨?_, ?_, ?_⟩, fun j => frozen_of_row w1 w.heap.size j _ _ h.row⟩
  · rw [cell_of_row _ _ 0 _ _ (0, 0) h.row]; rfl
  · rw [cell_of_row _ _ 1 _ _ (0, 0) h.row]; rfl
  · rw [cell_of_row _ _ 2 _ _ (0, 0) h.row]; rfl

set_option maxHeartbeats 2000000 in
theorem ringOn_nil (w : World) (f c : Int) : Calls Tryz.prog 30 #[.pointer none, .int .i64 f, .int .i64 c] w fun e w' => e = .returned (.tuple #[.agg ring0, .int .i64 1]) ∧ Below w.heap.size w w' := by
  have hv := RVar.of w
  obtain ⟨w1, hw1⟩ : ∃ w1, w.alloc (.cells #[.pointer none, .int .i64 0, .int .i64 0] 71) = w1 := ⟨_, rfl⟩
  rw [hw1] at hv
  obtain ⟨⟨c0, c1, c2⟩, fz⟩ := hv.cells
  have f0 := fz 0; have f1 := fz 1; have f2 := fz 2
  have hp := hv.put (Below.refl _ _) (.pointer none) (.int .i64 0) (.int .i64 0)
  clear fz
  go_enter Tryz.func30, Tryz.ntmps30
  go_wp2
  exact ret_ring Tryz.results30 w.heap.size ring0 rfl rfl _ rfl hp.2 rfl ⟨rfl, hp.1⟩

set_option maxHeartbeats 4000000 in
theorem ringOn_any {w : World} {p bs bp : Nat} {s : St} (h : DiskAt w p bs bp s) (f c : Int) (f0 : -9223372036854775808 ≤ f) (f1 : f ≤ 9223372036854775807) (c0 : -9223372036854775808 ≤ c) (c1 : c ≤ 9223372036854775807) :
    Calls Tryz.prog 30 #[ptr p, .int .i64 f, .int .i64 c] w fun e w' => e = .returned (.tuple #[if ringE s f c = 0 then ringV p f c else .agg ring0, .int .i64 (ringE s f c)]) ∧ Below w.heap.size w w' := by
  have hv := RVar.of w
  obtain ⟨w1, hw1⟩ : ∃ w1, w.alloc (.cells #[.pointer none, .int .i64 0, .int .i64 0] 71) = w1 := ⟨_, rfl⟩
  rw [hw1] at hv
  obtain ⟨⟨q0, q1, q2⟩, fz⟩ := hv.cells
  have z0 := fz 0; have z1 := fz 1; have z2 := fz 2
  have h1 := h.below hv.below
  have hb0 := h.good.b0
  have hb1 := h.good.b1
  have cb := disk_Blocks h1
  have co := disk_On h1
  have hp0 := hv.put (Below.refl _ _) (.pointer none) (.int .i64 0) (.int .i64 0)
  have hp1 := hv.put (Below.refl _ _) (ptr p) (.int .i64 f) (.int .i64 c)
  clear fz h h1
  unfold ptr at *
  unfold ringV ptr
  by_cases hf : f < 0
  · have hE : ringE s f c = 1 := by unfold ringE; rw [if_pos (.inl hf)]
    rw [hE, if_neg (by decide)]
    clear cb co
    go_enter Tryz.func30, Tryz.ntmps30
    go_wp2
    exact ret_ring Tryz.results30 w.heap.size ring0 rfl rfl _ rfl hp0.2 rfl ⟨rfl, hp0.1⟩
  · by_cases hc : c < 4
    · have hE : ringE s f c = 1 := by unfold ringE; rw [if_pos (.inr (.inl hc))]
      rw [hE, if_neg (by decide)]
      clear cb co
      go_enter Tryz.func30, Tryz.ntmps30
      go_wp2
      exact ret_ring Tryz.results30 w.heap.size ring0 rfl rfl _ rfl hp0.2 rfl ⟨rfl, hp0.1⟩
    · by_cases hd : s.blocks - f < c
      · have hE : ringE s f c = 1 := by unfold ringE; rw [if_pos (.inr (.inr hd))]
        rw [hE, if_neg (by decide)]
        clear co
        go_enter Tryz.func30, Tryz.ntmps30
        go_wp2_with (go_at_call 54; refine cb.mono ?_; rintro e w2 ⟨rfl, rfl⟩)
        exact ret_ring Tryz.results30 w.heap.size ring0 rfl rfl _ rfl hp0.2 rfl ⟨rfl, hp0.1⟩
      · by_cases ho : s.off = true
        · have hE : ringE s f c = 20 := by unfold ringE; rw [if_neg (by omega), if_pos ho]
          rw [ho] at co
          rw [hE, if_neg (by decide)]
          go_enter Tryz.func30, Tryz.ntmps30
          go_wp2_with (first | (go_at_call 54; refine cb.mono ?_; rintro e w2 ⟨rfl, rfl⟩) | (go_at_call 21; refine co.mono ?_; rintro e w2 ⟨rfl, rfl⟩))
          exact ret_ring Tryz.results30 w.heap.size ring0 rfl rfl _ rfl hp0.2 rfl ⟨rfl, hp0.1⟩
        · have hE : ringE s f c = 0 := by unfold ringE; rw [if_neg (by omega), if_neg ho]
          rw [Bool.eq_false_iff.2 ho] at co
          rw [hE, if_pos rfl]
          go_enter Tryz.func30, Tryz.ntmps30
          go_wp2_with (first | (go_at_call 54; refine cb.mono ?_; rintro e w2 ⟨rfl, rfl⟩) | (go_at_call 21; refine co.mono ?_; rintro e w2 ⟨rfl, rfl⟩))
          exact ret_ring Tryz.results30 w.heap.size #[.pointer (some ⟨p, 0, none⟩), .int .i64 f, .int .i64 c] rfl rfl _ rfl hp1.2 rfl ⟨rfl, hp1.1⟩

set_option maxHeartbeats 2000000 in
theorem rread_any {w : World} {p bs bp : Nat} {s : St} (h : DiskAt w p bs bp s) (f c i : Int) (h0 : -9223372036854775808 ≤ f + i) (h1 : f + i ≤ 9223372036854775807) (hu : useErr s (f + i) = 0) :
    Calls Tryz.prog 85 #[ringV p f c, .int .i64 i] w fun e w' => ∃ g, w.heap.size ≤ g ∧ e = .returned (.tuple #[.slice (some ⟨g, 0, none⟩) 512 512, .int .i64 0]) ∧ Rd w' (.slice (some ⟨g, 0, none⟩) 512 512) (seen s (f + i)) ∧ Below w.heap.size w w' := by
  obtain ⟨w1, hw1⟩ : ∃ w1, w.alloc (.cells #[ptr p, .int .i64 f, .int .i64 c] 71) = w1 := ⟨_, rfl⟩
  have hB : Below w.heap.size w w1 := by rw [← hw1]; exact (Below.refl _ w).alloc (Nat.le_refl _) _
  have hg : w1.heap[w.heap.size]? = some (.cells #[ptr p, .int .i64 f, .int .i64 c] 71 (0, 0)) := by rw [← hw1]; exact heap_alloc_new w _
  have q0 : w1.cell? ⟨w.heap.size, 0, none⟩ = some (ptr p) := by rw [cell_of_row _ _ 0 _ _ (0, 0) hg]; rfl
  have q1 : w1.cell? ⟨w.heap.size, 1, none⟩ = some (.int .i64 f) := by rw [cell_of_row _ _ 1 _ _ (0, 0) hg]; rfl
  have cr := disk_Read_ok (h.below hB) (f + i) h0 h1 hu
  have hsn := seen_blk h.good (f + i)
  have hrb := rd_block w1 hsn
  have hB2 : Below w.heap.size w (w1.alloc (.cells (bytesV (seen s (f + i))) 136)) := hB.alloc hB.size _
  have hBs := hB.size
  clear hg
  unfold ringV
  unfold ptr at *
  go_enter Tryz.func85, Tryz.ntmps85
  go_wp2_with (go_at_call 106; refine cr.mono ?_; rintro e w2 ⟨rfl, rfl⟩)
  go_ret2
  exact ⟨_, hBs, rfl, hrb, hB2⟩

/-- Bytes in a block that is n or later. -/
def RdF (n : Nat) (w : World) (v : Value) (xs : List Int) : Prop := Rd w v xs ∧ ∀ b off l c, v = .slice (some ⟨b, off, none⟩) l c → xs ≠ [] → n ≤ b

theorem RdF.keep {n : Nat} {w w' : World} {v : Value} {xs : List Int} (h : RdF n w v xs) (hs : w.heap.size ≤ w'.heap.size) (hb : ∀ k, n ≤ k → k < w.heap.size → w'.heap[k]? = w.heap[k]?) : RdF n w' v xs := by
  obtain ⟨⟨a, c, rfl, h1, h2, h3, h4⟩, h5⟩ := h
  refine ⟨⟨a, c, rfl, h1, h2, h3, fun hne => ?_⟩, h5⟩
  obtain ⟨b, off, rfl, hlt, hc⟩ := h4 hne
  exact ⟨b, off, rfl, by omega, fun i hi => (World.cell?_of_block (a := ⟨b, off + i, none⟩) (hb b (h5 b off _ _ rfl hne) hlt)).trans (hc i hi)⟩

theorem ret_cell1 {fn : Func} {R : Ending → World → Prop} {a : Act} {w : World} {p : Tmp} (h : fn.results = #[.cell p 82]) (g : Nat) (cs : Array Value) (hcs : cs.size = 6) {t : TypeId} {fr : Nat × Nat} (hp : a.tmps.getD p undef = .pointer (some ⟨g, 0, none⟩))
    (hg : w.heap[g]? = some (.cells cs t fr)) (hd : a.defers = []) (hR : R (.returned (.agg cs)) w) : bodyPost Tryz.prog fn R .ret a w :=
  bodyPost_ret (results_cell_row h a.tmps w g t cs fr _ hp hg Tryz.underlying82 rfl (by rw [hcs]; kernel_rfl)) hd hR

theorem OwnI.at {w : World} {base : Nat} {v : Value} {xs : List Int} (h : OwnI w base v xs) : ∀ b off l c, v = .slice (some ⟨b, off, none⟩) l c → base ≤ b ∧ b < w.heap.size := by
  intro b off l c e
  have ho := h.own
  subst e
  obtain ⟨h1, h2 | ⟨g, cap, cur, e2, h3, h4, _⟩⟩ := ho
  · cases h2.1
  · simp only [Value.slice.injEq, Option.some.injEq, Addr.mk.injEq] at e2
    obtain ⟨⟨rfl, _, _⟩, _⟩ := e2
    exact ⟨h3, (Array.getElem?_eq_some_iff.1 h4).1⟩

theorem RdrAt.later {w w' : World} {q m : Nat} {xs : List Int} (h : RdrAt w q xs m) (hb : Below w.heap.size w w') (hq : q < w.heap.size) : RdrAt w' q xs m := h.keep hb.size (fun k hk => hb.block k (by omega))

set_option maxHeartbeats 1500000 in
theorem readPiece_ok {w : World} {p bs bp : Nat} {s : St} (h : DiskAt w p bs bp s) (f c i : Int) (h0 : -9223372036854775808 ≤ f + i) (h1 : f + i ≤ 9223372036854775807) (hu : useErr s (f + i) = 0) (hn : unE (seen s (f + i)) = 0) :
    Calls Tryz.prog 60 #[ringV p f c, .int .i64 i] w fun e w' => ∃ a n d, e = .returned (pcV (bodyP (unB (seen s (f + i)))) (.slice a n d)) ∧ RdF w.heap.size w' (.slice a n d) (bodyP (unB (seen s (f + i)))).body ∧ Below w.heap.size w w' := by
  have hsn := seen_blk h.good (f + i)
  obtain ⟨w1, hw1⟩ : ∃ w1, w.alloc (.cells #[ptr p, .int .i64 f, .int .i64 c] 71) = w1 := ⟨_, rfl⟩
  have hB1 : Below w.heap.size w w1 := by rw [← hw1]; exact (Below.refl _ w).alloc (Nat.le_refl _) _
  have hg1 : w1.heap[w.heap.size]? = some (.cells #[ptr p, .int .i64 f, .int .i64 c] 71 (0, 0)) := by rw [← hw1]; exact heap_alloc_new w _
  obtain ⟨w2, hw2⟩ : ∃ w2, w1.alloc (.cells #[.int .u8 0, .int .u64 0, .int .u64 0, .int .i64 0, .int .i64 0, .slice none 0 0] 82) = w2 := ⟨_, rfl⟩
  have hB2 : Below w1.heap.size w1 w2 := by rw [← hw2]; exact (Below.refl _ w1).alloc (Nat.le_refl _) _
  have hg2 : w2.heap[w1.heap.size]? = some (.cells #[.int .u8 0, .int .u64 0, .int .u64 0, .int .i64 0, .int .i64 0, .slice none 0 0] 82 (0, 0)) := by rw [← hw2]; exact heap_alloc_new w1 _
  have hlt2 : w1.heap.size < w2.heap.size := (Array.getElem?_eq_some_iff.1 hg2).1
  have hs1 : w.heap.size ≤ w1.heap.size := hB1.size
  have hg1' := (hB2.block _ (Array.getElem?_eq_some_iff.1 hg1).1).trans hg1
  have q0 : w2.cell? ⟨w.heap.size, 0, none⟩ = some (ptr p) := by rw [cell_of_row _ _ 0 _ _ (0, 0) hg1']; rfl
  have q1 : w2.cell? ⟨w.heap.size, 1, none⟩ = some (.int .i64 f) := by rw [cell_of_row _ _ 1 _ _ (0, 0) hg1']; rfl
  have q2 : w2.cell? ⟨w.heap.size, 2, none⟩ = some (.int .i64 c) := by rw [cell_of_row _ _ 2 _ _ (0, 0) hg1']; rfl
  have hB := thenB hB1 hB2
  have cr := rread_any (h.below hB) f c i h0 h1 hu
  have hbl := unB_len hsn.1 hn
  have hby := unB_byt hsn.2
  obtain ⟨b, hb⟩ : ∃ b, unB (seen s (f + i)) = b := ⟨_, rfl⟩
  rw [hb] at hbl hby ⊢
  have HB : Hid (Below w.heap.size w w2) := hB
  clear hg1 hg1' hB1 hB2 hB h
  unfold ringV at *
  unfold ptr at *
  go_enter Tryz.func60, Tryz.ntmps60
  go_wp2_with fail
  refine cr.mono ?_
  rintro e w3 ⟨g, hg, rfl, hr, hb3⟩
  have cm := must_bytes_ok w3 (some ⟨g, 0, none⟩) 512 512
  have cu := unsealI_any w3 _ _ hr hsn.2 (by rw [hsn.1]; decide)
  rw [hn, hb] at cu
  go_wp2_with fail
  refine cm.mono ?_
  rintro e w4 ⟨rfl, rfl⟩
  go_wp2_with fail
  refine cu.mono ?_
  rintro e w5 ⟨u, rfl, ho, hb5⟩
  obtain ⟨ua, uc, rfl, -⟩ := id ho.own.rd
  rw [hbl] at ho
  have hat := ho.at
  have hurd := ho.own.rd
  have cn := must_bytes_ok w5 ua 508 uc
  clear cu cm cr ho
  go_wp2_with fail
  refine cn.mono ?_
  rintro e w6 ⟨rfl, rfl⟩
  clear cn
  have hb25 := thenB hb3 hb5
  have hs25 := hb25.size
  have hs3 := hb3.size
  obtain ⟨W, hW⟩ : ∃ W, w6.alloc (.cells #[.slice ua 508 uc] 147) = W := ⟨_, rfl⟩
  have hBW : Below w6.heap.size w6 W := by rw [← hW]; exact (Below.refl _ w6).alloc (Nat.le_refl _) _
  have hgW : W.heap[w6.heap.size]? = some (.cells #[.slice ua 508 uc] 147 (0, 0)) := by rw [← hW]; exact heap_alloc_new w6 _
  have hltW : w6.heap.size < W.heap.size := (Array.getElem?_eq_some_iff.1 hgW).1
  have hR : RdrAt W w6.heap.size b w2.heap.size := ⟨⟨_, hgW, hurd.below hBW, fun _ b' off n d e => ⟨by have := (hat b' off n d e).1; omega, (hat b' off n d e).2⟩⟩, hby⟩
  have hok := (bodyP_ok hby hbl).1
  obtain ⟨V1, hV1⟩ : ∃ V, valB (b.take 1) = V := ⟨_, rfl⟩
  obtain ⟨V2, hV2⟩ : ∃ V, valB ((b.drop 1).take 8) = V := ⟨_, rfl⟩
  obtain ⟨V3, hV3⟩ : ∃ V, valB ((b.drop 9).take 8) = V := ⟨_, rfl⟩
  obtain ⟨V4, hV4⟩ : ∃ V, valB ((b.drop 17).take 1) = V := ⟨_, rfl⟩
  obtain ⟨V5, hV5⟩ : ∃ V, valB ((b.drop 18).take 2) = V := ⟨_, rfl⟩
  obtain ⟨hk1, ht1, ha1, hi1, hl1, -, -⟩ := hok
  have HV : ∀ v, Hid (pcV (bodyP b) v = .agg #[.int .u8 V1, .int .u64 V2, .int .u64 V3, .int .i64 V4, .int .i64 V5, v]) := fun v => by
    unfold Hid pcV bodyP
    dsimp only
    rw [hV1, hV2, hV3, hV4, hV5]
  have HBo : Hid ((bodyP b).body = b.drop 20) := rfl
  have kk1 : V1 < 256 := by rw [← hV1]; exact hk1
  have kk2 : V2 < 18446744073709551616 := by rw [← hV2]; exact ht1
  have kk3 : V3 < 18446744073709551616 := by rw [← hV3]; exact ha1
  have kk4 : V4 < 256 := by rw [← hV4]; exact hi1
  have kk5 : V5 < 65536 := by rw [← hV5]; exact hl1
  clear hk1 ht1 ha1 hi1 hl1
  have n1 := number_ok hR 1 (by decide) (by decide) (by omega)
  rw [hV1] at n1
  go_wp2_with fail
  refine n1.mono ?_
  rintro e x1 ⟨rfl, r1, s1⟩
  have n2 := number_ok r1 8 (by decide) (by decide) (by simp; omega)
  rw [hV2] at n2
  clear n1
  go_wp2_with fail
  refine n2.mono ?_
  rintro e x2 ⟨rfl, r2, s2⟩
  simp only [List.drop_drop, Nat.reduceAdd] at r2
  have n3 := number_ok r2 8 (by decide) (by decide) (by simp; omega)
  rw [hV3] at n3
  clear n2
  go_wp2_with fail
  refine n3.mono ?_
  rintro e x3 ⟨rfl, r3, s3⟩
  simp only [List.drop_drop, Nat.reduceAdd] at r3
  have n4 := number_ok r3 1 (by decide) (by decide) (by simp; omega)
  rw [hV4] at n4
  clear n3
  go_wp2_with fail
  refine n4.mono ?_
  rintro e x4 ⟨rfl, r4, s4⟩
  simp only [List.drop_drop, Nat.reduceAdd] at r4
  have n5 := number_ok r4 2 (by decide) (by decide) (by simp; omega)
  rw [hV5] at n5
  clear n4
  go_wp2_with fail
  refine n5.mono ?_
  rintro e x5 ⟨rfl, r5, s5⟩
  simp only [List.drop_drop, Nat.reduceAdd] at r5
  clear n5 hV1 hV2 hV3 hV4 hV5
  clear r1 r2 r3 r4 hR
  obtain ⟨v5, hq5, hr5, hvq5⟩ := r5.body
  obtain ⟨a5, c5, rfl, -⟩ := id hr5
  have hSx : Sole [w6.heap.size] W x5 := (((s1.trans s2).trans s3).trans s4).trans s5
  have hsx := hSx.size
  have hg2x : x5.heap[w1.heap.size]? = some (.cells #[.int .u8 0, .int .u64 0, .int .u64 0, .int .i64 0, .int .i64 0, .slice none 0 0] 82 (0, 0)) :=
    (hSx.block _ (by omega) (by simp; omega)).trans ((hBW.block _ (by omega)).trans ((hb25.block _ hlt2).trans hg2))
  clear s1 s2 s3 s4 s5 hat hurd hgW hW hr hg
  generalize hln : (b.drop 20).length = ln at *
  obtain ⟨Y, hY⟩ : ∃ Y, x5.alloc (.cells #[.int .u8 V1, .int .u64 V2, .int .u64 V3, .int .i64 V4, .int .i64 V5, .slice none 0 0] 82) = Y := ⟨_, rfl⟩
  have hBY : Below x5.heap.size x5 Y := by rw [← hY]; exact (Below.refl _ x5).alloc (Nat.le_refl _) _
  have hgY : Y.heap[x5.heap.size]? = some (.cells #[.int .u8 V1, .int .u64 V2, .int .u64 V3, .int .i64 V4, .int .i64 V5, .slice none 0 0] 82 (0, 0)) := by rw [← hY]; exact heap_alloc_new x5 _
  have hqY := (hBY.block _ (by omega : w6.heap.size < x5.heap.size)).trans hq5
  have hcY : Y.cell? ⟨w6.heap.size, 0, none⟩ = some (.slice a5 ln c5) := by rw [cell_of_row _ _ 0 _ _ (0, 0) hqY]; rfl
  have y5 : Y.cell? ⟨x5.heap.size, 5, none⟩ = some (.slice none 0 0) := by rw [cell_of_row _ _ 5 _ _ (0, 0) hgY]; rfl
  have fy := frozen_of_row Y x5.heap.size 5 _ _ hgY
  have hgY1 := heap_setCell_same Y x5.heap.size 5 _ _ (.slice none 0 0) hgY
  have hgZ := heap_setCell_same _ x5.heap.size 5 _ _ (.slice a5 ln c5) hgY1
  obtain ⟨Z, hZ⟩ : ∃ Z, (Y.setCell ⟨x5.heap.size, 5, none⟩ (.slice none 0 0)).setCell ⟨x5.heap.size, 5, none⟩ (.slice a5 ln c5) = Z := ⟨_, rfl⟩
  have hoZ : ∀ k, k ≠ x5.heap.size → Z.heap[k]? = Y.heap[k]? := fun k hk => by rw [← hZ]; exact (heap_setCell_other _ _ _ _ hk).trans (heap_setCell_other _ _ _ _ hk)
  have hsZ : Z.heap.size = Y.heap.size := by rw [← hZ]; simp [World.setCell]
  rw [hZ] at hgZ
  have z0 : Z.cell? ⟨x5.heap.size, 0, none⟩ = some (.int .u8 V1) := by rw [cell_of_row _ _ 0 _ _ (0, 0) hgZ]; rfl
  have z1 : Z.cell? ⟨x5.heap.size, 1, none⟩ = some (.int .u64 V2) := by rw [cell_of_row _ _ 1 _ _ (0, 0) hgZ]; rfl
  have z2 : Z.cell? ⟨x5.heap.size, 2, none⟩ = some (.int .u64 V3) := by rw [cell_of_row _ _ 2 _ _ (0, 0) hgZ]; rfl
  have z3 : Z.cell? ⟨x5.heap.size, 3, none⟩ = some (.int .i64 V4) := by rw [cell_of_row _ _ 3 _ _ (0, 0) hgZ]; rfl
  have z4 : Z.cell? ⟨x5.heap.size, 4, none⟩ = some (.int .i64 V5) := by rw [cell_of_row _ _ 4 _ _ (0, 0) hgZ]; rfl
  have z5 : Z.cell? ⟨x5.heap.size, 5, none⟩ = some (.slice a5 ln c5) := by rw [cell_of_row _ _ 5 _ _ (0, 0) hgZ]; rfl
  have h2Z : Z.heap[w1.heap.size]? = some (.cells #[.int .u8 0, .int .u64 0, .int .u64 0, .int .i64 0, .int .i64 0, .slice none 0 0] 82 (0, 0)) :=
    (hoZ _ (by omega)).trans ((hBY.block _ (by omega)).trans hg2x)
  have p0 : Z.cell? ⟨w1.heap.size, 0, none⟩ = some (.int .u8 0) := by rw [cell_of_row _ _ 0 _ _ (0, 0) h2Z]; rfl
  have p1 : Z.cell? ⟨w1.heap.size, 1, none⟩ = some (.int .u64 0) := by rw [cell_of_row _ _ 1 _ _ (0, 0) h2Z]; rfl
  have p2 : Z.cell? ⟨w1.heap.size, 2, none⟩ = some (.int .u64 0) := by rw [cell_of_row _ _ 2 _ _ (0, 0) h2Z]; rfl
  have p3 : Z.cell? ⟨w1.heap.size, 3, none⟩ = some (.int .i64 0) := by rw [cell_of_row _ _ 3 _ _ (0, 0) h2Z]; rfl
  have p4 : Z.cell? ⟨w1.heap.size, 4, none⟩ = some (.int .i64 0) := by rw [cell_of_row _ _ 4 _ _ (0, 0) h2Z]; rfl
  have p5 : Z.cell? ⟨w1.heap.size, 5, none⟩ = some (.slice none 0 0) := by rw [cell_of_row _ _ 5 _ _ (0, 0) h2Z]; rfl
  have fz := fun j => frozen_of_row Z w1.heap.size j _ _ h2Z
  have fz0 := fz 0; have fz1 := fz 1; have fz2 := fz 2; have fz3 := fz 3; have fz4 := fz 4; have fz5 := fz 5
  have g1 := heap_setCell_same Z w1.heap.size 0 _ _ (.int .u8 V1) h2Z
  have g2 := heap_setCell_same _ w1.heap.size 1 _ _ (.int .u64 V2) g1
  have g3 := heap_setCell_same _ w1.heap.size 2 _ _ (.int .u64 V3) g2
  have g4 := heap_setCell_same _ w1.heap.size 3 _ _ (.int .i64 V4) g3
  have g5 := heap_setCell_same _ w1.heap.size 4 _ _ (.int .i64 V5) g4
  have g6 := heap_setCell_same _ w1.heap.size 5 _ _ (.slice a5 ln c5) g5
  have HG : Hid _ := g6
  obtain ⟨E, hE⟩ : ∃ E, (((((Z.setCell ⟨w1.heap.size, 0, none⟩ (.int .u8 V1)).setCell ⟨w1.heap.size, 1, none⟩ (.int .u64 V2)).setCell ⟨w1.heap.size, 2, none⟩ (.int .u64 V3)).setCell ⟨w1.heap.size, 3, none⟩ (.int .i64 V4)).setCell ⟨w1.heap.size, 4, none⟩ (.int .i64 V5)).setCell ⟨w1.heap.size, 5, none⟩ (.slice a5 ln c5) = E := ⟨_, rfl⟩
  have hsE : E.heap.size = Z.heap.size := by rw [← hE]; simp [World.setCell]
  have hoE : ∀ k, k ≠ w1.heap.size → E.heap[k]? = Z.heap[k]? := fun k hk => by
    rw [← hE, heap_setCell_other _ _ _ _ hk, heap_setCell_other _ _ _ _ hk, heap_setCell_other _ _ _ _ hk, heap_setCell_other _ _ _ _ hk, heap_setCell_other _ _ _ _ hk, heap_setCell_other _ _ _ _ hk]
  have hBYs := hBY.size
  have HF : Hid (RdF w2.heap.size E (.slice a5 ln c5) (b.drop 20)) := by
    have h5 : RdF w2.heap.size x5 (.slice a5 ln c5) (b.drop 20) := ⟨hr5, fun b' o l d e hne => (hvq5 hne b' o l d e).1⟩
    refine h5.keep (by omega) (fun k hk1 hk2 => ?_)
    rw [hoE k (by omega), hoZ k (by omega), hBY.block k hk2]
  have HBE : Hid (Below w.heap.size w E) := by
    have e1 : Below w.heap.size w x5 := (thenB HB.out (thenB hb25 hBW)).trans ⟨hSx.os, hSx.tape, hSx.output, hSx.size, fun k hk => hSx.block k (by omega) (by simp; omega)⟩
    have e2 : Below w.heap.size w Z := by rw [← hZ]; exact ((e1.trans (hBY.mono (by omega))).setCell (p := ⟨x5.heap.size, 5, none⟩) (by show w.heap.size ≤ x5.heap.size; omega) _).setCell (p := ⟨x5.heap.size, 5, none⟩) (by show w.heap.size ≤ x5.heap.size; omega) _
    rw [← hE]
    exact (((((e2.setCell (p := ⟨w1.heap.size, 0, none⟩) hs1 _).setCell (p := ⟨w1.heap.size, 1, none⟩) hs1 _).setCell (p := ⟨w1.heap.size, 2, none⟩) hs1 _).setCell (p := ⟨w1.heap.size, 3, none⟩) hs1 _).setCell (p := ⟨w1.heap.size, 4, none⟩) hs1 _).setCell (p := ⟨w1.heap.size, 5, none⟩) hs1 _
  have hw2s : w.heap.size ≤ w2.heap.size := by omega
  have e1 : IntKind.u8.wrap (V1 : Int) = V1 := by rw [IntKind.wrap_u8]; omega
  have e4 : IntKind.i64.wrap (V4 : Int) = V4 := by rw [IntKind.wrap_i64]; omega
  have e5 : IntKind.i64.wrap (V5 : Int) = V5 := by rw [IntKind.wrap_i64]; omega
  clear h2Z hgZ hgY hgY1 hqY hg2x hq5 hr5 hvq5 fz g1 g2 g3 g4 g5 g6 hoZ hoE hSx r5 hBY
  go_wp2
  exact ret_cell1 Tryz.results60 w1.heap.size _ rfl rfl (by rw [hE] at HG; exact HG.out) rfl ⟨a5, ln, c5, by rw [(HV _).out]; rfl, ⟨HF.out.1, fun b' o l d e hne => Nat.le_trans hw2s (HF.out.2 b' o l d e hne)⟩, HBE.out⟩

theorem RdF.mono {n m : Nat} {w : World} {v : Value} {xs : List Int} (h : RdF n w v xs) (hm : m ≤ n) : RdF m w v xs := ⟨h.1, fun b o l c e hne => Nat.le_trans hm (h.2 b o l c e hne)⟩

/-- Six cells of a piece stored upon a piece's variable. -/
theorem six_put {w : World} {g : Nat} {t : TypeId} (o0 o1 o2 o3 o4 o5 a b c d e f : Value) (hg : w.heap[g]? = some (.cells #[o0, o1, o2, o3, o4, o5] t (0, 0))) :
    ((((((w.setCell ⟨g, 0, none⟩ a).setCell ⟨g, 1, none⟩ b).setCell ⟨g, 2, none⟩ c).setCell ⟨g, 3, none⟩ d).setCell ⟨g, 4, none⟩ e).setCell ⟨g, 5, none⟩ f).heap[g]? = some (.cells #[a, b, c, d, e, f] t (0, 0)) := by
  have g1 := heap_setCell_same w g 0 _ _ a hg
  have g2 := heap_setCell_same _ g 1 _ _ b g1
  have g3 := heap_setCell_same _ g 2 _ _ c g2
  have g4 := heap_setCell_same _ g 3 _ _ d g3
  have g5 := heap_setCell_same _ g 4 _ _ e g4
  have g6 := heap_setCell_same _ g 5 _ _ f g5
  exact g6

theorem six_other (w : World) (g k : Nat) (a b c d e f : Value) (hk : k ≠ g) :
    ((((((w.setCell ⟨g, 0, none⟩ a).setCell ⟨g, 1, none⟩ b).setCell ⟨g, 2, none⟩ c).setCell ⟨g, 3, none⟩ d).setCell ⟨g, 4, none⟩ e).setCell ⟨g, 5, none⟩ f).heap[k]? = w.heap[k]? := by
  rw [heap_setCell_other _ _ _ _ hk, heap_setCell_other _ _ _ _ hk, heap_setCell_other _ _ _ _ hk, heap_setCell_other _ _ _ _ hk, heap_setCell_other _ _ _ _ hk, heap_setCell_other _ _ _ _ hk]

theorem six_below {B : Nat} {w0 w : World} (h : Below B w0 w) (g : Nat) (hg : B ≤ g) (a b c d e f : Value) :
    Below B w0 ((((((w.setCell ⟨g, 0, none⟩ a).setCell ⟨g, 1, none⟩ b).setCell ⟨g, 2, none⟩ c).setCell ⟨g, 3, none⟩ d).setCell ⟨g, 4, none⟩ e).setCell ⟨g, 5, none⟩ f) :=
  (((((h.setCell (p := ⟨g, 0, none⟩) hg _).setCell (p := ⟨g, 1, none⟩) hg _).setCell (p := ⟨g, 2, none⟩) hg _).setCell (p := ⟨g, 3, none⟩) hg _).setCell (p := ⟨g, 4, none⟩) hg _).setCell (p := ⟨g, 5, none⟩) hg _

set_option maxHeartbeats 1000000 in
theorem findOn1_ok {w : World} {p bs bp g1 g2 : Nat} {s : St} (h : DiskAt w p bs bp s) (f c i : Int) (hg1 : w.heap[g1]? = some (.cells #[ptr p, .int .i64 f, .int .i64 c] 71 (0, 0))) (hg2 : w.heap[g2]? = some (.cells #[.int .i64 i] 3 (0, 0)))
    (h0 : -9223372036854775808 ≤ f + i) (h1 : f + i ≤ 9223372036854775807) (hu : useErr s (f + i) = 0) (hn : unE (seen s (f + i)) = 0) :
    Calls Tryz.prog 59 #[.pointer (some ⟨g1, 0, none⟩), .pointer (some ⟨g2, 0, none⟩)] w fun e w' => ∃ a n d, e = .returned (pcV (bodyP (unB (seen s (f + i)))) (.slice a n d)) ∧ RdF w.heap.size w' (.slice a n d) (bodyP (unB (seen s (f + i)))).body ∧ Below w.heap.size w w' := by
  obtain ⟨w2, hw2⟩ : ∃ w2, w.alloc (.cells #[.int .u8 0, .int .u64 0, .int .u64 0, .int .i64 0, .int .i64 0, .slice none 0 0] 82) = w2 := ⟨_, rfl⟩
  have hB2 : Below w.heap.size w w2 := by rw [← hw2]; exact (Below.refl _ w).alloc (Nat.le_refl _) _
  have hg : w2.heap[w.heap.size]? = some (.cells #[.int .u8 0, .int .u64 0, .int .u64 0, .int .i64 0, .int .i64 0, .slice none 0 0] 82 (0, 0)) := by rw [← hw2]; exact heap_alloc_new w _
  have hlt : w.heap.size < w2.heap.size := (Array.getElem?_eq_some_iff.1 hg).1
  have k1 := (hB2.block _ (Array.getElem?_eq_some_iff.1 hg1).1).trans hg1
  have k2 := (hB2.block _ (Array.getElem?_eq_some_iff.1 hg2).1).trans hg2
  have q0 : w2.cell? ⟨g1, 0, none⟩ = some (ptr p) := by rw [cell_of_row _ _ 0 _ _ (0, 0) k1]; rfl
  have q1 : w2.cell? ⟨g1, 1, none⟩ = some (.int .i64 f) := by rw [cell_of_row _ _ 1 _ _ (0, 0) k1]; rfl
  have q2 : w2.cell? ⟨g1, 2, none⟩ = some (.int .i64 c) := by rw [cell_of_row _ _ 2 _ _ (0, 0) k1]; rfl
  have q3 : w2.cell? ⟨g2, 0, none⟩ = some (.int .i64 i) := by rw [cell_of_row _ _ 0 _ _ (0, 0) k2]; rfl
  have cr := readPiece_ok (h.below hB2) f c i h0 h1 hu hn
  clear hg1 hg2 k1 k2 h
  unfold ringV at cr
  unfold ptr at *
  go_enter Tryz.func59, Tryz.ntmps59
  go_wp2_with fail
  refine cr.mono ?_
  rintro e w3 ⟨a, n, d, rfl, hr, hb3⟩
  clear cr
  have HP : Hid (pcV (bodyP (unB (seen s (f + i)))) (.slice a n d) = .agg #[.int .u8 (bodyP (unB (seen s (f + i)))).kind, .int .u64 (bodyP (unB (seen s (f + i)))).tail, .int .u64 (bodyP (unB (seen s (f + i)))).at_, .int .i64 (bodyP (unB (seen s (f + i)))).index, .int .i64 (bodyP (unB (seen s (f + i)))).length, .slice a n d]) := rfl
  rw [HP.out]
  have HR : Hid (RdF w2.heap.size w3 (.slice a n d) (bodyP (unB (seen s (f + i)))).body) := hr
  generalize (bodyP (unB (seen s (f + i)))).kind = V1 at *
  generalize (bodyP (unB (seen s (f + i)))).tail = V2 at *
  generalize (bodyP (unB (seen s (f + i)))).at_ = V3 at *
  generalize (bodyP (unB (seen s (f + i)))).index = V4 at *
  generalize (bodyP (unB (seen s (f + i)))).length = V5 at *
  have hgz := (hb3.block _ hlt).trans hg
  have p0 : w3.cell? ⟨w.heap.size, 0, none⟩ = some (.int .u8 0) := by rw [cell_of_row _ _ 0 _ _ (0, 0) hgz]; rfl
  have p1 : w3.cell? ⟨w.heap.size, 1, none⟩ = some (.int .u64 0) := by rw [cell_of_row _ _ 1 _ _ (0, 0) hgz]; rfl
  have p2 : w3.cell? ⟨w.heap.size, 2, none⟩ = some (.int .u64 0) := by rw [cell_of_row _ _ 2 _ _ (0, 0) hgz]; rfl
  have p3 : w3.cell? ⟨w.heap.size, 3, none⟩ = some (.int .i64 0) := by rw [cell_of_row _ _ 3 _ _ (0, 0) hgz]; rfl
  have p4 : w3.cell? ⟨w.heap.size, 4, none⟩ = some (.int .i64 0) := by rw [cell_of_row _ _ 4 _ _ (0, 0) hgz]; rfl
  have p5 : w3.cell? ⟨w.heap.size, 5, none⟩ = some (.slice none 0 0) := by rw [cell_of_row _ _ 5 _ _ (0, 0) hgz]; rfl
  have fz := fun j => frozen_of_row w3 w.heap.size j _ _ hgz
  have fz0 := fz 0; have fz1 := fz 1; have fz2 := fz 2; have fz3 := fz 3; have fz4 := fz 4; have fz5 := fz 5
  have HG : Hid _ := six_put _ _ _ _ _ _ (.int .u8 V1) (.int .u64 V2) (.int .u64 V3) (.int .i64 V4) (.int .i64 V5) (.slice a n d) hgz
  have HBl : Hid _ := six_below (thenB hB2 hb3) w.heap.size (Nat.le_refl _) (.int .u8 V1) (.int .u64 V2) (.int .u64 V3) (.int .i64 V4) (.int .i64 V5) (.slice a n d)
  have HO : Hid _ := fun k hk => six_other w3 w.heap.size k (.int .u8 V1) (.int .u64 V2) (.int .u64 V3) (.int .i64 V4) (.int .i64 V5) (.slice a n d) hk
  clear fz hgz hr q0 q1 q2 q3
  go_wp2
  refine ret_cell1 Tryz.results59 w.heap.size _ rfl rfl HG.out rfl ⟨a, n, d, by rw [HP.out], (HR.out.keep (by simp [World.setCell]) (fun k hk1 hk2 => HO.out k (by omega))).mono (by omega), HBl.out⟩

/-- A block of the ring is read. -/
theorem tryPiece {w : World} {p bs bp g1 g2 : Nat} {s : St} (h : DiskAt w p bs bp s) (f c i : Int) (hg1 : w.heap[g1]? = some (.cells #[ptr p, .int .i64 f, .int .i64 c] 71 (0, 0))) (hg2 : w.heap[g2]? = some (.cells #[.int .i64 i] 3 (0, 0)))
    (h0 : -9223372036854775808 ≤ f + i) (h1 : f + i ≤ 9223372036854775807) (hu : useErr s (f + i) = 0) (hn : unE (seen s (f + i)) = 0) :
    Calls Tryz.prog 58 #[.func (Fn.func 59) #[] #[.pointer (some ⟨g1, 0, none⟩), .pointer (some ⟨g2, 0, none⟩)]] w fun e w' =>
      ∃ a n d, e = .returned (.tuple #[pcV (bodyP (unB (seen s (f + i)))) (.slice a n d), .bool true]) ∧ RdF w.heap.size w' (.slice a n d) (bodyP (unB (seen s (f + i)))).body ∧ Below w.heap.size w w' := by
  refine (attemptP_ok w _ (bodyP (unB (seen s (f + i)))).kind (bodyP (unB (seen s (f + i)))).tail (bodyP (unB (seen s (f + i)))).at_ (bodyP (unB (seen s (f + i)))).index (bodyP (unB (seen s (f + i)))).length
    (fun v W => RdF w.heap.size W v (bodyP (unB (seen s (f + i)))).body) (fun W hW => ?_)).mono ?_
  · refine (findOn1_ok (h.below hW) f c i ((hW.block _ (Array.getElem?_eq_some_iff.1 hg1).1).trans hg1) ((hW.block _ (Array.getElem?_eq_some_iff.1 hg2).1).trans hg2) h0 h1 hu hn).mono ?_
    rintro e w' ⟨a, n, d, rfl, hr, hb⟩
    exact ⟨a, n, d, rfl, fun X h1 h2 => (hr.keep h1 h2).mono hW.size, hb⟩
  · rintro e w' ⟨a, n, d, rfl, hr, hb⟩
    exact ⟨a, n, d, rfl, hr w' (Nat.le_refl _) (fun _ _ _ => rfl), hb⟩

/-- A piece that was found, the slice of its bytes, and its block. -/
structure Fv where
  p : Pc
  a : Option Addr
  n : Nat
  d : Nat
  blk : Nat

def Fv.v (x : Fv) : Value := .slice x.a x.n x.d

def fvC (x : Fv) : List Value := [.int .u8 x.p.kind, .int .u64 x.p.tail, .int .u64 x.p.at_, .int .i64 x.p.index, .int .i64 x.p.length, x.v, .int .i64 x.blk]
theorem fvC_len (x : Fv) : (fvC x).length = 7 := rfl

theorem Tryz.infoFd : (Tryz.prog.info? 117).map (fun i => (i.zero, i.size, i.bytes)) = some (some (.agg #[.int .u8 0, .int .u64 0, .int .u64 0, .int .i64 0, .int .i64 0, .slice none 0 0, .int .i64 0]), 7, 72) := by kernel_rfl

/-- Its bytes lie apart from the row that it stands in. -/
structure FvAt (base : Nat) (w : World) (row : Value) (x : Fv) : Prop where
  sl : ∃ a n d, x.v = .slice a n d
  rd : RdF base w x.v x.p.body
  ap : ∀ b off l c, x.v = .slice (some ⟨b, off, none⟩) l c → x.p.body ≠ [] → row.ownBlock ≠ some b
  ok : PcOk x.p
  len : x.p.body.length = 488

/-- A row of them. -/
structure FsAt (base : Nat) (w : World) (v : Value) (L : List Fv) : Prop where
  own : w.ownsRow base 117 7 v L.length (L.flatMap fvC)
  each : ∀ x ∈ L, FvAt base w v x

theorem FsAt.nil (base : Nat) (w : World) : FsAt base w (.slice none 0 0) [] := ⟨World.ownsRow_nil _ _ _ _, fun x hx => by cases hx⟩

theorem FsAt.below {base : Nat} {w w' : World} {v : Value} {L : List Fv} (h : FsAt base w v L) (hb : Below w.heap.size w w') : FsAt base w' v L :=
  ⟨World.ownsRow.kept h.own (row := Option.none) ⟨hb.os, hb.tape, hb.output, hb.size, fun k hk _ => hb.block k hk⟩ (by cases v.ownBlock <;> simp), fun x hx => ⟨(h.each x hx).sl, (h.each x hx).rd.keep hb.size (fun k _ hk => hb.block k hk), (h.each x hx).ap, (h.each x hx).ok, (h.each x hx).len⟩⟩

/-- It stays while only a block turns that is below its base. -/
theorem FsAt.sole {base : Nat} {w w' : World} {v : Value} {L : List Fv} {S : List Nat} (h : FsAt base w v L) (hS : Sole S w w') (hk : ∀ k ∈ S, k < base) : FsAt base w' v L := by
  have hlt := World.ownsRow.lt h.own
  refine ⟨?_, fun x hx => ⟨(h.each x hx).sl, (h.each x hx).rd.keep hS.size (fun k h1 h2 => hS.block k h2 (fun e => by have := hk k e; omega)), (h.each x hx).ap, (h.each x hx).ok, (h.each x hx).len⟩⟩
  obtain ⟨h1, h2 | ⟨g, cap, cur, rfl, h3, h4, h5⟩⟩ := h.own
  · exact ⟨h1, .inl h2⟩
  · exact ⟨h1, .inr ⟨g, cap, cur, rfl, h3, (hS.block g (Array.getElem?_eq_some_iff.1 h4).1 (fun e => by have := hk g e; omega)).trans h4, h5⟩⟩

theorem FsAt.shape {base : Nat} {w : World} {v : Value} {L : List Fv} (h : FsAt base w v L) : ∃ a c, v = .slice a L.length c := by
  obtain ⟨h1, ⟨rfl, h2⟩ | ⟨g, cap, cur, rfl, _⟩⟩ := h.own
  · exact ⟨none, 0, by rw [h2]⟩
  · exact ⟨_, _, rfl⟩

theorem own_shape {base n k : Nat} {w : World} {v : Value} {e : TypeId} {xs : List Value} (h : w.ownsRow base e k v n xs) : ∃ a c, v = .slice a n c := by
  obtain ⟨h1, ⟨rfl, h2⟩ | ⟨g, cap, cur, rfl, _⟩⟩ := h
  · exact ⟨none, 0, by rw [h2]⟩
  · exact ⟨_, _, rfl⟩

/-- What a row in a block holds, from its first cell on. -/
theorem rowAdd {W : World} {g : Nat} {cs : Array Value} {e : TypeId} {fr : Nat × Nat} (h : W.heap[g]? = some (.cells cs e fr)) : ∀ j x, cs.toList[j]? = some x → W.cell? ((⟨g, 0, none⟩ : Addr).add j) = some x := by
  intro j x hx
  have e1 : (⟨g, 0, none⟩ : Addr).add j = ⟨g, j, none⟩ := by unfold Addr.add; split <;> simp_all
  rw [e1, cell_of_row W g j cs e fr h, ← Array.getElem?_toList]
  exact hx

/-- The blocks that hold a piece, of the first k. -/
def idxL (V : Nat → Pc) (k : Nat) : List Nat := (List.range k).filter fun i => decide ((V i).kind ≠ 0)
def tailK (V : Nat → Pc) : Nat → Nat
  | 0 => 0
  | k + 1 => max (tailK V k) (V k).tail
theorem idx_succ (V : Nat → Pc) (k : Nat) : idxL V (k + 1) = idxL V k ++ (if (V k).kind = 0 then [] else [k]) := by
  unfold idxL
  rw [List.range_succ, List.filter_append]
  congr 1
  by_cases h : (V k).kind = 0
  · simp [h]
  · simp [h]
theorem idx_len (V : Nat → Pc) (k : Nat) : (idxL V k).length ≤ k := by unfold idxL; exact Nat.le_trans (List.length_filter_le _ _) (by simp)
theorem tailK_lt {V : Nat → Pc} (h : ∀ i, (V i).tail < 18446744073709551616) : ∀ k, tailK V k < 18446744073709551616
  | 0 => by unfold tailK; decide
  | k + 1 => by
    unfold tailK
    have := h k
    have := tailK_lt h k
    omega

/-- What the ring shows. -/
def viewP (s : St) (f : Int) (i : Nat) : Pc := bodyP (unB (seen s (f + i)))

/-- The ring's blocks may be read, and each holds a piece. -/
structure RingOk (s : St) (f : Int) (N : Nat) : Prop where
  f0 : 0 ≤ f
  fn : f + N ≤ s.blocks
  on : s.off = false
  un : ∀ i : Nat, i < N → unE (seen s (f + i)) = 0

theorem viewP_ok {s : St} (h : Good s) (f : Int) (i : Nat) (hu : unE (seen s (f + i)) = 0) : PcOk (viewP s f i) ∧ (viewP s f i).body.length = 488 :=
  bodyP_ok (unB_byt (seen_blk h (f + i)).2) (unB_len (seen_blk h (f + i)).1 hu)

theorem RingOk.use {s : St} {f : Int} {N : Nat} (h : RingOk s f N) {i : Nat} (hi : i < N) : useErr s (f + i) = 0 := by
  unfold useErr
  have := h.f0
  have := h.fn
  rw [h.on, if_neg (by decide), if_neg (by omega)]

def finC (p : Nat) (f c : Int) (av : Value) (t : Nat) (kv : Value) (e : Nat) : Array Value := #[ptr p, .int .i64 f, .int .i64 c, av, .int .u64 t, kv, .int .u64 e]

/-- One piece more in the row. -/
theorem FsAt.snoc {base : Nat} {w w' : World} {v v' : Value} {L : List Fv} {x : Fv} (h : FsAt base w v L) (ho : w'.ownsRow base 117 7 v' (L.length + 1) (L.flatMap fvC ++ fvC x)) (hg : w.grownBy w' v.ownBlock) (hx : FvAt base w v x)
    (hv : v'.ownBlock = v.ownBlock ∨ v'.ownBlock = some w.heap.size) : FsAt base w' v' (L ++ [x]) := by
  refine ⟨by simpa using ho, fun y hy => ?_⟩
  have hy' : FvAt base w v y := by
    rcases List.mem_append.1 hy with hy | hy
    · exact h.each y hy
    · simp only [List.mem_singleton] at hy; rw [hy]; exact hx
  obtain ⟨⟨a, n, d, hs⟩, hr, hap, hok, hln⟩ := hy'
  have hlt : ∀ b off l c, y.v = .slice (some ⟨b, off, none⟩) l c → y.p.body ≠ [] → b < w.heap.size := fun b off l c e hne => by
    obtain ⟨⟨a', c', e', _, _, _, h4⟩, _⟩ := hr
    obtain ⟨b', off', rfl, hl, _⟩ := h4 hne
    rw [e] at e'
    simp only [Value.slice.injEq, Option.some.injEq, Addr.mk.injEq] at e'
    rw [e'.1.1]; exact hl
  refine ⟨⟨a, n, d, hs⟩, ⟨?_, hr.2⟩, fun b off l c e hne => ?_, hok, hln⟩
  · obtain ⟨⟨a', c', e', h1, h2, h3, h4⟩, _⟩ := hr
    refine ⟨a', c', e', h1, h2, h3, fun hne => ?_⟩
    obtain ⟨b', off', rfl, hl, hc⟩ := h4 hne
    exact ⟨b', off', rfl, Nat.lt_of_lt_of_le hl hg.size, fun i hi => (World.cell?_of_block (a := ⟨b', off' + i, none⟩) (hg.block b' hl (fun e => hap b' off' _ _ e' hne e.symm))).trans (hc i hi)⟩
  · rcases hv with hv | hv
    · rw [hv]; exact hap b off l c e hne
    · intro e2
      rw [hv] at e2
      have := hlt b off l c e hne
      simp only [Option.some.injEq] at e2
      omega

end Go.Proofs.YtckcdmkgmbicfaaGreat
