/- The chapter's examples: live. -/
import Derived.Test.YtanbjdcffcnfgaaQLive0
import Derived.Test.YtanbjdcffcnfgaaQSame
import Derived.Test.YtanbjdcffcnfgaaQHead3
import Derived.Deep.RegionHeld3
namespace Go.Proofs.Ytanbjdcffcnfgaa
open Go.RowKit
set_option linter.unusedVariables false
set_option linter.unusedSimpArgs false
set_option maxRecDepth 4000

theorem keepB {w1 W : World} (h : Below w1.heap.size w1 W) (o : Obj) : Below w1.heap.size w1 (W.alloc o) := h.alloc h.size o

set_option maxHeartbeats 1000000 in
theorem key_any (w : World) (c : Int) (h0 : 0 ≤ c) (h1 : c ≤ 255) : Calls Try.prog 25 #[.int .u8 c] w fun e w' => e = .returned (.string (keyS c)) ∧ Below w.heap.size w w' := by
  have hr : Rd (w.alloc (.cells #[.int .u8 c, .int .u8 0, .int .u8 0, .int .u8 0, .int .u8 0, .int .u8 0, .int .u8 0, .int .u8 0, .int .u8 0, .int .u8 0, .int .u8 0, .int .u8 0, .int .u8 0, .int .u8 0] 5)) (.slice (some ⟨w.heap.size, 0, none⟩) 14 14) (c :: List.replicate 13 0) := Rd.laid rfl (by decide) rfl
  have hcv := hr.conv
  have hk : strOfNums (c :: List.replicate 13 0) = keyS c := rfl
  rw [hk] at hcv
  clear hr hk
  have hmk : (Instr.makeSlice 28 (.int .i64 14) (.int .i64 14)).run Try.prog w = .ok (.slice (some ⟨w.heap.size, 0, none⟩) 14 14) (w.alloc (.cells #[.int .u8 0, .int .u8 0, .int .u8 0, .int .u8 0, .int .u8 0, .int .u8 0, .int .u8 0, .int .u8 0, .int .u8 0, .int .u8 0, .int .u8 0, .int .u8 0, .int .u8 0, .int .u8 0] 5)) := make_bytes w 14 14 rfl (by decide)
  go_enter Try.func25, Try.ntmps25
  go_wp2
  go_ret
  exact ⟨rfl, (Below.refl _ _).alloc (Nat.le_refl _) _⟩

theorem rdE_row {α : Type} {k : Nat} {enc : α → List Value} (hk : ∀ x, (enc x).length = k) {W : World} {g n : Nat} {cs : Array Value} {t : TypeId} {fr : Nat × Nat} (l : List α) (h : W.heap[g]? = some (.cells cs t fr)) (hc : cs.toList = l.flatMap enc) (hn : l.length = n) (hm : n ≤ maxLen) : RdE k enc W (.slice (some ⟨g, 0, none⟩) n n) l := by
  subst hn
  refine ⟨_, _, rfl, Nat.le_refl _, hm, fun _ => ⟨g, 0, rfl, (Array.getElem?_eq_some_iff.1 h).1, fun i x j u hi hj => ?_⟩⟩
  have e := flat_at k enc hk l i x j u hi hj
  rw [Nat.zero_add, cell_of_row W g _ cs _ fr h, ← Array.getElem?_toList, hc]
  exact e

theorem node5 (W : World) : NdAt (W.alloc (.cells #[.int .u32 5] 38)) (.agg #[.bool false, .slice none 0 0, .slice none 0 0, .slice (some ⟨W.heap.size, 0, none⟩) 1 1]) ⟨false, [], [], [5]⟩ :=
  ⟨none, 0, none, 0, _, _, rfl, RdE.nil _ _ _, RdE.nil _ _ _, rdE_row (enc := u32E) (fun _ => rfl) [5] (heap_alloc_new W _) rfl rfl (by decide), by decide⟩

set_option maxHeartbeats 16000000 in
theorem live_any (w : World) : Calls Try.prog 9 #[] w fun e w' => e = .returned (.bool true) ∧ Below w.heap.size w w' := by
  have hh := encodeHead_any w liveH live_hdok
  unfold hdV liveH at hh
  dsimp only at hh
  have hbl := headBlock_length liveH
  unfold liveH at hbl
  go_enter Try.func9, Try.ntmps9
  go_wp2_with fail
  refine hh.mono ?_
  rintro e w1 ⟨u1, rfl, ho1, hb1⟩
  obtain ⟨gh, ch, rfl, hch, hcm⟩ := ho1.open (by omega)
  rw [hbl] at hch ⊢
  have hrh : Rd w1 (.slice (some ⟨gh, 0, none⟩) 512 ch) (headBlock liveH) := by have := ho1.rd; rw [hbl] at this; exact this
  clear hh ho1
  have s1 := hb1.size
  go_wp2_with fail
  refine (key_any _ 98 (by decide) (by decide)).mono ?_
  rintro e w2 ⟨rfl, hb2⟩
  go_wp2_with fail
  refine (key_any _ 100 (by decide) (by decide)).mono ?_
  rintro e w3 ⟨rfl, hb3⟩
  have hk1 := heap_alloc_new w1 (.cells #[.int .u32 5, .int .u32 6, .int .u32 7] 38)
  have zk1 : (w1.alloc (.cells #[.int .u32 5, .int .u32 6, .int .u32 7] 38)).heap.size = w1.heap.size + 1 := by simp
  have bk1 : Below w1.heap.size w1 (w1.alloc (.cells #[.int .u32 5, .int .u32 6, .int .u32 7] 38)) := (Below.refl _ _).alloc (Nat.le_refl _) _
  generalize w1.alloc (.cells #[.int .u32 5, .int .u32 6, .int .u32 7] 38) = W1 at *
  have s2 := hb2.size
  have s3 := hb3.size
  have hk3 := (hb3.block w1.heap.size (by omega)).trans ((hb2.block w1.heap.size (by omega)).trans hk1)
  generalize hkb : keyS 98 = kb at *
  generalize hkd : keyS 100 = kd at *
  have hs4 := heap_alloc2_old w3 (.cells #[.string kb, .string kd] 9) (.cells #[.bool false, .slice none 0 0, .slice (some ⟨w3.heap.size, 0, none⟩) 2 2, .slice (some ⟨w1.heap.size, 0, none⟩) 3 3] 26)
  have hn4 := heap_alloc2_new w3 (.cells #[.string kb, .string kd] 9) (.cells #[.bool false, .slice none 0 0, .slice (some ⟨w3.heap.size, 0, none⟩) 2 2, .slice (some ⟨w1.heap.size, 0, none⟩) 3 3] 26)
  have b4 : Below w3.heap.size w3 ((w3.alloc (.cells #[.string kb, .string kd] 9)).alloc (.cells #[.bool false, .slice none 0 0, .slice (some ⟨w3.heap.size, 0, none⟩) 2 2, .slice (some ⟨w1.heap.size, 0, none⟩) 3 3] 26)) := ((Below.refl _ w3).alloc (Nat.le_refl _) _).alloc (by simp) _
  have z4 : ((w3.alloc (.cells #[.string kb, .string kd] 9)).alloc (.cells #[.bool false, .slice none 0 0, .slice (some ⟨w3.heap.size, 0, none⟩) 2 2, .slice (some ⟨w1.heap.size, 0, none⟩) 3 3] 26)).heap.size = w3.heap.size + 2 := by simp
  have hk4 := (b4.block w1.heap.size (by omega)).trans hk3
  go_wp2_with fail
  generalize hW4 : (w3.alloc (.cells #[.string kb, .string kd] 9)).alloc (.cells #[.bool false, .slice none 0 0, .slice (some ⟨w3.heap.size, 0, none⟩) 2 2, .slice (some ⟨w1.heap.size, 0, none⟩) 3 3] 26) = W4 at *
  clear hW4 hk1 hk3
  have hnA4 : ∀ W, Below W4.heap.size W4 W → NdAt W (.agg #[.bool false, .slice none 0 0, .slice (some ⟨w3.heap.size, 0, none⟩) 2 2, .slice (some ⟨w1.heap.size, 0, none⟩) 3 3]) liveN := fun W hW => by
    refine NdAt.below ?_ hW
    refine ⟨none, 0, _, 2, _, 3, rfl, RdE.nil _ _ _, ?_, ?_, by decide⟩
    · exact rdE_row (enc := strE) (fun _ => rfl) [keyS 98, keyS 100] hs4 (by rw [← hkb, ← hkd]; rfl) rfl (by decide)
    · exact rdE_row (enc := u32E) (fun _ => rfl) [5, 6, 7] hk4 rfl rfl (by decide)
  refine (encode_any W4 _ liveN (hnA4 W4 (Below.refl _ _)) live_ndok).mono ?_
  rintro e w5 ⟨u5, rfl, ho5, hb5⟩
  have hE5 : nodeE liveN = 0 := by unfold nodeE; rw [live_ok]; rfl
  have hL5 : encL liveN = blockL liveN := by unfold encL; rw [live_ok]; rfl
  rw [hE5]
  rw [hL5] at ho5
  have hde := decode_any w5 u5 _ ho5.rd (blockL_byt live_ok)
  obtain ⟨q1, q2⟩ := node_back live_ok live_ndok
  rw [q1, q2] at hde
  obtain ⟨g5, c5, rfl, _, _⟩ := ho5.open (by rw [blockL_length live_ok]; decide)
  have s5 := hb5.size
  clear ho5 hE5 hL5 q1 q2
  go_wp2_with fail
  refine hde.mono ?_
  rintro e w6 ⟨u6, rfl, ho6, hb6⟩
  obtain ⟨v1, v2, v3, rfl, k1, k2, k3⟩ := id ho6
  obtain ⟨p1, e1, rfl⟩ := row_slice k1
  obtain ⟨p2, e2, rfl⟩ := row_slice k2
  obtain ⟨p3, e3, rfl⟩ := row_slice k3
  have hmA6 := ho6.at (by decide)
  have s6 := hb6.size
  clear k1 k2 k3 hde
  have hlf : liveN.leaf = false := rfl
  have hl1 : liveN.pairs.length = 0 := rfl
  have hl2 : liveN.keys.length = 2 := rfl
  have hl3 : liveN.kids.length = 3 := rfl
  rw [hlf, hl1, hl2, hl3] at hmA6 ⊢
  have hm6 := heap_alloc_new w6 (.cells #[.bool false, .slice p1 0 e1, .slice p2 2 e2, .slice p3 3 e3] 26)
  have b7 : Below w6.heap.size w6 (w6.alloc (.cells #[.bool false, .slice p1 0 e1, .slice p2 2 e2, .slice p3 3 e3] 26)) := (Below.refl _ _).alloc (Nat.le_refl _) _
  have z7 : (w6.alloc (.cells #[.bool false, .slice p1 0 e1, .slice p2 2 e2, .slice p3 3 e3] 26)).heap.size = w6.heap.size + 1 := by simp
  have hmk := fun W => make_bytes W 512 512 rfl (by decide)
  obtain ⟨M, hM⟩ : ∃ M : Array Value, (List.replicate 512 (Value.int .u8 0)).toArray = M := ⟨_, rfl⟩
  rw [hM] at hmk
  have hrz : ∀ W : World, Rd (W.alloc (.cells M 5)) (.slice (some ⟨W.heap.size, 0, none⟩) 512 512) (List.replicate 512 0) := fun W => Rd.laid (by rw [List.length_replicate]) (by decide) (by rw [← hM, List.map_replicate])
  clear hM
  go_wp2_with fail
  generalize hW7 : w6.alloc (.cells #[.bool false, .slice p1 0 e1, .slice p2 2 e2, .slice p3 3 e3] 26) = W7 at *
  have hdz := decode_any _ _ _ (hrz W7) (zeros_byt 512)
  rw [live_zero] at hdz
  have b8 : Below W7.heap.size W7 (W7.alloc (.cells M 5)) := (Below.refl _ _).alloc (Nat.le_refl _) _
  have z8 : (W7.alloc (.cells M 5)).heap.size = W7.heap.size + 1 := by simp
  generalize hW8 : W7.alloc (.cells M 5) = W8 at *
  clear hmk hrz hW7
  rw [z7] at hdz
  refine hdz.mono ?_
  rintro e w9 ⟨u9, rfl, ho9, hb9⟩
  obtain ⟨v1, v2, v3, rfl, k1, k2, k3⟩ := id ho9
  obtain ⟨r1, i1, rfl⟩ := row_slice k1
  obtain ⟨r2, i2, rfl⟩ := row_slice k2
  obtain ⟨r3, i3, rfl⟩ := row_slice k3
  clear k1 k2 k3 ho9 hdz hW8
  have s9 := hb9.size
  have b10 : Below w9.heap.size w9 (w9.alloc (.cells #[.bool (ndN (List.replicate 512 0)).leaf, .slice r1 (ndN (List.replicate 512 0)).pairs.length i1, .slice r2 (ndN (List.replicate 512 0)).keys.length i2, .slice r3 (ndN (List.replicate 512 0)).kids.length i3] 26)) := (Below.refl _ _).alloc (Nat.le_refl _) _
  generalize (ndN (List.replicate 512 0)).leaf = lf9 at *
  generalize (ndN (List.replicate 512 0)).pairs.length = ln1 at *
  generalize (ndN (List.replicate 512 0)).keys.length = ln2 at *
  generalize (ndN (List.replicate 512 0)).kids.length = ln3 at *
  generalize (blockL liveN).length = bln at *
  go_wp2_with fail
  generalize hW10 : w9.alloc (.cells #[.bool lf9, .slice r1 ln1 i1, .slice r2 ln2 i2, .slice r3 ln3 i3] 26) = W10 at *
  have s10 := b10.size
  have c9 : Below w9.heap.size w9 W10 := b10
  have c8 : Below W8.heap.size W8 W10 := hb9.trans (c9.mono hb9.size)
  have c7 : Below W7.heap.size W7 W10 := b8.trans (c8.mono b8.size)
  have c6 : Below w6.heap.size w6 W10 := b7.trans (c7.mono b7.size)
  have c5' : Below w5.heap.size w5 W10 := hb6.trans (c6.mono hb6.size)
  have c4 : Below W4.heap.size W4 W10 := hb5.trans (c5'.mono hb5.size)
  have c3 : Below w3.heap.size w3 W10 := b4.trans (c4.mono b4.size)
  have c2 : Below w2.heap.size w2 W10 := hb3.trans (c3.mono hb3.size)
  have c1 : Below W1.heap.size W1 W10 := hb2.trans (c2.mono hb2.size)
  have c0 : Below w1.heap.size w1 W10 := bk1.trans (c1.mono bk1.size)
  have cw : Below w.heap.size w W10 := hb1.trans (c0.mono hb1.size)
  have ss : ∀ {A B : World}, Below A.heap.size A W10 → Below W10.heap.size W10 B → Below A.heap.size A B := fun h k => h.trans (k.mono h.size)
  have hnA : ∀ W, Below W10.heap.size W10 W → NdAt W (.agg #[.bool false, .slice none 0 0, .slice (some ⟨w3.heap.size, 0, none⟩) 2 2, .slice (some ⟨w1.heap.size, 0, none⟩) 3 3]) liveN := fun W hW => hnA4 W (ss c4 hW)
  have hmA : ∀ W, Below W10.heap.size W10 W → NdAt W (.agg #[.bool false, .slice p1 0 e1, .slice p2 2 e2, .slice p3 3 e3]) liveN := fun W hW => hmA6.below (ss c6 hW)
  have hN : ∀ W, Below W10.heap.size W10 W → W.heap[w3.heap.size + 1]? = some (.cells #[.bool false, .slice none 0 0, .slice (some ⟨w3.heap.size, 0, none⟩) 2 2, .slice (some ⟨w1.heap.size, 0, none⟩) 3 3] 26 (0, 0)) := fun W hW => ((ss c4 hW).block _ (by omega)).trans hn4
  have hMb : ∀ W, Below W10.heap.size W10 W → W.heap[w6.heap.size]? = some (.cells #[.bool false, .slice p1 0 e1, .slice p2 2 e2, .slice p3 3 e3] 26 (0, 0)) := fun W hW => ((ss c7 hW).block _ (by omega)).trans hm6
  have n0 : ∀ W, Below W10.heap.size W10 W → W.cell? ⟨w3.heap.size + 1, 0, none⟩ = some (.bool false) := fun W hW => cell_of_row W _ 0 _ _ (0, 0) (hN W hW)
  have n1 : ∀ W, Below W10.heap.size W10 W → W.cell? ⟨w3.heap.size + 1, 1, none⟩ = some (.slice none 0 0) := fun W hW => cell_of_row W _ 1 _ _ (0, 0) (hN W hW)
  have n2 : ∀ W, Below W10.heap.size W10 W → W.cell? ⟨w3.heap.size + 1, 2, none⟩ = some (.slice (some ⟨w3.heap.size, 0, none⟩) 2 2) := fun W hW => cell_of_row W _ 2 _ _ (0, 0) (hN W hW)
  have n3 : ∀ W, Below W10.heap.size W10 W → W.cell? ⟨w3.heap.size + 1, 3, none⟩ = some (.slice (some ⟨w1.heap.size, 0, none⟩) 3 3) := fun W hW => cell_of_row W _ 3 _ _ (0, 0) (hN W hW)
  have m0 : ∀ W, Below W10.heap.size W10 W → W.cell? ⟨w6.heap.size, 0, none⟩ = some (.bool false) := fun W hW => cell_of_row W _ 0 _ _ (0, 0) (hMb W hW)
  have m1 : ∀ W, Below W10.heap.size W10 W → W.cell? ⟨w6.heap.size, 1, none⟩ = some (.slice p1 0 e1) := fun W hW => cell_of_row W _ 1 _ _ (0, 0) (hMb W hW)
  have m2 : ∀ W, Below W10.heap.size W10 W → W.cell? ⟨w6.heap.size, 2, none⟩ = some (.slice p2 2 e2) := fun W hW => cell_of_row W _ 2 _ _ (0, 0) (hMb W hW)
  have m3 : ∀ W, Below W10.heap.size W10 W → W.cell? ⟨w6.heap.size, 3, none⟩ = some (.slice p3 3 e3) := fun W hW => cell_of_row W _ 3 _ _ (0, 0) (hMb W hW)
  have hcv : ∀ W, Below W10.heap.size W10 W → (convert 28 9 (.slice (some ⟨gh, 0, none⟩) 8 ch)).run Try.prog W = .ok (.string ⟨#[97, 114, 109, 111, 105, 114, 101, 49]⟩) W := fun W hW => by
    rw [← live_hd]
    exact ((hrh.cut 8 (by decide)).below (ss c0 hW)).conv
  have h35 : ∀ W, Below W10.heap.size W10 W → W.cell? ⟨gh, 35, none⟩ = some (.int .u8 7) := fun W hW => by
    obtain ⟨a, cp, e, _, _, _, h3⟩ := hrh.below (ss c0 hW)
    have hbl' : (headBlock liveH).length = 512 := headBlock_length liveH
    obtain ⟨b', off', e', _, hcc⟩ := h3 (by intro e; rw [e] at hbl'; cases hbl')
    simp only [Value.slice.injEq] at e
    obtain ⟨rfl, _, _⟩ := e
    simp only [Option.some.injEq, Addr.mk.injEq] at e'
    obtain ⟨rfl, rfl, _⟩ := e'
    have := hcc 35 (by omega)
    rw [live_35, Nat.zero_add] at this
    exact this
  have hc8 : (8 : Int) ≤ ch := by omega
  have hc8' : ¬ ch < 8 := by omega
  clear hnA4 hmA6 hN hMb hn4 hm6 hs4 hk4 hrh c9 c8 c7 c6 c5' c4 c3 c2 c1 c0 ss hb1 hb2 hb3 hb5 hb6 hb9 b4 b7 b8 b10 bk1 hW10 hbl hkb hkd
  refine wp_region_noPanic ?_
  refine wp_region_held_drew (S := fun W => Below W10.heap.size W10 W) (by kernel_rfl) (Below.refl _ _).drew (fun hHeld => ?_)
  refine wpAnyH_take (i := 0) (v := .slice (some ⟨gh, 0, none⟩) 512 ch) rfl (by kernel_rfl) (by kernel_rfl) (by kernel_rfl) (fun _ _ _ h => h) (Or.inl ⟨by rfl, fun W hSw => by (try dsimp only at hSw); go_simp⟩) (by assumption) ?_
  simp only [List.getElem_toArray, List.getElem_cons_zero, List.getElem_cons_succ, Act.put, List.setIfInBounds_toArray, List.set_cons_zero, List.set_cons_succ]
  refine wpAnyH_take (i := 1) (v := .int .i64 512) rfl (by kernel_rfl) (by kernel_rfl) (by kernel_rfl) (fun _ _ _ h => h) (Or.inl ⟨by rfl, fun W hSw => by (try dsimp only at hSw); go_simp⟩) (by assumption) ?_
  simp only [List.getElem_toArray, List.getElem_cons_zero, List.getElem_cons_succ, Act.put, List.setIfInBounds_toArray, List.set_cons_zero, List.set_cons_succ]
  refine wpAnyH_take (i := 2) (v := .bool true) rfl (by kernel_rfl) (by kernel_rfl) (by kernel_rfl) (fun _ _ _ h => h) (Or.inl ⟨by rfl, fun W hSw => by (try dsimp only at hSw); go_simp⟩) (by assumption) ?_
  simp only [List.getElem_toArray, List.getElem_cons_zero, List.getElem_cons_succ, Act.put, List.setIfInBounds_toArray, List.set_cons_zero, List.set_cons_succ]
  refine wpAnyH_take (i := 3) (v := .bool true) rfl (by kernel_rfl) (by kernel_rfl) (by kernel_rfl) (fun _ _ _ h => h) (Or.inl ⟨by rfl, fun W hSw => by (try dsimp only at hSw); go_simp⟩) (by assumption) ?_
  simp only [List.getElem_toArray, List.getElem_cons_zero, List.getElem_cons_succ, Act.put, List.setIfInBounds_toArray, List.set_cons_zero, List.set_cons_succ]
  refine wpAnyH_take (i := 4) (v := .slice (some ⟨gh, 0, none⟩) 512 ch) rfl (by kernel_rfl) (by kernel_rfl) (by kernel_rfl) (fun _ _ _ h => h) (Or.inl ⟨by rfl, fun W hSw => by (try dsimp only at hSw); go_simp⟩) (by assumption) ?_
  simp only [List.getElem_toArray, List.getElem_cons_zero, List.getElem_cons_succ, Act.put, List.setIfInBounds_toArray, List.set_cons_zero, List.set_cons_succ]
  refine wpAnyH_take (i := 5) (v := .slice (some ⟨gh, 0, none⟩) 8 ch) rfl (by kernel_rfl) (by kernel_rfl) (by kernel_rfl) (fun _ _ _ h => h) (Or.inl ⟨by rfl, fun W hSw => by (try dsimp only at hSw); go_simp⟩) (by assumption) ?_
  simp only [List.getElem_toArray, List.getElem_cons_zero, List.getElem_cons_succ, Act.put, List.setIfInBounds_toArray, List.set_cons_zero, List.set_cons_succ]
  refine wpAnyH_take (i := 6) (v := .string ⟨#[97, 114, 109, 111, 105, 114, 101, 49]⟩) rfl (by kernel_rfl) (by kernel_rfl) (by kernel_rfl) (fun _ _ _ h => h) (Or.inl ⟨by rfl, fun W hSw => by (try dsimp only at hSw); go_simp⟩) (by assumption) ?_
  simp only [List.getElem_toArray, List.getElem_cons_zero, List.getElem_cons_succ, Act.put, List.setIfInBounds_toArray, List.set_cons_zero, List.set_cons_succ]
  refine wpAnyH_take (i := 7) (v := .bool true) rfl (by kernel_rfl) (by kernel_rfl) (by kernel_rfl) (fun _ _ _ h => h) (Or.inl ⟨by rfl, fun W hSw => by (try dsimp only at hSw); go_simp⟩) (by assumption) ?_
  simp only [List.getElem_toArray, List.getElem_cons_zero, List.getElem_cons_succ, Act.put, List.setIfInBounds_toArray, List.set_cons_zero, List.set_cons_succ]
  refine wpAnyH_take (i := 8) (v := .bool true) rfl (by kernel_rfl) (by kernel_rfl) (by kernel_rfl) (fun _ _ _ h => h) (Or.inl ⟨by rfl, fun W hSw => by (try dsimp only at hSw); go_simp⟩) (by assumption) ?_
  simp only [List.getElem_toArray, List.getElem_cons_zero, List.getElem_cons_succ, Act.put, List.setIfInBounds_toArray, List.set_cons_zero, List.set_cons_succ]
  refine wpAnyH_take (i := 9) (v := .bool true) rfl (by kernel_rfl) (by kernel_rfl) (by kernel_rfl) (fun _ _ _ h => h) (Or.inl ⟨by rfl, fun W hSw => by (try dsimp only at hSw); go_simp⟩) (by assumption) ?_
  simp only [List.getElem_toArray, List.getElem_cons_zero, List.getElem_cons_succ, Act.put, List.setIfInBounds_toArray, List.set_cons_zero, List.set_cons_succ]
  refine wpAnyH_take (i := 10) (v := .slice (some ⟨gh, 0, none⟩) 512 ch) rfl (by kernel_rfl) (by kernel_rfl) (by kernel_rfl) (fun _ _ _ h => h) (Or.inl ⟨by rfl, fun W hSw => by (try dsimp only at hSw); go_simp⟩) (by assumption) ?_
  simp only [List.getElem_toArray, List.getElem_cons_zero, List.getElem_cons_succ, Act.put, List.setIfInBounds_toArray, List.set_cons_zero, List.set_cons_succ]
  refine wpAnyH_take (i := 11) (v := .pointer (some ⟨gh, 35, none⟩)) rfl (by kernel_rfl) (by kernel_rfl) (by kernel_rfl) (fun _ _ _ h => h) (Or.inl ⟨by rfl, fun W hSw => by (try dsimp only at hSw); go_simp⟩) (by assumption) ?_
  simp only [List.getElem_toArray, List.getElem_cons_zero, List.getElem_cons_succ, Act.put, List.setIfInBounds_toArray, List.set_cons_zero, List.set_cons_succ]
  refine wpAnyH_take (i := 12) (v := .int .u8 7) rfl (by kernel_rfl) (by kernel_rfl) (by kernel_rfl) (fun _ _ _ h => h) (Or.inl ⟨by rfl, fun W hSw => by (try dsimp only at hSw); go_simp⟩) (by assumption) ?_
  simp only [List.getElem_toArray, List.getElem_cons_zero, List.getElem_cons_succ, Act.put, List.setIfInBounds_toArray, List.set_cons_zero, List.set_cons_succ]
  refine wpAnyH_take (i := 13) (v := .bool true) rfl (by kernel_rfl) (by kernel_rfl) (by kernel_rfl) (fun _ _ _ h => h) (Or.inl ⟨by rfl, fun W hSw => by (try dsimp only at hSw); go_simp⟩) (by assumption) ?_
  simp only [List.getElem_toArray, List.getElem_cons_zero, List.getElem_cons_succ, Act.put, List.setIfInBounds_toArray, List.set_cons_zero, List.set_cons_succ]
  refine wpAnyH_take (i := 14) (v := .bool true) rfl (by kernel_rfl) (by kernel_rfl) (by kernel_rfl) (fun _ _ _ h => h) (Or.inl ⟨by rfl, fun W hSw => by (try dsimp only at hSw); go_simp⟩) (by assumption) ?_
  simp only [List.getElem_toArray, List.getElem_cons_zero, List.getElem_cons_succ, Act.put, List.setIfInBounds_toArray, List.set_cons_zero, List.set_cons_succ]
  refine wpAnyH_take (i := 15) (v := .bool true) rfl (by kernel_rfl) (by kernel_rfl) (by kernel_rfl) (fun _ _ _ h => h) (Or.inl ⟨by rfl, fun W hSw => by (try dsimp only at hSw); go_simp⟩) (by assumption) ?_
  simp only [List.getElem_toArray, List.getElem_cons_zero, List.getElem_cons_succ, Act.put, List.setIfInBounds_toArray, List.set_cons_zero, List.set_cons_succ]
  refine wpAnyH_take (i := 16) (v := .agg #[.bool false, .slice none 0 0, .slice (some ⟨w3.heap.size, 0, none⟩) 2 2, .slice (some ⟨w1.heap.size, 0, none⟩) 3 3]) rfl (by kernel_rfl) (by kernel_rfl) (by kernel_rfl) (fun _ _ _ h => h) (Or.inl ⟨by rfl, fun W hSw => by (try dsimp only at hSw); go_simp⟩) (by assumption) ?_
  simp only [List.getElem_toArray, List.getElem_cons_zero, List.getElem_cons_succ, Act.put, List.setIfInBounds_toArray, List.set_cons_zero, List.set_cons_succ]
  refine wpAnyH_ready (rs := [17]) (by kernel_rfl) (by simp) ?_
  refine AllReadyH.cons rfl (fun K hK => ?_) AllReadyH.nil
  go_simp
  go_wp2_with (go_at_call 25; refine (key_any _ 97 (by decide) (by decide)).mono ?_; rintro e x0 ⟨rfl, hx0⟩)
  refine hK.out _ _ (keep2 (by assumption) (by assumption)) (fun hHeld2 => ?_)
  clear hK K
  refine wpAnyH_ready (rs := [18]) (by kernel_rfl) (by simp) ?_
  refine AllReadyH.cons rfl (fun K hK => ?_) AllReadyH.nil
  go_simp
  go_wp2_with (go_at_call 14; refine (childP_any _ _ liveN (keyS 97) (hnA _ (by assumption))).mono ?_; rintro e x1 ⟨rfl, hx1⟩; rw [live_a])
  refine hK.out _ _ (keep2 (by assumption) (by assumption)) (fun hHeld2 => ?_)
  clear hK K
  refine wpAnyH_take (i := 19) (v := .bool true) rfl (by kernel_rfl) (by kernel_rfl) (by kernel_rfl) (fun _ _ _ h => h) (Or.inl ⟨by rfl, fun W hSw => by (try dsimp only at hSw); go_simp⟩) (by assumption) ?_
  simp only [List.getElem_toArray, List.getElem_cons_zero, List.getElem_cons_succ, Act.put, List.setIfInBounds_toArray, List.set_cons_zero, List.set_cons_succ]
  refine wpAnyH_take (i := 20) (v := .bool true) rfl (by kernel_rfl) (by kernel_rfl) (by kernel_rfl) (fun _ _ _ h => h) (Or.inl ⟨by rfl, fun W hSw => by (try dsimp only at hSw); go_simp⟩) (by assumption) ?_
  simp only [List.getElem_toArray, List.getElem_cons_zero, List.getElem_cons_succ, Act.put, List.setIfInBounds_toArray, List.set_cons_zero, List.set_cons_succ]
  refine wpAnyH_take (i := 21) (v := .bool true) rfl (by kernel_rfl) (by kernel_rfl) (by kernel_rfl) (fun _ _ _ h => h) (Or.inl ⟨by rfl, fun W hSw => by (try dsimp only at hSw); go_simp⟩) (by assumption) ?_
  simp only [List.getElem_toArray, List.getElem_cons_zero, List.getElem_cons_succ, Act.put, List.setIfInBounds_toArray, List.set_cons_zero, List.set_cons_succ]
  refine wpAnyH_take (i := 22) (v := .agg #[.bool false, .slice none 0 0, .slice (some ⟨w3.heap.size, 0, none⟩) 2 2, .slice (some ⟨w1.heap.size, 0, none⟩) 3 3]) rfl (by kernel_rfl) (by kernel_rfl) (by kernel_rfl) (fun _ _ _ h => h) (Or.inl ⟨by rfl, fun W hSw => by (try dsimp only at hSw); go_simp⟩) (by assumption) ?_
  simp only [List.getElem_toArray, List.getElem_cons_zero, List.getElem_cons_succ, Act.put, List.setIfInBounds_toArray, List.set_cons_zero, List.set_cons_succ]
  refine wpAnyH_ready (rs := [23]) (by kernel_rfl) (by simp) ?_
  refine AllReadyH.cons rfl (fun K hK => ?_) AllReadyH.nil
  go_simp
  go_wp2_with (go_at_call 25; refine (key_any _ 98 (by decide) (by decide)).mono ?_; rintro e x2 ⟨rfl, hx2⟩)
  refine hK.out _ _ (keep2 (by assumption) (by assumption)) (fun hHeld2 => ?_)
  clear hK K
  refine wpAnyH_ready (rs := [24]) (by kernel_rfl) (by simp) ?_
  refine AllReadyH.cons rfl (fun K hK => ?_) AllReadyH.nil
  go_simp
  go_wp2_with (go_at_call 14; refine (childP_any _ _ liveN (keyS 98) (hnA _ (by assumption))).mono ?_; rintro e x3 ⟨rfl, hx3⟩; rw [live_b])
  refine hK.out _ _ (keep2 (by assumption) (by assumption)) (fun hHeld2 => ?_)
  clear hK K
  refine wpAnyH_take (i := 25) (v := .bool true) rfl (by kernel_rfl) (by kernel_rfl) (by kernel_rfl) (fun _ _ _ h => h) (Or.inl ⟨by rfl, fun W hSw => by (try dsimp only at hSw); go_simp⟩) (by assumption) ?_
  simp only [List.getElem_toArray, List.getElem_cons_zero, List.getElem_cons_succ, Act.put, List.setIfInBounds_toArray, List.set_cons_zero, List.set_cons_succ]
  refine wpAnyH_take (i := 26) (v := .bool true) rfl (by kernel_rfl) (by kernel_rfl) (by kernel_rfl) (fun _ _ _ h => h) (Or.inl ⟨by rfl, fun W hSw => by (try dsimp only at hSw); go_simp⟩) (by assumption) ?_
  simp only [List.getElem_toArray, List.getElem_cons_zero, List.getElem_cons_succ, Act.put, List.setIfInBounds_toArray, List.set_cons_zero, List.set_cons_succ]
  refine wpAnyH_take (i := 27) (v := .bool true) rfl (by kernel_rfl) (by kernel_rfl) (by kernel_rfl) (fun _ _ _ h => h) (Or.inl ⟨by rfl, fun W hSw => by (try dsimp only at hSw); go_simp⟩) (by assumption) ?_
  simp only [List.getElem_toArray, List.getElem_cons_zero, List.getElem_cons_succ, Act.put, List.setIfInBounds_toArray, List.set_cons_zero, List.set_cons_succ]
  refine wpAnyH_take (i := 28) (v := .agg #[.bool false, .slice none 0 0, .slice (some ⟨w3.heap.size, 0, none⟩) 2 2, .slice (some ⟨w1.heap.size, 0, none⟩) 3 3]) rfl (by kernel_rfl) (by kernel_rfl) (by kernel_rfl) (fun _ _ _ h => h) (Or.inl ⟨by rfl, fun W hSw => by (try dsimp only at hSw); go_simp⟩) (by assumption) ?_
  simp only [List.getElem_toArray, List.getElem_cons_zero, List.getElem_cons_succ, Act.put, List.setIfInBounds_toArray, List.set_cons_zero, List.set_cons_succ]
  refine wpAnyH_ready (rs := [29]) (by kernel_rfl) (by simp) ?_
  refine AllReadyH.cons rfl (fun K hK => ?_) AllReadyH.nil
  go_simp
  go_wp2_with (go_at_call 25; refine (key_any _ 101 (by decide) (by decide)).mono ?_; rintro e x4 ⟨rfl, hx4⟩)
  refine hK.out _ _ (keep2 (by assumption) (by assumption)) (fun hHeld2 => ?_)
  clear hK K
  refine wpAnyH_ready (rs := [30]) (by kernel_rfl) (by simp) ?_
  refine AllReadyH.cons rfl (fun K hK => ?_) AllReadyH.nil
  go_simp
  go_wp2_with (go_at_call 14; refine (childP_any _ _ liveN (keyS 101) (hnA _ (by assumption))).mono ?_; rintro e x5 ⟨rfl, hx5⟩; rw [live_e])
  refine hK.out _ _ (keep2 (by assumption) (by assumption)) (fun hHeld2 => ?_)
  clear hK K
  refine wpAnyH_take (i := 31) (v := .bool true) rfl (by kernel_rfl) (by kernel_rfl) (by kernel_rfl) (fun _ _ _ h => h) (Or.inl ⟨by rfl, fun W hSw => by (try dsimp only at hSw); go_simp⟩) (by assumption) ?_
  simp only [List.getElem_toArray, List.getElem_cons_zero, List.getElem_cons_succ, Act.put, List.setIfInBounds_toArray, List.set_cons_zero, List.set_cons_succ]
  refine wpAnyH_take (i := 32) (v := .bool true) rfl (by kernel_rfl) (by kernel_rfl) (by kernel_rfl) (fun _ _ _ h => h) (Or.inl ⟨by rfl, fun W hSw => by (try dsimp only at hSw); go_simp⟩) (by assumption) ?_
  simp only [List.getElem_toArray, List.getElem_cons_zero, List.getElem_cons_succ, Act.put, List.setIfInBounds_toArray, List.set_cons_zero, List.set_cons_succ]
  refine wpAnyH_take (i := 33) (v := .bool true) rfl (by kernel_rfl) (by kernel_rfl) (by kernel_rfl) (fun _ _ _ h => h) (Or.inl ⟨by rfl, fun W hSw => by (try dsimp only at hSw); go_simp⟩) (by assumption) ?_
  simp only [List.getElem_toArray, List.getElem_cons_zero, List.getElem_cons_succ, Act.put, List.setIfInBounds_toArray, List.set_cons_zero, List.set_cons_succ]
  refine wpAnyH_take (i := 34) (v := .int .i64 0) rfl (by kernel_rfl) (by kernel_rfl) (by kernel_rfl) (fun _ _ _ h => h) (Or.inl ⟨by rfl, fun W hSw => by (try dsimp only at hSw); go_simp⟩) (by assumption) ?_
  simp only [List.getElem_toArray, List.getElem_cons_zero, List.getElem_cons_succ, Act.put, List.setIfInBounds_toArray, List.set_cons_zero, List.set_cons_succ]
  refine wpAnyH_take (i := 35) (v := .bool true) rfl (by kernel_rfl) (by kernel_rfl) (by kernel_rfl) (fun _ _ _ h => h) (Or.inl ⟨by rfl, fun W hSw => by (try dsimp only at hSw); go_simp⟩) (by assumption) ?_
  simp only [List.getElem_toArray, List.getElem_cons_zero, List.getElem_cons_succ, Act.put, List.setIfInBounds_toArray, List.set_cons_zero, List.set_cons_succ]
  refine wpAnyH_take (i := 36) (v := .bool true) rfl (by kernel_rfl) (by kernel_rfl) (by kernel_rfl) (fun _ _ _ h => h) (Or.inl ⟨by rfl, fun W hSw => by (try dsimp only at hSw); go_simp⟩) (by assumption) ?_
  simp only [List.getElem_toArray, List.getElem_cons_zero, List.getElem_cons_succ, Act.put, List.setIfInBounds_toArray, List.set_cons_zero, List.set_cons_succ]
  refine wpAnyH_take (i := 37) (v := .bool true) rfl (by kernel_rfl) (by kernel_rfl) (by kernel_rfl) (fun _ _ _ h => h) (Or.inl ⟨by rfl, fun W hSw => by (try dsimp only at hSw); go_simp⟩) (by assumption) ?_
  simp only [List.getElem_toArray, List.getElem_cons_zero, List.getElem_cons_succ, Act.put, List.setIfInBounds_toArray, List.set_cons_zero, List.set_cons_succ]
  refine wpAnyH_take (i := 38) (v := .int .i64 0) rfl (by kernel_rfl) (by kernel_rfl) (by kernel_rfl) (fun _ _ _ h => h) (Or.inl ⟨by rfl, fun W hSw => by (try dsimp only at hSw); go_simp⟩) (by assumption) ?_
  simp only [List.getElem_toArray, List.getElem_cons_zero, List.getElem_cons_succ, Act.put, List.setIfInBounds_toArray, List.set_cons_zero, List.set_cons_succ]
  refine wpAnyH_take (i := 39) (v := .bool true) rfl (by kernel_rfl) (by kernel_rfl) (by kernel_rfl) (fun _ _ _ h => h) (Or.inl ⟨by rfl, fun W hSw => by (try dsimp only at hSw); go_simp⟩) (by assumption) ?_
  simp only [List.getElem_toArray, List.getElem_cons_zero, List.getElem_cons_succ, Act.put, List.setIfInBounds_toArray, List.set_cons_zero, List.set_cons_succ]
  refine wpAnyH_take (i := 40) (v := .bool true) rfl (by kernel_rfl) (by kernel_rfl) (by kernel_rfl) (fun _ _ _ h => h) (Or.inl ⟨by rfl, fun W hSw => by (try dsimp only at hSw); go_simp⟩) (by assumption) ?_
  simp only [List.getElem_toArray, List.getElem_cons_zero, List.getElem_cons_succ, Act.put, List.setIfInBounds_toArray, List.set_cons_zero, List.set_cons_succ]
  refine wpAnyH_take (i := 41) (v := .bool true) rfl (by kernel_rfl) (by kernel_rfl) (by kernel_rfl) (fun _ _ _ h => h) (Or.inl ⟨by rfl, fun W hSw => by (try dsimp only at hSw); go_simp⟩) (by assumption) ?_
  simp only [List.getElem_toArray, List.getElem_cons_zero, List.getElem_cons_succ, Act.put, List.setIfInBounds_toArray, List.set_cons_zero, List.set_cons_succ]
  refine wpAnyH_take (i := 42) (v := .agg #[.bool false, .slice p1 0 e1, .slice p2 2 e2, .slice p3 3 e3]) rfl (by kernel_rfl) (by kernel_rfl) (by kernel_rfl) (fun _ _ _ h => h) (Or.inl ⟨by rfl, fun W hSw => by (try dsimp only at hSw); go_simp⟩) (by assumption) ?_
  simp only [List.getElem_toArray, List.getElem_cons_zero, List.getElem_cons_succ, Act.put, List.setIfInBounds_toArray, List.set_cons_zero, List.set_cons_succ]
  refine wpAnyH_take (i := 43) (v := .agg #[.bool false, .slice none 0 0, .slice (some ⟨w3.heap.size, 0, none⟩) 2 2, .slice (some ⟨w1.heap.size, 0, none⟩) 3 3]) rfl (by kernel_rfl) (by kernel_rfl) (by kernel_rfl) (fun _ _ _ h => h) (Or.inl ⟨by rfl, fun W hSw => by (try dsimp only at hSw); go_simp⟩) (by assumption) ?_
  simp only [List.getElem_toArray, List.getElem_cons_zero, List.getElem_cons_succ, Act.put, List.setIfInBounds_toArray, List.set_cons_zero, List.set_cons_succ]
  refine wpAnyH_ready (rs := [44]) (by kernel_rfl) (by simp) ?_
  refine AllReadyH.cons rfl (fun K hK => ?_) AllReadyH.nil
  go_simp
  go_wp2_with (go_at_call 20; refine (same_any _ _ _ liveN (hmA _ (by assumption)) (hnA _ (by assumption))).mono ?_; rintro e x6 ⟨rfl, hx6⟩)
  refine hK.out _ _ (keep2 (by assumption) (by assumption)) (fun hHeld2 => ?_)
  clear hK K
  refine wpAnyH_take (i := 45) (v := .bool true) rfl (by kernel_rfl) (by kernel_rfl) (by kernel_rfl) (fun _ _ _ h => h) (Or.inl ⟨by rfl, fun W hSw => by (try dsimp only at hSw); go_simp⟩) (by assumption) ?_
  simp only [List.getElem_toArray, List.getElem_cons_zero, List.getElem_cons_succ, Act.put, List.setIfInBounds_toArray, List.set_cons_zero, List.set_cons_succ]
  refine wpAnyH_take (i := 46) (v := .bool true) rfl (by kernel_rfl) (by kernel_rfl) (by kernel_rfl) (fun _ _ _ h => h) (Or.inl ⟨by rfl, fun W hSw => by (try dsimp only at hSw); go_simp⟩) (by assumption) ?_
  simp only [List.getElem_toArray, List.getElem_cons_zero, List.getElem_cons_succ, Act.put, List.setIfInBounds_toArray, List.set_cons_zero, List.set_cons_succ]
  refine wpAnyH_take (i := 47) (v := .int .i64 12) rfl (by kernel_rfl) (by kernel_rfl) (by kernel_rfl) (fun _ _ _ h => h) (Or.inl ⟨by rfl, fun W hSw => by (try dsimp only at hSw); go_simp⟩) (by assumption) ?_
  simp only [List.getElem_toArray, List.getElem_cons_zero, List.getElem_cons_succ, Act.put, List.setIfInBounds_toArray, List.set_cons_zero, List.set_cons_succ]
  refine wpAnyH_take (i := 48) (v := .bool true) rfl (by kernel_rfl) (by kernel_rfl) (by kernel_rfl) (fun _ _ _ h => h) (Or.inl ⟨by rfl, fun W hSw => by (try dsimp only at hSw); go_simp⟩) (by assumption) ?_
  simp only [List.getElem_toArray, List.getElem_cons_zero, List.getElem_cons_succ, Act.put, List.setIfInBounds_toArray, List.set_cons_zero, List.set_cons_succ]
  refine wpAnyH_take (i := 49) (v := .bool true) rfl (by kernel_rfl) (by kernel_rfl) (by kernel_rfl) (fun _ _ _ h => h) (Or.inl ⟨by rfl, fun W hSw => by (try dsimp only at hSw); go_simp⟩) (by assumption) ?_
  simp only [List.getElem_toArray, List.getElem_cons_zero, List.getElem_cons_succ, Act.put, List.setIfInBounds_toArray, List.set_cons_zero, List.set_cons_succ]
  refine wpAnyH_take (i := 50) (v := .bool true) rfl (by kernel_rfl) (by kernel_rfl) (by kernel_rfl) (fun _ _ _ h => h) (Or.inl ⟨by rfl, fun W hSw => by (try dsimp only at hSw); go_simp⟩) (by assumption) ?_
  simp only [List.getElem_toArray, List.getElem_cons_zero, List.getElem_cons_succ, Act.put, List.setIfInBounds_toArray, List.set_cons_zero, List.set_cons_succ]
  refine wpAnyH_ready (rs := [51]) (by kernel_rfl) (by simp) ?_
  refine AllReadyH.cons rfl (fun K hK => ?_) AllReadyH.nil
  go_simp
  go_wp2
  refine hK.out _ _ (keepB (by assumption) _) (fun hHeld2 => ?_)
  clear hK K
  refine wpAnyH_take (i := 52) (v := .agg #[.bool false, .slice none 0 0, .slice none 0 0, .slice (some ⟨x6.heap.size, 0, none⟩) 1 1]) rfl (by kernel_rfl) (by kernel_rfl) (by kernel_rfl) (fun _ _ _ h => h) (Or.inl ⟨by rfl, fun W hSw => by (try dsimp only at hSw); go_simp⟩) (by assumption) ?_
  simp only [List.getElem_toArray, List.getElem_cons_zero, List.getElem_cons_succ, Act.put, List.setIfInBounds_toArray, List.set_cons_zero, List.set_cons_succ]
  refine wpAnyH_ready (rs := [53]) (by kernel_rfl) (by simp) ?_
  refine AllReadyH.cons rfl (fun K hK => ?_) AllReadyH.nil
  go_simp
  go_wp2_with (go_at_call 12; refine (check_any _ _ ⟨false, [], [], [5]⟩ (node5 x6)).mono ?_; rintro e x7 ⟨rfl, hx7⟩; rw [live_bad])
  refine hK.out _ _ (keep2 (by assumption) (by assumption)) (fun hHeld2 => ?_)
  clear hK K
  refine wpAnyH_take (i := 54) (v := .bool true) rfl (by kernel_rfl) (by kernel_rfl) (by kernel_rfl) (fun _ _ _ h => h) (Or.inl ⟨by rfl, fun W hSw => by (try dsimp only at hSw); go_simp⟩) (by assumption) ?_
  simp only [List.getElem_toArray, List.getElem_cons_zero, List.getElem_cons_succ, Act.put, List.setIfInBounds_toArray, List.set_cons_zero, List.set_cons_succ]
  refine wpAnyH_take (i := 55) (v := .bool true) rfl (by kernel_rfl) (by kernel_rfl) (by kernel_rfl) (fun _ _ _ h => h) (Or.inl ⟨by rfl, fun W hSw => by (try dsimp only at hSw); go_simp⟩) (by assumption) ?_
  simp only [List.getElem_toArray, List.getElem_cons_zero, List.getElem_cons_succ, Act.put, List.setIfInBounds_toArray, List.set_cons_zero, List.set_cons_succ]
  refine wpAnyH_take (i := 56) (v := .bool true) rfl (by kernel_rfl) (by kernel_rfl) (by kernel_rfl) (fun _ _ _ h => h) (Or.inl ⟨by rfl, fun W hSw => by (try dsimp only at hSw); go_simp⟩) (by assumption) ?_
  simp only [List.getElem_toArray, List.getElem_cons_zero, List.getElem_cons_succ, Act.put, List.setIfInBounds_toArray, List.set_cons_zero, List.set_cons_succ]
  refine wpAnyH_done (by kernel_rfl) ?_ _
  refine NoPanic.normal ?_
  go_wp2
  go_ret
  exact ⟨rfl, cw.trans (hHeld2.mono cw.size)⟩

end Go.Proofs.Ytanbjdcffcnfgaa
