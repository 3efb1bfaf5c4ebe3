/- WWrite, WWipe, WSlots, WLogAt, WSmallL, WSmallM, WFirst: in one text. -/
import Derived.Test.YtckcdmkgmbicfaaGreatMW3
import Derived.Test.YtckcdmkgmbicfaaGreatMW5
import Derived.Test.YtckcdmkgmbicfaaGreatMWS
namespace Go.Proofs.YtckcdmkgmbicfaaGreat
open Go.RowKit
set_option linter.unusedVariables false
set_option linter.unusedSimpArgs false
set_option maxRecDepth 4000

theorem keepS {S : List Nat} {w1 W W' : World} (k : Below W.heap.size W W') (h : Sole S w1 W) : Sole S w1 W' := h.trans (Sole.of_below k S)
theorem keepT {S : List Nat} {w1 W W' : World} (k : Sole S W W') (h : Sole S w1 W) : Sole S w1 W' := h.trans k

set_option maxRecDepth 100000 in
set_option maxHeartbeats 4000000 in
theorem rwrite_any {w : World} {p bs bp : Nat} {s : St} (h : DiskAt w p bs bp s) (f c i : Int) (h0 : -9223372036854775808 ≤ f + i) (h1 : f + i ≤ 9223372036854775807) (q : Pc) (hq : PcOk q) (v : Value) (hr : Rd w v q.body) :
    Calls Tryz.prog 31 #[ringV p f c, .int .i64 i, pcV q v] w fun e w' => e = .returned (.int .i64 (writeOut s (f + i) (encP q)).1) ∧ DiskAt w' p bs bp (writeOut s (f + i) (encP q)).2 ∧ Sole [p, bs, bp] w w' := by
  obtain ⟨bd, bc, rfl, hb1, hb2, hb3, hb4⟩ := id hr
  have hel := encP_blk hq
  have hlt := h.lt
  obtain ⟨w1, hw1⟩ : ∃ w1, w.alloc (.cells #[ptr p, .int .i64 f, .int .i64 c] 71) = w1 := ⟨_, rfl⟩
  have hB1 : Below w.heap.size w w1 := by rw [← hw1]; exact (Below.refl _ w).alloc (Nat.le_refl _) _
  have hg1 : w1.heap[w.heap.size]? = some (.cells #[ptr p, .int .i64 f, .int .i64 c] 71 (0, 0)) := by rw [← hw1]; exact heap_alloc_new w _
  have hs1 : w1.heap.size = w.heap.size + 1 := by rw [← hw1]; simp
  obtain ⟨w2, hw2⟩ : ∃ w2, w1.alloc (.cells #[.int .u8 q.kind, .int .u64 q.tail, .int .u64 q.at_, .int .i64 q.index, .int .i64 q.length, .slice bd q.body.length bc] 82) = w2 := ⟨_, rfl⟩
  have hB2 : Below w1.heap.size w1 w2 := by rw [← hw2]; exact (Below.refl _ w1).alloc (Nat.le_refl _) _
  have hg2 : w2.heap[w1.heap.size]? = some (.cells #[.int .u8 q.kind, .int .u64 q.tail, .int .u64 q.at_, .int .i64 q.index, .int .i64 q.length, .slice bd q.body.length bc] 82 (0, 0)) := by rw [← hw2]; exact heap_alloc_new w1 _
  have hg1' := (hB2.block _ (Array.getElem?_eq_some_iff.1 hg1).1).trans hg1
  have hB := thenB hB1 hB2
  have hC : ∀ j v, (#[ptr p, .int .i64 f, .int .i64 c] : Array Value)[j]? = some v → ∀ W, Sole [p, bs, bp] w2 W → W.cell? ⟨w.heap.size, j, none⟩ = some v := fun j v hv W hW => by
    rw [cell_of_row W _ j _ _ (0, 0) ((hW.block _ (Array.getElem?_eq_some_iff.1 hg1').1 (by simp; omega)).trans hg1')]; exact hv
  have hD : ∀ j v, (#[.int .u8 q.kind, .int .u64 q.tail, .int .u64 q.at_, .int .i64 q.index, .int .i64 q.length, .slice bd q.body.length bc] : Array Value)[j]? = some v → ∀ W, Sole [p, bs, bp] w2 W → W.cell? ⟨w1.heap.size, j, none⟩ = some v := fun j v hv W hW => by
    rw [cell_of_row W _ j _ _ (0, 0) ((hW.block _ (Array.getElem?_eq_some_iff.1 hg2).1 (by simp; omega)).trans hg2)]; exact hv
  have hC0 := hC 0 _ rfl
  have hC1 := hC 1 _ rfl
  have hD0 := hD 0 _ rfl
  have hD1 := hD 1 _ rfl
  have hD2 := hD 2 _ rfl
  have hD3 := hD 3 _ rfl
  have hD4 := hD 4 _ rfl
  have hD5 := hD 5 _ rfl
  have ce := encode_any w2.drew q hq (.slice bd q.body.length bc) ((hr.below hB).below (Below.refl _ w2).drew)
  have hd2 := h.below hB
  unfold pcV at ce ⊢
  unfold ringV
  have HB : Hid (Below w.heap.size w w2) := hB
  clear hC hD hg1 hg1' hg2 hB1 hB2 hr hb4 hs1 h hB
  unfold ptr at *
  go_enter Tryz.func31, Tryz.ntmps31
  go_wp2_with fail
  refine wp_region_noPanic ?_
  refine wp_region_held_drew (S := fun W => Sole [p, bs, bp] w2 W) (by kernel_rfl) (Sole.drew _ _) (fun hHeld => ?_)
  refine wpAnyH_take (i := 0) (v := .pointer (some ⟨w.heap.size, 0, none⟩)) rfl (by kernel_rfl) (by kernel_rfl) (by kernel_rfl) (fun _ _ _ h => h) (Or.inl ⟨by rfl, fun W hSw => by (try dsimp only at hSw); go_simp⟩) (by assumption) ?_
  simp only [List.getElem_toArray, List.getElem_cons_zero, List.getElem_cons_succ, Act.put, List.setIfInBounds_toArray, List.set_cons_zero, List.set_cons_succ]
  refine wpAnyH_take (i := 1) (v := .pointer (some ⟨p, 0, none⟩)) rfl (by kernel_rfl) (by kernel_rfl) (by kernel_rfl) (fun _ _ _ h => h) (Or.inl ⟨by rfl, fun W hSw => by (try dsimp only at hSw); go_simp⟩) (by assumption) ?_
  simp only [List.getElem_toArray, List.getElem_cons_zero, List.getElem_cons_succ, Act.put, List.setIfInBounds_toArray, List.set_cons_zero, List.set_cons_succ]
  refine wpAnyH_take (i := 2) (v := .pointer (some ⟨w.heap.size, 1, none⟩)) rfl (by kernel_rfl) (by kernel_rfl) (by kernel_rfl) (fun _ _ _ h => h) (Or.inl ⟨by rfl, fun W hSw => by (try dsimp only at hSw); go_simp⟩) (by assumption) ?_
  simp only [List.getElem_toArray, List.getElem_cons_zero, List.getElem_cons_succ, Act.put, List.setIfInBounds_toArray, List.set_cons_zero, List.set_cons_succ]
  refine wpAnyH_take (i := 3) (v := .int .i64 f) rfl (by kernel_rfl) (by kernel_rfl) (by kernel_rfl) (fun _ _ _ h => h) (Or.inl ⟨by rfl, fun W hSw => by (try dsimp only at hSw); go_simp⟩) (by assumption) ?_
  simp only [List.getElem_toArray, List.getElem_cons_zero, List.getElem_cons_succ, Act.put, List.setIfInBounds_toArray, List.set_cons_zero, List.set_cons_succ]
  refine wpAnyH_take (i := 4) (v := .int .i64 i) rfl (by kernel_rfl) (by kernel_rfl) (by kernel_rfl) (fun _ _ _ h => h) (Or.inl ⟨by rfl, fun W hSw => by (try dsimp only at hSw); go_simp⟩) (by assumption) ?_
  simp only [List.getElem_toArray, List.getElem_cons_zero, List.getElem_cons_succ, Act.put, List.setIfInBounds_toArray, List.set_cons_zero, List.set_cons_succ]
  refine wpAnyH_take (i := 5) (v := .int .i64 (f + i)) rfl (by kernel_rfl) (by kernel_rfl) (by kernel_rfl) (fun _ _ _ h => h) (Or.inl ⟨by rfl, fun W hSw => by (try dsimp only at hSw); (go_simp; rw [IntKind.wrap_i64]; omega)⟩) (by assumption) ?_
  simp only [List.getElem_toArray, List.getElem_cons_zero, List.getElem_cons_succ, Act.put, List.setIfInBounds_toArray, List.set_cons_zero, List.set_cons_succ]
  refine wpAnyH_take (i := 6) (v := .agg #[.int .u8 q.kind, .int .u64 q.tail, .int .u64 q.at_, .int .i64 q.index, .int .i64 q.length, .slice bd q.body.length bc]) rfl (by kernel_rfl) (by kernel_rfl) (by kernel_rfl) (fun _ _ _ h => h) (Or.inl ⟨by rfl, fun W hSw => by (try dsimp only at hSw); go_simp⟩) (by assumption) ?_
  simp only [List.getElem_toArray, List.getElem_cons_zero, List.getElem_cons_succ, Act.put, List.setIfInBounds_toArray, List.set_cons_zero, List.set_cons_succ]
  refine wpAnyH_ready (rs := [7]) (by kernel_rfl) (by simp) ?_
  refine AllReadyH.cons rfl (fun K hK => ?_) AllReadyH.nil
  go_simp
  go_wp2_with (go_at_call 56; refine ce.mono ?_; rintro e w3 ⟨a3, c3, rfl, hr3, hb3'⟩)
  refine hK.out _ _ (keepS (by assumption) (by assumption)) (fun hHeld2 => ?_)
  clear hK K
  have hd3 : DiskAt w3 p bs bp s := (hd2.below (Below.refl _ w2).drew).below hb3'
  have cw := disk_Write hd3 (f + i) h0 h1 hr3 hel.2
  clear hC0 hC1 hD0 hD1 hD2 hD3 hD4 hD5
  refine wpAnyH_ready (rs := [8]) (by kernel_rfl) (by simp) ?_
  refine AllReadyH.cons rfl (fun K hK => ?_) AllReadyH.nil
  go_simp
  go_wp2_with (go_at_call 55; refine cw.mono ?_; rintro e w4 ⟨rfl, hd4, hs4⟩)
  refine hK.out _ _ (keepT (by assumption) (by assumption)) (fun hHeld2 => ?_)
  clear hK K
  refine wpAnyH_take (i := 9) (v := .int .i64 (writeOut s (f + i) (encP q)).1) rfl (by kernel_rfl) (by kernel_rfl) (by kernel_rfl) (fun _ _ _ h => h) (Or.inl ⟨by rfl, fun W hSw => by (try dsimp only at hSw); go_simp⟩) (by assumption) ?_
  simp only [List.getElem_toArray, List.getElem_cons_zero, List.getElem_cons_succ, Act.put, List.setIfInBounds_toArray, List.set_cons_zero, List.set_cons_succ]
  refine wpAnyH_done (by kernel_rfl) ?_ _
  refine NoPanic.normal ?_
  go_wp2
  go_ret
  exact ⟨rfl, hd4, (Sole.of_below HB.out _).trans hHeld2⟩

/-- A block without a record. -/
def zeroP (T : Nat) : Pc := ⟨0, T, 0, 0, 0, []⟩
theorem zeroP_ok {T : Nat} (h : T < 18446744073709551616) : PcOk (zeroP T) := ⟨by show (0 : Nat) < 256; omega, h, by show (0 : Nat) < _; omega, by show (0 : Nat) < 256; omega, by show (0 : Nat) < _; omega, Byt.nil, by show ([] : List Int).length ≤ 488; simp⟩

/-- Blocks are wiped, one by one, till one tells an error. -/
def wipeN (f : Int) (T : Nat) : St → List Nat → Int × St
  | s, [] => (0, s)
  | s, b :: r => if (writeOut s (f + b) (encP (zeroP T))).1 = 0 then wipeN f T (writeOut s (f + b) (encP (zeroP T))).2 r else writeOut s (f + b) (encP (zeroP T))

def restL (D : List Nat) (L : List Fv) : List Nat := (L.map Fv.blk).filter fun b => decide (b ∉ D)

theorem FsAt.cell {base : Nat} {w : World} {v : Value} {L : List Fv} (h : FsAt base w v L) (hL : 0 < L.length) : ∃ g cap, v = .slice (some ⟨g, 0, none⟩) L.length cap ∧ L.length ≤ cap ∧ cap ≤ maxLen ∧ base ≤ g ∧ g < w.heap.size ∧ ∀ i x, L[i]? = some x → ∀ j u, (fvC x)[j]? = some u → w.cell? ⟨g, i * 7 + j, none⟩ = some u := by
  obtain ⟨h1, ⟨rfl, h2⟩ | ⟨g, cap, cur, rfl, h3, h4, h5, h6, h7, h8⟩⟩ := h.own
  · omega
  · refine ⟨g, cap, rfl, h5, h6, h3, (Array.getElem?_eq_some_iff.1 h4).1, fun i x hx j u hu => ?_⟩
    have hj : j < 7 := (List.getElem?_eq_some_iff.1 hu).1
    have hi := (List.getElem?_eq_some_iff.1 hx).1
    have e := flat7 L i j x u hx hu
    rw [← h8, List.getElem?_take_of_lt (by omega)] at e
    rw [cell_of_row _ _ _ _ _ (0, 0) h4, ← Array.getElem?_toList]
    exact e

set_option maxHeartbeats 2000000 in
theorem wipeRest_any {base : Nat} {w : World} {p bs bp : Nat} {s : St} (h : DiskAt w p bs bp s) (hpb : p < base ∧ bs < base ∧ bp < base) (f : Int) (N T E : Nat) (hf0 : 0 ≤ f) (hfn : f + N ≤ 1024) (hT : T < 18446744073709551616) {L : List Fv} {K : List Wm} {av kv : Value} (hF : FsAt base w av L) (hW : WsAt base w kv K) (hL : L.length ≤ 1024) (hLb : ∀ x ∈ L, x.blk < N) (hK : K.length ≤ 2000) (hb : ∀ x ∈ K, x.blocks.length ≤ 2000 ∧ ∀ b ∈ x.blocks, b < N) :
    Calls Tryz.prog 34 #[.agg #[ptr p, .int .i64 f, .int .i64 N, av, .int .u64 T, kv, .int .u64 E]] w fun e w' => e = .returned (.int .i64 (wipeN f T s (restL (K.flatMap Wm.blocks) L)).1) ∧ DiskAt w' p bs bp (wipeN f T s (restL (K.flatMap Wm.blocks) L)).2 ∧ Sole [p, bs, bp] w w' := by
  obtain ⟨aK, cK, rfl⟩ := own_shape hW.own
  obtain ⟨aU, cU, rfl⟩ := own_shape hF.own
  have hlt := h.lt
  obtain ⟨w1, hw1⟩ : ∃ w1, w.alloc (.cells #[.pointer (some ⟨p, 0, none⟩), .int .i64 f, .int .i64 N, .slice aU L.length cU, .int .u64 T, .slice aK K.length cK, .int .u64 E] 88) = w1 := ⟨_, rfl⟩
  have hB1 : Below w.heap.size w w1 := by rw [← hw1]; exact (Below.refl _ w).alloc (Nat.le_refl _) _
  have hg1 : w1.heap[w.heap.size]? = some (.cells #[.pointer (some ⟨p, 0, none⟩), .int .i64 f, .int .i64 N, .slice aU L.length cU, .int .u64 T, .slice aK K.length cK, .int .u64 E] 88 (0, 0)) := by rw [← hw1]; exact heap_alloc_new w _
  have hlt1 : w.heap.size < w1.heap.size := (Array.getElem?_eq_some_iff.1 hg1).1
  have b2 : w1.cell? ⟨w.heap.size, 2, none⟩ = some (.int .i64 N) := by rw [cell_of_row _ _ 2 _ _ (0, 0) hg1]; rfl
  have b5 : w1.cell? ⟨w.heap.size, 5, none⟩ = some (.slice aK K.length cK) := by rw [cell_of_row _ _ 5 _ _ (0, 0) hg1]; rfl
  have ch := held_any N (by omega) (hW.keep hB1.size (fun j _ hj => hB1.block j hj)) hK hb
  obtain ⟨D, hD⟩ : ∃ D, K.flatMap Wm.blocks = D := ⟨_, rfl⟩
  rw [hD] at ch ⊢
  have HD : Hid (DiskAt w p bs bp s) := h
  have HF : Hid (FsAt base w (.slice aU L.length cU) L) := hF
  unfold ptr
  clear h hF hW hD
  go_enter Tryz.func34, Tryz.ntmps34
  go_wp2_with fail
  refine ch.mono ?_
  rintro e0 w2 ⟨gh, rfl, hgh, hgw, hB2⟩
  clear ch
  have hlth : gh < w2.heap.size := (Array.getElem?_eq_some_iff.1 hgw).1
  have hg2 := (hB2.block _ hlt1).trans hg1
  have b3 : w2.cell? ⟨w.heap.size, 3, none⟩ = some (.slice aU L.length cU) := by rw [cell_of_row _ _ 3 _ _ (0, 0) hg2]; rfl
  have HGB : Hid _ := hg2
  have HGH : Hid _ := hgw
  have hB12 := thenB hB1 hB2
  have hs12 := hB12.size
  clear hg1 hgw hg2 b2 b5
  go_wp2
  go_loopw [5, 6, 16] (fun _ _ t wr => ∃ (i : Nat) (s' : St), i ≤ L.length ∧ t = .int .i64 i ∧ Hid (DiskAt wr p bs bp s') ∧ Hid (wipeN f T s (restL D L) = wipeN f T s' (restL D (L.drop i))) ∧ Sole [p, bs, bp] w2 wr) (fun _ _ t _ => L.length - (RowKit.intOf t).toNat)
  case atStart => exact ⟨0, s, Nat.zero_le _, rfl, HD.out.below hB12, rfl, Sole.refl _ _⟩
  case round =>
    obtain ⟨i, s', hi, rfl, HDr, HWi, hSr⟩ := hrel
    have hsr := hSr.size
    by_cases hil : i < L.length
    · have hiI : (i : Int) < L.length := by omega
      have hFr := (HF.out.below hB12).sole hSr (fun j hj => by simp only [List.mem_cons, List.mem_nil_iff, or_false] at hj; omega)
      obtain ⟨g, cap, hv, hcl, hcm, hgb, hgl, hcell⟩ := hFr.cell (by omega)
      simp only [Value.slice.injEq, true_and] at hv
      obtain ⟨rfl, rfl⟩ := hv
      obtain ⟨x, hx⟩ : ∃ x, L[i]? = some x := ⟨_, List.getElem?_eq_getElem hil⟩
      have hxb := hLb x (List.mem_of_getElem? hx)
      have c0 : wr.cell? ⟨g, i * 7, none⟩ = some (.int .u8 x.p.kind) := hcell i x hx 0 _ rfl
      have c1 : wr.cell? ⟨g, i * 7 + 1, none⟩ = some (.int .u64 x.p.tail) := hcell i x hx 1 _ rfl
      have c2 : wr.cell? ⟨g, i * 7 + 2, none⟩ = some (.int .u64 x.p.at_) := hcell i x hx 2 _ rfl
      have c3 : wr.cell? ⟨g, i * 7 + 3, none⟩ = some (.int .i64 x.p.index) := hcell i x hx 3 _ rfl
      have c4 : wr.cell? ⟨g, i * 7 + 4, none⟩ = some (.int .i64 x.p.length) := hcell i x hx 4 _ rfl
      have c5 : wr.cell? ⟨g, i * 7 + 5, none⟩ = some (.slice x.a x.n x.d) := hcell i x hx 5 _ rfl
      have c6 : wr.cell? ⟨g, i * 7 + 6, none⟩ = some (.int .i64 x.blk) := hcell i x hx 6 _ rfl
      have HDr1 : Hid (L.drop i = x :: L.drop (i + 1)) := by
        unfold Hid; rw [List.drop_eq_getElem_cons hil]
        have := List.getElem?_eq_getElem hil; rw [hx] at this; cases this; rfl
      obtain ⟨X1, hX1⟩ : ∃ X1, wr.alloc (.cells #[.int .u8 x.p.kind, .int .u64 x.p.tail, .int .u64 x.p.at_, .int .i64 x.p.index, .int .i64 x.p.length, .slice x.a x.n x.d, .int .i64 x.blk] 117) = X1 := ⟨_, rfl⟩
      have hBX1 : Below wr.heap.size wr X1 := by rw [← hX1]; exact (Below.refl _ wr).alloc (Nat.le_refl _) _
      have hgX1 : X1.heap[wr.heap.size]? = some (.cells #[.int .u8 x.p.kind, .int .u64 x.p.tail, .int .u64 x.p.at_, .int .i64 x.p.index, .int .i64 x.p.length, .slice x.a x.n x.d, .int .i64 x.blk] 117 (0, 0)) := by rw [← hX1]; exact heap_alloc_new wr _
      have d6 : X1.cell? ⟨wr.heap.size, 6, none⟩ = some (.int .i64 x.blk) := by rw [cell_of_row _ _ 6 _ _ (0, 0) hgX1]; rfl
      have hS1 : Sole [p, bs, bp] w2 X1 := hSr.trans (Sole.of_below hBX1 _)
      have hgh1 := (hS1.block gh hlth (by simp; omega)).trans HGH.out
      have hgb1 := (hS1.block w.heap.size (by omega) (by simp; omega)).trans HGB.out
      have HD1 : Hid (DiskAt X1 p bs bp s') := HDr.out.below hBX1
      have ch : X1.cell? ⟨gh, x.blk, none⟩ = some (.bool (decide (x.blk ∈ D))) := by
        rw [cell_of_row _ _ x.blk _ _ (0, 0) hgh1, List.getElem?_toArray]
        unfold boolC
        rw [List.getElem?_map, List.getElem?_range hxb]; rfl
      have hxI : (x.blk : Int) < N := by omega
      have HRs : Hid (restL D (L.drop i) = if x.blk ∈ D then restL D (L.drop (i + 1)) else x.blk :: restL D (L.drop (i + 1))) := by
        unfold Hid restL
        rw [HDr1.out, List.map_cons, List.filter_cons]
        by_cases hm : x.blk ∈ D
        · simp [hm]
        · simp [hm]
      clear hcell hgX1 hFr
      by_cases hm : x.blk ∈ D
      · rw [if_pos hm] at HRs
        rw [decide_eq_true hm] at ch
        clear hm
        go_wp2
        go_roundw
        case rel => exact ⟨i + 1, s', by omega, by go_num, HD1, by rw [← HRs.out]; exact HWi, hS1⟩
        case measure => simp [RowKit.intOf]; omega
      · rw [if_neg hm] at HRs
        rw [decide_eq_false hm] at ch
        clear hm
        have u0 : X1.cell? ⟨w.heap.size, 0, none⟩ = some (.pointer (some ⟨p, 0, none⟩)) := by rw [cell_of_row _ _ 0 _ _ (0, 0) hgb1]; rfl
        have u1 : X1.cell? ⟨w.heap.size, 1, none⟩ = some (.int .i64 f) := by rw [cell_of_row _ _ 1 _ _ (0, 0) hgb1]; rfl
        have u2 : X1.cell? ⟨w.heap.size, 2, none⟩ = some (.int .i64 N) := by rw [cell_of_row _ _ 2 _ _ (0, 0) hgb1]; rfl
        have u4 : X1.cell? ⟨w.heap.size, 4, none⟩ = some (.int .u64 T) := by rw [cell_of_row _ _ 4 _ _ (0, 0) hgb1]; rfl
        have cw := rwrite_any HD1.out f N x.blk (by omega) (by omega) (zeroP T) (zeroP_ok hT) (.slice none 0 0) (Rd.nil _)
        unfold ringV pcV zeroP ptr at cw
        dsimp only at cw
        have HWo : Hid (writeOut s' (f + (x.blk : Int)) (encP ⟨0, T, 0, 0, 0, []⟩) = writeOut s' (f + x.blk) (encP (zeroP T))) := rfl
        generalize hO : writeOut s' (f + (x.blk : Int)) (encP ⟨0, T, 0, 0, 0, []⟩) = O at *
        obtain ⟨Oe, Os⟩ := O
        dsimp only at cw
        have hsz0 : (((0 : Nat) : Int)) = 0 := rfl
        rw [hsz0] at cw
        clear hgh1 hgb1 hO
        go_wp2_with fail
        refine cw.mono ?_
        rintro e1 X2 ⟨rfl, hd2, hS2⟩
        clear cw u0 u1 u2 u4 ch d6
        have HD2 : Hid (DiskAt X2 p bs bp Os) := hd2
        by_cases h0 : Oe = 0
        · subst h0
          have HW2 : Hid (wipeN f T s (restL D L) = wipeN f T Os (restL D (L.drop (i + 1)))) := by
            unfold Hid; rw [HWi.out, HRs.out, wipeN, ← HWo.out, if_pos rfl]
          go_wp2
          go_roundw
          case rel => exact ⟨i + 1, Os, by omega, by go_num, HD2, HW2, hS1.trans hS2⟩
          case measure => simp [RowKit.intOf]; omega
        · have HW2 : Hid (wipeN f T s (restL D L) = (Oe, Os)) := by
            unfold Hid; rw [HWi.out, HRs.out, wipeN, ← HWo.out, if_neg h0]
          have h0' : (Oe != 0) = true := by simpa using h0
          go_wp2
          go_ret
          rw [HW2.out]
          exact ⟨rfl, HD2.out, (Sole.of_below hB12 _).trans (hS1.trans hS2)⟩
    · obtain rfl : i = L.length := by omega
      rw [List.drop_length] at HWi
      go_wp2
      go_ret
      rw [HWi.out]
      exact ⟨rfl, HDr.out, (Sole.of_below hB12 _).trans hSr⟩

/-- A slot: its block, and the end of the record that is lost when it is written. -/
structure Sl where
  block : Nat
  fin : Nat
def slC (x : Sl) : List Value := [.int .i64 x.block, .int .u64 x.fin]
def slotsL (bl : List Nat) (e : Nat) : List Sl := bl.map fun b => ⟨b, e⟩

theorem Tryz.infoSl : (Tryz.prog.info? 84).map (fun i => (i.zero, i.size, i.bytes)) = some (some (.agg #[.int .i64 0, .int .u64 0]), 2, 16) := by kernel_rfl

def slF (bl : List Nat) (e i j : Nat) : List Value := if j < i then [.int .i64 (bl.getD j 0), .int .u64 e] else [.int .i64 0, .int .u64 0]
def slR (bl : List Nat) (e i : Nat) : List Value := (List.range bl.length).flatMap (slF bl e i)
theorem slF_len (bl : List Nat) (e i j : Nat) : (slF bl e i j).length = 2 := by unfold slF; split <;> rfl
theorem slR_len (bl : List Nat) (e i : Nat) : (slR bl e i).length = bl.length * 2 := by
  unfold slR
  rw [List.length_flatMap]
  have : (List.range bl.length).map (fun j => (slF bl e i j).length) = List.replicate bl.length 2 := by
    apply List.ext_getElem
    · simp
    · intro j h1 h2; simp [slF_len]
  rw [this]
  simp
theorem slR_get (bl : List Nat) (e i t : Nat) (ht : t < bl.length * 2) : (slR bl e i)[t]? = some ((slF bl e i (t / 2))[t % 2]!) := by
  have h := flat_get (k := 2) (by decide) (slF_len bl e i) (List.range bl.length) t (by simpa using ht)
  unfold slR
  rw [h]
  congr 3
  rw [getElem!_pos (List.range bl.length) (t / 2) (by simp; omega)]
  simp
theorem slR_all (bl : List Nat) (e : Nat) : slR bl e bl.length = (slotsL bl e).flatMap slC := by
  unfold slR slotsL
  rw [List.flatMap_map]
  have : bl = (List.range bl.length).map (fun j => bl.getD j 0) := by
    apply List.ext_getElem
    · simp
    · intro j h1 h2; simp [List.getD_eq_getElem?_getD, List.getElem?_eq_getElem h1]
  conv => rhs; rw [this, List.flatMap_map]
  rw [List.flatMap_def, List.flatMap_def]
  congr 1
  apply List.map_congr_left
  intro j hj
  have := List.mem_range.1 hj
  unfold slF slC
  rw [if_pos this]
theorem slR_set (bl : List Nat) (e i : Nat) (hi : i < bl.length) : ((slR bl e i).set (i * 2) (.int .i64 (bl.getD i 0))).set (i * 2 + 1) (.int .u64 e) = slR bl e (i + 1) := by
  apply List.ext_getElem?
  intro t
  by_cases ht : t < bl.length * 2
  · rw [slR_get _ _ _ _ ht, List.getElem?_set, List.getElem?_set]
    simp only [List.length_set, slR_len]
    by_cases h1 : i * 2 + 1 = t
    · rw [if_pos h1, if_pos (by omega)]
      have e1 : t / 2 = i := by omega
      have e2 : t % 2 = 1 := by omega
      rw [e1, e2]
      simp [slF]
    · rw [if_neg h1]
      by_cases h2 : i * 2 = t
      · rw [if_pos h2, if_pos (by omega)]
        have e1 : t / 2 = i := by omega
        have e2 : t % 2 = 0 := by omega
        rw [e1, e2]
        simp [slF]
      · rw [if_neg h2, slR_get _ _ _ _ ht]
        have e1 : t / 2 ≠ i := by omega
        congr 2
        unfold slF
        by_cases h3 : t / 2 < i
        · rw [if_pos h3, if_pos (by omega)]
        · rw [if_neg h3, if_neg (by omega)]
  · rw [List.getElem?_eq_none (by simp [slR_len]; omega), List.getElem?_eq_none (by rw [slR_len]; omega)]

theorem make_slots (w : World) (n : Nat) (hn : n ≤ 1000000) :
    (Instr.makeSlice 75 (.int .i64 n) (.int .i64 n)).run Tryz.prog w = .ok (.slice (some ⟨w.heap.size, 0, none⟩) n n) (w.alloc (.cells (madeCells #[.int .i64 0, .int .u64 0] (n * 2)) 84)) := by
  obtain ⟨i, hi, hz0, hz1, hz2⟩ := info_parts Tryz.infoSl
  have h := run_make (P := Tryz.prog) w 75 84 i _ Tryz.underlying75 hi hz0 .i64 .i64 n n (by omega) (by omega) (by rw [hz2]; omega) (by omega)
  rw [h, hz1, Int.toNat_natCast]
  rfl

theorem made_slots (bl : List Nat) (e : Nat) : (madeCells #[.int .i64 0, .int .u64 0] (bl.length * 2)) = (slR bl e 0).toArray := by
  apply Array.ext'
  apply List.ext_getElem?
  intro t
  by_cases ht : t < bl.length * 2
  · rw [slR_get _ _ _ _ ht, Array.getElem?_toList]
    have hs : t < (madeCells #[Value.int .i64 0, Value.int .u64 0] (bl.length * 2)).size := by rw [size_madeCells]; exact ht
    rw [Array.getElem?_eq_getElem hs]
    simp only [madeCells, Array.getElem_map, Array.getElem_range]
    rcases Nat.mod_two_eq_zero_or_one t with h | h
    · simp [h, slF]
    · simp [h, slF]
  · rw [List.getElem?_eq_none (by simp [madeCells]; omega), List.getElem?_eq_none (by rw [slR_len]; omega)]

set_option maxHeartbeats 1000000 in
theorem slotsOf_any {base : Nat} (w : World) (At : Nat) (bl : List Nat) (ba : Option Addr) (bc : Nat) (h : w.ownsRow base 3 1 (.slice ba bl.length bc) bl.length (blkC bl)) (hbl : bl.length ≤ 2000) (hat : At ≤ 4611686018427388904) :
    Calls Tryz.prog 50 #[.agg #[.int .u64 At, .slice ba bl.length bc]] w fun e w' => ∃ g, e = .returned (.slice (some ⟨g, 0, none⟩) bl.length bl.length) ∧ w.heap.size ≤ g ∧ w'.heap[g]? = some (.cells ((slotsL bl (At + bl.length)).flatMap slC).toArray 84 (0, 0)) ∧ Below w.heap.size w w' := by
  obtain ⟨w1, hw1⟩ : ∃ w1, w.alloc (.cells #[.int .u64 At, .slice ba bl.length bc] 94) = w1 := ⟨_, rfl⟩
  have hB1 : Below w.heap.size w w1 := by rw [← hw1]; exact (Below.refl _ w).alloc (Nat.le_refl _) _
  have hg1 : w1.heap[w.heap.size]? = some (.cells #[.int .u64 At, .slice ba bl.length bc] 94 (0, 0)) := by rw [← hw1]; exact heap_alloc_new w _
  have hlt1 : w.heap.size < w1.heap.size := (Array.getElem?_eq_some_iff.1 hg1).1
  have q1 : w1.cell? ⟨w.heap.size, 1, none⟩ = some (.slice ba bl.length bc) := by rw [cell_of_row _ _ 1 _ _ (0, 0) hg1]; rfl
  have hmk := make_slots w1 bl.length (by omega)
  rw [made_slots bl (At + bl.length)] at hmk
  obtain ⟨w2, hw2⟩ : ∃ w2, w1.alloc (.cells (slR bl (At + bl.length) 0).toArray 84) = w2 := ⟨_, rfl⟩
  rw [hw2] at hmk
  have hB2 : Below w1.heap.size w1 w2 := by rw [← hw2]; exact (Below.refl _ w1).alloc (Nat.le_refl _) _
  have hg2 : w2.heap[w1.heap.size]? = some (.cells (slR bl (At + bl.length) 0).toArray 84 (0, 0)) := by rw [← hw2]; exact heap_alloc_new w1 _
  have q1' : w2.cell? ⟨w.heap.size, 1, none⟩ = some (.slice ba bl.length bc) := (hB2.cell (p := ⟨w.heap.size, 1, none⟩) hlt1).trans q1
  have HO : Hid (w.ownsRow base 3 1 (.slice ba bl.length bc) bl.length (blkC bl)) := h
  have HG2 : Hid _ := hg2
  have k1 := (hB2.block _ hlt1).trans hg1
  have hB12 := thenB hB1 hB2
  have HK1 : Hid _ := k1
  have hlt2 : w1.heap.size < w2.heap.size := (Array.getElem?_eq_some_iff.1 hg2).1
  clear h hg1 hg2 k1
  go_enter Tryz.func50, Tryz.ntmps50
  go_wp2
  go_loopw [4, 5, 13] (fun _ _ t wr => ∃ i : Nat, i ≤ bl.length ∧ t = .int .i64 i ∧ Hid (wr.heap[w1.heap.size]? = some (.cells (slR bl (At + bl.length) i).toArray 84 (0, 0))) ∧ Below w1.heap.size w1 wr ∧ w1.heap.size < wr.heap.size) (fun _ _ t _ => bl.length - (RowKit.intOf t).toNat)
  case atStart => exact ⟨0, Nat.zero_le _, rfl, HG2, hB2, hlt2⟩
  case round =>
    obtain ⟨i, hi, rfl, HG, hbr, hsr⟩ := hrel
    by_cases hil : i < bl.length
    · have hiI : (i : Int) < bl.length := by omega
      have hw : Below w.heap.size w wr := hB1.trans (hbr.mono (by omega))
      obtain ⟨g, hg, hcc, hcm, _, hgl, hci⟩ := own_int (own_keep HO.out hw.size (fun q _ hl => hw.block q hl)) rfl i hil
      subst hg
      obtain ⟨B, hB⟩ : ∃ B, bl.getD i 0 = B := ⟨_, rfl⟩
      have HB : Hid (bl.getD i 0 = B) := hB
      rw [hB] at hci
      have hk : wr.heap[w.heap.size]? = some (.cells #[.int .u64 At, .slice (some ⟨g, 0, none⟩) bl.length bc] 94 (0, 0)) := (hbr.block _ hlt1).trans (((hB2.block _ hlt1).symm).trans HK1.out)
      have d0 : wr.cell? ⟨w.heap.size, 0, none⟩ = some (.int .u64 At) := by rw [cell_of_row _ _ 0 _ _ (0, 0) hk]; rfl
      have d1 : wr.cell? ⟨w.heap.size, 1, none⟩ = some (.slice (some ⟨g, 0, none⟩) bl.length bc) := by rw [cell_of_row _ _ 1 _ _ (0, 0) hk]; rfl
      have ce := end_any wr At (some ⟨g, 0, none⟩) bl.length bc (by omega) (by omega)
      clear hk hB
      go_wp2_with fail
      refine ce.mono ?_
      rintro e1 X1 ⟨rfl, hbX⟩
      clear ce d0 d1 hci
      have hG1 := (hbX.block _ hsr).trans HG.out
      have hsX := hbX.size
      have hln := slR_len bl (At + bl.length) i
      obtain ⟨v0, hv0⟩ : ∃ v0, (slR bl (At + bl.length) i)[i * 2]? = some v0 := ⟨_, List.getElem?_eq_getElem (by omega)⟩
      obtain ⟨v1, hv1⟩ : ∃ v1, (slR bl (At + bl.length) i)[i * 2 + 1]? = some v1 := ⟨_, List.getElem?_eq_getElem (by omega)⟩
      have c0 : X1.cell? ⟨w1.heap.size, i * 2, none⟩ = some v0 := by rw [cell_of_row _ _ _ _ _ (0, 0) hG1, List.getElem?_toArray]; exact hv0
      have c1 : X1.cell? ⟨w1.heap.size, i * 2 + 1, none⟩ = some v1 := by rw [cell_of_row _ _ _ _ _ (0, 0) hG1, List.getElem?_toArray]; exact hv1
      have f0 := frozen_of_row X1 w1.heap.size (i * 2) _ _ hG1
      have f1 := frozen_of_row X1 w1.heap.size (i * 2 + 1) _ _ hG1
      have hG2 := heap_setCell_same X1 w1.heap.size (i * 2) _ _ (.int .i64 (B : Int)) hG1
      have hG3 := heap_setCell_same _ w1.heap.size (i * 2 + 1) _ _ (.int .u64 ((At : Int) + (bl.length : Int))) hG2
      have hset : (((slR bl (At + bl.length) i).toArray.setIfInBounds (i * 2) (.int .i64 (B : Int))).setIfInBounds (i * 2 + 1) (.int .u64 ((At : Int) + (bl.length : Int)))) = (slR bl (At + bl.length) (i + 1)).toArray := by
        rw [List.setIfInBounds_toArray, List.setIfInBounds_toArray, ← slR_set bl (At + bl.length) i hil, HB.out]; simp
      rw [hset] at hG3
      have HG3 : Hid _ := hG3
      have hb3 : Below w1.heap.size w1 ((X1.setCell ⟨w1.heap.size, i * 2, none⟩ (.int .i64 (B : Int))).setCell ⟨w1.heap.size, i * 2 + 1, none⟩ (.int .u64 ((At : Int) + (bl.length : Int)))) := ((hbr.trans (hbX.mono (by omega))).setCell (p := ⟨w1.heap.size, i * 2, none⟩) (Nat.le_refl _) _).setCell (p := ⟨w1.heap.size, i * 2 + 1, none⟩) (Nat.le_refl _) _
      have hs3 : w1.heap.size < ((X1.setCell ⟨w1.heap.size, i * 2, none⟩ (.int .i64 (B : Int))).setCell ⟨w1.heap.size, i * 2 + 1, none⟩ (.int .u64 ((At : Int) + (bl.length : Int)))).heap.size := by simp [World.setCell]; omega
      clear hG1 hG2 hG3 hset hv0 hv1 hln HG
      go_wp2
      go_roundw
      case rel => exact ⟨i + 1, by omega, by go_num, HG3, hb3, hs3⟩
      case measure => simp [RowKit.intOf]; omega
    · obtain rfl : i = bl.length := by omega
      rw [slR_all] at HG
      go_wp2
      go_ret
      exact ⟨_, rfl, by omega, HG.out, hB1.trans (hbr.mono (by omega))⟩

/-- Which blocks a record takes, with its slice. -/
structure Tm where
  at_ : Nat
  blocks : List Nat
  ba : Option Addr
  bc : Nat
def Tm.bv (x : Tm) : Value := .slice x.ba x.blocks.length x.bc
def tmC (x : Tm) : List Value := [.int .u64 x.at_, x.bv]

theorem Tryz.infoTk : (Tryz.prog.info? 94).map (fun i => (i.zero, i.size, i.bytes)) = some (some (.agg #[.int .u64 0, .slice none 0 0]), 2, 32) := by kernel_rfl

/-- A log, in plain words: what is there, what is free, the next number, the tail, whether it has grown. -/
structure Lo where
  there : List Tm
  free : List Sl
  next : Nat
  tail : Nat
  grown : Bool

def loC (p : Nat) (f : Int) (N : Nat) (tv fv : Value) (l : Lo) : Array Value := #[.pointer (some ⟨p, 0, none⟩), .int .i64 f, .int .i64 N, tv, fv, .int .u64 l.next, .int .u64 l.tail, .bool l.grown]

structure LoAt (base : Nat) (w : World) (q p : Nat) (f : Int) (N : Nat) (tv fv : Value) (l : Lo) : Prop where
  row : w.heap[q]? = some (.cells (loC p f N tv fv l) 77 (0, 0))
  there : w.ownsRow base 94 2 tv l.there.length (l.there.flatMap tmC)
  free : w.ownsRow base 84 2 fv l.free.length (l.free.flatMap slC)
  each : ∀ x ∈ l.there, w.ownsRow base 3 1 x.bv x.blocks.length (blkC x.blocks)

theorem LoAt.keep {base : Nat} {w w' : World} {q p : Nat} {f : Int} {N : Nat} {tv fv : Value} {l : Lo} (h : LoAt base w q p f N tv fv l) (hs : w.heap.size ≤ w'.heap.size) (hq : w'.heap[q]? = w.heap[q]?) (hb : ∀ k, base ≤ k → k < w.heap.size → w'.heap[k]? = w.heap[k]?) : LoAt base w' q p f N tv fv l :=
  ⟨hq.trans h.row, own_keep h.there hs (fun k hk hl => hb k (World.ownsRow.lt h.there k hk).1 hl), own_keep h.free hs (fun k hk hl => hb k (World.ownsRow.lt h.free k hk).1 hl), fun x hx => own_keep (h.each x hx) hs (fun k hk hl => hb k (World.ownsRow.lt (h.each x hx) k hk).1 hl)⟩

theorem LoAt.below {base : Nat} {w w' : World} {q p : Nat} {f : Int} {N : Nat} {tv fv : Value} {l : Lo} (h : LoAt base w q p f N tv fv l) (hb : Below w.heap.size w w') : LoAt base w' q p f N tv fv l :=
  h.keep hb.size (hb.block q (Array.getElem?_eq_some_iff.1 h.row).1) (fun k _ hl => hb.block k hl)

theorem LoAt.mono {base base' : Nat} {w : World} {q p : Nat} {f : Int} {N : Nat} {tv fv : Value} {l : Lo} (h : LoAt base w q p f N tv fv l) (hb : base' ≤ base) : LoAt base' w q p f N tv fv l :=
  ⟨h.row, own_mono h.there hb, own_mono h.free hb, fun x hx => own_mono (h.each x hx) hb⟩

/-- What Make leaves on the disk: each block is written, till one tells an error. -/
def makeN (f : Int) : Nat → St → Nat → Int × St
  | 0, s, _ => (0, s)
  | n + 1, s, i => if (writeOut s (f + i) (encP (zeroP 0))).1 = 0 then makeN f n (writeOut s (f + i) (encP (zeroP 0))).2 (i + 1) else writeOut s (f + i) (encP (zeroP 0))
def makeOut (f : Int) (N : Nat) (s : St) : Int × St := if (makeN f N s 0).1 = 0 then barOut (makeN f N s 0).2 else makeN f N s 0

def zeroSl (N : Nat) : List Sl := (List.range N).map fun i => ⟨i, 0⟩

theorem writeOut_blocks (s : St) (i : Int) (xs : List Int) : (writeOut s i xs).2.blocks = s.blocks := by
  unfold writeOut
  split
  · rfl
  · split
    · rfl
    · split
      · show (cutSt s s.mask).blocks = s.blocks
        unfold cutSt
        simp only [settleN_blocks]
      · show (doneSt s i xs).blocks = s.blocks
        unfold doneSt countSt
        split <;> rfl

set_option maxHeartbeats 1500000 in
theorem make_arg {w : World} {p bs bp : Nat} {s : St} (h : DiskAt w p bs bp s) (f c : Int) (f0 : -9223372036854775808 ≤ f) (f1 : f ≤ 9223372036854775807) (c0 : -9223372036854775808 ≤ c) (c1 : c ≤ 9223372036854775807) (hE : ringE s f c ≠ 0) :
    Calls Tryz.prog 11 #[ptr p, .int .i64 f, .int .i64 c] w fun e w' => e = .returned (.tuple #[.pointer none, .int .i64 (ringE s f c)]) ∧ Below w.heap.size w w' := by
  have cr := ringOn_any h f c f0 f1 c0 c1
  rw [if_neg hE] at cr
  have hE' : (ringE s f c != 0) = true := by simpa using hE
  generalize ringE s f c = E at *
  unfold ring0 at cr
  unfold ptr at *
  go_enter Tryz.func11, Tryz.ntmps11
  go_wp2_with fail
  refine cr.mono ?_
  rintro e1 w1 ⟨rfl, hb1⟩
  clear cr
  go_wp2
  go_ret2
  exact ⟨rfl, hb1.alloc hb1.size _⟩

theorem LoAt.cell {base : Nat} {w : World} {q p : Nat} {f : Int} {N : Nat} {tv fv : Value} {l : Lo} (h : LoAt base w q p f N tv fv l) (j : Nat) (v : Value) (hv : (loC p f N tv fv l)[j]? = some v) : w.cell? ⟨q, j, none⟩ = some v := by
  rw [cell_of_row w q j _ _ (0, 0) h.row]; exact hv

theorem lnext_any {base : Nat} {w : World} {q p : Nat} {f : Int} {N : Nat} {tv fv : Value} {l : Lo} (h : LoAt base w q p f N tv fv l) : Calls Tryz.prog 13 #[.pointer (some ⟨q, 0, none⟩)] w fun e w' => e = .returned (.int .u64 l.next) ∧ w' = w := by
  have c5 : w.cell? ⟨q, 5, none⟩ = some (.int .u64 l.next) := h.cell 5 _ rfl
  clear h
  go_enter Tryz.func13, Tryz.ntmps13
  go_wp2
  go_ret
  exact ⟨rfl, rfl⟩

theorem lkind_any {base : Nat} {w : World} {q p : Nat} {f : Int} {N : Nat} {tv fv : Value} {l : Lo} (h : LoAt base w q p f N tv fv l) : Calls Tryz.prog 45 #[.pointer (some ⟨q, 0, none⟩)] w fun e w' => e = .returned (.int .u8 (if l.grown then 1 else 2)) ∧ w' = w := by
  have c7 : w.cell? ⟨q, 7, none⟩ = some (.bool l.grown) := h.cell 7 _ rfl
  clear h
  cases hg : l.grown
  · rw [hg] at c7
    clear hg
    go_enter Tryz.func45, Tryz.ntmps45
    go_wp2
    go_ret
    exact ⟨rfl, rfl⟩
  · rw [hg] at c7
    clear hg
    go_enter Tryz.func45, Tryz.ntmps45
    go_wp2
    go_ret
    exact ⟨rfl, rfl⟩

theorem flatT (K : List Tm) : ∀ (i j : Nat) (x : Tm) (v : Value), K[i]? = some x → (tmC x)[j]? = some v → (K.flatMap tmC)[i * 2 + j]? = some v := by
  induction K with
  | nil => intro i j x v h; simp at h
  | cons y K ih =>
    intro i j x v h hv
    have hj : j < 2 := (List.getElem?_eq_some_iff.1 hv).1
    rw [List.flatMap_cons]
    cases i with
    | zero =>
      simp only [List.getElem?_cons_zero, Option.some.injEq] at h
      subst h
      rw [Nat.zero_mul, Nat.zero_add, List.getElem?_append_left (by exact hj)]
      exact hv
    | succ i =>
      have e4 : (tmC y).length = 2 := rfl
      rw [List.getElem?_append_right (by omega), e4, show (i + 1) * 2 + j - 2 = i * 2 + j from by omega]
      exact ih i j x v (by simpa using h) hv
theorem flatS (K : List Sl) : ∀ (i j : Nat) (x : Sl) (v : Value), K[i]? = some x → (slC x)[j]? = some v → (K.flatMap slC)[i * 2 + j]? = some v := by
  induction K with
  | nil => intro i j x v h; simp at h
  | cons y K ih =>
    intro i j x v h hv
    have hj : j < 2 := (List.getElem?_eq_some_iff.1 hv).1
    rw [List.flatMap_cons]
    cases i with
    | zero =>
      simp only [List.getElem?_cons_zero, Option.some.injEq] at h
      subst h
      rw [Nat.zero_mul, Nat.zero_add, List.getElem?_append_left (by exact hj)]
      exact hv
    | succ i =>
      have e4 : (slC y).length = 2 := rfl
      rw [List.getElem?_append_right (by omega), e4, show (i + 1) * 2 + j - 2 = i * 2 + j from by omega]
      exact ih i j x v (by simpa using h) hv

theorem own_tms {base n : Nat} {w : World} {v : Value} {K : List Tm} (h : w.ownsRow base 94 2 v K.length (K.flatMap tmC)) (hK : 0 < K.length) : ∃ g cap, v = .slice (some ⟨g, 0, none⟩) K.length cap ∧ K.length ≤ cap ∧ cap ≤ maxLen ∧ base ≤ g ∧ g < w.heap.size ∧ ∀ i x, K[i]? = some x → ∀ j u, (tmC x)[j]? = some u → w.cell? ⟨g, i * 2 + j, none⟩ = some u := by
  obtain ⟨h1, ⟨rfl, h2⟩ | ⟨g, cap, cur, rfl, h3, h4, h5, h6, h7, h8⟩⟩ := h
  · omega
  · refine ⟨g, cap, rfl, h5, h6, h3, (Array.getElem?_eq_some_iff.1 h4).1, fun i x hx j u hu => ?_⟩
    have hj : j < 2 := (List.getElem?_eq_some_iff.1 hu).1
    have hi := (List.getElem?_eq_some_iff.1 hx).1
    have e := flatT K i j x u hx hu
    rw [← h8, List.getElem?_take_of_lt (by omega)] at e
    rw [cell_of_row _ _ _ _ _ (0, 0) h4, ← Array.getElem?_toList]
    exact e
theorem own_sls {base n : Nat} {w : World} {v : Value} {K : List Sl} (h : w.ownsRow base 84 2 v K.length (K.flatMap slC)) (hK : 0 < K.length) : ∃ g cap, v = .slice (some ⟨g, 0, none⟩) K.length cap ∧ K.length ≤ cap ∧ cap ≤ maxLen ∧ base ≤ g ∧ g < w.heap.size ∧ ∀ i x, K[i]? = some x → w.cell? ⟨g, i * 2, none⟩ = some (.int .i64 x.block) ∧ w.cell? ⟨g, i * 2 + 1, none⟩ = some (.int .u64 x.fin) := by
  obtain ⟨h1, ⟨rfl, h2⟩ | ⟨g, cap, cur, rfl, h3, h4, h5, h6, h7, h8⟩⟩ := h
  · omega
  · refine ⟨g, cap, rfl, h5, h6, h3, (Array.getElem?_eq_some_iff.1 h4).1, fun i x hx => ?_⟩
    have hi := (List.getElem?_eq_some_iff.1 hx).1
    have e0 := flatS K i 0 x _ hx rfl
    have e1 := flatS K i 1 x _ hx rfl
    rw [← h8, List.getElem?_take_of_lt (by omega)] at e0 e1
    constructor
    · rw [cell_of_row _ _ _ _ _ (0, 0) h4, ← Array.getElem?_toList]; exact e0
    · rw [cell_of_row _ _ _ _ _ (0, 0) h4, ← Array.getElem?_toList]; exact e1

/-- The first record's number. -/
def Lo.first (l : Lo) : Nat := match l.there with
  | [] => l.next
  | x :: _ => x.at_

set_option maxHeartbeats 1000000 in
theorem lfrom_any {base : Nat} {w : World} {q p : Nat} {f : Int} {N : Nat} {tv fv : Value} {l : Lo} (h : LoAt base w q p f N tv fv l) : Calls Tryz.prog 18 #[.pointer (some ⟨q, 0, none⟩)] w fun e w' => e = .returned (.int .u64 l.first) ∧ w' = w := by
  have c5 : w.cell? ⟨q, 5, none⟩ = some (.int .u64 l.next) := h.cell 5 _ rfl
  obtain ⟨a, c, htv⟩ := own_shape h.there
  have c3 : w.cell? ⟨q, 3, none⟩ = some tv := h.cell 3 _ rfl
  rw [htv] at c3
  cases hl : l.there with
  | nil =>
    have hf : l.first = l.next := by unfold Lo.first; rw [hl]
    rw [hf]
    rw [hl] at c3
    clear hf hl h htv
    go_enter Tryz.func18, Tryz.ntmps18
    go_wp2
    go_ret
    exact ⟨rfl, rfl⟩
  | cons x r =>
    have hf : l.first = x.at_ := by unfold Lo.first; rw [hl]
    rw [hf]
    have ht := h.there
    rw [hl] at ht
    obtain ⟨g, cap, hv, hcl, hcm, _, hgl, hcell⟩ := own_tms (n := 0) ht (by simp)
    rw [hv] at htv
    simp only [Value.slice.injEq] at htv
    have c0 : w.cell? ⟨g, 0, none⟩ = some (.int .u64 x.at_) := by have := hcell 0 x rfl 0 _ rfl; simpa using this
    rw [← htv.1, ← htv.2.1, ← htv.2.2] at c3
    have hlen : (x :: r).length = r.length + 1 := rfl
    rw [hlen] at c3
    have hp : ¬ ((r.length : Int) + 1 = 0) := by omega
    clear hf hl h htv hcell ht hv
    go_enter Tryz.func18, Tryz.ntmps18
    go_wp2
    go_ret
    exact ⟨rfl, rfl⟩

set_option maxHeartbeats 1000000 in
theorem lsync_any {base : Nat} {w : World} {q p bs bp : Nat} {f : Int} {N : Nat} {tv fv : Value} {l : Lo} {s : St} (h : LoAt base w q p f N tv fv l) (hd : DiskAt w p bs bp s) : Calls Tryz.prog 14 #[.pointer (some ⟨q, 0, none⟩)] w fun e w' => e = .returned (.int .i64 (barOut s).1) ∧ DiskAt w' p bs bp (barOut s).2 ∧ Sole [p, bs, bp] w w' := by
  have c0 : w.cell? ⟨q, 0, none⟩ = some (.pointer (some ⟨p, 0, none⟩)) := h.cell 0 _ rfl
  have cb := disk_Barrier hd
  unfold ptr at cb
  clear h hd
  go_enter Tryz.func14, Tryz.ntmps14
  go_wp2_with fail
  refine cb.mono ?_
  rintro e1 w1 ⟨rfl, hd1, hS1⟩
  clear cb
  go_wp2
  go_ret
  exact ⟨rfl, hd1, hS1⟩

/-- How many blocks the records that are there take. -/
def usedN : List Tm → Nat
  | [] => 0
  | x :: l => x.blocks.length + usedN l
theorem used_take (K : List Tm) (i : Nat) (x : Tm) (h : K[i]? = some x) : usedN (K.take (i + 1)) = usedN (K.take i) + x.blocks.length := by
  induction K generalizing i with
  | nil => simp at h
  | cons y K ih =>
    cases i with
    | zero =>
      simp only [List.getElem?_cons_zero, Option.some.injEq] at h
      subst h
      simp [usedN]
    | succ i =>
      have := ih i (by simpa using h)
      simp only [List.take_succ_cons, usedN]
      omega
theorem used_le (K : List Tm) (m : Nat) (h : ∀ x ∈ K, x.blocks.length ≤ 1000) (hm : K.length ≤ m) : usedN K ≤ 1000 * m := by
  induction K generalizing m with
  | nil => simp [usedN]
  | cons y K ih =>
    obtain ⟨m', rfl⟩ : ∃ m', m = m' + 1 := ⟨m - 1, by simp at hm; omega⟩
    have h1 := h y (by simp)
    have h2 := ih m' (fun x hx => h x (List.mem_cons_of_mem _ hx)) (by simp at hm; omega)
    unfold usedN
    omega

set_option maxHeartbeats 1000000 in
theorem hasRoom_any {base : Nat} {w : World} {q p : Nat} {f : Int} {N : Nat} {tv fv : Value} {l : Lo} (h : LoAt base w q p f N tv fv l) (n : Nat) (hn : n ≤ 100000) (hN : N ≤ 1024) (hl : l.there.length ≤ 2000) (hb : ∀ x ∈ l.there, x.blocks.length ≤ 1000) :
    Calls Tryz.prog 43 #[.pointer (some ⟨q, 0, none⟩), .int .i64 n] w fun e w' => e = .returned (.bool (decide (n + usedN l.there + 2 ≤ N))) ∧ Below w.heap.size w w' := by
  have HL : Hid (LoAt base w q p f N tv fv l) := h
  obtain ⟨a, c, rfl⟩ := own_shape h.there
  have c3 : w.cell? ⟨q, 3, none⟩ = some (.slice a l.there.length c) := h.cell 3 _ rfl
  have hu := used_le l.there 2000 hb hl
  have hlq := (Array.getElem?_eq_some_iff.1 h.row).1
  clear h
  generalize hK : l.there = K at *
  go_enter Tryz.func43, Tryz.ntmps43
  go_wp2
  go_loopw [1, 6, 12] (fun b _ t wr => ∃ i : Nat, i ≤ K.length ∧ t = .int .i64 i ∧ b = .int .i64 ((n + usedN (K.take i) : Nat) : Int) ∧ Below w.heap.size w wr) (fun _ _ t _ => K.length - (RowKit.intOf t).toNat)
  case atStart => exact ⟨0, Nat.zero_le _, rfl, by simp [usedN], Below.refl _ _⟩
  case round =>
    obtain ⟨i, hi, rfl, rfl, hbr⟩ := hrel
    have hsr := hbr.size
    by_cases hil : i < K.length
    · have hiI : (i : Int) < K.length := by omega
      have ht := (HL.out.below (hbr.mono (Nat.le_refl _))).there
      rw [hK] at ht
      obtain ⟨g, cap, hv, hcl, hcm, _, hgl, hcell⟩ := own_tms (n := 0) ht (by omega)
      simp only [Value.slice.injEq, true_and] at hv
      obtain ⟨rfl, rfl⟩ := hv
      obtain ⟨x, hx⟩ : ∃ x, K[i]? = some x := ⟨_, List.getElem?_eq_getElem hil⟩
      have hxb := hb x (List.mem_of_getElem? hx)
      have c0 : wr.cell? ⟨g, i * 2, none⟩ = some (.int .u64 x.at_) := hcell i x hx 0 _ rfl
      have c1 : wr.cell? ⟨g, i * 2 + 1, none⟩ = some (.slice x.ba x.blocks.length x.bc) := hcell i x hx 1 _ rfl
      have HU : Hid (usedN (K.take (i + 1)) = usedN (K.take i) + x.blocks.length) := used_take K i x hx
      have hub : usedN (K.take i) ≤ 2000000 := Nat.le_trans (used_le (K.take i) 2000 (fun y hy => hb y (List.mem_of_mem_take hy)) (by rw [List.length_take]; omega)) (by omega)
      obtain ⟨U, hU⟩ : ∃ U, usedN (K.take i) = U := ⟨_, rfl⟩
      rw [hU] at HU hub ⊢
      obtain ⟨X1, hX1⟩ : ∃ X1, wr.alloc (.cells #[.int .u64 x.at_, .slice x.ba x.blocks.length x.bc] 94) = X1 := ⟨_, rfl⟩
      have hBX : Below wr.heap.size wr X1 := by rw [← hX1]; exact (Below.refl _ wr).alloc (Nat.le_refl _) _
      have hgX : X1.heap[wr.heap.size]? = some (.cells #[.int .u64 x.at_, .slice x.ba x.blocks.length x.bc] 94 (0, 0)) := by rw [← hX1]; exact heap_alloc_new wr _
      have d1 : X1.cell? ⟨wr.heap.size, 1, none⟩ = some (.slice x.ba x.blocks.length x.bc) := by rw [cell_of_row _ _ 1 _ _ (0, 0) hgX]; rfl
      clear hcell hgX ht hU
      go_wp2
      go_roundw
      case rel => exact ⟨i + 1, by omega, by go_num, by rw [HU.out]; go_num, hbr.trans (hBX.mono (by omega))⟩
      case measure => simp [RowKit.intOf]; omega
    · obtain rfl : i = K.length := by omega
      have c2 : wr.cell? ⟨q, 2, none⟩ = some (.int .i64 N) := (HL.out.below (hbr.mono (Nat.le_refl _))).cell 2 _ rfl
      rw [List.take_length]
      obtain ⟨U, hU⟩ : ∃ U, usedN K = U := ⟨_, rfl⟩
      rw [hU] at hu ⊢
      have HU : Hid (usedN K = U) := hU
      clear hU
      go_wp2
      go_ret
      exact ⟨congrArg (fun b => Ending.returned (Value.bool b)) (by rw [HU.out]; exact decide_eq_decide.2 (by omega)), hbr⟩

/-- The tail behind slots that are written. -/
def tailS (t : Nat) : List Sl → Nat
  | [] => t
  | x :: l => tailS (max t x.fin) l
theorem tailS_take (t : Nat) : ∀ (S : List Sl) (i : Nat) (x : Sl), S[i]? = some x → tailS t (S.take (i + 1)) = max (tailS t (S.take i)) x.fin
  | [], i, x, h => by simp at h
  | y :: S, 0, x, h => by
    simp only [List.getElem?_cons_zero, Option.some.injEq] at h
    subst h
    simp [tailS]
  | y :: S, i + 1, x, h => by
    simp only [List.take_succ_cons, tailS]
    exact tailS_take _ S i x (by simpa using h)

set_option maxHeartbeats 1000000 in
theorem tailBehind_any {base : Nat} {w : World} {q p : Nat} {f : Int} {N : Nat} {tv fv : Value} {l : Lo} (h : LoAt base w q p f N tv fv l) (g c : Nat) (S : List Sl) (hg : g < w.heap.size) (hSc : S.length ≤ c) (hcm : c ≤ maxLen) (hS : ∀ i x, S[i]? = some x → w.cell? ⟨g, i * 2, none⟩ = some (.int .i64 x.block) ∧ w.cell? ⟨g, i * 2 + 1, none⟩ = some (.int .u64 x.fin)) :
    Calls Tryz.prog 44 #[.pointer (some ⟨q, 0, none⟩), .slice (some ⟨g, 0, none⟩) S.length c] w fun e w' => e = .returned (.int .u64 (tailS l.tail S)) ∧ Below w.heap.size w w' := by
  have c6 : w.cell? ⟨q, 6, none⟩ = some (.int .u64 l.tail) := h.cell 6 _ rfl
  have HS : Hid _ := hS
  generalize l.tail = T at *
  clear h hS
  unfold maxLen at hcm
  go_enter Tryz.func44, Tryz.ntmps44
  go_wp2
  go_loopw [5, 7, 14] (fun b _ t wr => ∃ i : Nat, i ≤ S.length ∧ t = .int .i64 i ∧ b = .int .u64 (tailS T (S.take i) : Nat) ∧ Below w.heap.size w wr) (fun _ _ t _ => S.length - (RowKit.intOf t).toNat)
  case atStart => exact ⟨0, Nat.zero_le _, rfl, rfl, Below.refl _ _⟩
  case round =>
    obtain ⟨i, hi, rfl, rfl, hbr⟩ := hrel
    have hsr := hbr.size
    by_cases hil : i < S.length
    · have hiI : (i : Int) < S.length := by omega
      obtain ⟨x, hx⟩ : ∃ x, S[i]? = some x := ⟨_, List.getElem?_eq_getElem hil⟩
      have hc := HS.out i x hx
      have c0 := (hbr.cell (p := ⟨g, i * 2, none⟩) hg).trans hc.1
      have c1 := (hbr.cell (p := ⟨g, i * 2 + 1, none⟩) hg).trans hc.2
      have HT : Hid (((tailS T (S.take (i + 1)) : Nat) : Int) = max ((tailS T (S.take i) : Nat) : Int) (x.fin : Int)) := by unfold Hid; rw [tailS_take T S i x hx]; omega
      obtain ⟨X1, hX1⟩ : ∃ X1, wr.alloc (.cells #[.int .i64 x.block, .int .u64 x.fin] 84) = X1 := ⟨_, rfl⟩
      have hBX : Below wr.heap.size wr X1 := by rw [← hX1]; exact (Below.refl _ wr).alloc (Nat.le_refl _) _
      have hgX : X1.heap[wr.heap.size]? = some (.cells #[.int .i64 x.block, .int .u64 x.fin] 84 (0, 0)) := by rw [← hX1]; exact heap_alloc_new wr _
      have d1 : X1.cell? ⟨wr.heap.size, 1, none⟩ = some (.int .u64 x.fin) := by rw [cell_of_row _ _ 1 _ _ (0, 0) hgX]; rfl
      generalize tailS T (S.take i) = U at *
      clear hgX hx hc
      go_wp2
      go_roundw
      case rel => exact ⟨i + 1, by omega, by go_num, by rw [HT.out], hbr.trans (hBX.mono (by omega))⟩
      case measure => simp [RowKit.intOf]; omega
    · obtain rfl : i = S.length := by omega
      rw [List.take_length]
      go_wp2
      go_ret
      exact ⟨rfl, hbr⟩

def blkR (S : List Sl) (i : Nat) : List Value := (List.range S.length).map fun j => if j < i then Value.int .i64 ((S.getD j ⟨0, 0⟩).block) else .int .i64 0
theorem blkR_all (S : List Sl) : blkR S S.length = blkC (S.map Sl.block) := by
  unfold blkR blkC
  apply List.ext_getElem
  · simp
  · intro i h1 h2
    have hi : i < S.length := by simpa using h1
    simp [hi, List.getD_eq_getElem?_getD, List.getElem?_eq_getElem hi]
theorem blkR_set (S : List Sl) (i : Nat) (x : Sl) (hx : S[i]? = some x) : (blkR S i).set i (.int .i64 x.block) = blkR S (i + 1) := by
  have hi := (List.getElem?_eq_some_iff.1 hx).1
  apply List.ext_getElem
  · simp [blkR]
  · intro j h1 h2
    rw [List.getElem_set]
    simp only [blkR, List.getElem_map, List.getElem_range]
    split
    · rename_i h; subst h; rw [if_pos (by omega), List.getD_eq_getElem?_getD, hx]; rfl
    · rename_i h
      by_cases hj : j < i
      · rw [if_pos hj, if_pos (by omega)]
      · rw [if_neg hj, if_neg (by omega)]

set_option maxHeartbeats 1000000 in
theorem blocksOf_any (w : World) (g c : Nat) (S : List Sl) (hg : g < w.heap.size) (hSc : S.length ≤ c) (hcm : c ≤ maxLen) (hSl : S.length ≤ 100000) (hS : ∀ i x, S[i]? = some x → w.cell? ⟨g, i * 2, none⟩ = some (.int .i64 x.block) ∧ w.cell? ⟨g, i * 2 + 1, none⟩ = some (.int .u64 x.fin)) :
    Calls Tryz.prog 46 #[.slice (some ⟨g, 0, none⟩) S.length c] w fun e w' => ∃ g', e = .returned (.slice (some ⟨g', 0, none⟩) S.length S.length) ∧ w.heap.size ≤ g' ∧ w'.heap[g']? = some (.cells (blkC (S.map Sl.block)).toArray 3 (0, 0)) ∧ Below w.heap.size w w' := by
  have hmk := make_ints w S.length (by omega)
  obtain ⟨M, hM⟩ : ∃ M : Array Value, (List.replicate S.length (Value.int .i64 0)).toArray = M := ⟨_, rfl⟩
  rw [hM] at hmk
  have hM0 : M = (blkR S 0).toArray := by
    rw [← hM]
    congr 1
    apply List.ext_getElem
    · simp [blkR]
    · intro i h1 h2; simp [blkR]
  subst hM0
  have HS : Hid _ := hS
  clear hM hS
  unfold maxLen at hcm
  go_enter Tryz.func46, Tryz.ntmps46
  go_wp2
  go_loopw [4, 5, 11] (fun _ _ t wr => ∃ i : Nat, i ≤ S.length ∧ t = .int .i64 i ∧ Hid (wr.heap[w.heap.size]? = some (.cells (blkR S i).toArray 3 (0, 0))) ∧ Below w.heap.size w wr ∧ w.heap.size < wr.heap.size) (fun _ _ t _ => S.length - (RowKit.intOf t).toNat)
  case atStart => exact ⟨0, Nat.zero_le _, rfl, heap_alloc_new w _, (Below.refl _ w).alloc (Nat.le_refl _) _, by simp⟩
  case round =>
    obtain ⟨i, hi, rfl, HG, hbr, hsr⟩ := hrel
    by_cases hil : i < S.length
    · have hiI : (i : Int) < S.length := by omega
      obtain ⟨x, hx⟩ : ∃ x, S[i]? = some x := ⟨_, List.getElem?_eq_getElem hil⟩
      have hc := HS.out i x hx
      have c0 := (hbr.cell (p := ⟨g, i * 2, none⟩) hg).trans hc.1
      have c1 := (hbr.cell (p := ⟨g, i * 2 + 1, none⟩) hg).trans hc.2
      obtain ⟨X1, hX1⟩ : ∃ X1, wr.alloc (.cells #[.int .i64 x.block, .int .u64 x.fin] 84) = X1 := ⟨_, rfl⟩
      have hBX : Below wr.heap.size wr X1 := by rw [← hX1]; exact (Below.refl _ wr).alloc (Nat.le_refl _) _
      have hgX : X1.heap[wr.heap.size]? = some (.cells #[.int .i64 x.block, .int .u64 x.fin] 84 (0, 0)) := by rw [← hX1]; exact heap_alloc_new wr _
      have d0 : X1.cell? ⟨wr.heap.size, 0, none⟩ = some (.int .i64 x.block) := by rw [cell_of_row _ _ 0 _ _ (0, 0) hgX]; rfl
      have hG1 := (hBX.block _ hsr).trans HG.out
      have hsX := hBX.size
      have hln : (blkR S i).length = S.length := by simp [blkR]
      obtain ⟨v0, hv0⟩ : ∃ v0, (blkR S i)[i]? = some v0 := ⟨_, List.getElem?_eq_getElem (by omega)⟩
      have e0 : X1.cell? ⟨w.heap.size, i, none⟩ = some v0 := by rw [cell_of_row _ _ _ _ _ (0, 0) hG1, List.getElem?_toArray]; exact hv0
      have f0 := frozen_of_row X1 w.heap.size i _ _ hG1
      have hG2 := heap_setCell_same X1 w.heap.size i _ _ (.int .i64 x.block) hG1
      rw [List.setIfInBounds_toArray, blkR_set S i x hx] at hG2
      have HG2 : Hid _ := hG2
      have hb2 : Below w.heap.size w (X1.setCell ⟨w.heap.size, i, none⟩ (.int .i64 x.block)) := (hbr.trans (hBX.mono (by omega))).setCell (p := ⟨w.heap.size, i, none⟩) (Nat.le_refl _) _
      have hs2 : w.heap.size < (X1.setCell ⟨w.heap.size, i, none⟩ (.int .i64 x.block)).heap.size := by simp [World.setCell]; omega
      clear hgX hx hc hG1 hG2 hv0 HG hln
      go_wp2
      go_roundw
      case rel => exact ⟨i + 1, by omega, by go_num, HG2, hb2, hs2⟩
      case measure => simp [RowKit.intOf]; omega
    · obtain rfl : i = S.length := by omega
      rw [blkR_all] at HG
      go_wp2
      go_ret
      exact ⟨_, rfl, Nat.le_refl _, HG.out, hbr⟩

/-- The first record from a number on. -/
def firstK (fr : Nat) : List Wm → Nat
  | [] => 0
  | x :: l => if fr ≤ x.at_ then 0 else firstK fr l + 1
theorem firstK_le (fr : Nat) : ∀ K, firstK fr K ≤ K.length
  | [] => Nat.le_refl _
  | x :: l => by
    unfold firstK
    split
    · exact Nat.zero_le _
    · have := firstK_le fr l; simp; omega
theorem firstK_at (fr : Nat) : ∀ (K : List Wm) (i : Nat) (x : Wm), (∀ j y, j < i → K[j]? = some y → ¬ fr ≤ y.at_) → K[i]? = some x → fr ≤ x.at_ → firstK fr K = i
  | [], i, x, _, h, _ => by simp at h
  | y :: l, 0, x, _, h, hx => by
    simp only [List.getElem?_cons_zero, Option.some.injEq] at h
    subst h
    unfold firstK
    rw [if_pos hx]
  | y :: l, i + 1, x, hn, h, hx => by
    have h0 := hn 0 y (by omega) rfl
    unfold firstK
    rw [if_neg h0, firstK_at fr l i x (fun j z hj hz => hn (j + 1) z (by omega) (by simpa using hz)) (by simpa using h) hx]
theorem firstK_none (fr : Nat) : ∀ (K : List Wm), (∀ (j : Nat) (y : Wm), K[j]? = some y → ¬ fr ≤ y.at_) → firstK fr K = K.length
  | [], _ => rfl
  | y :: l, hn => by
    have h0 := hn 0 y rfl
    unfold firstK
    rw [if_neg h0, firstK_none fr l (fun j z hz => hn (j + 1) z (by simpa using hz))]
    rfl

set_option maxHeartbeats 400000 in
theorem first1_any {w : World} {c : Nat} {fr : Nat} (x : Wm) (hc : w.heap[c]? = some (.cells #[.int .u64 fr] 34 (0, 0))) :
    Calls Tryz.prog 96 #[.agg #[.int .u64 x.at_, .slice x.ba x.blocks.length x.bc, .slice x.ga x.group.length x.gc, .bool x.begins], .pointer (some ⟨c, 0, none⟩)] w fun e w' => e = .returned (.bool (decide (fr ≤ x.at_))) ∧ Below w.heap.size w w' := by
  obtain ⟨w1, hw1⟩ : ∃ w1, w.alloc (.cells #[.int .u64 x.at_, .slice x.ba x.blocks.length x.bc, .slice x.ga x.group.length x.gc, .bool x.begins] 126) = w1 := ⟨_, rfl⟩
  have hB1 : Below w.heap.size w w1 := by rw [← hw1]; exact (Below.refl _ w).alloc (Nat.le_refl _) _
  have hg1 : w1.heap[w.heap.size]? = some (.cells #[.int .u64 x.at_, .slice x.ba x.blocks.length x.bc, .slice x.ga x.group.length x.gc, .bool x.begins] 126 (0, 0)) := by rw [← hw1]; exact heap_alloc_new w _
  have q0 : w1.cell? ⟨w.heap.size, 0, none⟩ = some (.int .u64 x.at_) := by rw [cell_of_row _ _ 0 _ _ (0, 0) hg1]; rfl
  have q1 : w1.cell? ⟨c, 0, none⟩ = some (.int .u64 fr) := by rw [cell_of_row _ _ 0 _ _ (0, 0) ((hB1.block _ (Array.getElem?_eq_some_iff.1 hc).1).trans hc)]; rfl
  clear hg1 hc
  by_cases h : fr ≤ x.at_
  · have hI : (fr : Int) ≤ x.at_ := by omega
    rw [decide_eq_true h]
    go_enter Tryz.func96, Tryz.ntmps96
    go_wp2
    go_ret
    refine ⟨?_, hB1⟩
    simp [hI]
  · have hI : ¬ (fr : Int) ≤ x.at_ := by omega
    rw [decide_eq_false h]
    go_enter Tryz.func96, Tryz.ntmps96
    go_wp2
    go_ret
    refine ⟨?_, hB1⟩
    simp [hI]

set_option maxHeartbeats 1000000 in
theorem indexW_any {base : Nat} {w : World} {c fr : Nat} {a : Option Addr} {cp : Nat} {K : List Wm} (hW : WsAt base w (.slice a K.length cp) K) (hK : K.length ≤ 2000) (hc : w.heap[c]? = some (.cells #[.int .u64 fr] 34 (0, 0))) :
    Calls Tryz.prog 95 #[.slice a K.length cp, .func (Fn.func 96) #[] #[.pointer (some ⟨c, 0, none⟩)]] w fun e w' => e = .returned (.int .i64 (if firstK fr K = K.length then -1 else (firstK fr K : Int))) ∧ Below w.heap.size w w' := by
  obtain ⟨Z, hZ⟩ : ∃ Z : Int, (if firstK fr K = K.length then -1 else (firstK fr K : Int)) = Z := ⟨_, rfl⟩
  rw [hZ]
  have HZ : Hid ((if firstK fr K = K.length then -1 else (firstK fr K : Int)) = Z) := hZ
  clear hZ
  have HW : Hid (WsAt base w (.slice a K.length cp) K) := hW
  have HC : Hid _ := hc
  have hlc := (Array.getElem?_eq_some_iff.1 hc).1
  clear hW hc
  go_enter Tryz.func95, Tryz.ntmps95
  go_wp2
  go_loopw [5, 8] (fun _ t wr => ∃ i : Nat, i ≤ K.length ∧ t = .int .i64 i ∧ Hid (∀ (j : Nat) (y : Wm), j < i → K[j]? = some y → ¬ fr ≤ y.at_) ∧ Below w.heap.size w wr) (fun _ t _ => K.length - (RowKit.intOf t).toNat)
  case atStart => exact ⟨0, Nat.zero_le _, rfl, fun j y hj => absurd hj (Nat.not_lt_zero _), Below.refl _ _⟩
  case round =>
    obtain ⟨i, hi, rfl, HN, hbr⟩ := hrel
    by_cases hil : i < K.length
    · have hiI : (i : Int) < K.length := by omega
      obtain ⟨g, cap, hv, hcl, hcm, _, hgl, hcell⟩ := (HW.out.keep hbr.size (fun j _ hj => hbr.block j hj)).cell (by omega)
      simp only [Value.slice.injEq, true_and] at hv
      obtain ⟨rfl, rfl⟩ := hv
      obtain ⟨x, hx⟩ : ∃ x, K[i]? = some x := ⟨_, List.getElem?_eq_getElem hil⟩
      have HX : Hid (K[i]? = some x) := hx
      have c0 : wr.cell? ⟨g, i * 4, none⟩ = some (.int .u64 x.at_) := hcell i x hx 0 _ rfl
      have c1 : wr.cell? ⟨g, i * 4 + 1, none⟩ = some (.slice x.ba x.blocks.length x.bc) := hcell i x hx 1 _ rfl
      have c2 : wr.cell? ⟨g, i * 4 + 2, none⟩ = some (.slice x.ga x.group.length x.gc) := hcell i x hx 2 _ rfl
      have c3 : wr.cell? ⟨g, i * 4 + 3, none⟩ = some (.bool x.begins) := hcell i x hx 3 _ rfl
      have cf := first1_any x ((hbr.block _ hlc).trans HC.out)
      clear hcell hx
      by_cases h : fr ≤ x.at_
      · have HF : Hid (firstK fr K = i) := firstK_at fr K i x HN.out HX.out h
        rw [decide_eq_true h] at cf
        clear h
        go_wp2_with fail
        refine cf.mono ?_
        rintro e1 w1 ⟨rfl, hb1⟩
        clear cf
        go_wp2
        go_ret
        exact ⟨congrArg (fun z => Ending.returned (Value.int .i64 z)) (by rw [← HZ.out, HF.out, if_neg (by omega)]), hbr.trans (hb1.mono hbr.size)⟩
      · have HN2 : Hid (∀ (j : Nat) (y : Wm), j < i + 1 → K[j]? = some y → ¬ fr ≤ y.at_) := fun j y hj hy => by
          by_cases e : j = i
          · subst e; rw [HX.out] at hy; cases hy; exact h
          · exact HN.out j y (by omega) hy
        rw [decide_eq_false h] at cf
        clear h
        go_wp2_with fail
        refine cf.mono ?_
        rintro e1 w1 ⟨rfl, hb1⟩
        clear cf
        go_wp2
        go_roundw
        case rel => exact ⟨i + 1, by omega, by go_num, HN2, hbr.trans (hb1.mono hbr.size)⟩
        case measure => simp [RowKit.intOf]; omega
    · obtain rfl : i = K.length := by omega
      have HF : Hid (firstK fr K = K.length) := firstK_none fr K (fun j y hy => HN.out j y (List.getElem?_eq_some_iff.1 hy).1 hy)
      go_wp2
      go_ret
      exact ⟨congrArg (fun z => Ending.returned (Value.int .i64 z)) (by rw [← HZ.out, HF.out, if_pos rfl]), hbr⟩

set_option maxHeartbeats 1000000 in
theorem firstFrom_any {base : Nat} {w : World} {p : Option Addr} {f : Int} {N T E fr : Nat} {av : Value} {a : Option Addr} {cp : Nat} {K : List Wm} (hav : ∃ b n c, av = .slice b n c) (hW : WsAt base w (.slice a K.length cp) K) (hK : K.length ≤ 2000) :
    Calls Tryz.prog 67 #[.agg #[.pointer p, .int .i64 f, .int .i64 N, av, .int .u64 T, .slice a K.length cp, .int .u64 E], .int .u64 fr] w fun e w' => e = .returned (.int .i64 (firstK fr K)) ∧ Below w.heap.size w w' := by
  obtain ⟨b, n, c, rfl⟩ := hav
  obtain ⟨w1, hw1⟩ : ∃ w1, w.alloc (.cells #[.pointer p, .int .i64 f, .int .i64 N, .slice b n c, .int .u64 T, .slice a K.length cp, .int .u64 E] 88) = w1 := ⟨_, rfl⟩
  have hB1 : Below w.heap.size w w1 := by rw [← hw1]; exact (Below.refl _ w).alloc (Nat.le_refl _) _
  have hg1 : w1.heap[w.heap.size]? = some (.cells #[.pointer p, .int .i64 f, .int .i64 N, .slice b n c, .int .u64 T, .slice a K.length cp, .int .u64 E] 88 (0, 0)) := by rw [← hw1]; exact heap_alloc_new w _
  have hlt1 : w.heap.size < w1.heap.size := (Array.getElem?_eq_some_iff.1 hg1).1
  obtain ⟨w2, hw2⟩ : ∃ w2, w1.alloc (.cells #[.int .u64 fr] 34) = w2 := ⟨_, rfl⟩
  have hB2 : Below w1.heap.size w1 w2 := by rw [← hw2]; exact (Below.refl _ w1).alloc (Nat.le_refl _) _
  have hg2 : w2.heap[w1.heap.size]? = some (.cells #[.int .u64 fr] 34 (0, 0)) := by rw [← hw2]; exact heap_alloc_new w1 _
  have hB12 := thenB hB1 hB2
  have k1 := (hB2.block _ hlt1).trans hg1
  have q5 : w2.cell? ⟨w.heap.size, 5, none⟩ = some (.slice a K.length cp) := by rw [cell_of_row _ _ 5 _ _ (0, 0) k1]; rfl
  have ci := indexW_any (hW.keep hB12.size (fun j _ hj => hB12.block j hj)) hK hg2
  have hle := firstK_le fr K
  have HF : Hid (firstK fr K = firstK fr K) := rfl
  have q5' : ∀ W, Below w2.heap.size w2 W → W.cell? ⟨w.heap.size, 5, none⟩ = some (.slice a K.length cp) := fun W hW' => (hW'.cell (p := ⟨w.heap.size, 5, none⟩) (show w.heap.size < w2.heap.size from by have := hB2.size; omega)).trans q5
  generalize firstK fr K = F at *
  clear hg1 hg2 k1 hW
  by_cases hF : F = K.length
  · rw [if_pos hF] at ci
    go_enter Tryz.func67, Tryz.ntmps67
    go_wp2_with fail
    refine ci.mono ?_
    rintro e1 w3 ⟨rfl, hb3⟩
    have q6 := q5' w3 hb3
    clear ci q5 q5'
    go_wp2
    go_ret
    exact ⟨by rw [hF]; rfl, thenB hB12 hb3⟩
  · rw [if_neg hF] at ci
    have hFI : ¬ ((F : Int) < 0) := by omega
    go_enter Tryz.func67, Tryz.ntmps67
    go_wp2_with fail
    refine ci.mono ?_
    rintro e1 w3 ⟨rfl, hb3⟩
    clear ci q5 q5'
    go_wp2
    go_ret
    exact ⟨rfl, thenB hB12 hb3⟩

end Go.Proofs.YtckcdmkgmbicfaaGreat
