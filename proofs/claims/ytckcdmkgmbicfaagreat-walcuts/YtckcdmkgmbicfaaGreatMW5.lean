/- WFindB, WMathB, WRound, WHeld: in one text. -/
import Derived.Test.YtckcdmkgmbicfaaGreatWKeep
import Derived.Test.YtckcdmkgmbicfaaGreatMWS
import Derived.Test.YtckcdmkgmbicfaaGreatMW2
import Derived.Test.YtckcdmkgmbicfaaGreatMW3
import Derived.Test.YtckcdmkgmbicfaaGreatMW4
namespace Go.Proofs.YtckcdmkgmbicfaaGreat
open Go.RowKit
set_option linter.unusedVariables false
set_option linter.unusedSimpArgs false
set_option maxRecDepth 4000

theorem seven_put {w : World} {r : Nat} {t : TypeId} (o0 o1 o2 o3 o4 o5 o6 a b c d e f g : Value) (hg : w.heap[r]? = some (.cells #[o0, o1, o2, o3, o4, o5, o6] t (0, 0))) :
    (((((((w.setCell ⟨r, 0, none⟩ a).setCell ⟨r, 1, none⟩ b).setCell ⟨r, 2, none⟩ c).setCell ⟨r, 3, none⟩ d).setCell ⟨r, 4, none⟩ e).setCell ⟨r, 5, none⟩ f).setCell ⟨r, 6, none⟩ g).heap[r]? = some (.cells #[a, b, c, d, e, f, g] t (0, 0)) := by
  have g1 := heap_setCell_same w r 0 _ _ a hg
  simp only [List.setIfInBounds_toArray, List.set_cons_zero, List.set_cons_succ] at g1
  have g2 := heap_setCell_same _ r 1 _ _ b g1
  simp only [List.setIfInBounds_toArray, List.set_cons_zero, List.set_cons_succ] at g2
  have g3 := heap_setCell_same _ r 2 _ _ c g2
  simp only [List.setIfInBounds_toArray, List.set_cons_zero, List.set_cons_succ] at g3
  have g4 := heap_setCell_same _ r 3 _ _ d g3
  simp only [List.setIfInBounds_toArray, List.set_cons_zero, List.set_cons_succ] at g4
  have g5 := heap_setCell_same _ r 4 _ _ e g4
  simp only [List.setIfInBounds_toArray, List.set_cons_zero, List.set_cons_succ] at g5
  have g6 := heap_setCell_same _ r 5 _ _ f g5
  simp only [List.setIfInBounds_toArray, List.set_cons_zero, List.set_cons_succ] at g6
  have g7 := heap_setCell_same _ r 6 _ _ g g6
  simp only [List.setIfInBounds_toArray, List.set_cons_zero, List.set_cons_succ] at g7
  exact g7

/-- What findOn tells. -/
structure Found (w w' : World) (s : St) (f : Int) (N : Nat) (L : List Fv) (K : List Wm) (av kv : Value) : Prop where
  perm : (L.map fun x => (x.p, x.blk)).Perm ((idxL (viewP s f) N).map fun i => (viewP s f i, i))
  sort : L.Pairwise leF
  kept : K.map whOf = keepL (L.map fdOf) (tailK (viewP s f) N)
  all : FsAt w.heap.size w' av L
  ws : WsAt w.heap.size w' kv K
  below : Below w.heap.size w w'
  asl : ∃ a c, av = .slice a L.length c
  ksl : ∃ a c, kv = .slice a K.length c

theorem FsAt.mono' {base base' : Nat} {w : World} {v : Value} {L : List Fv} (h : FsAt base w v L) (hb : base' ≤ base) : FsAt base' w v L := ⟨own_mono h.own hb, fun x hx => ⟨(h.each x hx).sl, (h.each x hx).rd.mono hb, (h.each x hx).ap, (h.each x hx).ok, (h.each x hx).len⟩⟩

theorem ret_fin {fn : Func} {R : Ending → World → Prop} {a : Act} {w : World} {p : Tmp} (h : fn.results = #[.cell p 88]) (g : Nat) (cs : Array Value) (hcs : cs.size = 7) {t : TypeId} {fr : Nat × Nat} (hp : a.tmps.getD p undef = .pointer (some ⟨g, 0, none⟩))
    (hg : w.heap[g]? = some (.cells cs t fr)) (hd : a.defers = []) (hR : R (.returned (.agg cs)) w) : bodyPost Tryz.prog fn R .ret a w :=
  bodyPost_ret (results_cell_row h a.tmps w g t cs fr _ hp hg Tryz.underlying88 rfl (by rw [hcs]; kernel_rfl)) hd hR

set_option maxHeartbeats 2000000 in
theorem findOn_any {w : World} {p bs bp : Nat} {s : St} (h : DiskAt w p bs bp s) (f : Int) (N : Nat) (hr : RingOk s f N) (hsm : ∀ i : Nat, i < N → ((viewP s f i).kind ≠ 0 → (viewP s f i).at_ ≤ 4611686018427387904) ∧ (viewP s f i).tail ≤ 4611686018427387904) :
    Calls Tryz.prog 33 #[ringV p f N] w fun e w' => ∃ L K av kv, e = .returned (.agg #[ptr p, .int .i64 f, .int .i64 N, av, .int .u64 (tailK (viewP s f) N), kv, .int .u64 (keepE (L.map fdOf) (tailK (viewP s f) N))]) ∧ Found w w' s f N L K av kv := by
  have hgd := h.good
  have hb1 := hgd.b1
  have hf0 := hr.f0
  have hfn := hr.fn
  obtain ⟨iF, hiF, hF0, hF1, hF2⟩ := info_parts Tryz.infoFd
  obtain ⟨w1, hw1⟩ : ∃ w1, w.alloc (.cells #[ptr p, .int .i64 f, .int .i64 N] 71) = w1 := ⟨_, rfl⟩
  have hB1 : Below w.heap.size w w1 := by rw [← hw1]; exact (Below.refl _ w).alloc (Nat.le_refl _) _
  have hg1 : w1.heap[w.heap.size]? = some (.cells #[ptr p, .int .i64 f, .int .i64 N] 71 (0, 0)) := by rw [← hw1]; exact heap_alloc_new w _
  have hlt1 : w.heap.size < w1.heap.size := (Array.getElem?_eq_some_iff.1 hg1).1
  obtain ⟨w2, hw2⟩ : ∃ w2, w1.alloc (.cells #[.pointer none, .int .i64 0, .int .i64 0, .slice none 0 0, .int .u64 0, .slice none 0 0, .int .u64 0] 88) = w2 := ⟨_, rfl⟩
  have hB2 : Below w1.heap.size w1 w2 := by rw [← hw2]; exact (Below.refl _ w1).alloc (Nat.le_refl _) _
  have hg2 : w2.heap[w1.heap.size]? = some (.cells #[.pointer none, .int .i64 0, .int .i64 0, .slice none 0 0, .int .u64 0, .slice none 0 0, .int .u64 0] 88 (0, 0)) := by rw [← hw2]; exact heap_alloc_new w1 _
  have hlt2 : w1.heap.size < w2.heap.size := (Array.getElem?_eq_some_iff.1 hg2).1
  have k1 := (hB2.block _ hlt1).trans hg1
  have q0 : w2.cell? ⟨w.heap.size, 0, none⟩ = some (ptr p) := by rw [cell_of_row _ _ 0 _ _ (0, 0) k1]; rfl
  have q1 : w2.cell? ⟨w.heap.size, 1, none⟩ = some (.int .i64 f) := by rw [cell_of_row _ _ 1 _ _ (0, 0) k1]; rfl
  have q2 : w2.cell? ⟨w.heap.size, 2, none⟩ = some (.int .i64 N) := by rw [cell_of_row _ _ 2 _ _ (0, 0) k1]; rfl
  have q3 : (w2.alloc (.cells #[ptr p, .int .i64 f, .int .i64 N, .slice none 0 0, .int .u64 0, .slice none 0 0, .int .u64 0] 88)).cell? ⟨w.heap.size, 2, none⟩ = some (.int .i64 N) := by
    rw [cell_of_row _ _ 2 _ _ (0, 0) (((Below.refl w2.heap.size w2).alloc (Nat.le_refl _) _).block _ (by omega) |>.trans k1)]; rfl
  have hV : ∀ i : Nat, i < N → PcOk (viewP s f i) ∧ (viewP s f i).body.length = 488 := fun i hi => viewP_ok hgd f i (hr.un i hi)
  have hB : Below w.heap.size w w2 := thenB hB1 hB2
  have HD : Hid (DiskAt w p bs bp s) := h
  have hTl : ∀ k, k ≤ N → tailK (viewP s f) k < 18446744073709551616 := by
    intro k hk
    induction k with
    | zero => unfold tailK; decide
    | succ k ih =>
      unfold tailK
      have := (hV k (by omega)).1.tail
      have := ih (by omega)
      omega
  clear h
  unfold ringV
  unfold ptr at *
  go_enter Tryz.func33, Tryz.ntmps33
  go_wp2
  go_loopw [4, 5, 6, 11] (fun _ _ _ t wr => ∃ (k : Nat) (L : List Fv) (aU : Option Addr) (cU : Nat), k ≤ N ∧ t = .int .i64 k ∧ Hid (wr.heap[w2.heap.size]? = some (.cells #[.pointer (some ⟨p, 0, none⟩), .int .i64 f, .int .i64 N, .slice aU L.length cU, .int .u64 (tailK (viewP s f) k), .slice none 0 0, .int .u64 0] 88 (0, 0))) ∧
      Hid (FsAt (w2.heap.size + 1) wr (.slice aU L.length cU) L) ∧ Hid (L.map (fun x => (x.p, x.blk)) = (idxL (viewP s f) k).map (fun i => (viewP s f i, i))) ∧ Below w2.heap.size w2 wr ∧ w2.heap.size < wr.heap.size) (fun _ _ _ t _ => N - (RowKit.intOf t).toNat)
  case atStart =>
    refine ⟨0, [], none, 0, Nat.zero_le _, rfl, heap_alloc_new w2 _, FsAt.nil _ _, rfl, (Below.refl _ w2).alloc (Nat.le_refl _) _, by simp⟩
  case round =>
    obtain ⟨k, L, aU, cU, hk, rfl, HG, HF, HL, hbr, hsr⟩ := hrel
    by_cases hlt : k < N
    · have hfb : wr.heap.size > w2.heap.size := hsr
      obtain ⟨X1, hX1⟩ : ∃ X1, wr.alloc (.cells #[.int .i64 (k : Int)] 3) = X1 := ⟨_, rfl⟩
      have hBX1 : Below wr.heap.size wr X1 := by rw [← hX1]; exact (Below.refl _ wr).alloc (Nat.le_refl _) _
      have hgX1 : X1.heap[wr.heap.size]? = some (.cells #[.int .i64 (k : Int)] 3 (0, 0)) := by rw [← hX1]; exact heap_alloc_new wr _
      have hltX1 : wr.heap.size < X1.heap.size := (Array.getElem?_eq_some_iff.1 hgX1).1
      have hdX1 : DiskAt X1 p bs bp s := ((HD.out.below hB).below hbr).below hBX1
      have kX1 := (hBX1.block _ (by omega : w.heap.size < wr.heap.size)).trans ((hbr.block _ (by omega)).trans k1)
      have ct := tryPiece hdX1 f N k kX1 hgX1 (by omega) (by omega) (hr.use hlt) (hr.un k hlt)
      have hVk := hV k hlt
      have HVV : Hid (bodyP (unB (seen s (f + (k : Int)))) = viewP s f k) := rfl
      rw [HVV.out] at ct
      unfold pcV at ct
      have HSu : Hid (((tailK (viewP s f) (k + 1) : Nat) : Int) = max ((tailK (viewP s f) k : Nat) : Int) ((viewP s f k).tail : Int)) := by unfold Hid; rw [show tailK (viewP s f) (k + 1) = max (tailK (viewP s f) k) (viewP s f k).tail from rfl]; omega
      have HIx : Hid (idxL (viewP s f) (k + 1) = idxL (viewP s f) k ++ (if (viewP s f k).kind = 0 then [] else [k])) := idx_succ _ _
      have hTk := hTl k hk
      obtain ⟨P, hP⟩ : ∃ P, viewP s f k = P := ⟨_, rfl⟩
      rw [hP] at ct hVk HSu HIx
      have hPk := hVk.1.kind
      have hPt := hVk.1.tail
      obtain ⟨T, hT⟩ : ∃ T, tailK (viewP s f) k = T := ⟨_, rfl⟩
      rw [hT] at HG HSu hTk
      obtain ⟨K, hK⟩ : ∃ K, P.kind = K := ⟨_, rfl⟩
      rw [hK] at ct hPk
      have HK : Hid (P.kind = K) := hK
      by_cases hk0 : K = 0
      · subst hk0
        rw [if_pos hK, List.append_nil] at HIx
        clear hK
        go_wp2_with fail
        refine ct.mono ?_
        rintro e X2 ⟨a, n, d, rfl, hrd, hbX2⟩
        clear ct
        obtain ⟨X3, hX3⟩ : ∃ X3, X2.alloc (.cells #[.int .u8 0, .int .u64 P.tail, .int .u64 P.at_, .int .i64 P.index, .int .i64 P.length, .slice a n d] 82) = X3 := ⟨_, rfl⟩
        have hBX3 : Below X2.heap.size X2 X3 := by rw [← hX3]; exact (Below.refl _ X2).alloc (Nat.le_refl _) _
        have hgX3 : X3.heap[X2.heap.size]? = some (.cells #[.int .u8 0, .int .u64 P.tail, .int .u64 P.at_, .int .i64 P.index, .int .i64 P.length, .slice a n d] 82 (0, 0)) := by rw [← hX3]; exact heap_alloc_new X2 _
        have hltX3 : X2.heap.size < X3.heap.size := (Array.getElem?_eq_some_iff.1 hgX3).1
        have hs2 := hbX2.size
        have hb3 : Below wr.heap.size wr X3 := thenB hBX1 (thenB hbX2 hBX3)
        have hgf := (hb3.block _ hsr).trans HG.out
        have hgk := ((thenB hbX2 hBX3).block _ hltX1).trans hgX1
        have c3 : X3.cell? ⟨w2.heap.size, 3, none⟩ = some (.slice aU L.length cU) := by rw [cell_of_row _ _ 3 _ _ (0, 0) hgf]; rfl
        have c4 : X3.cell? ⟨w2.heap.size, 4, none⟩ = some (.int .u64 T) := by rw [cell_of_row _ _ 4 _ _ (0, 0) hgf]; rfl
        have f4 := frozen_of_row X3 w2.heap.size 4 _ _ hgf
        have d1 : X3.cell? ⟨X2.heap.size, 1, none⟩ = some (.int .u64 P.tail) := by rw [cell_of_row _ _ 1 _ _ (0, 0) hgX3]; rfl
        have hgM := heap_setCell_same X3 w2.heap.size 4 _ _ (.int .u64 (max (T : Int) (P.tail : Int))) hgf
        obtain ⟨X4, hX4⟩ : ∃ X4, X3.setCell ⟨w2.heap.size, 4, none⟩ (.int .u64 (max (T : Int) (P.tail : Int))) = X4 := ⟨_, rfl⟩
        rw [hX4] at hgM
        have hsX4 : X4.heap.size = X3.heap.size := by rw [← hX4]; simp [World.setCell]
        have hoX4 : ∀ j, j ≠ w2.heap.size → X4.heap[j]? = X3.heap[j]? := fun j hj => by rw [← hX4]; exact heap_setCell_other _ _ _ _ hj
        have hgp4 := (hoX4 X2.heap.size (by omega)).trans hgX3
        have hgk4 := (hoX4 wr.heap.size (by omega)).trans hgk
        have e0 : X4.cell? ⟨X2.heap.size, 0, none⟩ = some (.int .u8 0) := by rw [cell_of_row _ _ 0 _ _ (0, 0) hgp4]; rfl
        have e1 : X4.cell? ⟨X2.heap.size, 1, none⟩ = some (.int .u64 P.tail) := by rw [cell_of_row _ _ 1 _ _ (0, 0) hgp4]; rfl
        have e2 : X4.cell? ⟨X2.heap.size, 2, none⟩ = some (.int .u64 P.at_) := by rw [cell_of_row _ _ 2 _ _ (0, 0) hgp4]; rfl
        have e3 : X4.cell? ⟨X2.heap.size, 3, none⟩ = some (.int .i64 P.index) := by rw [cell_of_row _ _ 3 _ _ (0, 0) hgp4]; rfl
        have e4 : X4.cell? ⟨X2.heap.size, 4, none⟩ = some (.int .i64 P.length) := by rw [cell_of_row _ _ 4 _ _ (0, 0) hgp4]; rfl
        have e5 : X4.cell? ⟨X2.heap.size, 5, none⟩ = some (.slice a n d) := by rw [cell_of_row _ _ 5 _ _ (0, 0) hgp4]; rfl
        have e6 : X4.cell? ⟨wr.heap.size, 0, none⟩ = some (.int .i64 (k : Int)) := by rw [cell_of_row _ _ 0 _ _ (0, 0) hgk4]; rfl
        have e7 : X4.cell? ⟨w2.heap.size, 3, none⟩ = some (.slice aU L.length cU) := by rw [cell_of_row _ _ 3 _ _ (0, 0) hgM]; rfl
        have hb4 : Below w2.heap.size w2 X4 := by rw [← hX4]; exact (hbr.trans (hb3.mono (by omega))).setCell (p := ⟨w2.heap.size, 4, none⟩) (Nat.le_refl _) _
        have hS4 : Sole [w2.heap.size] wr X4 := (Sole.of_below hb3 _).trans (by rw [← hX4]; exact Sole.setCell _ _ (by simp))
        have HF4 : FsAt (w2.heap.size + 1) X4 (.slice aU L.length cU) L := HF.out.sole hS4 (fun j hj => by simp only [List.mem_singleton] at hj; omega)
        have hown : (Value.slice aU L.length cU).ownBlock = none ∨ ∃ g, (Value.slice aU L.length cU).ownBlock = some g ∧ g < wr.heap.size := by
          cases ho : (Value.slice aU L.length cU).ownBlock with
          | none => exact .inl rfl
          | some g => exact .inr ⟨g, rfl, ((HF.out.own).lt g ho).2⟩
        have HX : Hid (FvAt (w2.heap.size + 1) X4 (.slice aU L.length cU) ⟨P, a, n, d, k⟩) := by
          have hrd4 : RdF X1.heap.size X4 (.slice a n d) P.body := hrd.keep (by omega) (fun j h1 h2 => by rw [hoX4 j (by omega), hBX3.block j h2])
          refine ⟨⟨a, n, d, rfl⟩, hrd4.mono (by omega), fun b off l c e hne => ?_, hVk.1, hVk.2⟩
          have hlo := hrd4.2 b off l c e hne
          rcases hown with h | ⟨g, h, hg⟩
          · rw [h]; simp
          · rw [h]; simp only [ne_eq, Option.some.injEq]; omega
        clear hgX1 hgX3 hgf hgk kX1 hdX1 hrd hbX2 hBX1 hBX3 hown hgp4 hgk4 HF
        go_wp2
        go_roundw
        case rel => exact ⟨k + 1, L, aU, cU, by omega, by go_num, by rw [HSu.out]; exact hgM, HF4, by rw [HIx.out]; exact HL, hb4, by omega⟩
        case measure => simp [RowKit.intOf]; omega
      · rw [if_neg (by rw [hK]; exact hk0)] at HIx
        clear hK
        have hk0I : ¬ (K : Int) = 0 := by omega
        go_wp2_with fail
        refine ct.mono ?_
        rintro e X2 ⟨a, n, d, rfl, hrd, hbX2⟩
        clear ct
        obtain ⟨X3, hX3⟩ : ∃ X3, X2.alloc (.cells #[.int .u8 K, .int .u64 P.tail, .int .u64 P.at_, .int .i64 P.index, .int .i64 P.length, .slice a n d] 82) = X3 := ⟨_, rfl⟩
        have hBX3 : Below X2.heap.size X2 X3 := by rw [← hX3]; exact (Below.refl _ X2).alloc (Nat.le_refl _) _
        have hgX3 : X3.heap[X2.heap.size]? = some (.cells #[.int .u8 K, .int .u64 P.tail, .int .u64 P.at_, .int .i64 P.index, .int .i64 P.length, .slice a n d] 82 (0, 0)) := by rw [← hX3]; exact heap_alloc_new X2 _
        have hltX3 : X2.heap.size < X3.heap.size := (Array.getElem?_eq_some_iff.1 hgX3).1
        have hs2 := hbX2.size
        have hb3 : Below wr.heap.size wr X3 := thenB hBX1 (thenB hbX2 hBX3)
        have hgf := (hb3.block _ hsr).trans HG.out
        have hgk := ((thenB hbX2 hBX3).block _ hltX1).trans hgX1
        have c3 : X3.cell? ⟨w2.heap.size, 3, none⟩ = some (.slice aU L.length cU) := by rw [cell_of_row _ _ 3 _ _ (0, 0) hgf]; rfl
        have c4 : X3.cell? ⟨w2.heap.size, 4, none⟩ = some (.int .u64 T) := by rw [cell_of_row _ _ 4 _ _ (0, 0) hgf]; rfl
        have f4 := frozen_of_row X3 w2.heap.size 4 _ _ hgf
        have d1 : X3.cell? ⟨X2.heap.size, 1, none⟩ = some (.int .u64 P.tail) := by rw [cell_of_row _ _ 1 _ _ (0, 0) hgX3]; rfl
        have hgM := heap_setCell_same X3 w2.heap.size 4 _ _ (.int .u64 (max (T : Int) (P.tail : Int))) hgf
        obtain ⟨X4, hX4⟩ : ∃ X4, X3.setCell ⟨w2.heap.size, 4, none⟩ (.int .u64 (max (T : Int) (P.tail : Int))) = X4 := ⟨_, rfl⟩
        rw [hX4] at hgM
        have hsX4 : X4.heap.size = X3.heap.size := by rw [← hX4]; simp [World.setCell]
        have hoX4 : ∀ j, j ≠ w2.heap.size → X4.heap[j]? = X3.heap[j]? := fun j hj => by rw [← hX4]; exact heap_setCell_other _ _ _ _ hj
        have hgp4 := (hoX4 X2.heap.size (by omega)).trans hgX3
        have hgk4 := (hoX4 wr.heap.size (by omega)).trans hgk
        have e0 : X4.cell? ⟨X2.heap.size, 0, none⟩ = some (.int .u8 K) := by rw [cell_of_row _ _ 0 _ _ (0, 0) hgp4]; rfl
        have e1 : X4.cell? ⟨X2.heap.size, 1, none⟩ = some (.int .u64 P.tail) := by rw [cell_of_row _ _ 1 _ _ (0, 0) hgp4]; rfl
        have e2 : X4.cell? ⟨X2.heap.size, 2, none⟩ = some (.int .u64 P.at_) := by rw [cell_of_row _ _ 2 _ _ (0, 0) hgp4]; rfl
        have e3 : X4.cell? ⟨X2.heap.size, 3, none⟩ = some (.int .i64 P.index) := by rw [cell_of_row _ _ 3 _ _ (0, 0) hgp4]; rfl
        have e4 : X4.cell? ⟨X2.heap.size, 4, none⟩ = some (.int .i64 P.length) := by rw [cell_of_row _ _ 4 _ _ (0, 0) hgp4]; rfl
        have e5 : X4.cell? ⟨X2.heap.size, 5, none⟩ = some (.slice a n d) := by rw [cell_of_row _ _ 5 _ _ (0, 0) hgp4]; rfl
        have e6 : X4.cell? ⟨wr.heap.size, 0, none⟩ = some (.int .i64 (k : Int)) := by rw [cell_of_row _ _ 0 _ _ (0, 0) hgk4]; rfl
        have e7 : X4.cell? ⟨w2.heap.size, 3, none⟩ = some (.slice aU L.length cU) := by rw [cell_of_row _ _ 3 _ _ (0, 0) hgM]; rfl
        have hb4 : Below w2.heap.size w2 X4 := by rw [← hX4]; exact (hbr.trans (hb3.mono (by omega))).setCell (p := ⟨w2.heap.size, 4, none⟩) (Nat.le_refl _) _
        have hS4 : Sole [w2.heap.size] wr X4 := (Sole.of_below hb3 _).trans (by rw [← hX4]; exact Sole.setCell _ _ (by simp))
        have HF4 : FsAt (w2.heap.size + 1) X4 (.slice aU L.length cU) L := HF.out.sole hS4 (fun j hj => by simp only [List.mem_singleton] at hj; omega)
        have hown : (Value.slice aU L.length cU).ownBlock = none ∨ ∃ g, (Value.slice aU L.length cU).ownBlock = some g ∧ g < wr.heap.size := by
          cases ho : (Value.slice aU L.length cU).ownBlock with
          | none => exact .inl rfl
          | some g => exact .inr ⟨g, rfl, ((HF.out.own).lt g ho).2⟩
        have HX : Hid (FvAt (w2.heap.size + 1) X4 (.slice aU L.length cU) ⟨P, a, n, d, k⟩) := by
          have hrd4 : RdF X1.heap.size X4 (.slice a n d) P.body := hrd.keep (by omega) (fun j h1 h2 => by rw [hoX4 j (by omega), hBX3.block j h2])
          refine ⟨⟨a, n, d, rfl⟩, hrd4.mono (by omega), fun b off l c e hne => ?_, hVk.1, hVk.2⟩
          have hlo := hrd4.2 b off l c e hne
          rcases hown with h | ⟨g, h, hg⟩
          · rw [h]; simp
          · rw [h]; simp only [ne_eq, Option.some.injEq]; omega
        clear hgX1 hgX3 hgf hgk kX1 hdX1 hrd hbX2 hBX1 hBX3 hown hgp4 hgk4 HF
        have hLn : L.length ≤ k := by
          have := congrArg List.length HL.out
          simp only [List.length_map] at this
          rw [this]
          exact idx_len _ _
        obtain ⟨X5, hX5⟩ : ∃ X5, X4.alloc (.cells #[.int .u8 K, .int .u64 P.tail, .int .u64 P.at_, .int .i64 P.index, .int .i64 P.length, .slice a n d, .int .i64 (k : Int)] 117) = X5 := ⟨_, rfl⟩
        have hBX5 : Below X4.heap.size X4 X5 := by rw [← hX5]; exact (Below.refl _ X4).alloc (Nat.le_refl _) _
        have hgX5 : X5.heap[X4.heap.size]? = some (.cells #[.int .u8 K, .int .u64 P.tail, .int .u64 P.at_, .int .i64 P.index, .int .i64 P.length, .slice a n d, .int .i64 (k : Int)] 117 (0, 0)) := by rw [← hX5]; exact heap_alloc_new X4 _
        have HF5 := HF4.below hBX5
        have HX5 : FvAt (w2.heap.size + 1) X5 (.slice aU L.length cU) ⟨P, a, n, d, k⟩ := ⟨HX.out.sl, HX.out.rd.keep hBX5.size (fun j _ h2 => hBX5.block j h2), HX.out.ap, HX.out.ok, HX.out.len⟩
        have hgM5 := (hBX5.block _ (by omega)).trans hgM
        have hs5 := hBX5.size
        have hgX5' := hgX5
        rw [hsX4] at hgX5'
        have HFo := HF5.own
        have hne6 : ∀ q, (Value.slice aU L.length cU).ownBlock = some q → w2.heap.size + 1 ≤ q := fun q hq => (World.ownsRow.lt HFo q hq).1
        have HN : ∀ X6, X5.grownBy X6 (Value.slice aU L.length cU).ownBlock → X6.heap[w2.heap.size]? = some (.cells (#[.pointer (some ⟨p, 0, none⟩), .int .i64 f, .int .i64 N, .slice aU L.length cU, .int .u64 (max (T : Int) (P.tail : Int)), .slice none 0 0, .int .u64 0] : Array Value) 88 (0, 0)) := fun X6 hg6 => (hg6.block w2.heap.size (by omega) (fun e => by have := hne6 _ e.symm; omega)).trans hgM5
        go_wp2_with (at_builtin; refine wpList_append_own_at X5 rfl _ _ 85 rfl (w2.heap.size + 1) 117 iF _ 7 72 Tryz.underlying85 hiF hF0 hF1 hF2 rfl (by decide) _ L.length (L.flatMap fvC) rfl HFo ⟨X3.heap.size, 0, none⟩ 1 1 (fvC ⟨P, a, n, d, k⟩) rfl rfl (by rw [show fvC ⟨P, a, n, d, k⟩ = [.int .u8 (P.kind : Nat), .int .u64 P.tail, .int .u64 P.at_, .int .i64 P.index, .int .i64 P.length, .slice a n d, .int .i64 (k : Int)] from rfl, HK.out]; exact rowAdd hgX5') (by simp [fvC, Fv.v, Value.oneCell']) (by unfold maxLen; omega) (by omega) (by omega) ?_; intro v6 X6 hown6 hg6 _ hat6; obtain ⟨a6, c6, rfl⟩ := own_shape hown6; have hgM6 := HN X6 hg6; have c36 : X6.cell? ⟨w2.heap.size, 3, none⟩ = some (.slice aU L.length cU) := by { rw [cell_of_row _ _ 3 _ _ (0, 0) hgM6]; rfl }; have f36 := frozen_of_row X6 w2.heap.size 3 _ _ hgM6)
        have HF6 : Hid (FsAt (w2.heap.size + 1) X6 (.slice a6 (L.length + 1) c6) (L ++ [⟨P, a, n, d, k⟩])) := HF5.snoc hown6 hg6 HX5 hat6
        have hgM7 := heap_setCell_same X6 w2.heap.size 3 _ _ (.slice a6 (L.length + 1) c6) hgM6
        have hb6 : Below w2.heap.size w2 X6 := (hb4.trans (hBX5.mono (by omega))).grown hg6 (by omega) (fun q hq => by have := hne6 q hq; omega)
        have hs6 := hg6.size
        have HF7 : Hid (FsAt (w2.heap.size + 1) (X6.setCell ⟨w2.heap.size, 3, none⟩ (.slice a6 (L.length + 1) c6)) (.slice a6 (L.length + 1) c6) (L ++ [⟨P, a, n, d, k⟩])) := HF6.out.sole (Sole.setCell _ _ (S := [w2.heap.size]) (by simp)) (fun j hj => by simp only [List.mem_singleton] at hj; omega)
        have hb7 : Below w2.heap.size w2 (X6.setCell ⟨w2.heap.size, 3, none⟩ (.slice a6 (L.length + 1) c6)) := hb6.setCell (p := ⟨w2.heap.size, 3, none⟩) (Nat.le_refl _) _
        have hs7 : w2.heap.size < (X6.setCell ⟨w2.heap.size, 3, none⟩ (.slice a6 (L.length + 1) c6)).heap.size := by simp [World.setCell]; omega
        have HG7 : Hid _ := hgM7
        clear hown6 hg6 hat6 HFo HF5 HX5 hgX5 hgM5 hgM6 hgM7 HF6
        go_roundw
        case rel => exact ⟨k + 1, L ++ [⟨P, a, n, d, k⟩], a6, c6, by omega, by go_num, by rw [HSu.out, List.length_append]; exact HG7.out, by rw [List.length_append]; exact HF7, by rw [HIx.out]; unfold Hid; rw [List.map_append, List.map_append, HL.out]; simp [hP], hb7, hs7⟩
        case measure => simp [RowKit.intOf]; omega
    · obtain rfl : k = N := by omega
      have hLl : L.length ≤ 1024 := by
        have := congrArg List.length HL.out
        simp only [List.length_map] at this
        rw [this]
        exact Nat.le_trans (idx_len _ _) (by omega)
      have cs := sort_any HF.out (by omega)
      have c3 : wr.cell? ⟨w2.heap.size, 3, none⟩ = some (.slice aU L.length cU) := by rw [cell_of_row _ _ 3 _ _ (0, 0) HG.out]; rfl
      have hlow : ∀ g, (Value.slice aU L.length cU).ownBlock = some g → w2.heap.size + 1 ≤ g := fun g hg => (World.ownsRow.lt HF.out.own g hg).1
      have hTb : tailK (viewP s f) k ≤ 4611686018427387904 := by
        have : ∀ j, j ≤ k → tailK (viewP s f) j ≤ 4611686018427387904 := by
          intro j hj
          induction j with
          | zero => unfold tailK; omega
          | succ j ih =>
            unfold tailK
            have := (hsm j (by omega)).2
            have := ih (by omega)
            omega
        exact this k (Nat.le_refl _)
      have HSM : ∀ x : Fv, (x.p, x.blk) ∈ L.map (fun x => (x.p, x.blk)) → x.p.at_ ≤ 4611686018427387904 := fun x hx => by
        rw [HL.out] at hx
        obtain ⟨i, hi, e⟩ := List.mem_map.1 hx
        simp only [Prod.mk.injEq] at e
        rw [← e.1]
        unfold idxL at hi
        exact (hsm i (by have := (List.mem_filter.1 hi).1; simpa using this)).1 (by simpa using (List.mem_filter.1 hi).2)
      generalize hT : tailK (viewP s f) k = T at *
      clear hTl hsm q0 q1 q2 q3
      go_wp2_with fail
      refine cs.mono ?_
      rintro e1 X1 ⟨rfl, L', hpm, hso, hF1, hg1'⟩
      clear cs
      have hll : L'.length = L.length := hpm.length_eq
      have hG1 := (hg1'.block w2.heap.size hsr (fun e => by have := hlow _ e.symm; omega)).trans HG.out
      have hb1 : Below w2.heap.size w2 X1 := hbr.grown hg1' (by omega) (fun g hg => by have := hlow g hg; omega)
      have hs1 := hg1'.size
      rw [← hll] at hF1 hG1
      have ck := keep_any hG1 hF1 (by omega) (by omega) (fun x hx => HSM x (List.mem_map.2 ⟨x, hpm.subset hx, rfl⟩)) hTb
      clear hll
      go_wp2_with fail
      refine ck.mono ?_
      rintro e2 X2 ⟨rfl, aK, cK, K, hK, hG2, hW2, hS2⟩
      clear ck
      have hs2 := hS2.size
      have HF2 := hF1.sole hS2 (fun j hj => by simp only [List.mem_singleton] at hj; omega)
      have hb2 : Below w2.heap.size w2 X2 := hb1.trans ⟨hS2.os, hS2.tape, hS2.output, hS2.size, fun j hj => hS2.block j (by omega) (by simp; omega)⟩
      obtain ⟨E, hE⟩ : ∃ E, keepE (L'.map fdOf) T = E := ⟨_, rfl⟩
      rw [hE] at hG2
      have e0 : X2.cell? ⟨w2.heap.size, 0, none⟩ = some (.pointer (some ⟨p, 0, none⟩)) := by rw [cell_of_row _ _ 0 _ _ (0, 0) hG2]; rfl
      have e1 : X2.cell? ⟨w2.heap.size, 1, none⟩ = some (.int .i64 f) := by rw [cell_of_row _ _ 1 _ _ (0, 0) hG2]; rfl
      have e2 : X2.cell? ⟨w2.heap.size, 2, none⟩ = some (.int .i64 k) := by rw [cell_of_row _ _ 2 _ _ (0, 0) hG2]; rfl
      have e3 : X2.cell? ⟨w2.heap.size, 3, none⟩ = some (.slice aU L'.length cU) := by rw [cell_of_row _ _ 3 _ _ (0, 0) hG2]; rfl
      have e4 : X2.cell? ⟨w2.heap.size, 4, none⟩ = some (.int .u64 T) := by rw [cell_of_row _ _ 4 _ _ (0, 0) hG2]; rfl
      have e5 : X2.cell? ⟨w2.heap.size, 5, none⟩ = some (.slice aK K.length cK) := by rw [cell_of_row _ _ 5 _ _ (0, 0) hG2]; rfl
      have e6 : X2.cell? ⟨w2.heap.size, 6, none⟩ = some (.int .u64 E) := by rw [cell_of_row _ _ 6 _ _ (0, 0) hG2]; rfl
      have hR := (hb2.block _ hlt2).trans hg2
      have r0 : X2.cell? ⟨w1.heap.size, 0, none⟩ = some (.pointer none) := by rw [cell_of_row _ _ 0 _ _ (0, 0) hR]; rfl
      have r1 : X2.cell? ⟨w1.heap.size, 1, none⟩ = some (.int .i64 0) := by rw [cell_of_row _ _ 1 _ _ (0, 0) hR]; rfl
      have r2 : X2.cell? ⟨w1.heap.size, 2, none⟩ = some (.int .i64 0) := by rw [cell_of_row _ _ 2 _ _ (0, 0) hR]; rfl
      have r3 : X2.cell? ⟨w1.heap.size, 3, none⟩ = some (.slice none 0 0) := by rw [cell_of_row _ _ 3 _ _ (0, 0) hR]; rfl
      have r4 : X2.cell? ⟨w1.heap.size, 4, none⟩ = some (.int .u64 0) := by rw [cell_of_row _ _ 4 _ _ (0, 0) hR]; rfl
      have r5 : X2.cell? ⟨w1.heap.size, 5, none⟩ = some (.slice none 0 0) := by rw [cell_of_row _ _ 5 _ _ (0, 0) hR]; rfl
      have r6 : X2.cell? ⟨w1.heap.size, 6, none⟩ = some (.int .u64 0) := by rw [cell_of_row _ _ 6 _ _ (0, 0) hR]; rfl
      have fz := fun j => frozen_of_row X2 w1.heap.size j _ _ hR
      have fz0 := fz 0; have fz1 := fz 1; have fz2 := fz 2; have fz3 := fz 3; have fz4 := fz 4; have fz5 := fz 5; have fz6 := fz 6
      have z7 := seven_put _ _ _ _ _ _ _ (.pointer (some ⟨p, 0, none⟩)) (.int .i64 f) (.int .i64 k) (.slice aU L'.length cU) (.int .u64 T) (.slice aK K.length cK) (.int .u64 E) hR
      obtain ⟨X3, hX3⟩ : ∃ X3, ((((((X2.setCell ⟨w1.heap.size, 0, none⟩ (.pointer (some ⟨p, 0, none⟩))).setCell ⟨w1.heap.size, 1, none⟩ (.int .i64 f)).setCell ⟨w1.heap.size, 2, none⟩ (.int .i64 k)).setCell ⟨w1.heap.size, 3, none⟩ (.slice aU L'.length cU)).setCell ⟨w1.heap.size, 4, none⟩ (.int .u64 T)).setCell ⟨w1.heap.size, 5, none⟩ (.slice aK K.length cK)).setCell ⟨w1.heap.size, 6, none⟩ (.int .u64 E) = X3 := ⟨_, rfl⟩
      rw [hX3] at z7
      have hS3 : Sole [w1.heap.size] X2 X3 := by
        rw [← hX3]
        exact ((((((Sole.setCell _ _ (by simp)).trans (Sole.setCell _ _ (by simp))).trans (Sole.setCell _ _ (by simp))).trans (Sole.setCell _ _ (by simp))).trans (Sole.setCell _ _ (by simp))).trans (Sole.setCell _ _ (by simp))).trans (Sole.setCell _ _ (by simp))
      have HFo : Hid (Found w X3 s f k L' K (.slice aU L'.length cU) (.slice aK K.length cK)) := by
        refine ⟨?_, hso, by rw [hT]; exact hK, ?_, ?_, ?_, ⟨_, _, rfl⟩, ⟨_, _, rfl⟩⟩
        · rw [← HL.out]; exact hpm.map _
        · exact (HF2.sole hS3 (fun j hj => by simp only [List.mem_singleton] at hj; omega)).mono' (by omega)
        · exact (hW2.keep hS3.size (fun j hj hl => hS3.block j hl (by simp; omega))).mono' (by omega)
        · refine (hB.trans (hb2.mono (by omega))).trans ⟨hS3.os, hS3.tape, hS3.output, hS3.size, fun j hj => hS3.block j (by omega) (by simp; omega)⟩
      have HZ : Hid _ := z7
      have HE : Hid (keepE (L'.map fdOf) T = E) := hE
      have HT : Hid (tailK (viewP s f) k = T) := hT
      clear z7 fz hR hG2 hE hF1 hG1 HF2 hW2
      go_wp2
      exact ret_fin Tryz.results33 w1.heap.size #[.pointer (some ⟨p, 0, none⟩), .int .i64 f, .int .i64 k, .slice aU L'.length cU, .int .u64 T, .slice aK K.length cK, .int .u64 E] rfl rfl HZ.out rfl ⟨L', K, _, _, by rw [HT.out, HE.out], HFo.out⟩

/-- A record whose pieces are all there. -/
def Whole (V : Nat → Pc) (r : Rr) : Prop := ∀ j, j < r.blocks.length → V (r.blocks.getD j 0) = r.pc j

/-- What a ring shows: some records wholly, one behind the other from the tail on; all else is junk. -/
structure FI (V : Nat → Pc) (N T : Nat) (K : List Rr) : Prop where
  ok : ∀ r ∈ K, RrOk N r
  chain : Chain T K
  whole : ∀ r ∈ K, Whole V r
  junk : ∀ i, i < N → (∀ r ∈ K, i ∉ r.blocks) → (V i).kind ≠ 0 → (∀ r ∈ K, (V i).at_ ≠ r.at_) ∧ ((V i).index ≠ 0 ∨ (V i).at_ < T ∨ (∃ j, j < piecesN (V i).length ∧ ∀ k, k < N → (V k).kind ≠ 0 → (V k).at_ = (V i).at_ → (V k).index ≠ j) ∨ ((V i).kind ≠ 2 ∧ T < (V i).at_ ∧ ∀ r ∈ K, r.at_ < (V i).at_ → r.fin < (V i).at_))
  tail : tailK V N = T

theorem getD_mem {l : List Nat} {j : Nat} (h : j < l.length) : l.getD j 0 ∈ l := by
  rw [List.getD_eq_getElem?_getD, List.getElem?_eq_getElem h]
  exact List.getElem_mem h
theorem mem_getD {l : List Nat} {b : Nat} (h : b ∈ l) : ∃ j, j < l.length ∧ l.getD j 0 = b := by
  obtain ⟨j, hj, e⟩ := List.mem_iff_getElem.1 h
  exact ⟨j, hj, by rw [List.getD_eq_getElem?_getD, List.getElem?_eq_getElem hj]; exact e⟩
theorem pc_kind (r : Rr) (j : Nat) : (r.pc j).kind = r.kind := rfl

/-- What Open keeps of it. -/
theorem fi_found {V : Nat → Pc} {N T : Nat} {K : List Rr} (h : FI V N T K) {L : List Fv} (hp : (L.map fun x => (x.p, x.blk)).Perm ((idxL V N).map fun i => (V i, i))) (hs : L.Pairwise leF) : keepL (L.map fdOf) (tailK V N) = K.map Rr.wh ∧ keepE (L.map fdOf) (tailK V N) = chainE T K := by
  rw [h.tail]
  have hmem : ∀ y : Fd, y ∈ L.map fdOf ↔ ∃ i, i < N ∧ (V i).kind ≠ 0 ∧ y = ⟨V i, i⟩ := fun y => by
    have h1 : (y.p, y.block) ∈ L.map (fun x => (x.p, x.blk)) ↔ (y.p, y.block) ∈ (idxL V N).map fun i => (V i, i) := hp.mem_iff
    constructor
    · intro hy
      obtain ⟨x, hx, e⟩ := List.mem_map.1 hy
      have : (y.p, y.block) ∈ L.map (fun x => (x.p, x.blk)) := List.mem_map.2 ⟨x, hx, by rw [← e]; rfl⟩
      obtain ⟨i, hi, e2⟩ := List.mem_map.1 (h1.1 this)
      unfold idxL at hi
      obtain ⟨hi1, hi2⟩ := List.mem_filter.1 hi
      simp only [Prod.mk.injEq] at e2
      exact ⟨i, List.mem_range.1 hi1, by simpa using hi2, by cases y; simp_all⟩
    · rintro ⟨i, hi, hk, rfl⟩
      have : (V i, i) ∈ (idxL V N).map fun i => (V i, i) := List.mem_map.2 ⟨i, by unfold idxL; exact List.mem_filter.2 ⟨List.mem_range.2 hi, by simpa using hk⟩, rfl⟩
      obtain ⟨x, hx, e⟩ := List.mem_map.1 (h1.2 this)
      simp only [Prod.mk.injEq] at e
      exact List.mem_map.2 ⟨x, hx, by unfold fdOf; rw [e.1, e.2]⟩
  have hnd : (L.map fdOf).Nodup := by
    have h1 : ((idxL V N).map fun i => (V i, i)).Nodup := by
      unfold List.Nodup
      rw [List.pairwise_map]
      have : (idxL V N).Nodup := by unfold idxL; exact List.nodup_range.filter _
      exact this.imp (fun {a b} hab e => hab (by simp only [Prod.mk.injEq] at e; exact e.2))
    have h2 := hp.nodup_iff.2 h1
    unfold List.Nodup at h2 ⊢
    rw [List.pairwise_map] at h2 ⊢
    exact h2.imp (fun {a b} hab e => hab (by unfold fdOf at e; simp only [Fd.mk.injEq] at e; rw [e.1, e.2]))
  have hso : (L.map fdOf).Pairwise leD := by rw [List.pairwise_map]; exact hs.imp (fun hab => hab)
  have hfd : ∀ y ∈ K.flatMap Rr.fds, ∃ r ∈ K, ∃ j, j < r.blocks.length ∧ r.fd j = y := fun y hy => by
    obtain ⟨r, hr, hyr⟩ := List.mem_flatMap.1 hy
    obtain ⟨j, hj, e⟩ := mem_fds.1 hyr
    exact ⟨r, hr, j, hj, e⟩
  refine keep_junk (c := N) (fs := L.map fdOf) K T (L.map fdOf) h.ok h.chain hso hnd (fun y hy => hy) (fun y hy => ?_) (fun y hy => ?_)
  · obtain ⟨i, hi, hk, rfl⟩ := (hmem y).1 hy
    by_cases hin : ∃ r ∈ K, i ∈ r.blocks
    · obtain ⟨r, hr, hir⟩ := hin
      obtain ⟨j, hj, e⟩ := mem_getD hir
      refine .inl (List.mem_flatMap.2 ⟨r, hr, mem_fds.2 ⟨j, hj, ?_⟩⟩)
      have := h.whole r hr j hj
      rw [e] at this
      unfold Rr.fd
      rw [e, this]
    · have hj := h.junk i hi (fun r hr hb => hin ⟨r, hr, hb⟩) hk
      refine .inr ⟨hj.1, ?_⟩
      rcases hj.2 with q | q | ⟨j, hj1, hj2⟩ | q
      · exact .inl q
      · exact .inr (.inl q)
      · refine .inr (.inr (.inl ⟨j, hj1, fun z hz hza => ?_⟩))
        obtain ⟨k, hk1, hk2, rfl⟩ := (hmem z).1 hz
        exact hj2 k hk1 hk2 hza
      · exact .inr (.inr (.inr q))
  · obtain ⟨r, hr, j, hj, rfl⟩ := hfd y hy
    have hw := h.whole r hr j hj
    have hok := h.ok r hr
    refine (hmem _).2 ⟨r.blocks.getD j 0, hok.lt _ (getD_mem hj), ?_, ?_⟩
    · rw [hw, pc_kind]; have := hok.kind; omega
    · unfold Rr.fd; rw [hw]

theorem chain_pair : ∀ {K : List Rr} {e c : Nat}, (∀ r ∈ K, RrOk c r) → Chain e K → K.Pairwise (fun a b => a.fin ≤ b.at_)
  | [], _, _, _, _ => List.Pairwise.nil
  | s :: K, e, c, hk, hc => List.pairwise_cons.2 ⟨fun r hr => chain_ge (fun r hr => hk r (List.mem_cons_of_mem _ hr)) hc.2 r hr, chain_pair (fun r hr => hk r (List.mem_cons_of_mem _ hr)) hc.2⟩
theorem chain_app : ∀ {X Y : List Rr} {e : Nat}, Chain e (X ++ Y) ↔ Chain e X ∧ Chain (chainE e X) Y
  | [], Y, e => by show Chain e Y ↔ True ∧ Chain e Y; simp
  | r :: X, Y, e => by
    show (_ ∧ Chain r.fin (X ++ Y)) ↔ ((_ ∧ Chain r.fin X) ∧ Chain (chainE r.fin X) Y)
    rw [chain_app (X := X) (Y := Y) (e := r.fin), and_assoc]
theorem chain_filter : ∀ {L : List Rr} {e c T : Nat}, (∀ r ∈ L, RrOk c r) → Chain e L → (T = e ∨ ∃ r ∈ L, T = r.fin) → Chain T (L.filter (fun r => decide (T ≤ r.at_))) ∧ chainE T (L.filter (fun r => decide (T ≤ r.at_))) = chainE e L
  | [], e, c, T, _, _, hT => by
    rcases hT with rfl | ⟨r, hr, _⟩
    · exact ⟨trivial, rfl⟩
    · cases hr
  | s :: L, e, c, T, hk, hc, hT => by
    have hs := (hk s List.mem_cons_self).finlt
    have hge := chain_ge (fun r hr => hk r (List.mem_cons_of_mem _ hr)) hc.2
    have hok : ∀ r ∈ L, RrOk c r := fun r hr => hk r (List.mem_cons_of_mem _ hr)
    rcases hT with rfl | ⟨r, hr, hT⟩
    · have hall : (s :: L).filter (fun r => decide (T ≤ r.at_)) = s :: L := List.filter_eq_self.2 (fun r hr => by simpa using chain_ge hk hc r hr)
      rw [hall]
      exact ⟨hc, rfl⟩
    · have hdrop : s.at_ < T := by
        rcases List.mem_cons.1 hr with rfl | hr
        · omega
        · have := hge r hr; have := (hok r hr).finlt; omega
      rw [List.filter_cons_of_neg (by simp; omega)]
      refine chain_filter (e := s.fin) hok hc.2 ?_
      rcases List.mem_cons.1 hr with rfl | hr
      · exact .inl hT
      · exact .inr ⟨r, hr, hT⟩
theorem first_fail (P : Rr → Prop) : ∀ L : List Rr, ∃ A B, L = A ++ B ∧ (∀ x ∈ A, P x) ∧ ∀ y B', B = y :: B' → ¬ P y
  | [] => ⟨[], [], rfl, (fun x hx => by cases hx), fun y B' h => by cases h⟩
  | x :: L => by
    by_cases hx : P x
    · obtain ⟨A, B, e, h1, h2⟩ := first_fail P L
      exact ⟨x :: A, B, by rw [e]; rfl, fun y hy => by rcases List.mem_cons.1 hy with rfl | hy; exact hx; exact h1 y hy, h2⟩
    · exact ⟨[], x :: L, rfl, (fun y hy => by cases hy), fun y B' h => by cases h; exact hx⟩

theorem pair_eq : ∀ {L : List Rr} {c : Nat}, (∀ r ∈ L, RrOk c r) → L.Pairwise (fun a b => a.fin ≤ b.at_) → ∀ a ∈ L, ∀ b ∈ L, a.at_ = b.at_ → a = b
  | [], _, _, _, a, ha, _, _, _ => by cases ha
  | x :: L, c, hk, hp, a, ha, b, hb, e => by
    obtain ⟨h1, h2⟩ := List.pairwise_cons.1 hp
    have hx := (hk x List.mem_cons_self).finlt
    rcases List.mem_cons.1 ha with rfl | haL
    · rcases List.mem_cons.1 hb with rfl | hbL
      · rfl
      · have := h1 b hbL; omega
    · rcases List.mem_cons.1 hb with rfl | hbL
      · have := h1 a haL; omega
      · exact pair_eq (fun r hr => hk r (List.mem_cons_of_mem _ hr)) h2 a haL b hbL e

/-- What is safe: the records that are whole there, one behind the other from the tail on; all else is of elder ones. -/
structure SI (V : Nat → Pc) (N T : Nat) (K : List Rr) : Prop where
  ok : ∀ r ∈ K, RrOk N r
  chain : Chain T K
  whole : ∀ r ∈ K, Whole V r
  low : ∀ i, i < N → (∀ r ∈ K, i ∉ r.blocks) → (V i).kind ≠ 0 → (V i).at_ < T
  tail : tailK V N = T

/-- What was appended since the last barrier. -/
structure NI (N T : Nat) (K New : List Rr) : Prop where
  ok : ∀ n ∈ New, RrOk N n
  chain : Chain (chainE T K) New
  kind : ∀ x L, New = x :: L → ∀ n ∈ L, n.kind = 1
  tail : ∀ n ∈ New, T ≤ n.tail
  ends : ∀ A n B, New = A ++ n :: B → n.tail = T ∨ ∃ r ∈ K ++ A, n.tail = r.fin
  over : ∀ n ∈ New, ∀ r ∈ K, ∀ b ∈ n.blocks, b ∈ r.blocks → r.fin ≤ n.tail

/-- What the ring may show: each block its safe piece or one that was written since. -/
def Shows (N : Nat) (S V : Nat → Pc) (New : List Rr) : Prop := ∀ i, i < N → V i = S i ∨ ∃ n ∈ New, ∃ j, j < n.blocks.length ∧ n.blocks.getD j 0 = i ∧ V i = n.pc j

theorem tailK_ge (V : Nat → Pc) : ∀ (N i : Nat), i < N → (V i).tail ≤ tailK V N
  | N + 1, i, h => by
    unfold tailK
    by_cases e : i = N
    · subst e; omega
    · have := tailK_ge V N i (by omega); omega
theorem tailK_is (V : Nat → Pc) : ∀ (N : Nat), tailK V N = 0 ∨ ∃ i, i < N ∧ (V i).tail = tailK V N
  | 0 => .inl rfl
  | N + 1 => by
    unfold tailK
    by_cases h : tailK V N ≤ (V N).tail
    · exact .inr ⟨N, by omega, by omega⟩
    · rcases tailK_is V N with e | ⟨i, hi, e⟩
      · omega
      · exact .inr ⟨i, by omega, by omega⟩

/-- What may be shown is some of the safe records, and then the first ones of the others. -/
theorem shows_fi {S V : Nat → Pc} {N T : Nat} {K New : List Rr} (hS : SI S N T K) (hn : NI N T K New) (hV : Shows N S V New) : ∃ A B, New = A ++ B ∧ FI V N (tailK V N) ((K ++ A).filter (fun r => decide (tailK V N ≤ r.at_))) ∧ (T = tailK V N ∨ ∃ r ∈ K ++ A, tailK V N = r.fin) ∧ chainE (tailK V N) ((K ++ A).filter (fun r => decide (tailK V N ≤ r.at_))) = chainE T (K ++ A) ∧ ∀ y B', B = y :: B' → ¬ (y.at_ < tailK V N ∨ Whole V y) := by
  obtain ⟨U, hU⟩ : ∃ U, tailK V N = U := ⟨_, rfl⟩
  rw [hU]
  have hge : ∀ i, i < N → (V i).tail ≤ U := fun i hi => by rw [← hU]; exact tailK_ge V N i hi
  have hTU : T ≤ U := by
    rcases tailK_is S N with e | ⟨i, hi, e⟩
    · have := hS.tail; omega
    · rw [hS.tail] at e
      rcases hV i hi with q | ⟨n, hnn, j, hj, _, q⟩
      · have := hge i hi; rw [q] at this; omega
      · have h1 := hge i hi
        rw [q] at h1
        have h2 : (n.pc j).tail = n.tail := rfl
        have := hn.tail n hnn
        omega
  obtain ⟨A, B, hAB, hA, hB⟩ := first_fail (fun n => n.at_ < U ∨ Whole V n) New
  have hok : ∀ r ∈ K ++ New, RrOk N r := fun r hr => by
    rcases List.mem_append.1 hr with h | h
    · exact hS.ok r h
    · exact hn.ok r h
  have hch : Chain T (K ++ New) := chain_app.2 ⟨hS.chain, hn.chain⟩
  have hpair := chain_pair hok hch
  have hKA : ∀ r ∈ K ++ A, r ∈ K ++ New := fun r hr => by rw [hAB, ← List.append_assoc]; exact List.mem_append_left _ hr
  have hchA : Chain T (K ++ A) := by rw [hAB, ← List.append_assoc] at hch; exact (chain_app.1 hch).1
  have hend : T = U ∨ ∃ r ∈ K ++ A, U = r.fin := by
    rcases tailK_is V N with e | ⟨i, hi, e⟩
    · left; omega
    · rw [hU] at e
      rcases hV i hi with q | ⟨n, hnn, j, hj, _, q⟩
      · left
        have h1 := tailK_ge S N i hi
        rw [hS.tail, ← q] at h1
        omega
      · have h2 : (V i).tail = n.tail := by rw [q]; rfl
        obtain ⟨X, Y, hXY⟩ := List.append_of_mem hnn
        rcases hn.ends X n Y hXY with e2 | ⟨r, hr, e2⟩
        · left; omega
        · right
          refine ⟨r, ?_, by omega⟩
          rcases List.mem_append.1 hr with hr | hr
          · exact List.mem_append_left _ hr
          · refine List.mem_append_right _ ?_
            have hrf := (hn.ok r (by rw [hXY]; exact List.mem_append_left _ hr)).finlt
            have hrN : r ∈ A ++ B := by rw [← hAB, hXY]; exact List.mem_append_left _ hr
            rcases List.mem_append.1 hrN with h | h
            · exact h
            · exfalso
              cases hBc : B with
              | nil => rw [hBc] at h; cases h
              | cons y B' =>
                have hny := hB y B' hBc
                have hyr : y.at_ ≤ r.at_ := by
                  rw [hBc] at h
                  rcases List.mem_cons.1 h with rfl | h
                  · exact Nat.le_refl _
                  · have hp2 : (A ++ y :: B').Pairwise (fun a b => a.fin ≤ b.at_) := by rw [← hBc, ← hAB]; exact (List.pairwise_append.1 hpair).2.1
                    have := (List.pairwise_cons.1 (List.pairwise_append.1 hp2).2.1).1 r h
                    have := (hn.ok y (by rw [hAB, hBc]; simp)).finlt
                    omega
                exact hny (.inl (by omega))
  have hfl := chain_filter (fun r hr => hok r (hKA r hr)) hchA (T := U) (by rcases hend with e | e; exact .inl e.symm; exact .inr e)
  refine ⟨A, B, hAB, ⟨fun r hr => hok r (hKA r (List.mem_filter.1 hr).1), hfl.1, ?_, ?_, hU⟩, hend, hfl.2, hB⟩
  · intro r hr
    obtain ⟨hr1, hr2⟩ := List.mem_filter.1 hr
    have hrU : U ≤ r.at_ := by simpa using hr2
    rcases List.mem_append.1 hr1 with h | h
    · intro j hj
      have hb := (hS.ok r h).lt _ (getD_mem hj)
      rcases hV _ hb with q | ⟨n, hnn, j', hj', e, q⟩
      · rw [q]; exact hS.whole r h j hj
      · have h1 := hge _ hb
        rw [q] at h1
        have h2 : (n.pc j').tail = n.tail := rfl
        have h3 := hn.over n hnn r h _ (by rw [← e]; exact getD_mem hj') (getD_mem hj)
        have := (hS.ok r h).finlt
        omega
    · rcases hA r h with q | q
      · omega
      · exact q
  · intro i hi hnot hkind
    have hlow : (V i).at_ < U → (∀ r ∈ (K ++ A).filter (fun r => decide (U ≤ r.at_)), (V i).at_ ≠ r.at_) ∧ ((V i).index ≠ 0 ∨ (V i).at_ < U ∨ (∃ j, j < piecesN (V i).length ∧ ∀ k, k < N → (V k).kind ≠ 0 → (V k).at_ = (V i).at_ → (V k).index ≠ j) ∨ ((V i).kind ≠ 2 ∧ U < (V i).at_ ∧ ∀ r ∈ (K ++ A).filter (fun r => decide (U ≤ r.at_)), r.at_ < (V i).at_ → r.fin < (V i).at_)) := fun h => ⟨fun r hr => by
      have := (List.mem_filter.1 hr).2
      have : U ≤ r.at_ := by simpa using this
      omega, .inr (.inl h)⟩
    have hsafe : ∀ k, k < N → (S k).kind ≠ 0 → (S k).at_ < U ∨ ∃ r ∈ K, U ≤ r.at_ ∧ k ∈ r.blocks ∧ (S k).at_ = r.at_ := fun k hk hkk => by
      by_cases hin : ∃ r ∈ K, k ∈ r.blocks
      · obtain ⟨r, hr, hkr⟩ := hin
        obtain ⟨j, hj, e⟩ := mem_getD hkr
        have hw := hS.whole r hr j hj
        rw [e] at hw
        have hat : (S k).at_ = r.at_ := by rw [hw]; rfl
        by_cases hrU : U ≤ r.at_
        · exact .inr ⟨r, hr, hrU, hkr, hat⟩
        · left; omega
      · have := hS.low k hk (fun r hr hb => hin ⟨r, hr, hb⟩) hkk
        left; omega
    rcases hV i hi with q | ⟨n, hnn, j, hj, e, q⟩
    · rcases hsafe i hi (by rw [← q]; exact hkind) with h | ⟨r, hr, hrU, hir, _⟩
      · exact hlow (by rw [q]; exact h)
      · exact absurd hir (hnot r (List.mem_filter.2 ⟨List.mem_append_left _ hr, by simpa using hrU⟩))
    · have hat : (V i).at_ = n.at_ := by rw [q]; rfl
      by_cases hnU : n.at_ < U
      · exact hlow (by omega)
      have hir : i ∈ n.blocks := by rw [← e]; exact getD_mem hj
      have hnA : n ∉ A := fun h => hnot n (List.mem_filter.2 ⟨List.mem_append_right _ h, by simp; omega⟩) hir
      have hnB : n ∈ B := by
        rw [hAB] at hnn
        rcases List.mem_append.1 hnn with h | h
        · exact absurd h hnA
        · exact h
      have hcross : ∀ r ∈ K ++ A, ∀ y ∈ B, r.fin ≤ y.at_ := fun r hr y hy => by
        have hp2 := hpair
        rw [hAB, ← List.append_assoc] at hp2
        exact (List.pairwise_append.1 hp2).2.2 r hr y hy
      cases hBc : B with
      | nil => rw [hBc] at hnB; cases hnB
      | cons y B' =>
        have hny := hB y B' hBc
        have hyU : U ≤ y.at_ := by
          by_cases h : y.at_ < U
          · exact absurd (Or.inl h) hny
          · omega
        have hyN : y ∈ New := by rw [hAB, hBc]; simp
        have hyf := (hn.ok y hyN).finlt
        have hnew : New.Pairwise (fun a b => a.fin ≤ b.at_) := (List.pairwise_append.1 hpair).2.1
        refine ⟨fun r hr => ?_, ?_⟩
        · have h1 := hcross r (List.mem_filter.1 hr).1 n hnB
          have := (hok r (hKA r (List.mem_filter.1 hr).1)).finlt
          omega
        · rw [hBc] at hnB
          rcases List.mem_cons.1 hnB with rfl | hnB'
          · right; right; left
            have hnw : ¬ Whole V n := fun h => hny (.inr h)
            unfold Whole at hnw
            obtain ⟨j0, hj0⟩ := Classical.not_forall.1 hnw
            obtain ⟨hj1, hj2⟩ := Classical.not_imp.1 hj0
            refine ⟨j0, ?_, fun k hk hkk hka hki => ?_⟩
            · have h1 := (hn.ok n hyN).len
              have h2 : (V i).length = n.bytes.length := by rw [q]; rfl
              rw [h2]
              omega
            · rcases hV k hk with q2 | ⟨n2, hn2, j2, hj2', e2, q2⟩
              · rcases hsafe k hk (by rw [← q2]; exact hkk) with h | ⟨r, hr, _, _, hra⟩
                · rw [← q2] at h; omega
                · rw [← q2] at hra
                  have h1 := hcross r (List.mem_append_left _ hr) n (by rw [hBc]; exact List.mem_cons_self)
                  have := (hS.ok r hr).finlt
                  omega
              · have ha2 : (V k).at_ = n2.at_ := by rw [q2]; rfl
                obtain rfl := pair_eq hn.ok hnew n2 hn2 n hyN (by omega)
                have hx2 : (V k).index = j2 := by rw [q2]; rfl
                obtain rfl : j2 = j0 := by omega
                exact hj2 (by rw [e2]; exact q2)
          · right; right; right
            have hk1 : n.kind = 1 := by
              cases hAc : A with
              | nil => rw [hAc, hBc] at hAB; exact hn.kind y B' hAB n hnB'
              | cons a A' => rw [hAc, hBc] at hAB; exact hn.kind a (A' ++ y :: B') hAB n (List.mem_append_right _ (List.mem_cons_of_mem _ hnB'))
            have hyn : y.fin ≤ n.at_ := by
              rw [hAB, hBc] at hnew
              exact (List.pairwise_cons.1 (List.pairwise_append.1 hnew).2.1).1 n hnB'
            have hkd : (V i).kind = n.kind := by rw [q]; rfl
            refine ⟨by omega, by omega, fun r hr _ => ?_⟩
            have h1 := hcross r (List.mem_filter.1 hr).1 y (by rw [hBc]; exact List.mem_cons_self)
            omega

def roundL (N n : Nat) : List Nat := (List.range N).map fun i => (n % N + i) % N
/-- The first i of them are written. -/
def roundR (N n i : Nat) : List Nat := (List.range N).map fun j => if j < i then (n % N + j) % N else 0

theorem roundR_all (N n : Nat) : roundR N n N = roundL N n := by
  unfold roundR roundL
  apply List.map_congr_left
  intro i hi
  rw [if_pos (List.mem_range.1 hi)]
theorem roundR_len (N n i : Nat) : (roundR N n i).length = N := by simp [roundR]
theorem roundR_set (N n i : Nat) (hi : i < N) : (roundR N n i).set i ((n % N + i) % N) = roundR N n (i + 1) := by
  apply List.ext_getElem
  · simp [roundR]
  · intro j h1 h2
    rw [List.getElem_set]
    simp only [roundR, List.getElem_map, List.getElem_range]
    split
    · rename_i h; subst h; rw [if_pos (by omega)]
    · rename_i h
      by_cases hj : j < i
      · rw [if_pos hj, if_pos (by omega)]
      · rw [if_neg hj, if_neg (by omega)]

theorem make_ints (w : World) (n : Nat) (hn : n ≤ 1000000) :
    (Instr.makeSlice 49 (.int .i64 n) (.int .i64 n)).run Tryz.prog w = .ok (.slice (some ⟨w.heap.size, 0, none⟩) n n) (w.alloc (.cells (List.replicate n (Value.int .i64 0)).toArray 3)) := by
  obtain ⟨i, hi, hz0, hz1, hz2⟩ := info_parts Tryz.infoInt
  have h := run_make (P := Tryz.prog) w 49 3 i (.int .i64 0) Tryz.underlying49 hi hz0 .i64 .i64 n n (by omega) (by omega) (by rw [hz2]; omega) (by omega)
  rw [h, hz1, Int.toNat_natCast, Nat.mul_one]
  congr 2
  congr 1
  apply Array.ext'
  exact toList_madeCells_one (.int .i64 0) n

set_option maxHeartbeats 1000000 in
theorem round_any (w : World) (v : Value) (f : Int) (N n : Nat) (hN : 0 < N) (hN2 : N ≤ 1024) (hn : n ≤ 9223372036854775807) (hv : ∃ q, v = .agg #[.pointer q, .int .i64 f, .int .i64 N]) :
    Calls Tryz.prog 66 #[v, .int .u64 n] w fun e w' => ∃ g, e = .returned (.slice (some ⟨g, 0, none⟩) N N) ∧ w.heap.size ≤ g ∧ w'.heap[g]? = some (.cells (blkC (roundL N n)).toArray 3 (0, 0)) ∧ Below w.heap.size w w' := by
  obtain ⟨qq, rfl⟩ := hv
  obtain ⟨w1, hw1⟩ : ∃ w1, w.alloc (.cells #[.pointer qq, .int .i64 f, .int .i64 N] 71) = w1 := ⟨_, rfl⟩
  have hB1 : Below w.heap.size w w1 := by rw [← hw1]; exact (Below.refl _ w).alloc (Nat.le_refl _) _
  have hg1 : w1.heap[w.heap.size]? = some (.cells #[.pointer qq, .int .i64 f, .int .i64 N] 71 (0, 0)) := by rw [← hw1]; exact heap_alloc_new w _
  have hlt1 : w.heap.size < w1.heap.size := (Array.getElem?_eq_some_iff.1 hg1).1
  have q2 : w1.cell? ⟨w.heap.size, 2, none⟩ = some (.int .i64 N) := by rw [cell_of_row _ _ 2 _ _ (0, 0) hg1]; rfl
  have hmk := make_ints w1 N (by omega)
  obtain ⟨M, hM⟩ : ∃ M : Array Value, (List.replicate N (Value.int .i64 0)).toArray = M := ⟨_, rfl⟩
  rw [hM] at hmk
  have hM0 : M = (blkC (roundR N n 0)).toArray := by
    rw [← hM]
    congr 1
    apply List.ext_getElem
    · simp [blkC, roundR]
    · intro i h1 h2; simp [blkC, roundR]
  obtain ⟨R, hR⟩ : ∃ R, n % N = R := ⟨_, rfl⟩
  have hRN : R < N := by rw [← hR]; exact Nat.mod_lt _ hN
  have hmod : IntKind.u64.wrap ((n : Int).tmod (N : Int)) = (R : Int) := by
    rw [Int.tmod_eq_emod_of_nonneg (by omega), ← Int.natCast_emod, hR, IntKind.wrap_u64]; omega
  have hNz : ¬ (N : Int) = 0 := by omega
  go_enter Tryz.func66, Tryz.ntmps66
  go_wp2
  rw [show (n : Int) % (N : Int) = (R : Int) from by rw [← Int.natCast_emod, hR]]
  go_loopw [7, 19] (fun _ t wr => ∃ i : Nat, i ≤ N ∧ t = .int .i64 i ∧ Hid (wr.heap[w1.heap.size]? = some (.cells (blkC (roundR N n i)).toArray 3 (0, 0))) ∧ Below w1.heap.size w1 wr) (fun _ t _ => N - (RowKit.intOf t).toNat)
  case atStart => exact ⟨0, Nat.zero_le _, rfl, heap_alloc_new w1 _, (Below.refl _ w1).alloc (Nat.le_refl _) _⟩
  case round =>
    obtain ⟨i, hi, rfl, HG, hb⟩ := hrel
    by_cases hlt : i < N
    · have hiI : (i : Int) < N := by omega
      have c2 := (hb.cell (p := ⟨w.heap.size, 2, none⟩) hlt1).trans q2
      obtain ⟨vv, hvv⟩ : ∃ vv, (blkC (roundR N n i))[i]? = some vv := ⟨_, List.getElem?_eq_getElem (by simp [blkC, roundR_len]; exact hlt)⟩
      have ci : wr.cell? ⟨w1.heap.size, i, none⟩ = some vv := by rw [cell_of_row _ _ i _ _ (0, 0) HG.out, List.getElem?_toArray]; exact hvv
      have fi := frozen_of_row wr w1.heap.size i _ _ HG.out
      obtain ⟨V, hV⟩ : ∃ V, (R + i) % N = V := ⟨_, rfl⟩
      have hVI : ((R : Int) + (i : Int)) % (N : Int) = (V : Int) := by rw [← Int.natCast_add, ← Int.natCast_emod, hV]
      have hG2 := heap_setCell_same wr w1.heap.size i _ _ (.int .i64 (V : Int)) HG.out
      have hset : ((blkC (roundR N n i)).toArray.setIfInBounds i (.int .i64 (V : Int))) = (blkC (roundR N n (i + 1))).toArray := by
        rw [List.setIfInBounds_toArray, ← roundR_set N n i hlt, hR, hV]
        unfold blkC
        rw [List.map_set]
      rw [hset] at hG2
      have HG2 : Hid _ := hG2
      have hb2 : Below w1.heap.size w1 (wr.setCell ⟨w1.heap.size, i, none⟩ (.int .i64 (V : Int))) := hb.setCell (p := ⟨w1.heap.size, i, none⟩) (Nat.le_refl _) _
      clear hG2 hset HG hvv
      go_wp2
      go_roundw
      case rel => exact ⟨i + 1, by omega, by go_num, HG2, hb2⟩
      case measure => simp [RowKit.intOf]; omega
    · obtain rfl : i = N := by omega
      rw [roundR_all] at HG
      go_wp2
      go_ret
      exact ⟨_, rfl, by omega, HG.out, hB1.trans (hb.mono (by omega))⟩

theorem flat4 (K : List Wm) : ∀ (i j : Nat) (x : Wm) (v : Value), K[i]? = some x → (wmC x)[j]? = some v → (K.flatMap wmC)[i * 4 + j]? = some v := by
  induction K with
  | nil => intro i j x v h; simp at h
  | cons y K ih =>
    intro i j x v h hv
    have hj : j < 4 := (List.getElem?_eq_some_iff.1 hv).1
    rw [List.flatMap_cons]
    cases i with
    | zero =>
      simp only [List.getElem?_cons_zero, Option.some.injEq] at h
      subst h
      rw [Nat.zero_mul, Nat.zero_add, List.getElem?_append_left (by exact hj)]
      exact hv
    | succ i =>
      have e4 : (wmC y).length = 4 := rfl
      rw [List.getElem?_append_right (by omega), e4, show (i + 1) * 4 + j - 4 = i * 4 + j from by omega]
      exact ih i j x v (by simpa using h) hv

theorem WsAt.cell {base : Nat} {w : World} {v : Value} {K : List Wm} (h : WsAt base w v K) (hK : 0 < K.length) : ∃ g cap, v = .slice (some ⟨g, 0, none⟩) K.length cap ∧ K.length ≤ cap ∧ cap ≤ maxLen ∧ base ≤ g ∧ g < w.heap.size ∧ ∀ i x, K[i]? = some x → ∀ j u, (wmC x)[j]? = some u → w.cell? ⟨g, i * 4 + j, none⟩ = some u := by
  obtain ⟨h1, ⟨rfl, h2⟩ | ⟨g, cap, cur, rfl, h3, h4, h5, h6, h7, h8⟩⟩ := h.own
  · omega
  · refine ⟨g, cap, rfl, h5, h6, h3, (Array.getElem?_eq_some_iff.1 h4).1, fun i x hx j u hu => ?_⟩
    have hj : j < 4 := (List.getElem?_eq_some_iff.1 hu).1
    have hi := (List.getElem?_eq_some_iff.1 hx).1
    have e := flat4 K i j x u hx hu
    rw [← h8, List.getElem?_take_of_lt (by omega)] at e
    rw [cell_of_row _ _ _ _ _ (0, 0) h4, ← Array.getElem?_toList]
    exact e

/-- A row of numbers is read. -/
theorem own_int {base n : Nat} {w : World} {a : Option Addr} {c : Nat} {l : List Nat} (h : w.ownsRow base 3 1 (.slice a n c) n (blkC l)) (hl : l.length = n) (i : Nat) (hi : i < n) : ∃ g, a = some ⟨g, 0, none⟩ ∧ n ≤ c ∧ c ≤ maxLen ∧ base ≤ g ∧ g < w.heap.size ∧ w.cell? ⟨g, i, none⟩ = some (.int .i64 (l.getD i 0)) := by
  obtain ⟨h1, ⟨e, h2⟩ | ⟨g, cap, cur, e, h3, h4, h5, h6, h7, h8⟩⟩ := h
  · omega
  · simp only [Value.slice.injEq, true_and] at e
    obtain ⟨rfl, rfl⟩ := e
    refine ⟨g, rfl, h5, h6, h3, (Array.getElem?_eq_some_iff.1 h4).1, ?_⟩
    rw [cell_of_row _ _ _ _ _ (0, 0) h4, ← Array.getElem?_toList]
    have e2 := congrArg (fun z : List Value => z[i]?) h8
    simp only [Nat.mul_one] at e2
    rw [List.getElem?_take_of_lt hi] at e2
    rw [e2]
    unfold blkC
    rw [List.getElem?_map, List.getD_eq_getElem?_getD, List.getElem?_eq_getElem (by omega)]
    rfl

def boolC (N : Nat) (D : List Nat) : List Value := (List.range N).map fun i => Value.bool (decide (i ∈ D))
theorem boolC_len (N : Nat) (D : List Nat) : (boolC N D).length = N := by simp [boolC]
theorem boolC_set (N : Nat) (D : List Nat) (b : Nat) : (boolC N D).set b (.bool true) = boolC N (D ++ [b]) := by
  apply List.ext_getElem
  · simp [boolC]
  · intro j h1 h2
    rw [List.getElem_set]
    simp only [boolC, List.getElem_map, List.getElem_range, List.mem_append, List.mem_singleton]
    split
    · rename_i h; simp [h]
    · rename_i h
      congr 1
      have : ¬ j = b := fun e => h e.symm
      simp [this]

theorem Tryz.infoBool : (Tryz.prog.info? 4).map (fun i => (i.zero, i.size, i.bytes)) = some (some (.bool false), 1, 1) := by kernel_rfl
theorem make_bools (w : World) (n : Nat) (hn : n ≤ 1000000) :
    (Instr.makeSlice 121 (.int .i64 n) (.int .i64 n)).run Tryz.prog w = .ok (.slice (some ⟨w.heap.size, 0, none⟩) n n) (w.alloc (.cells (List.replicate n (Value.bool false)).toArray 4)) := by
  obtain ⟨i, hi, hz0, hz1, hz2⟩ := info_parts Tryz.infoBool
  have h := run_make (P := Tryz.prog) w 121 4 i (.bool false) Tryz.underlying121 hi hz0 .i64 .i64 n n (by omega) (by omega) (by rw [hz2]; omega) (by omega)
  rw [h, hz1, Int.toNat_natCast, Nat.mul_one]
  congr 2
  congr 1
  apply Array.ext'
  exact toList_madeCells_one (.bool false) n

set_option maxHeartbeats 2000000 in
theorem held_any {base : Nat} {w : World} {kv : Value} {K : List Wm} (N : Nat) (hN2 : N ≤ 1024) (h : WsAt base w kv K) (hK : K.length ≤ 2000) (hb : ∀ x ∈ K, x.blocks.length ≤ 2000 ∧ ∀ b ∈ x.blocks, b < N) :
    Calls Tryz.prog 65 #[.int .i64 N, kv] w fun e w' => ∃ g, e = .returned (.slice (some ⟨g, 0, none⟩) N N) ∧ w.heap.size ≤ g ∧ w'.heap[g]? = some (.cells (boolC N (K.flatMap Wm.blocks)).toArray 4 (0, 0)) ∧ Below w.heap.size w w' := by
  obtain ⟨aK, cK, rfl⟩ := own_shape h.own
  have hmk := make_bools w N (by omega)
  obtain ⟨M, hM⟩ : ∃ M : Array Value, (List.replicate N (Value.bool false)).toArray = M := ⟨_, rfl⟩
  rw [hM] at hmk
  have hM0 : M = (boolC N []).toArray := by
    rw [← hM]
    congr 1
    apply List.ext_getElem
    · simp [boolC]
    · intro i h1 h2; simp [boolC]
  subst hM0
  clear hM
  have HWs : Hid (WsAt base w (.slice aK K.length cK) K) := h
  have hlen : ∀ W, (Builtin.len_ #[86] 3 #[.slice aK K.length cK]).run Tryz.prog W = .ok (.int .i64 K.length) W := fun W => by
    simp [Builtin.len_, go_sem]
  clear h
  go_enter Tryz.func65, Tryz.ntmps65
  go_wp2
  go_loopw [7, 9, 14, 18, 19, 20, 21, 22] (fun _ _ t _ _ _ _ _ wr => ∃ i : Nat, i ≤ K.length ∧ t = .int .i64 i ∧ Hid (wr.heap[w.heap.size]? = some (.cells (boolC N ((K.take i).flatMap Wm.blocks)).toArray 4 (0, 0))) ∧ Below w.heap.size w wr ∧ w.heap.size < wr.heap.size) (fun _ _ t _ _ _ _ _ _ => K.length - (RowKit.intOf t).toNat)
  case atStart => exact ⟨0, Nat.zero_le _, rfl, heap_alloc_new w _, (Below.refl _ w).alloc (Nat.le_refl _) _, by simp⟩
  case round =>
    obtain ⟨i, hi, rfl, HG, hbr, hsr⟩ := hrel
    by_cases hlt : i < K.length
    · have hiI : (i : Int) < K.length := by omega
      have hWr := HWs.out.keep hbr.size (fun j _ hj => hbr.block j hj)
      obtain ⟨g, cap, hv, hcl, hcm, hgb, hgl, hcell⟩ := hWr.cell (by omega)
      simp only [Value.slice.injEq, true_and] at hv
      obtain ⟨rfl, rfl⟩ := hv
      obtain ⟨x, hx⟩ : ∃ x, K[i]? = some x := ⟨_, List.getElem?_eq_getElem hlt⟩
      have hxm : x ∈ K := List.mem_of_getElem? hx
      have c0 : wr.cell? ⟨g, i * 4, none⟩ = some (.int .u64 x.at_) := hcell i x hx 0 _ rfl
      have c1 : wr.cell? ⟨g, i * 4 + 1, none⟩ = some (.slice x.ba x.blocks.length x.bc) := hcell i x hx 1 _ rfl
      have c2 : wr.cell? ⟨g, i * 4 + 2, none⟩ = some (.slice x.ga x.group.length x.gc) := hcell i x hx 2 _ rfl
      have c3 : wr.cell? ⟨g, i * 4 + 3, none⟩ = some (.bool x.begins) := hcell i x hx 3 _ rfl
      have HBo : WmAt base w x := HWs.out.each x hxm
      have hxb := hb x hxm
      have HTk : Hid ((K.take (i + 1)).flatMap Wm.blocks = (K.take i).flatMap Wm.blocks ++ x.blocks) := by
        unfold Hid; rw [List.take_add_one, hx, List.flatMap_append]; simp
      obtain ⟨X1, hX1⟩ : ∃ X1, wr.alloc (.cells #[.int .u64 x.at_, .slice x.ba x.blocks.length x.bc, .slice x.ga x.group.length x.gc, .bool x.begins] 126) = X1 := ⟨_, rfl⟩
      have hBX1 : Below wr.heap.size wr X1 := by rw [← hX1]; exact (Below.refl _ wr).alloc (Nat.le_refl _) _
      have hgX1 : X1.heap[wr.heap.size]? = some (.cells #[.int .u64 x.at_, .slice x.ba x.blocks.length x.bc, .slice x.ga x.group.length x.gc, .bool x.begins] 126 (0, 0)) := by rw [← hX1]; exact heap_alloc_new wr _
      have d1 : X1.cell? ⟨wr.heap.size, 1, none⟩ = some (.slice x.ba x.blocks.length x.bc) := by rw [cell_of_row _ _ 1 _ _ (0, 0) hgX1]; rfl
      have HG1 : Hid _ := (hBX1.block _ hsr).trans HG.out
      have hb1 : Below w.heap.size w X1 := hbr.trans (hBX1.mono (by omega))
      have hs1 := hBX1.size
      obtain ⟨D, hD⟩ : ∃ D, (K.take i).flatMap Wm.blocks = D := ⟨_, rfl⟩
      rw [hD] at HG1 HTk
      clear hcell hgX1 HG hWr hD
      go_wp2
      clear c0 c1 c2 c3 d1
      go_loopw [9, 22] (fun _ t wq => ∃ j : Nat, j ≤ x.blocks.length ∧ t = .int .i64 j ∧ Hid (wq.heap[w.heap.size]? = some (.cells (boolC N (D ++ x.blocks.take j)).toArray 4 (0, 0))) ∧ Below w.heap.size w wq ∧ w.heap.size < wq.heap.size) (fun _ t _ => x.blocks.length - (RowKit.intOf t).toNat)
      case atStart => exact ⟨0, Nat.zero_le _, rfl, by rw [List.take_zero, List.append_nil]; exact HG1, hb1, by omega⟩
      case round =>
        obtain ⟨j, hj, rfl, HQ, hbq, hsq⟩ := hrel
        by_cases hjl : j < x.blocks.length
        · have hjI : (j : Int) < x.blocks.length := by omega
          have hob := own_keep HBo.b hbq.size (fun q hq hl => hbq.block q hl)
          obtain ⟨g2, hg2, hcc, hcm2, _, hgl2, hcj⟩ := own_int hob rfl j hjl
          have hbm : x.blocks.getD j 0 < N := hxb.2 _ (by rw [List.getD_eq_getElem?_getD, List.getElem?_eq_getElem hjl]; exact List.getElem_mem hjl)
          have HTj : Hid (x.blocks.take (j + 1) = x.blocks.take j ++ [x.blocks.getD j 0]) := by
            unfold Hid; rw [List.take_add_one, List.getD_eq_getElem?_getD, List.getElem?_eq_getElem hjl]; rfl
          obtain ⟨B, hB⟩ : ∃ B, x.blocks.getD j 0 = B := ⟨_, rfl⟩
          rw [hB] at hcj hbm HTj
          rw [hg2]
          obtain ⟨vv, hvv⟩ : ∃ vv, (boolC N (D ++ x.blocks.take j))[B]? = some vv := ⟨_, List.getElem?_eq_getElem (by rw [boolC_len]; exact hbm)⟩
          have cb : wr.cell? ⟨w.heap.size, B, none⟩ = some vv := by rw [cell_of_row _ _ B _ _ (0, 0) HQ.out, List.getElem?_toArray]; exact hvv
          have fb := frozen_of_row wr w.heap.size B _ _ HQ.out
          have hQ2 := heap_setCell_same wr w.heap.size B _ _ (.bool true) HQ.out
          rw [List.setIfInBounds_toArray, boolC_set, List.append_assoc, ← HTj.out] at hQ2
          have HQ2 : Hid _ := hQ2
          have hb2 : Below w.heap.size w (wr.setCell ⟨w.heap.size, B, none⟩ (.bool true)) := hbq.setCell (p := ⟨w.heap.size, B, none⟩) (Nat.le_refl _) _
          have hs2 : w.heap.size < (wr.setCell ⟨w.heap.size, B, none⟩ (.bool true)).heap.size := by simpa [World.setCell] using hsq
          clear hQ2 HQ hvv hob hB
          have hBI : (B : Int) < N := by omega
          go_wp2
          go_roundw
          case rel => exact ⟨j + 1, by omega, by go_num, HQ2, hb2, hs2⟩
          case measure => simp [RowKit.intOf]; omega
        · obtain rfl : j = x.blocks.length := by omega
          rw [List.take_length] at HQ
          go_wp2
          go_roundw
          case rel => exact ⟨i + 1, by omega, by go_num, by rw [HTk.out]; exact HQ, hbq, hsq⟩
          case measure => simp [RowKit.intOf]; omega
    · obtain rfl : i = K.length := by omega
      rw [List.take_length] at HG
      go_wp2
      go_ret
      exact ⟨_, rfl, Nat.le_refl _, HG.out, hbr⟩

end Go.Proofs.YtckcdmkgmbicfaaGreat
