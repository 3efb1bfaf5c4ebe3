/- The document's Get. -/
import Derived.Test.YtjlglnhmkheidaaGreatD5
import Derived.Test.YtjlglnhmkheidaaGreatCgRef2
namespace Go.Proofs.YtjlglnhmkheidaaGreat
open Go.RowKit
set_option linter.unusedVariables false
set_option linter.unusedSimpArgs false
set_option maxRecDepth 100000

theorem foldX_take {xs : List Cg} {k : Nat} (hk : k < xs.length) (q : Pl) : foldX (xs.take (k + 1)) q = stepX q (foldX (xs.take k) q) (xs.getD k cg0) := by
  rw [List.take_add_one, List.getElem?_eq_getElem hk, show (xs.getD k cg0) = xs[k] by rw [List.getD_eq_getElem?_getD, List.getElem?_eq_getElem hk]; rfl]
  exact foldX_snoc _ _ _
theorem stepX_ok {q : Pl} {a : Option Cg} (ha : CgOk (a.getD cg0)) {c : Cg} (hc : CgOk c) : CgOk ((stepX q a c).getD cg0) := by
  unfold stepX
  split
  · cases a with
    | none => exact hc
    | some x => exact (joinX_ok ha hc)
  · exact ha
theorem foldX_ok {xs : List Cg} (h : ∀ c ∈ xs, CgOk c) (q : Pl) : CgOk ((foldX xs q).getD cg0) := by
  suffices H : ∀ (xs : List Cg), (∀ c ∈ xs, CgOk c) → ∀ a : Option Cg, CgOk (a.getD cg0) → CgOk ((xs.foldl (stepX q) a).getD cg0) from H xs h none cg0_ok
  intro xs
  induction xs with
  | nil => intro _ a ha; exact ha
  | cons x xs ih => intro h a ha; exact ih (fun c hc => h c (by simp [hc])) _ (stepX_ok ha (h x (by simp)))

/-- A row of changes, whoever's it is. -/
theorem xrow_of {w : World} {u : Value} {L : List Cg} (hL : ∀ c ∈ L, CgOk c) (h : w.ownsRow 0 56 46 u L.length (L.flatMap cgL)) : ∃ a c, u = .slice a L.length c ∧ L.length ≤ c ∧ c ≤ maxLen ∧ (0 < L.length → ∃ g, a = some ⟨g, 0, none⟩ ∧ RowG w g L) := by
  obtain ⟨a, c, rfl, h1⟩ := row_of hL h
  refine ⟨a, c, rfl, ?_, ?_, fun hp => by obtain ⟨g, e, h2, _⟩ := h1 hp; exact ⟨g, e, h2⟩⟩
  · obtain ⟨_, ⟨h2, h3⟩ | ⟨g, cap, cur, e1, _, _, h5, h6, _⟩⟩ := h
    · omega
    · simp only [Value.slice.injEq, true_and] at e1; obtain ⟨_, rfl⟩ := e1; exact h5
  · obtain ⟨_, ⟨h2, h3⟩ | ⟨g, cap, cur, e1, _, _, h5, h6, _⟩⟩ := h
    · simp only [Value.slice.injEq, true_and] at h2; unfold maxLen; omega
    · simp only [Value.slice.injEq, true_and] at e1; obtain ⟨_, rfl⟩ := e1; exact h6
theorem PlAt.loadG {w : World} {g : Nat} {p : Pl} (h : PlAt w g p) : (Instr.loadAt 26 (.pointer (some ⟨g, 0, none⟩))).run Tryz.prog w = .ok (plV p) w :=
  run_loadAt_mid (P := Tryz.prog) w g 0 26 (plCells p).toList _ (fun j u hu => by rw [cell_of_row _ _ _ _ _ (0, 0) h.row, Nat.zero_add, ← Array.getElem?_toList]; exact hu) Tryz.underlying26 rfl (by kernel_rfl)
theorem PlAt.drewG {w : World} {g : Nat} {p : Pl} (h : PlAt w g p) : PlAt w.drew g p := ⟨h.row⟩

/-- What a round of Get reads: the place, the result's cell, what has come together. -/
structure XgS (w W : World) (g : Nat) (q : Pl) (x : Cg) : Prop where
  q : PlAt W w.heap.size q
  r : CgAt W (w.heap.size + 1) cg0
  x : CgAt W g x
  bel : Below w.heap.size w W
theorem XgS.below {w W W' : World} {g : Nat} {q : Pl} {x : Cg} (h : XgS w W g q x) (hb : Below W.heap.size W W') : XgS w W' g q x := ⟨h.q.below hb, h.r.below hb, h.x.below hb, h.bel.trans (hb.mono h.bel.size)⟩
theorem XgS.set {w W : World} {q : Pl} {x : Cg} (h : XgS w W (w.heap.size + 1 + 1) q x) (y : Cg) : XgS w (W.setRow (w.heap.size + 1 + 1) (cgC y)) (w.heap.size + 1 + 1) q y :=
  ⟨⟨(setRow_other _ _ _ _ (by omega)).trans h.q.row⟩, h.r.apartR _ _ (by omega), h.x.setRow y, below_setRow h.bel (by omega) _⟩

set_option maxHeartbeats 4000000 in
theorem xget_any {w : World} {p : Nat} {v : Value} {M : Int} {xs : List Cg} (h : XdAt w p v M xs) (q : Pl) (hq : PlOk q) : Calls Tryz.prog 24 #[.pointer (some ⟨p, 0, none⟩), plV q] w fun e w' =>
    e = .returned (.tuple #[.agg (cgC ((foldX xs q).getD cg0)), .bool (foldX xs q).isSome]) ∧ Below w.heap.size w w' := by
  have hz := zeroCg
  have len0 : cg0.pt.bytes.length = 32 := cg0_ok.pt.ch.1
  have hok := h.ok
  obtain ⟨a, c, rfl, hlc, hcm, hrow⟩ := xrow_of hok h.at_
  have hB1 : Below w.heap.size w (((w.alloc (.cells (plCells q) 26)).alloc (.cells (cgC cg0) 56)).alloc (.cells (cgC cg0) 56)) := (((Below.refl _ w).alloc (Nat.le_refl _) _).alloc (by simp) _).alloc (by simp; omega) _
  have hS1 : XgS w (((w.alloc (.cells (plCells q) 26)).alloc (.cells (cgC cg0) 56)).alloc (.cells (cgC cg0) 56)) (w.heap.size + 1 + 1) q cg0 := by
    have e1 := CgAt.laid (w.alloc (.cells (plCells q) 26)) cg0
    have e2 := CgAt.laid ((w.alloc (.cells (plCells q) 26)).alloc (.cells (cgC cg0) 56)) cg0
    rw [World.size_alloc] at e1
    rw [World.size_alloc, World.size_alloc] at e2
    exact ⟨((PlAt.laid w q).below ((Below.refl _ _).alloc (Nat.le_refl _) _)).below ((Below.refl _ _).alloc (Nat.le_refl _) _), e1.below ((Below.refl _ _).alloc (Nat.le_refl _) _), e2, hB1⟩
  obtain ⟨w1, hw1⟩ : ∃ w1, ((w.alloc (.cells (plCells q) 26)).alloc (.cells (cgC cg0) 56)).alloc (.cells (cgC cg0) 56) = w1 := ⟨_, rfl⟩
  rw [hw1] at hB1 hS1
  have hS2 := hS1.set cg0
  have hB2 := hS2.bel
  obtain ⟨w2, hw2⟩ : ∃ w2, w1.setRow (w.heap.size + 1 + 1) (cgC cg0) = w2 := ⟨_, rfl⟩
  rw [hw2] at hS2 hB2
  have c2 := (h.below hB2).c0
  have HR : Hid (0 < xs.length → ∃ g, a = some ⟨g, 0, none⟩ ∧ RowG w g xs) := hrow
  have HX : Hid (XdAt w p (.slice a xs.length c) M xs) := h
  obtain ⟨N, hN⟩ : ∃ N, xs.length = N := ⟨_, rfl⟩
  have HN : Hid (xs.length = N) := hN
  rw [hN] at hlc HR c2
  unfold maxLen at hcm
  clear h hrow hB1 hN
  rw [show plV q = .agg (plCells q) from rfl]
  go_enter Tryz.func24, Tryz.ntmps24
  go_wp2_with (first
    | (refine wpList_storeG rfl _ _ rfl (w.heap.size + 1 + 1) cg0 cg0 rfl rfl len0 len0 hS1.x ?_; rw [hw2]))
  go_loopw [7, 9, 16] (fun b g t wr => ∃ (k : Nat), k ≤ N ∧ t = .int .i64 k ∧ b = .bool (foldX (xs.take k) q).isSome ∧ Hid (XgS w wr (w.heap.size + 1 + 1) q ((foldX (xs.take k) q).getD cg0))) (fun _ _ t _ => N - (intOf t).toNat)
  case atStart => exact ⟨0, Nat.zero_le _, rfl, rfl, hS2⟩
  case round =>
    obtain ⟨k, hk, rfl, rfl, HS⟩ := hrel
    have hfok := foldX_ok (xs := xs.take k) (fun c hc => hok c (List.mem_of_mem_take hc)) q
    have HF : Hid (((foldX (xs.take k) q).getD cg0).pt.bytes.length = 32) := hfok.pt.ch.1
    by_cases hlt : k < N
    · have hltI : (k : Int) < N := by omega
      obtain ⟨g, rfl, hr0⟩ := HR.out (by omega)
      have hr := hr0.below (HS.out.bel.mono (Nat.le_refl _))
      have hin : xs.getD k cg0 ∈ xs := by have := HN.out; rw [List.getD_eq_getElem?_getD, List.getElem?_eq_getElem (by omega)]; exact List.getElem_mem _
      have hck := hok _ hin
      have hld : Hid _ := hr.load (by rw [HN.out]; exact hlt) hck
      have HT : Hid (foldX (xs.take (k + 1)) q = stepX q (foldX (xs.take k) q) (xs.getD k cg0)) := foldX_take (by rw [HN.out]; exact hlt) q
      obtain ⟨y, hy⟩ : ∃ y, xs.getD k cg0 = y := ⟨_, rfl⟩
      rw [hy] at hck hld HT
      have HY : Hid (y.pt.bytes.length = 32) := hck.pt.ch.1
      have hn3 := CgAt.laid wr cg0
      have hb3 := alloc_row (A := wr) (.cells (cgC cg0) 56) (cgC y)
      have hy3 := hn3.setRow y
      obtain ⟨w3, hw3⟩ : ∃ w3, (wr.alloc (.cells (cgC cg0) 56)).setRow wr.heap.size (cgC y) = w3 := ⟨_, rfl⟩
      rw [hw3] at hb3 hy3
      have hS3 := HS.out.below hb3
      have hlp : Hid ((Instr.loadAt 26 (.pointer (some ⟨wr.heap.size, 0, none⟩))).run Tryz.prog w3 = .ok (.agg #[.int .u32 y.pl.ino, .int .i64 y.pl.part, .string y.pl.name, .int .u32 y.pl.chunk]) w3) := hy3.loadP
      have hlq : Hid ((Instr.loadAt 26 (.pointer (some ⟨w.heap.size, 0, none⟩))).run Tryz.prog w3 = .ok (.agg #[.int .u32 q.ino, .int .i64 q.part, .string q.name, .int .u32 q.chunk]) w3) := hS3.q.loadG
      have hne : ∀ W, (binOp .neq 26 (.agg #[.int .u32 y.pl.ino, .int .i64 y.pl.part, .string y.pl.name, .int .u32 y.pl.chunk]) (.agg #[.int .u32 q.ino, .int .i64 q.part, .string q.name, .int .u32 q.chunk])).run Tryz.prog W = .ok (.bool (!plEq y.pl q)) W := fun W => neq_places W y.pl q
      clear hy hin hr hr0 HS
      cases hpe : plEq y.pl q <;> rw [hpe] at hne
      · have HT' : Hid (foldX (xs.take (k + 1)) q = foldX (xs.take k) q) := by unfold Hid; rw [HT.out]; unfold stepX; rw [hpe]; rfl
        go_wp2_with (first
          | (refine wpList_loadG rfl 56 _ rfl _ rfl _ hld.out ?_)
          | (refine wpList_storeG rfl _ _ rfl wr.heap.size y cg0 rfl rfl HY.out len0 hn3 ?_; rw [hw3])
          | (refine wpList_loadG rfl 26 _ rfl _ rfl _ hlp.out ?_)
          | (refine wpList_loadG rfl 26 _ rfl _ rfl _ hlq.out ?_))
        go_roundw
        case rel => exact ⟨k + 1, by omega, by go_num, by rw [HT'.out], by rw [HT'.out]; exact hS3⟩
        case measure => simp [intOf]; omega
      · cases hf : foldX (xs.take k) q with
        | none =>
          have HT' : Hid (foldX (xs.take (k + 1)) q = some y) := by unfold Hid; rw [HT.out, hf]; unfold stepX; rw [hpe]; rfl
          rw [hf] at hS3
          have hS4 := hS3.set y
          obtain ⟨w4, hw4⟩ : ∃ w4, w3.setRow (w.heap.size + 1 + 1) (cgC y) = w4 := ⟨_, rfl⟩
          rw [hw4] at hS4
          have hly : Hid _ := hy3.load HY.out
          go_wp2_with (first
            | (refine wpList_loadG rfl 56 _ rfl _ rfl _ hld.out ?_)
            | (refine wpList_loadG rfl 56 _ rfl _ rfl _ hly.out ?_)
            | (refine wpList_storeG rfl _ _ rfl wr.heap.size y cg0 rfl rfl HY.out len0 hn3 ?_; rw [hw3])
            | (refine wpList_storeG rfl _ _ rfl (w.heap.size + 1 + 1) y cg0 rfl rfl HY.out len0 hS3.x ?_; rw [hw4])
            | (refine wpList_loadG rfl 26 _ rfl _ rfl _ hlp.out ?_)
            | (refine wpList_loadG rfl 26 _ rfl _ rfl _ hlq.out ?_))
          go_roundw
          case rel => exact ⟨k + 1, by omega, by go_num, by rw [HT'.out]; rfl, by rw [HT'.out]; exact hS4⟩
          case measure => simp [intOf]; omega
        | some x =>
          have HT' : Hid (foldX (xs.take (k + 1)) q = some (joinX x y).1) := by unfold Hid; rw [HT.out, hf]; unfold stepX; rw [hpe]; rfl
          rw [hf] at hS3 hfok HF
          have hfok : CgOk x := hfok
          have HF : Hid (x.pt.bytes.length = 32) := HF
          have hjo := joinX_ok hfok hck
          have HJ : Hid ((joinX x y).1.pt.bytes.length = 32) := hjo.pt.ch.1
          have hly : Hid _ := hy3.load HY.out
          have hlx : Hid _ := hS3.x.load HF.out
          have cj := rj_any w3 x y hfok hck
          go_wp2_with (first
            | (refine wpList_loadG rfl 56 _ rfl _ rfl _ hld.out ?_)
            | (refine wpList_loadG rfl 56 _ rfl _ rfl _ hly.out ?_)
            | (refine wpList_loadG rfl 56 _ rfl _ rfl _ hlx.out ?_)
            | (refine wpList_storeG rfl _ _ rfl wr.heap.size y cg0 rfl rfl HY.out len0 hn3 ?_; rw [hw3])
            | (refine wpList_loadG rfl 26 _ rfl _ rfl _ hlp.out ?_)
            | (refine wpList_loadG rfl 26 _ rfl _ rfl _ hlq.out ?_))
          refine cj.mono ?_
          rintro e w4 ⟨rfl, hb4⟩
          clear cj
          have hS4 := hS3.below hb4
          have hS5 := hS4.set (joinX x y).1
          obtain ⟨w5, hw5⟩ : ∃ w5, w4.setRow (w.heap.size + 1 + 1) (cgC (joinX x y).1) = w5 := ⟨_, rfl⟩
          rw [hw5] at hS5
          have hxl : ((some x).getD cg0).pt.bytes.length = 32 := HF.out
          go_wp2_with (first
            | (refine wpList_storeG rfl _ _ rfl (w.heap.size + 1 + 1) (joinX x y).1 ((some x).getD cg0) rfl rfl HJ.out hxl hS4.x ?_; rw [hw5]))
          go_roundw
          case rel => exact ⟨k + 1, by omega, by go_num, by rw [HT'.out]; rfl, by rw [HT'.out]; exact hS5⟩
          case measure => simp [intOf]; omega
    · obtain rfl : k = N := by omega
      have hltI : ¬ (k : Int) < k := by omega
      have HA : Hid (foldX (xs.take k) q = foldX xs q) := by unfold Hid; rw [← HN.out, List.take_length]
      rw [HA.out] at HS hfok HF ⊢
      have hl4 : Hid _ := HS.out.x.load HF.out
      have hr5 := HS.out.r.setRow ((foldX xs q).getD cg0)
      have hB5 := below_setRow HS.out.bel (show w.heap.size ≤ w.heap.size + 1 by omega) (cgC ((foldX xs q).getD cg0))
      go_wp2_with (first
        | (refine wpList_loadG rfl 56 _ rfl _ rfl _ hl4.out ?_)
        | (refine wpList_storeG rfl _ _ rfl (w.heap.size + 1) ((foldX xs q).getD cg0) cg0 rfl rfl HF.out len0 HS.out.r ?_))
      exact ret_cg2 rfl (w.heap.size + 1) _ HF.out rfl _ rfl hr5 rfl ⟨rfl, hB5⟩

end Go.Proofs.YtjlglnhmkheidaaGreat
