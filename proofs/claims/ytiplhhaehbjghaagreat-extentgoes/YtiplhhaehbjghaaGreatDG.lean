/- DgGetX, DgAllM, DgUndo, DgApp, RCompare, DlSort, DlAll, DgAll, DgPut: in one text. -/
import Derived.Test.YtiplhhaehbjghaaGreatM1
import Derived.Test.YtiplhhaehbjghaaGreatD5
import Derived.Test.YtiplhhaehbjghaaGreatCR
import Derived.Test.YtiplhhaehbjghaaGreatD3
import Derived.Laws.AppendOwnNone
import Derived.Test.YtiplhhaehbjghaaGreatP2
import Derived.Test.YtiplhhaehbjghaaGreatD4
import Derived.Shelf.SlSortCmp.NoneTotal
import Derived.Ground.SlsfProg
import Derived.RangeFuncBox
import Derived.RangeFuncNested
import Derived.Sort.MapsRangeIn
import Derived.Shelf.AbstractIn
import Derived.RangeFuncMany
import Derived.RangeFuncLeaves
import Derived.OwnWalkIn
import Derived.TacticsInMore
import Derived.RegionIn
import Derived.LoopNIn
import Derived.LoopIn
import Derived.Deep.AppendSrc
namespace Go.Proofs.YtiplhhaehbjghaaGreat
open Go.RowKit
set_option linter.unusedVariables false
set_option maxHeartbeats 32000000
set_option maxRecDepth 100000
set_option linter.unusedSimpArgs false
theorem foldX_take {xs : List Cg} {k : Nat} (hk : k < xs.length) (q : Pl) : foldX (xs.take (k + 1)) q = stepX q (foldX (xs.take k) q) (xs.getD k cg0) := by
 rw [List.take_add_one, List.getElem?_eq_getElem hk, show (xs.getD k cg0) = xs[k] by rw [List.getD_eq_getElem?_getD, List.getElem?_eq_getElem hk]; rfl]
 exact foldX_snoc _ _ _
theorem stepX_ok {q : Pl} {a : Option Cg} (ha : CgOk (a.getD cg0)) {c : Cg} (hc : CgOk c) : CgOk ((stepX q a c).getD cg0) := by
 unfold stepX
 split
 ·cases a with
  | none => exact hc
  | some x => exact (joinX_ok ha hc)
 ·exact ha
theorem foldX_ok {xs : List Cg} (h : ∀ c ∈ xs, CgOk c) (q : Pl) : CgOk ((foldX xs q).getD cg0) := by
 suffices H : ∀ (xs : List Cg), (∀ c ∈ xs, CgOk c) → ∀ a : Option Cg, CgOk (a.getD cg0) → CgOk ((xs.foldl (stepX q) a).getD cg0) from H xs h none cg0_ok
 intro xs
 induction xs with
 | nil => intro _ a ha; exact ha
 | cons x xs ih => intro h a ha; exact ih (fun c hc => h c (by simp [hc])) _ (stepX_ok ha (h x (by simp)))
theorem xrow_of {w : World} {u : Value} {L : List Cg} (hL : ∀ c ∈ L, CgOk c) (h : w.ownsRow 0 119 46 u L.length (L.flatMap cgL)) : ∃ a c, u = .slice a L.length c ∧ L.length ≤ c ∧ c ≤ maxLen ∧ (0 < L.length → ∃ g, a = some ⟨g, 0, none⟩ ∧ RowG w g L) := by
 obtain ⟨a, c, rfl, h1⟩ := row_of hL h
 refine ⟨a, c, rfl, ?_, ?_, fun hp => by obtain ⟨g, e, h2, _⟩ := h1 hp; exact ⟨g, e, h2⟩⟩
 ·obtain ⟨_, ⟨h2, h3⟩ | ⟨g, cap, cur, e1, _, _, h5, h6, _⟩⟩ := h
  ·omega
  ·simp only [Value.slice.injEq, true_and] at e1; obtain ⟨_, rfl⟩ := e1; exact h5
 ·obtain ⟨_, ⟨h2, h3⟩ | ⟨g, cap, cur, e1, _, _, h5, h6, _⟩⟩ := h
  ·simp only [Value.slice.injEq, true_and] at h2; unfold maxLen; omega
  ·simp only [Value.slice.injEq, true_and] at e1; obtain ⟨_, rfl⟩ := e1; exact h6
structure XgS (w W : World) (g : Nat) (q : Pl) (x : Cg) : Prop where
 q : PlAt W w.heap.size q
 r : CgAt W (w.heap.size + 1) cg0
 x : CgAt W g x
 bel : Below w.heap.size w W
theorem XgS.below {w W W' : World} {g : Nat} {q : Pl} {x : Cg} (h : XgS w W g q x) (hb : Below W.heap.size W W') : XgS w W' g q x := ⟨h.q.below hb, h.r.below hb, h.x.below hb, h.bel.trans (hb.mono h.bel.size)⟩
theorem XgS.set {w W : World} {q : Pl} {x : Cg} (h : XgS w W (w.heap.size + 1 + 1) q x) (y : Cg) : XgS w (W.setRow (w.heap.size + 1 + 1) (cgC y)) (w.heap.size + 1 + 1) q y :=
 ⟨⟨(setRow_other _ _ _ _ (by omega)).trans h.q.row⟩, h.r.apartR _ _ (by omega), h.x.setRow y, below_setRow h.bel (by omega) _⟩
theorem xget_any {w : World} {p : Nat} {v : Value} {M : Int} {xs : List Cg} (h : XdAt w p v M xs) (q : Pl) (hq : PlOk q) : Calls Tryz.prog 103 #[.pointer (some ⟨p, 0, none⟩), plV q] w fun e w' =>
  e = .returned (.tuple #[.agg (cgC ((foldX xs q).getD cg0)), .bool (foldX xs q).isSome]) ∧ Below w.heap.size w w' := by
 have hz := zeroCg
 have len0 : cg0.pt.bytes.length = 32 := cg0_ok.pt.ch.1
 have hok := h.ok
 obtain ⟨a, c, rfl, hlc, hcm, hrow⟩ := xrow_of hok h.at_
 have hB1 : Below w.heap.size w (((w.alloc (.cells (plCells q) 114)).alloc (.cells (cgC cg0) 119)).alloc (.cells (cgC cg0) 119)) := (((Below.refl _ w).alloc (Nat.le_refl _) _).alloc (by simp) _).alloc (by simp; omega) _
 have hS1 : XgS w (((w.alloc (.cells (plCells q) 114)).alloc (.cells (cgC cg0) 119)).alloc (.cells (cgC cg0) 119)) (w.heap.size + 1 + 1) q cg0 := by
  have e1 := CgAt.laid (w.alloc (.cells (plCells q) 114)) cg0
  have e2 := CgAt.laid ((w.alloc (.cells (plCells q) 114)).alloc (.cells (cgC cg0) 119)) cg0
  rw [World.size_alloc] at e1
  rw [World.size_alloc, World.size_alloc] at e2
  exact ⟨((PlAt.laid w q).below ((Below.refl _ _).alloc (Nat.le_refl _) _)).below ((Below.refl _ _).alloc (Nat.le_refl _) _), e1.below ((Below.refl _ _).alloc (Nat.le_refl _) _), e2, hB1⟩
 obtain ⟨w1, hw1⟩ : ∃ w1, ((w.alloc (.cells (plCells q) 114)).alloc (.cells (cgC cg0) 119)).alloc (.cells (cgC cg0) 119) = w1 := ⟨_, rfl⟩
 rw [hw1] at hB1 hS1
 have hS2 := hS1.set cg0
 have hB2 := hS2.bel
 obtain ⟨w2, hw2⟩ : ∃ w2, w1.setRow (w.heap.size + 1 + 1) (cgC cg0) = w2 := ⟨_, rfl⟩
 rw [hw2] at hS2 hB2
 have c2 := (h.below hB2).c0
 have HR : Hid (0 < xs.length → ∃ g, a = some ⟨g, 0, none⟩ ∧ RowG w g xs) := hrow
 have HX : Hid (XdAt w p (.slice a xs.length c) M xs) := h
 obtain ⟨N, hN⟩ : ∃ N, xs.length = N := ⟨_, rfl⟩
 have HN : Hid (xs.length = N) := hN
 rw [hN] at hlc HR c2
 unfold maxLen at hcm
 clear h hrow hB1 hN
 rw [show plV q = .agg (plCells q) from rfl]
 go_enter Tryz.func103, Tryz.ntmps103
 go_wp2_with (first
  | (refine wpList_storeG rfl _ _ rfl (w.heap.size + 1 + 1) cg0 cg0 rfl rfl len0 len0 hS1.x ?_; rw [hw2]))
 go_loopw [7, 9, 16] (fun b g t wr => ∃ (k : Nat), k ≤ N ∧ t = .int .i64 k ∧ b = .bool (foldX (xs.take k) q).isSome ∧ Hid (XgS w wr (w.heap.size + 1 + 1) q ((foldX (xs.take k) q).getD cg0))) (fun _ _ t _ => N - (intOf t).toNat)
 case atStart => exact ⟨0, Nat.zero_le _, rfl, rfl, hS2⟩
 case round =>
  obtain ⟨k, hk, rfl, rfl, HS⟩ := hrel
  have hfok := foldX_ok (xs := xs.take k) (fun c hc => hok c (List.mem_of_mem_take hc)) q
  have HF : Hid (((foldX (xs.take k) q).getD cg0).pt.bytes.length = 32) := hfok.pt.ch.1
  by_cases hlt : k < N
  ·have hltI : (k : Int) < N := by omega
   obtain ⟨g, rfl, hr0⟩ := HR.out (by omega)
   have hr := hr0.below (HS.out.bel.mono (Nat.le_refl _))
   have hin : xs.getD k cg0 ∈ xs := by have := HN.out; rw [List.getD_eq_getElem?_getD, List.getElem?_eq_getElem (by omega)]; exact List.getElem_mem _
   have hck := hok _ hin
   have hld : Hid _ := hr.load (by rw [HN.out]; exact hlt) hck
   have HT : Hid (foldX (xs.take (k + 1)) q = stepX q (foldX (xs.take k) q) (xs.getD k cg0)) := foldX_take (by rw [HN.out]; exact hlt) q
   obtain ⟨y, hy⟩ : ∃ y, xs.getD k cg0 = y := ⟨_, rfl⟩
   rw [hy] at hck hld HT
   have HY : Hid (y.pt.bytes.length = 32) := hck.pt.ch.1
   have hn3 := CgAt.laid wr cg0
   have hb3 := alloc_row (A := wr) (.cells (cgC cg0) 119) (cgC y)
   have hy3 := hn3.setRow y
   obtain ⟨w3, hw3⟩ : ∃ w3, (wr.alloc (.cells (cgC cg0) 119)).setRow wr.heap.size (cgC y) = w3 := ⟨_, rfl⟩
   rw [hw3] at hb3 hy3
   have hS3 := HS.out.below hb3
   have hlp : Hid ((Instr.loadAt 114 (.pointer (some ⟨wr.heap.size, 0, none⟩))).run Tryz.prog w3 = .ok (.agg #[.int .u32 y.pl.ino, .int .i64 y.pl.part, .string y.pl.name, .int .u32 y.pl.chunk]) w3) := hy3.loadP
   have hlq : Hid ((Instr.loadAt 114 (.pointer (some ⟨w.heap.size, 0, none⟩))).run Tryz.prog w3 = .ok (.agg #[.int .u32 q.ino, .int .i64 q.part, .string q.name, .int .u32 q.chunk]) w3) := hS3.q.loadG
   have hne : ∀ W, (binOp .neq 114 (.agg #[.int .u32 y.pl.ino, .int .i64 y.pl.part, .string y.pl.name, .int .u32 y.pl.chunk]) (.agg #[.int .u32 q.ino, .int .i64 q.part, .string q.name, .int .u32 q.chunk])).run Tryz.prog W = .ok (.bool (!plEq y.pl q)) W := fun W => neq_places W y.pl q
   clear hy hin hr hr0 HS
   cases hpe : plEq y.pl q <;> rw [hpe] at hne
   ·have HT' : Hid (foldX (xs.take (k + 1)) q = foldX (xs.take k) q) := by unfold Hid; rw [HT.out]; unfold stepX; rw [hpe]; rfl
    go_wp2_with (first
     | (refine wpList_loadG rfl 119 _ rfl _ rfl _ hld.out ?_)
     | (refine wpList_storeG rfl _ _ rfl wr.heap.size y cg0 rfl rfl HY.out len0 hn3 ?_; rw [hw3])
     | (refine wpList_loadG rfl 114 _ rfl _ rfl _ hlp.out ?_)
     | (refine wpList_loadG rfl 114 _ rfl _ rfl _ hlq.out ?_))
    go_roundw
    case rel => exact ⟨k + 1, by omega, by go_num, by rw [HT'.out], by rw [HT'.out]; exact hS3⟩
    case measure => simp [intOf]; omega
   ·cases hf : foldX (xs.take k) q with
    | none =>
     have HT' : Hid (foldX (xs.take (k + 1)) q = some y) := by unfold Hid; rw [HT.out, hf]; unfold stepX; rw [hpe]; rfl
     rw [hf] at hS3
     have hS4 := hS3.set y
     obtain ⟨w4, hw4⟩ : ∃ w4, w3.setRow (w.heap.size + 1 + 1) (cgC y) = w4 := ⟨_, rfl⟩
     rw [hw4] at hS4
     have hly : Hid _ := hy3.load HY.out
     go_wp2_with (first
      | (refine wpList_loadG rfl 119 _ rfl _ rfl _ hld.out ?_)
      | (refine wpList_loadG rfl 119 _ rfl _ rfl _ hly.out ?_)
      | (refine wpList_storeG rfl _ _ rfl wr.heap.size y cg0 rfl rfl HY.out len0 hn3 ?_; rw [hw3])
      | (refine wpList_storeG rfl _ _ rfl (w.heap.size + 1 + 1) y cg0 rfl rfl HY.out len0 hS3.x ?_; rw [hw4])
      | (refine wpList_loadG rfl 114 _ rfl _ rfl _ hlp.out ?_)
      | (refine wpList_loadG rfl 114 _ rfl _ rfl _ hlq.out ?_))
     go_roundw
     case rel => exact ⟨k + 1, by omega, by go_num, by rw [HT'.out]; rfl, by rw [HT'.out]; exact hS4⟩
     case measure => simp [intOf]; omega
    | some x =>
     have HT' : Hid (foldX (xs.take (k + 1)) q = some (joinX x y).1) := by unfold Hid; rw [HT.out, hf]; unfold stepX; rw [hpe]; rfl
     rw [hf] at hS3 hfok HF
     have hfok : CgOk x := hfok
     have HF : Hid (x.pt.bytes.length = 32) := HF
     have hjo := joinX_ok hfok hck
     have HJ : Hid ((joinX x y).1.pt.bytes.length = 32) := hjo.pt.ch.1
     have hly : Hid _ := hy3.load HY.out
     have hlx : Hid _ := hS3.x.load HF.out
     have cj := rj_any w3 x y hfok hck
     go_wp2_with (first
      | (refine wpList_loadG rfl 119 _ rfl _ rfl _ hld.out ?_)
      | (refine wpList_loadG rfl 119 _ rfl _ rfl _ hly.out ?_)
      | (refine wpList_loadG rfl 119 _ rfl _ rfl _ hlx.out ?_)
      | (refine wpList_storeG rfl _ _ rfl wr.heap.size y cg0 rfl rfl HY.out len0 hn3 ?_; rw [hw3])
      | (refine wpList_loadG rfl 114 _ rfl _ rfl _ hlp.out ?_)
      | (refine wpList_loadG rfl 114 _ rfl _ rfl _ hlq.out ?_))
     refine cj.mono ?_
     rintro e w4 ⟨rfl, hb4⟩
     clear cj
     have hS4 := hS3.below hb4
     have hS5 := hS4.set (joinX x y).1
     obtain ⟨w5, hw5⟩ : ∃ w5, w4.setRow (w.heap.size + 1 + 1) (cgC (joinX x y).1) = w5 := ⟨_, rfl⟩
     rw [hw5] at hS5
     have hxl : ((some x).getD cg0).pt.bytes.length = 32 := HF.out
     go_wp2_with (first
      | (refine wpList_storeG rfl _ _ rfl (w.heap.size + 1 + 1) (joinX x y).1 ((some x).getD cg0) rfl rfl HJ.out hxl hS4.x ?_; rw [hw5]))
     go_roundw
     case rel => exact ⟨k + 1, by omega, by go_num, by rw [HT'.out]; rfl, by rw [HT'.out]; exact hS5⟩
     case measure => simp [intOf]; omega
  ·obtain rfl : k = N := by omega
   have hltI : ¬ (k : Int) < k := by omega
   have HA : Hid (foldX (xs.take k) q = foldX xs q) := by unfold Hid; rw [← HN.out, List.take_length]
   rw [HA.out] at HS hfok HF ⊢
   have hl4 : Hid _ := HS.out.x.load HF.out
   have hr5 := HS.out.r.setRow ((foldX xs q).getD cg0)
   have hB5 := below_setRow HS.out.bel (show w.heap.size ≤ w.heap.size + 1 by omega) (cgC ((foldX xs q).getD cg0))
   go_wp2_with (first
    | (refine wpList_loadG rfl 119 _ rfl _ rfl _ hl4.out ?_)
    | (refine wpList_storeG rfl _ _ rfl (w.heap.size + 1) ((foldX xs q).getD cg0) cg0 rfl rfl HF.out len0 HS.out.r ?_))
   exact ret_cg2 rfl (w.heap.size + 1) _ HF.out rfl _ rfl hr5 rfl ⟨rfl, hB5⟩
theorem foldX_any (xs : List Cg) (q : Pl) : (foldX xs q).isSome = xs.any fun y => plEq y.pl q := by
 suffices h : ∀ (xs : List Cg) (a : Option Cg), (xs.foldl (stepX q) a).isSome = (a.isSome || xs.any fun y => plEq y.pl q) by
  have := h xs none
  simpa [foldX] using this
 intro xs
 induction xs with
 | nil => intro a; simp
 | cons x xs ih =>
  intro a
  rw [List.foldl_cons, ih, List.any_cons]
  unfold stepX
  cases hx : plEq x.pl q <;> simp
def upX (s : Dl) (xs : List Cg) (k : Nat) : List Cg := s.L.filter fun c => (xs.take k).any fun y => plEq y.pl c.pl
theorem upX_zero (s : Dl) (xs : List Cg) : upX s xs 0 = [] := by simp [upX]
theorem upX_mem {s : Dl} {xs : List Cg} {k : Nat} {c : Cg} : c ∈ upX s xs k ↔ c ∈ s.L ∧ ∃ y ∈ xs.take k, y.pl = c.pl := by
 unfold upX
 rw [List.mem_filter, List.any_eq_true]
 constructor
 ·rintro ⟨h, y, hy, e⟩; exact ⟨h, y, hy, plEq_iff.1 e⟩
 ·rintro ⟨h, y, hy, e⟩; exact ⟨h, y, hy, plEq_iff.2 e⟩
theorem upX_ok {s : Dl} (h : DlOk s) (xs : List Cg) (k : Nat) : LOk (upX s xs k) := ⟨h.L.rise.sublist List.filter_sublist, fun c hc => h.L.ok c (upX_mem.1 hc).1⟩
theorem upX_len {s : Dl} (xs : List Cg) (k : Nat) : (upX s xs k).length ≤ s.L.length := List.length_filter_le _ _
theorem upX_all {s : Dl} {xs : List Cg} (h : Rel s xs) (hs : DlOk s) : upX s xs xs.length = s.L := by
 unfold upX
 rw [List.take_length, List.filter_eq_self]
 intro c hc
 rw [← foldX_any, ← h.now, (getL_some hs.L.rise).2 ⟨hc, rfl⟩]
 rfl
theorem Rel.there {s : Dl} {xs : List Cg} (h : Rel s xs) (hs : DlOk s) {c : Cg} (hc : c ∈ xs) : ∃ x, foldX xs c.pl = some x ∧ x ∈ s.L ∧ x.pl = c.pl ∧ CgOk x := by
 have h1 := foldX_any xs c.pl
 rw [show (xs.any fun y => plEq y.pl c.pl) = true from List.any_eq_true.2 ⟨c, hc, plEq_iff.2 rfl⟩] at h1
 obtain ⟨x, hx⟩ := Option.isSome_iff_exists.1 h1
 have h2 := h.now c.pl
 rw [hx] at h2
 obtain ⟨h3, h4⟩ := (getL_some hs.L.rise).1 h2
 exact ⟨x, hx, h3, h4, hs.L.ok x h3⟩
theorem take_mem_succ {xs : List Cg} {k : Nat} (hk : k < xs.length) {y : Cg} : y ∈ xs.take (k + 1) ↔ y ∈ xs.take k ∨ y = xs.getD k cg0 := by
 rw [List.take_add_one, List.mem_append, List.getD_eq_getElem?_getD, List.getElem?_eq_getElem hk]
 simp
theorem upX_same {s : Dl} {xs : List Cg} (hs : DlOk s) {k : Nat} (hk : k < xs.length) {x : Cg} (hx : x ∈ upX s xs k) (e : x.pl = (xs.getD k cg0).pl) : upX s xs (k + 1) = upX s xs k := by
 refine rise_ext (upX_ok hs xs (k + 1)).rise (upX_ok hs xs k).rise fun c => ?_
 rw [upX_mem, upX_mem]
 constructor
 ·rintro ⟨h1, y, hy, h2⟩
  rcases (take_mem_succ hk).1 hy with hy | rfl
  ·exact ⟨h1, y, hy, h2⟩
  ·obtain ⟨hx1, z, hz, h3⟩ := upX_mem.1 hx
   have := rise_one hs.L.rise hx1 h1 (e.trans h2)
   subst this
   exact ⟨h1, z, hz, h3⟩
 ·rintro ⟨h1, y, hy, h2⟩
  exact ⟨h1, y, (take_mem_succ hk).2 (.inl hy), h2⟩
theorem upX_more {s : Dl} {xs : List Cg} (hs : DlOk s) {k : Nat} (hk : k < xs.length) {x : Cg} (hx : x ∈ s.L) (e : x.pl = (xs.getD k cg0).pl) (hn : ∀ y ∈ upX s xs k, y.pl ≠ x.pl) : upX s xs (k + 1) = setL (upX s xs k) x := by
 refine rise_ext (upX_ok hs xs (k + 1)).rise (setL_ok (upX_ok hs xs k) (hs.L.ok x hx)).rise fun c => ?_
 rw [setL_mem, upX_mem]
 constructor
 ·rintro ⟨h1, y, hy, h2⟩
  rcases (take_mem_succ hk).1 hy with hy | rfl
  ·have hc : c ∈ upX s xs k := upX_mem.2 ⟨h1, y, hy, h2⟩
   exact .inr ⟨hc, hn c hc⟩
  ·exact .inl (rise_one hs.L.rise h1 hx (h2.symm.trans e.symm))
 ·rintro (rfl | ⟨hc, _⟩)
  ·exact ⟨hx, _, (take_mem_succ hk).2 (.inr rfl), e.symm⟩
  ·obtain ⟨h1, y, hy, h2⟩ := upX_mem.1 hc
   exact ⟨h1, y, (take_mem_succ hk).2 (.inl hy), h2⟩
theorem ins_at {x : Cg} : ∀ {A : List Cg}, Rise A → (∀ y ∈ A, y.pl ≠ x.pl) → ∀ i, i ≤ A.length → (∀ j, j < i → cmpP (A.getD j cg0).pl x.pl = -1) → (i < A.length → cmpP (A.getD i cg0).pl x.pl ≠ -1) → A.take i ++ x :: A.drop i = insC x A
 | [], _, _, i, hi, _, _ => by simp [insC]
 | y :: r, hA, hne, 0, _, _, hhi => by
  have h1 := hhi (by simp)
  simp only [List.getD_cons_zero] at h1
  have h2 := cmp_other h1 (hne y (by simp))
  simp [insC, h2]
 | y :: r, hA, hne, i + 1, hi, hlo, hhi => by
  obtain ⟨hA1, hA2⟩ := List.pairwise_cons.1 hA
  have h0 := hlo 0 (by omega)
  simp only [List.getD_cons_zero] at h0
  have hno : cmpP x.pl y.pl ≠ -1 := fun h => cmp_irr _ (cmp_tr h0 h)
  have ih := ins_at (x := x) hA2 (fun z hz => hne z (by simp [hz])) i (by simpa using hi) (fun j hj => by have := hlo (j + 1) (by omega); simpa using this) (fun h => by have := hhi (by simpa using h); simpa using this)
  simp only [List.take_succ_cons, List.drop_succ_cons, List.cons_append, insC, if_neg hno, ih]
theorem set_at {x : Cg} {A : List Cg} (hA : Rise A) (hne : ∀ y ∈ A, y.pl ≠ x.pl) {i : Nat} (hi : i ≤ A.length) (hlo : ∀ j, j < i → cmpP (A.getD j cg0).pl x.pl = -1) (hhi : i < A.length → cmpP (A.getD i cg0).pl x.pl ≠ -1) : A.take i ++ x :: A.drop i = setL A x := by
 unfold setL
 rw [show delL A x.pl = A from by unfold delL; rw [List.filter_eq_self]; intro y hy; have := hne y hy; cases h : plEq y.pl x.pl; rfl; exact absurd (plEq_iff.1 h) this]
 exact ins_at hA hne i hi hlo hhi
theorem none_at {q : Pl} {A : List Cg} (hA : Rise A) {i : Nat} (hi : i ≤ A.length) (hlo : ∀ j, j < i → cmpP (A.getD j cg0).pl q = -1) (hhi : i < A.length → cmpP (A.getD i cg0).pl q ≠ -1 ∧ (A.getD i cg0).pl ≠ q) : ∀ y ∈ A, y.pl ≠ q := by
 intro y hy
 obtain ⟨j, hj, rfl⟩ := List.mem_iff_getElem.1 hy
 have ej : A[j] = A.getD j cg0 := by rw [List.getD_eq_getElem?_getD, List.getElem?_eq_getElem hj]; rfl
 rw [ej]
 by_cases h1 : j < i
 ·exact cmp_ne (hlo j h1)
 ·obtain ⟨h2, h3⟩ := hhi (by omega)
  by_cases h4 : j = i
  ·rw [h4]; exact h3
  ·have h5 : cmpP q (A.getD i cg0).pl = -1 := cmp_other h2 h3
   have h6 : cmpP (A.getD i cg0).pl (A.getD j cg0).pl = -1 := by
    have := List.pairwise_iff_getElem.1 hA i j (by omega) hj (by omega)
    rw [List.getD_eq_getElem?_getD, List.getD_eq_getElem?_getD, List.getElem?_eq_getElem hj, List.getElem?_eq_getElem (by omega : i < A.length)]
    exact this
   exact (cmp_ne (cmp_tr h5 h6)).symm
theorem flatX_take {xs : List Cg} (h : ∀ c ∈ xs, CgOk c) (j : Nat) : (xs.flatMap cgL).take (j * 46) = (xs.take j).flatMap cgL := by
 induction xs generalizing j with
 | nil => simp
 | cons x xs ih =>
  cases j with
  | zero => simp
  | succ j =>
   have hl := cgL_len (h x (by simp)).pt.ch.1
   rw [List.take_succ_cons, List.flatMap_cons, List.flatMap_cons, List.take_append, hl, List.take_of_length_le (by rw [hl]; omega), show (j + 1) * 46 - 46 = j * 46 by omega, ih (fun c hc => h c (by simp [hc]))]
def RdC (w : World) (u : Value) (B : List Cg) : Prop := ∃ a c, u = .slice a B.length c ∧ (a = none → c = 0) ∧ (0 < B.length → ∃ g off, a = some ⟨g, off, none⟩ ∧ g < w.heap.size ∧ ∀ j x, (B.flatMap cgL)[j]? = some x → w.cell? ⟨g, off + j, none⟩ = some x)
theorem RdC.below {w w' : World} {u : Value} {B : List Cg} (h : RdC w u B) (hb : Below w.heap.size w w') : RdC w' u B := by
 obtain ⟨a, c, rfl, h1, h2⟩ := h
 refine ⟨a, c, rfl, h1, fun hp => ?_⟩
 obtain ⟨g, off, e, h3, h4⟩ := h2 hp
 exact ⟨g, off, e, Nat.lt_of_lt_of_le h3 hb.size, fun j x hj => (hb.cell (p := ⟨g, off + j, none⟩) h3).trans (h4 j x hj)⟩
theorem rdC_own {w : World} {base : Nat} {u : Value} {B : List Cg} (h : w.ownsRow base 119 46 u B.length (B.flatMap cgL)) : RdC w u B := by
 obtain ⟨h1, ⟨rfl, h2⟩ | ⟨g, cap, cur, rfl, h3, h4, h5, h6, h7, h8⟩⟩ := h
 ·exact ⟨none, 0, by rw [h2], fun _ => rfl, fun h => by omega⟩
 ·refine ⟨_, _, rfl, fun e => (by cases e), fun hp => ⟨g, 0, rfl, (Array.getElem?_eq_some_iff.1 h4).1, fun j x hj => ?_⟩⟩
  rw [cell_of_row _ _ _ _ _ (0, 0) h4, Nat.zero_add, ← Array.getElem?_toList]
  rw [← h8] at hj
  rw [List.getElem?_take] at hj
  split at hj
  ·exact hj
  ·cases hj
theorem flatC_len {B : List Cg} (h : ∀ c ∈ B, CgOk c) : (B.flatMap cgL).length = B.length * 46 := by
 induction B with
 | nil => rfl
 | cons x B ih => rw [List.flatMap_cons, List.length_append, cgL_len (h x (by simp)).pt.ch.1, ih (fun c hc => h c (by simp [hc])), List.length_cons]; omega
theorem flatC_drop {xs : List Cg} (h : ∀ c ∈ xs, CgOk c) (t : Nat) : (xs.flatMap cgL).drop (t * 46) = (xs.drop t).flatMap cgL := by
 induction xs generalizing t with
 | nil => simp
 | cons x xs ih =>
  cases t with
  | zero => simp
  | succ t =>
   have hl := cgL_len (h x (by simp)).pt.ch.1
   rw [List.drop_succ_cons, List.flatMap_cons, List.drop_append, hl, List.drop_of_length_le (by rw [hl]; omega), List.nil_append, show (t + 1) * 46 - 46 = t * 46 by omega, ih (fun c hc => h c (by simp [hc]))]
def cutC (a : Option Addr) (c t : Nat) : Option Addr := if c = t then a else a.map (·.add (t * 46))
theorem rdC_to {w : World} {a : Option Addr} {n c : Nat} {B : List Cg} (hB : ∀ c ∈ B, CgOk c) (h : RdC w (.slice a n c) B) (f : Nat) (hf : f ≤ n) : RdC w (.slice a f c) (B.take f) := by
 obtain ⟨a', c', e, h1, h2⟩ := h
 simp only [Value.slice.injEq] at e
 obtain ⟨rfl, rfl, rfl⟩ := e
 refine ⟨a, c, by rw [List.length_take, Nat.min_eq_left hf], h1, fun hp => ?_⟩
 rw [List.length_take, Nat.min_eq_left hf] at hp
 obtain ⟨g, off, e, h3, h4⟩ := h2 (by omega)
 refine ⟨g, off, e, h3, fun j x hj => h4 j x ?_⟩
 rw [← flatX_take hB, List.getElem?_take] at hj
 split at hj
 ·exact hj
 ·cases hj
theorem rdC_cut {w : World} {a : Option Addr} {n c : Nat} {B : List Cg} (hB : ∀ c ∈ B, CgOk c) (h : RdC w (.slice a n c) B) (t : Nat) (ht : t ≤ n) (hc : n ≤ c) : RdC w (.slice (cutC a c t) (n - t) (c - t)) (B.drop t) := by
 obtain ⟨a', c', e, h1, h2⟩ := h
 simp only [Value.slice.injEq] at e
 obtain ⟨rfl, rfl, rfl⟩ := e
 refine ⟨_, _, by rw [List.length_drop], fun hn => ?_, fun hp => ?_⟩
 ·unfold cutC at hn
  split at hn
  ·have := h1 hn; omega
  ·have := h1 (by cases a with | none => rfl | some _ => cases hn); omega
 ·rw [List.length_drop] at hp
  obtain ⟨g, off, e, h3, h4⟩ := h2 (by omega)
  refine ⟨g, off + t * 46, ?_, h3, fun j x hj => ?_⟩
  ·unfold cutC
   rw [if_neg (by omega), e]
   simp [Addr.add]
  ·rw [Nat.add_assoc]
   refine h4 (t * 46 + j) x ?_
   rw [← flatC_drop hB, List.getElem?_drop] at hj
   exact hj
structure OwnC (base : Nat) (w : World) (v : Value) (A : List Cg) : Prop where
 own : w.ownsRow base 119 46 v A.length (A.flatMap cgL)
theorem info_cg : (Tryz.prog.info? 119).map (fun i => (i.zero, i.size, i.bytes)) = some (some (.agg (cgC cg0)), 46, 136) := by kernel_rfl
theorem wpList_append_cg {w : World} {ops : Array Oper} {rest : List Oper} {o : Oper} {a : Act} {Q : Exit → Act → World → Prop} (hgd : o.guard = none) (s x : Operand)
  (ho : o.op = .call { callee := .builtin .append, args := #[s, x], argTypes := #[104, 104] }) (base : Nat)
  (v : Value) (A : List Cg) (hs : a.eval s = v) (hown : w.ownsRow base 119 46 v A.length (A.flatMap cgL)) (u : Value) (B : List Cg) (hB : ∀ c ∈ B, CgOk c) (hx : a.eval x = u) (hrd : RdC w u B)
  (hlen : A.length + B.length ≤ 1000000) (hbase : base ≤ w.heap.size)
  (h : ∀ v' w', OwnC base w' v' (A ++ B) → w.grownBy w' v.ownBlock → wpList Tryz.prog ops Q rest (a.put o.dst v') w') : wpList Tryz.prog ops Q (o :: rest) a w := by
 obtain ⟨i0, hi, hz0, hz1, hz2⟩ := info3 info_cg
 obtain ⟨ad, cap, rfl, hn, h4⟩ := hrd
 cases ad with
 | none =>
  have hl0 : B = [] := by
   cases B with
   | nil => rfl
   | cons y r => obtain ⟨g, off, e, _⟩ := h4 (by simp); cases e
  subst hl0
  have hc0 := hn rfl
  subst hc0
  refine wpList_append_own_none hgd s x 104 ho base 119 i0 46 Tryz.underlying104 hi v _ _ hs hown hx ?_
  exact h v w ⟨by rw [List.append_nil]; exact hown⟩ (World.grownBy.refl _ _)
 | some ad =>
  refine wpList_append_own w hgd s x 104 ho base 119 i0 _ 46 136 Tryz.underlying104 hi hz0 hz1 hz2 (cgC_size cg0_ok.pt.ch.1) (by decide) v _ _ hs hown ad B.length cap (B.flatMap cgL) hx (flatC_len hB) ?_ (fun u hu => by obtain ⟨x, _, hx⟩ := List.mem_flatMap.1 hu; exact one_cgL x u hx) ?_ ?_ hbase ?_
  ·intro j u hj
   have hjl := (List.getElem?_eq_some_iff.1 hj).1
   have hne : 0 < B.length := by
    cases B with
    | nil => simp at hjl
    | cons _ _ => simp
   obtain ⟨g, off, e1, _, hcell⟩ := h4 hne
   cases e1
   have hadd : (⟨g, off, none⟩ : Addr).add j = ⟨g, off + j, none⟩ := by unfold Addr.add; split <;> simp_all
   rw [hadd]
   exact hcell j u hj
  ·unfold maxLen; omega
  ·omega
  ·intro v' w' h5 h6 _
   exact h v' w' ⟨by rw [List.length_append, List.flatMap_append]; exact h5⟩ h6
theorem wpList_buildS {w w' : World} {ops : Array Oper} {rest : List Oper} {o : Oper} {a : Act} {Q : Exit → Act → World → Prop} {v : Value} (hgd : o.guard = none) (t : TypeId) (m : Nat) (parts : Array (Nat × Operand)) (ho : o.op = .buildSlice t m parts) (vs : Array (Nat × Value)) (hp : (parts.map fun (i, x) => (i, a.eval x)) = vs)
  (hr : (Instr.buildSlice t m vs).run Tryz.prog w = .ok v w') (h : wpList Tryz.prog ops Q rest (a.put o.dst v) w') : wpList Tryz.prog ops Q (o :: rest) a w :=
 wpList_plain hgd fun K hK => wp_buildS t m parts ho vs hp hr (hK _ _ h)
theorem cut_run (w : World) (ua : Option Addr) (n uc i : Nat) (hi : i ≤ n) (hc : n ≤ uc) (hn : ua = none → uc = 0) : (Instr.sliceAt 104 (.slice ua n uc) (some (.int .i64 i)) none none).run Tryz.prog w = .ok (.slice (cutC ua uc i) (n - i) (uc - i)) w := by
 have u := Tryz.underlying104
 have h1 : (i : Int) ≤ (n : Int) := by omega
 have h2 : (n : Int) ≤ (uc : Int) := by omega
 have h3 : (i : Int) ≤ (uc : Int) := by omega
 unfold cutC
 go_simp
theorem wpList_sliceC {w : World} {ops : Array Oper} {rest : List Oper} {o : Oper} {a : Act} {Q : Exit → Act → World → Prop} (hgd : o.guard = none) (x lo : Operand) (ho : o.op = .slice 104 x (some lo) none none) (ua : Option Addr) (n uc i : Nat) (hx : a.eval x = .slice ua n uc) (hlo : a.eval lo = .int .i64 i) (hi : i ≤ n) (hc : n ≤ uc) (hn : ua = none → uc = 0)
  (h : wpList Tryz.prog ops Q rest (a.put o.dst (.slice (cutC ua uc i) (n - i) (uc - i))) w) : wpList Tryz.prog ops Q (o :: rest) a w := by
 refine wpList_plain hgd fun K hK => ?_
 have hr := cut_run w ua n uc i hi hc hn
 unfold Oper.wp execOp
 simp only [ho, Sem.run_bind, Sem.run_pure, Result.andThen_ok, Option.map_some, Option.map_none, hx, hlo, hr]
 exact hK _ _ h
theorem rowC_below {w w' : World} {base : Nat} {v : Value} {A : List Cg} (h : w.ownsRow base 119 46 v A.length (A.flatMap cgL)) (hb : Below w.heap.size w w') : w'.ownsRow base 119 46 v A.length (A.flatMap cgL) :=
 own_keep h hb.size fun q hq _ => hb.block q (World.ownsRow.lt h q hq).2
theorem rowC_mono {w : World} {base base' : Nat} {v : Value} {A : List Cg} (h : w.ownsRow base 119 46 v A.length (A.flatMap cgL)) (hb : base' ≤ base) : w.ownsRow base' 119 46 v A.length (A.flatMap cgL) := by
 obtain ⟨h1, h2 | ⟨g, cap, cur, h2, h3, h4⟩⟩ := h
 ·exact ⟨h1, .inl h2⟩
 ·exact ⟨h1, .inr ⟨g, cap, cur, h2, by omega, h4⟩⟩
theorem toList_inj {s t : ByteArray} (h : s.toList = t.toList) : s = t := by
 rw [ByteArray.toList_eq, ByteArray.toList_eq] at h
 obtain ⟨d⟩ := s
 obtain ⟨d'⟩ := t
 exact congrArg ByteArray.mk (Array.ext' h)
theorem refCompare_any (w : World) (a b : Pl) : Calls Tryz.prog 102 #[plV a, plV b] w fun e w' => e = .returned (.int .i64 (cmpP a b)) ∧ Below w.heap.size w w' := by
 obtain ⟨i, k, s, c⟩ := a
 obtain ⟨i', k', s', c'⟩ := b
 unfold plV cmpP
 dsimp only
 by_cases la0 : i < i'
 ·rw [show orL _ = -1 from by simp [orL, cmpI, cmpS, la0]]
  go_enter Tryz.func102, Tryz.ntmps102
  go_wp2
  go_ret
  exact ⟨rfl, ((Below.refl _ _).alloc (Nat.le_refl _) _).alloc (by simp) _⟩
 ·by_cases lb0 : i' < i
  ·rw [show orL _ = 1 from by simp [orL, cmpI, cmpS, la0, lb0]]
   go_enter Tryz.func102, Tryz.ntmps102
   go_wp2
   go_ret
   exact ⟨rfl, ((Below.refl _ _).alloc (Nat.le_refl _) _).alloc (by simp) _⟩
  ·obtain rfl : i = i' := by omega
   clear la0 lb0
   by_cases la1 : k < k'
   ·rw [show orL _ = -1 from by simp [orL, cmpI, cmpS, la1]]
    go_enter Tryz.func102, Tryz.ntmps102
    go_wp2
    go_ret
    exact ⟨rfl, ((Below.refl _ _).alloc (Nat.le_refl _) _).alloc (by simp) _⟩
   ·by_cases lb1 : k' < k
    ·rw [show orL _ = 1 from by simp [orL, cmpI, cmpS, la1, lb1]]
     go_enter Tryz.func102, Tryz.ntmps102
     go_wp2
     go_ret
     exact ⟨rfl, ((Below.refl _ _).alloc (Nat.le_refl _) _).alloc (by simp) _⟩
    ·obtain rfl : k = k' := by omega
     clear la1 lb1
     cases la2 : Op.bytesLess s.toList s'.toList
     ·cases lb2 : (s.toList == s'.toList)
      ·have lb2' : ¬ s.toList = s'.toList := by simpa using lb2
       rw [show orL _ = 1 from by simp [orL, cmpI, cmpS, la2, lb2']]
       go_enter Tryz.func102, Tryz.ntmps102
       go_wp2
       go_ret
       exact ⟨rfl, ((Below.refl _ _).alloc (Nat.le_refl _) _).alloc (by simp) _⟩
      ·obtain rfl : s = s' := toList_inj (by simpa using lb2)
       clear lb2
       by_cases la3 : c < c'
       ·rw [show orL _ = -1 from by simp [orL, cmpI, cmpS, la3, la2]]
        go_enter Tryz.func102, Tryz.ntmps102
        go_wp2
        go_ret
        exact ⟨rfl, ((Below.refl _ _).alloc (Nat.le_refl _) _).alloc (by simp) _⟩
       ·by_cases lb3 : c' < c
        ·rw [show orL _ = 1 from by simp [orL, cmpI, cmpS, la3, lb3, la2]]
         go_enter Tryz.func102, Tryz.ntmps102
         go_wp2
         go_ret
         exact ⟨rfl, ((Below.refl _ _).alloc (Nat.le_refl _) _).alloc (by simp) _⟩
        ·obtain rfl : c = c' := by omega
         clear la3 lb3
         rw [show orL _ = 0 from by simp [orL, cmpI, cmpS, la2]]
         go_enter Tryz.func102, Tryz.ntmps102
         go_wp2
         go_ret
         exact ⟨rfl, ((Below.refl _ _).alloc (Nat.le_refl _) _).alloc (by simp) _⟩
     ·rw [show orL _ = -1 from by simp [orL, cmpI, cmpS, la2]]
      go_enter Tryz.func102, Tryz.ntmps102
      go_wp2
      go_ret
      exact ⟨rfl, ((Below.refl _ _).alloc (Nat.le_refl _) _).alloc (by simp) _⟩
open Go.Proofs
open Go.RowKit Go.Sort Go.Shelf
def Tryz.sortG_ren : Go.Shelf.Ren := ⟨fun | 6 => 146 | 15 => 183 | 14 => 182 | 28 => 221 | 29 => 222 | 20 => 213 | 21 => 214 | 22 => 215 | 23 => 216 | 24 => 217 | 25 => 218 | 26 => 219 | 27 => 220 | 46 => 241 | 47 => 242 | 48 => 243 | 49 => 244 | 50 => 245 | 57 => 266 | n => n, fun | 22 => 104 | 24 => 119 | 25 => 177 | 3 => 3 | 39 => 274 | 0 => 0 | 53 => 23 | 55 => 248 | 4 => 4 | 46 => 303 | 45 => 302 | 50 => 287 | 5 => 5 | 9 => 9 | 66 => 327 | 70 => 331 | 76 => 349 | 77 => 350 | n => n, fun | n => n⟩
theorem Tryz.sortG : Go.Proofs.SlLaysF0.n6 Tryz.prog Tryz.sortG_ren := {
  mixed := by kernel_rfl
  f6 := ⟨Tryz.f146.name, by decide, Tryz.func146.trans (congrArg some (by kernel_rfl))⟩
  f14 := ⟨Tryz.f182.name, by decide, Tryz.func182.trans (congrArg some (by kernel_rfl))⟩
  f15 := Tryz.func183.trans (congrArg some (by kernel_rfl))
  f20 := ⟨Tryz.f213.name, by decide, Tryz.func213.trans (congrArg some (by kernel_rfl))⟩
  f21 := ⟨Tryz.f214.name, by decide, Tryz.func214.trans (congrArg some (by kernel_rfl))⟩
  f22 := ⟨Tryz.f215.name, by decide, Tryz.func215.trans (congrArg some (by kernel_rfl))⟩
  f23 := ⟨Tryz.f216.name, by decide, Tryz.func216.trans (congrArg some (by kernel_rfl))⟩
  f24 := ⟨Tryz.f217.name, by decide, Tryz.func217.trans (congrArg some (by kernel_rfl))⟩
  f25 := ⟨Tryz.f218.name, by decide, Tryz.func218.trans (congrArg some (by kernel_rfl))⟩
  f26 := ⟨Tryz.f219.name, by decide, Tryz.func219.trans (congrArg some (by kernel_rfl))⟩
  f27 := ⟨Tryz.f220.name, by decide, Tryz.func220.trans (congrArg some (by kernel_rfl))⟩
  f28 := Tryz.func221.trans (congrArg some (by kernel_rfl))
  f29 := Tryz.func222.trans (congrArg some (by kernel_rfl))
  f46 := ⟨Tryz.f241.name, by decide, Tryz.func241.trans (congrArg some (by kernel_rfl))⟩
  f47 := Tryz.func242.trans (congrArg some (by kernel_rfl))
  f48 := Tryz.func243.trans (congrArg some (by kernel_rfl))
  f49 := ⟨Tryz.f244.name, by decide, Tryz.func244.trans (congrArg some (by kernel_rfl))⟩
  f50 := ⟨Tryz.f245.name, by decide, Tryz.func245.trans (congrArg some (by kernel_rfl))⟩
  f57 := ⟨Tryz.f266.name, by decide, Tryz.func266.trans (congrArg some (by kernel_rfl))⟩
  t0 := Tryz.underlying0
  a0 := Tryz.isAgg0
  z0 := Tryz.sizeOf0
  v0 := Tryz.zeroValue0
  t3 := Tryz.underlying3
  a3 := Tryz.isAgg3
  z3 := Tryz.sizeOf3
  v3 := Tryz.zeroValue3
  t4 := Tryz.underlying4
  a4 := Tryz.isAgg4
  z4 := Tryz.sizeOf4
  v4 := Tryz.zeroValue4
  t5 := Tryz.underlying5
  a5 := Tryz.isAgg5
  z5 := Tryz.sizeOf5
  v5 := Tryz.zeroValue5
  t9 := Tryz.underlying9
  a9 := Tryz.isAgg9
  z9 := Tryz.sizeOf9
  v9 := Tryz.zeroValue9
  t22 := Tryz.underlying104
  a22 := Tryz.isAgg104
  z22 := Tryz.sizeOf104
  v22 := Tryz.zeroValue104
  t25 := Tryz.underlying177
  a25 := Tryz.isAgg177
  z25 := Tryz.sizeOf177
  v25 := Tryz.zeroValue177
  t39 := Tryz.underlying274
  a39 := Tryz.isAgg274
  z39 := Tryz.sizeOf274
  v39 := Tryz.zeroValue274
  t45 := Tryz.underlying302
  a45 := Tryz.isAgg302
  z45 := Tryz.sizeOf302
  v45 := Tryz.zeroValue302
  t46 := Tryz.underlying303
  a46 := Tryz.isAgg303
  z46 := Tryz.sizeOf303
  v46 := Tryz.zeroValue303
  t50 := Tryz.underlying287
  a50 := Tryz.isAgg287
  z50 := Tryz.sizeOf287
  v50 := Tryz.zeroValue287
  t53 := Tryz.underlying23
  a53 := Tryz.isAgg23
  z53 := Tryz.sizeOf23
  v53 := Tryz.zeroValue23
  t55 := Tryz.underlying248
  a55 := Tryz.isAgg248
  z55 := Tryz.sizeOf248
  v55 := Tryz.zeroValue248
  t66 := Tryz.underlying327
  a66 := Tryz.isAgg327
  z66 := Tryz.sizeOf327
  v66 := Tryz.zeroValue327
  t70 := Tryz.underlying331
  a70 := Tryz.isAgg331
  z70 := Tryz.sizeOf331
  v70 := Tryz.zeroValue331
  t76 := Tryz.underlying349
  a76 := Tryz.isAgg349
  z76 := Tryz.sizeOf349
  v76 := Tryz.zeroValue349
  t77 := Tryz.underlying350
  a77 := Tryz.isAgg350
  z77 := Tryz.sizeOf350
  v77 := Tryz.zeroValue350 }
theorem compareG_any (w : World) (a b : Pl) : Calls Tryz.prog 101 #[plV a, plV b] w fun e w' => e = .returned (.int .i64 (cmpP a b)) ∧ ∃ q os, w' = grow (w.drewN q) os := by
 obtain ⟨w1, hw1⟩ : ∃ w1, w1 = (w.alloc (.cells #[.int .u32 a.ino, .int .i64 a.part, .string a.name, .int .u32 a.chunk] 114)).alloc (.cells #[.int .u32 b.ino, .int .i64 b.part, .string b.name, .int .u32 b.chunk] 114) := ⟨_, rfl⟩
 have hb1 : Below w.heap.size w w1 := by rw [hw1]; exact ((Below.refl _ _).alloc (Nat.le_refl _) _).alloc (by simp) _
 have ha1 : PlAt w1 w.heap.size a := by
  rw [hw1]
  exact (PlAt.laid w a).below ((Below.refl _ _).alloc (Nat.le_refl _) _)
 have hb1' : PlAt w1 (w.heap.size + 1) b := by
  rw [hw1]
  have := PlAt.laid (w.alloc (.cells (plCells a) 114)) b
  have hs : (w.alloc (.cells (plCells a) 114)).heap.size = w.heap.size + 1 := by simp
  rw [hs] at this
  exact this
 have HW : Hid (w1 = grow w #[.cells #[.int .u32 a.ino, .int .i64 a.part, .string a.name, .int .u32 a.chunk] 114, .cells #[.int .u32 b.ino, .int .i64 b.part, .string b.name, .int .u32 b.chunk] 114]) := by
  unfold Hid; rw [hw1, alloc_eq_grow, alloc_eq_grow, grow_grow]; rfl
 unfold plV cmpP
 have hOr : ∀ (x0 x1 x2 x3 : Int), Calls Tryz.prog 148 #[.slice (some ⟨w1.heap.size, 0, none⟩) 4 4] (w1.alloc (.cells #[.int .i64 x0, .int .i64 x1, .int .i64 x2, .int .i64 x3] 3)).drew fun e w' => e = .returned (.int .i64 (orL [x0, x1, x2, x3])) ∧ (w1.alloc (.cells #[.int .i64 x0, .int .i64 x1, .int .i64 x2, .int .i64 x3] 3)).drew = w' := by
  intro x0 x1 x2 x3
  have hg : (w1.alloc (.cells #[.int .i64 x0, .int .i64 x1, .int .i64 x2, .int .i64 x3] 3)).drew.heap[w1.heap.size]? = some (.cells #[.int .i64 x0, .int .i64 x1, .int .i64 x2, .int .i64 x3] 3 (0, 0)) := heap_alloc_new w1 _
  refine or_any _ w1.heap.size 4 [x0, x1, x2, x3] (by simp) ?_
  intro j hj
  rw [cell_of_row _ _ j _ _ (0, 0) hg]
  match j, hj with
  | 0, _ => rfl
  | 1, _ => rfl
  | 2, _ => rfl
  | 3, _ => rfl
 have q0 : ∀ W, Below w1.heap.size w1 W → W.cell? ⟨w.heap.size, 0, none⟩ = some (.int .u32 a.ino) := fun W hW => (ha1.below hW).c0
 have q1 : ∀ W, Below w1.heap.size w1 W → W.cell? ⟨w.heap.size, 1, none⟩ = some (.int .i64 a.part) := fun W hW => (ha1.below hW).c1
 have q2 : ∀ W, Below w1.heap.size w1 W → W.cell? ⟨w.heap.size, 2, none⟩ = some (.string a.name) := fun W hW => (ha1.below hW).c2
 have q3 : ∀ W, Below w1.heap.size w1 W → W.cell? ⟨w.heap.size, 3, none⟩ = some (.int .u32 a.chunk) := fun W hW => (ha1.below hW).c3
 have r0 : ∀ W, Below w1.heap.size w1 W → W.cell? ⟨w.heap.size + 1, 0, none⟩ = some (.int .u32 b.ino) := fun W hW => (hb1'.below hW).c0
 have r1 : ∀ W, Below w1.heap.size w1 W → W.cell? ⟨w.heap.size + 1, 1, none⟩ = some (.int .i64 b.part) := fun W hW => (hb1'.below hW).c1
 have r2 : ∀ W, Below w1.heap.size w1 W → W.cell? ⟨w.heap.size + 1, 2, none⟩ = some (.string b.name) := fun W hW => (hb1'.below hW).c2
 have r3 : ∀ W, Below w1.heap.size w1 W → W.cell? ⟨w.heap.size + 1, 3, none⟩ = some (.int .u32 b.chunk) := fun W hW => (hb1'.below hW).c3
 go_enter Tryz.func101, Tryz.ntmps101
 go_wp2_with fail
 rw [← hw1]
 clear hw1 ha1 hb1'
 refine wp_region_noPanic ?_
 go_region_held (fun W => Below w1.heap.size w1 W) (first | assumption | exact (Below.refl _ _).drew | exact Below.alloc (by assumption) (Below.size (by assumption)) _ | exact keep2 (by assumption) (by assumption))
  (first
   | (go_at_call 149; refine (cmpU_any _ _ _).mono ?_; rintro e w2 ⟨rfl, rfl⟩)
   | (go_at_call 150; refine (cmpI_any _ _ _).mono ?_; rintro e w2 ⟨rfl, rfl⟩)
   | (go_at_call 151; refine (cmpS_any _ _ _).mono ?_; rintro e w2 ⟨rfl, rfl⟩)
   | (go_at_call 148; refine (hOr _ _ _ _).mono ?_; rintro e w3 ⟨rfl, rfl⟩))
 refine NoPanic.normal ?_
 clear q0 q1 q2 q3 r0 r1 r2 r3 hOr
 go_wp2
 go_ret
 refine ⟨rfl, 1, #[.cells #[.int .u32 a.ino, .int .i64 a.part, .string a.name, .int .u32 a.chunk] 114, .cells #[.int .u32 b.ino, .int .i64 b.part, .string b.name, .int .u32 b.chunk] 114] ++ #[.cells #[.int .i64 (cmpI a.ino b.ino), .int .i64 (cmpI a.part b.part), .int .i64 (cmpS a.name b.name), .int .i64 (cmpI a.chunk b.chunk)] 3], ?_⟩
 rw [HW.out, alloc_eq_grow, grow_grow]
 rfl
structure CgK where
 c : Cg
 ok : CgOk c
def ckL (x : CgK) : List Value := cgL x.1
theorem ckL_len (x : CgK) : (ckL x).length = 46 := cgL_len x.2.pt.ch.1
def cmpK (x y : CgK) : Int := cmpP x.1.pl y.1.pl
theorem all1_any (w : World) (x y : CgK) : Calls Tryz.prog 100 #[.agg (ckL x).toArray, .agg (ckL y).toArray] w fun e w' => e = .returned (.int .i64 (cmpK x y)) ∧ ∃ q os, w' = grow (w.drewN q) os := by
 have hx1 := (CgAt.laid w x.1).below ((Below.refl _ _).alloc (Nat.le_refl _) (.cells (cgC y.1) 119))
 have hy1 := CgAt.laid (w.alloc (.cells (cgC x.1) 119)) y.1
 rw [World.size_alloc] at hy1
 obtain ⟨w1, hw1⟩ : ∃ w1, (w.alloc (.cells (cgC x.1) 119)).alloc (.cells (cgC y.1) 119) = w1 := ⟨_, rfl⟩
 rw [hw1] at hx1 hy1
 have HW : Hid (w1 = grow w #[.cells (cgC x.1) 119, .cells (cgC y.1) 119]) := by
  unfold Hid; rw [← hw1, alloc_eq_grow, alloc_eq_grow, grow_grow]; rfl
 have hp1 : Hid _ := hx1.loadP
 have hp2 : Hid _ := hy1.loadP
 have cc := compareG_any w1 x.1.pl y.1.pl
 unfold cmpK
 show Calls Tryz.prog _ #[.agg (cgC x.1), .agg (cgC y.1)] w _
 go_enter Tryz.func100, Tryz.ntmps100
 go_wp2_with (first
  | (refine wpList_loadG rfl 114 _ rfl _ rfl _ hp1.out ?_)
  | (refine wpList_loadG rfl 114 _ rfl _ rfl _ hp2.out ?_))
 refine cc.mono ?_
 rintro e w2 ⟨rfl, q, os, rfl⟩
 go_wp2
 go_ret
 exact ⟨rfl, q, _, by rw [HW.out]; exact grow_grow (w.drewN q) _ os⟩
theorem ltK (x y : CgK) : ltOf cmpK x y = decide (cmpP x.1.pl y.1.pl = -1) := by
 unfold ltOf cmpK
 congr 1
 apply propext
 rcases cmpP_ord.three x.1.pl y.1.pl with e | e | e <;> rw [e] <;> decide
theorem swoK : SWO (ltOf cmpK) := by
 refine ⟨fun x => ?_, fun x y z h1 h2 => ?_, fun x y z h1 h2 => ?_⟩
 ·rw [ltK]; simpa using cmp_irr x.1.pl
 ·rw [ltK] at *; simp only [decide_eq_true_eq] at *; exact cmp_tr h1 h2
 ·rw [ltK] at *; simp only [decide_eq_false_iff_not] at *
  intro h
  by_cases e : x.1.pl = y.1.pl
  ·rw [e] at h; exact h2 h
  ·exact h2 (cmp_tr (cmp_other h1 e) h)
theorem flat_get {α : Type} [Inhabited α] {k : Nat} (hk0 : 0 < k) {enc : α → List Value} (hk : ∀ x, (enc x).length = k) : ∀ (L : List α) (t : Nat), t < L.length * k → (L.flatMap enc)[t]? = some ((enc (L[t / k]!))[t % k]!)
 | [], t, h => by simp at h
 | x :: L, t, h => by
  rw [List.flatMap_cons]
  by_cases ht : t < k
  ·have hx := hk x
   rw [List.getElem?_append_left (by omega), Nat.div_eq_of_lt ht, Nat.mod_eq_of_lt ht]
   show (enc x)[t]? = some ((enc x)[t]!)
   rw [getElem!_pos (enc x) t (by omega), List.getElem?_eq_getElem (by omega)]
  ·have hx := hk x
   have h2 : t - k < L.length * k := by rw [List.length_cons, Nat.succ_mul] at h; omega
   rw [List.getElem?_append_right (by omega), hx, flat_get hk0 hk L (t - k) h2]
   have e1 : t / k = (t - k) / k + 1 := by
    rw [Nat.div_eq_sub_div hk0 (by omega)]
   have e2 : t % k = (t - k) % k := Nat.mod_eq_sub_mod (by omega)
   rw [e1, e2]
   rfl
theorem flatK_list {α : Type} [Inhabited α] {k : Nat} (hk0 : 0 < k) {enc : α → List Value} (hk : ∀ x, (enc x).length = k) (L : List α) : (flatK enc k L.toArray).toList = L.flatMap enc := by
 have hlen : (L.flatMap enc).length = L.length * k := by
  induction L with
  | nil => simp
  | cons x L ih => rw [List.flatMap_cons, List.length_append, hk, ih, List.length_cons, Nat.succ_mul]; omega
 apply List.ext_getElem?
 intro t
 by_cases ht : t < L.length * k
 ·rw [flat_get hk0 hk L t ht, Array.getElem?_toList]
  have h1 : t < (flatK enc k L.toArray).size := by simpa using ht
  have h2 := get_flatK enc k L.toArray t (by simpa using ht)
  rw [getElem!_pos _ t h1] at h2
  rw [Array.getElem?_eq_getElem h1, h2]
  simp
 ·rw [List.getElem?_eq_none (by simp; omega), List.getElem?_eq_none (by omega)]
theorem heap_sortedV {w : World} {g n : Nat} {os : Array Obj} {cur : Array Value} {e : TypeId} {fr : Nat × Nat} (d : Array Value) (hb : w.heap[g]? = some (.cells cur e fr)) :
  (grow (putRow id (Sort.ahead w n) g 0 d) os).heap[g]? = some (.cells (putCells id 0 d cur) e fr) := by
 have hg : g < w.heap.size := (Array.getElem?_eq_some_iff.1 hb).1
 rw [heap_grow_old _ _ (by simpa using hg)]
 simp [putRow, mapBlock, Sort.ahead, Array.getElem?_modify, hb, onCells]
theorem grownBy_sortedV {w : World} {g n : Nat} {os : Array Obj} (d : Array Value) : w.grownBy (grow (putRow id (Sort.ahead w n) g 0 d) os) (some g) := by
 refine ⟨rfl, rfl, rfl, by simp, fun k hk hne => ?_⟩
 rw [heap_grow_old _ _ (by simpa using hk)]
 have : g ≠ k := fun e => hne (by rw [e])
 simp [putRow, mapBlock, Sort.ahead, Array.getElem?_modify, this]
theorem take_putCellsV (cur d : Array Value) (h : d.size ≤ cur.size) : (putCells id 0 d cur).toList.take d.size = d.toList := by
 apply List.ext_getElem?
 intro j
 by_cases hj : j < d.size
 ·rw [List.getElem?_take_of_lt hj, Array.getElem?_toList, Array.getElem?_toList]
  simp [putCells, hj, show j < cur.size by omega]
 ·rw [List.getElem?_take_eq_none (by omega), List.getElem?_eq_none (by simp; omega)]
theorem isAggCg (w : World) : (isAgg 119).run Tryz.prog w = .ok true w := by
 simp [isAgg, run_underlying Tryz.underlying119]
theorem sizeOfCg (w : World) : (sizeOf 119).run Tryz.prog w = .ok 46 w := by
 obtain ⟨i, hi, hs⟩ : ∃ i, Tryz.prog.info? 119 = some i ∧ i.size = 46 := by
  have h := size_cg
  cases hq : Tryz.prog.info? 119 with
  | none => rw [hq] at h; cases h
  | some i => rw [hq] at h; exact ⟨i, rfl, by simpa using h⟩
 simp [sizeOf, typeInfo, hi, hs]
theorem sortG_any {base : Nat} {w : World} {v : Value} {L : List CgK} (h : w.ownsRow base 119 46 v L.length (L.flatMap ckL)) (hl : L.length ≤ 100000) :
  Calls Tryz.prog 146 #[v, .func (Fn.func 100) #[] #[]] w fun e w' =>
   e = .returned (.tuple #[]) ∧ ∃ L' : List CgK, L'.Perm L ∧ L'.Pairwise (fun x y => ¬ cmpP y.1.pl x.1.pl = -1) ∧ w'.ownsRow base 119 46 v L'.length (L'.flatMap ckL) ∧ w.grownBy w' v.ownBlock := by
 obtain ⟨hlen, ⟨rfl, h0⟩ | ⟨g, cap, cur, rfl, hb, hg, hn, hm, hs, ht⟩⟩ := id h
 ·have hL : L = [] := List.eq_nil_of_length_eq_zero h0
  subst hL
  have hc := AnyF.slices_SortFunc_none Tryz.sortG none 0 (.func (Fn.func 100) #[] #[]) w
  change Calls Tryz.prog 146 _ _ _ at hc
  refine hc.mono ?_
  rintro e w' ⟨rfl, rfl⟩
  exact ⟨rfl, [], .refl _, List.Pairwise.nil, h, ⟨rfl, rfl, rfl, Nat.le_refl _, fun _ _ _ => rfl⟩⟩
 ·letI : Inhabited CgK := ⟨⟨cg0, cg0_ok⟩⟩
  have hfl := flatK_list (k := 46) (by decide) ckL_len L
  have hgl : g < w.heap.size := (Array.getElem?_eq_some_iff.1 hg).1
  have hH : HoldsK ckL 46 w g 0 L.toArray := by
   intro j hj
   have hj' : j < L.length * 46 := by simpa using hj
   refine ⟨?_, by simp [World.frozen?, hg]⟩
   rw [Nat.zero_add, cell_of_row w g j cur _ (0, 0) hg, ← Array.getElem?_toList]
   have e1 : (cur.toList.take (L.length * 46))[j]? = (flatK ckL 46 L.toArray).toList[j]? := by rw [ht, hfl]
   rw [List.getElem?_take_of_lt hj'] at e1
   rw [e1, Array.getElem?_toList, getElem!_pos _ j hj, Array.getElem?_eq_getElem hj]
   rfl
  have eg : ∀ args w, (callFunc 100 args).run Tryz.prog w = .ok (.enter 100 args) w := enters_of Tryz.func100 (by kernel_rfl) rfl
  have hc := AnyQ.slices_SortFunc Tryz.sortG 46 isAggCg sizeOfCg ckL ckL_len (fun x v hv => one_cgL _ v hv) cmpK swoK 100 #[] g 0 cap L.toArray w eg
   (fun _ _ _ _ x y => all1_any _ x y) hH hgl (by simp; omega)
  change Calls Tryz.prog 146 _ _ _ at hc
  rw [List.size_toArray] at hc
  refine hc.mono ?_
  rintro e w' ⟨rfl, d', n, os, hp, hso, rfl⟩
  have hds : d'.size = L.length := by have := hp.1; simpa using this
  have hpm : d'.toList.Perm L := by
   have := hp.2.2
   simp [← hds] at this
   rw [hds, List.take_length] at this
   exact this
  have hfl2 := flatK_list (k := 46) (by decide) ckL_len d'.toList
  rw [Array.toArray_toList] at hfl2
  have hgr : w.grownBy (sortWorldK ckL 46 w g 0 n d' os) (some g) := grownBy_sortedV _
  have hhp : (sortWorldK ckL 46 w g 0 n d' os).heap[g]? = some (.cells (putCells id 0 (flatK ckL 46 d') cur) 119 (0, 0)) := heap_sortedV _ hg
  refine ⟨rfl, d'.toList, hpm, ?_, ?_, hgr⟩
  ·rw [List.pairwise_iff_getElem]
   intro i j hi hj hij
   have := hso i j (Nat.zero_le _) hij (by simpa [hds] using hj)
   rw [ltK] at this
   simp only [decide_eq_false_iff_not] at this
   have e1 : d'[i]! = d'.toList[i] := by rw [getElem!_pos d' i (by simpa using hi)]; simp
   have e2 : d'[j]! = d'.toList[j] := by rw [getElem!_pos d' j (by simpa using hj)]; simp
   rw [e1, e2] at this
   exact this
  ·have hl2 : d'.toList.length = L.length := by simpa using hds
   rw [hl2]
   refine ⟨by rw [← hfl2]; simp [hds], .inr ⟨g, cap, _, rfl, hb, hhp, hn, hm, by simp [putCells, hs], ?_⟩⟩
   have := take_putCellsV cur (flatK ckL 46 d') (by rw [size_flatK, hds, hs]; exact Nat.mul_le_mul_right 46 hn)
   rw [size_flatK, hds, hfl2] at this
   exact this
open Go.Proofs
open Go.RowKit Go.Sort Go.Shelf Go.Maps
attribute [local go_sem] Oper.semAt_some
section
variable {F : Fence} {n : Nat} {ops : Array Oper} {rest : List Oper} {o : Oper} {a : Act} {w : World} {Q : Exit → Act → World → Prop}
theorem wpListIn_loadS (hg : o.guard = none) (ty : TypeId) (x : Operand) (ho : o.op = .load ty x) (q : Addr) (hx : a.eval x = .pointer (some q)) (v : Value) (hl : (Instr.loadAt ty (.pointer (some q))).run Tryz.prog w = .ok v w)
  (h : wpListIn F n Tryz.prog ops Q rest (a.put o.dst v) w) : wpListIn F n Tryz.prog ops Q (o :: rest) a w := by
 refine wpListIn_plain hg fun K' hK' => ?_
 unfold Oper.wpIn
 refine ⟨by simp [Oper.about, ho], ?_⟩
 rw [Oper.semAt_plain F _ _ (by rw [ho]; intro c hc; cases hc)]
 simp [execOp, ho, hx, hl, Result.andThen]
 exact hK' _ _ h
theorem wpListIn_storeS (hgd : o.guard = none) (ty : TypeId) (x y : Operand) (ho : o.op = .store ty x y)
  (g : Nat) (cells : Array Value) (hx : a.eval x = .pointer (some ⟨g, 0, none⟩)) (hy : a.eval y = .agg cells)
  (t : TypeId) (old : Array Value) (hg : w.heap[g]? = some (.cells old t (0, 0))) (hi : (Tryz.prog.info? ty).map (·.size) = some cells.size) (hold : old.size = cells.size) (h1 : cells.all (·.oneCell') = true)
  (h : wpListIn F n Tryz.prog ops Q rest (a.put o.dst undef) (w.setRow g cells)) : wpListIn F n Tryz.prog ops Q (o :: rest) a w := by
 refine wpListIn_plain hgd fun K' hK' => ?_
 unfold Oper.wpIn
 refine ⟨by simp [Oper.about, ho], ?_⟩
 rw [Oper.semAt_plain F _ _ (by rw [ho]; intro c hc; cases hc)]
 simp [execOp, ho, hx, hy, Instr.storeAt, Instr.sureAddr, run_storeVar_row w g t ty old cells hg hi hold h1, Result.andThen]
 exact hK' _ _ h
theorem wpListIn_buildS {w' : World} {v : Value} (hgd : o.guard = none) (t : TypeId) (m : Nat) (parts : Array (Nat × Operand)) (ho : o.op = .buildSlice t m parts) (vs : Array (Nat × Value)) (hp : (parts.map fun (i, x) => (i, a.eval x)) = vs) (hr : (Instr.buildSlice t m vs).run Tryz.prog w = .ok v w')
  (h : wpListIn F n Tryz.prog ops Q rest (a.put o.dst v) w') : wpListIn F n Tryz.prog ops Q (o :: rest) a w := by
 refine wpListIn_plain hgd fun K' hK' => ?_
 unfold Oper.wpIn
 refine ⟨by simp [Oper.about, ho], ?_⟩
 rw [Oper.semAt_plain F _ _ (by rw [ho]; intro c hc; cases hc)]
 simp only [execOp, ho, hp, Sem.run_bind, hr, Result.andThen_ok, Sem.run_pure]
 exact hK' _ _ h
end
theorem slice_cg (c : Cg) (hc : c.pt.bytes.length = 32) (w : World) : (Instr.buildSlice 104 1 #[(0, .agg (cgC c))]).run Tryz.prog w = .ok (.slice (some ⟨w.heap.size, 0, none⟩) 1 1) (w.alloc (.cells (cgC c) 119)) := by
 have h : ∀ (p : Pl) (g f : Bool) (n k m l s t : Int) (pf : Bool) (pm : Nat) (d : Nat → Int), (Instr.buildSlice 104 1 #[(0, .agg (cgC ⟨p, g, f, n, k, m, l, s, t, ⟨pf, pm, (List.range 32).map d⟩⟩))]).run Tryz.prog w = .ok (.slice (some ⟨w.heap.size, 0, none⟩) 1 1) (w.alloc (.cells (cgC ⟨p, g, f, n, k, m, l, s, t, ⟨pf, pm, (List.range 32).map d⟩⟩) 119)) := by intros; kernel_rfl
 obtain ⟨p, g, f, n, k, m, l, s, t, pt⟩ := c
 dsimp only at hc
 rw [pt_eq hc]; exact h _ _ _ _ _ _ _ _ _ _ _ _
theorem values_any (w : World) (b : Nat) : Calls Tryz.prog 99 #[.map (some b)] w fun e w' => e = .returned (.func (.func 147) #[] #[.pointer (some ⟨w.heap.size, 0, none⟩)]) ∧ w' = w.alloc (.cells #[.map (some b)] 137) := by
 go_enter Tryz.func99, Tryz.ntmps99
 go_wp2
 go_ret
 exact ⟨rfl, rfl⟩
theorem rise_nodup {L : List Cg} (h : Rise L) : L.Nodup := List.Pairwise.imp (R := fun x y : Cg => cmpP x.pl y.pl = -1) (fun {x y} hxy (e : x = y) => cmp_ne hxy (by rw [e])) h
structure Came (L : List Cg) (left : Lit → Bool) (ps : List CgK) : Prop where
 rest : ∃ R : List Cg, (ps.map (·.1) ++ R).Perm L ∧ ∀ c ∈ L, left (kyL c.pl) = true ↔ c ∈ R
theorem Came.start {es : List (Lit × DataW Value)} {L : List Cg} (hp : es.Perm (L.map entG)) : Came L (Maps.has (.map es : DataW Value)) [] :=
 ⟨L, List.Perm.refl _, fun c hc => ⟨fun _ => hc, fun _ => by
  rw [has_eq]
  exact List.any_eq_true.2 ⟨entG c, hp.mem_iff.2 (List.mem_map.2 ⟨c, hc, rfl⟩), (same_key (kyL_str c.pl)).2 rfl⟩⟩⟩
theorem Came.step {L : List Cg} (hL : LOk L) {left : Lit → Bool} {ps : List CgK} (h : Came L left ps) {c : Cg} (hc : c ∈ L) (hl : left (kyL c.pl) = true) : Came L (fun z => left z && !z.sameKey (kyL c.pl)) (ps ++ [⟨c, hL.ok c hc⟩]) := by
 obtain ⟨R, h1, h2⟩ := h.rest
 have hcR := (h2 c hc).1 hl
 obtain ⟨R1, R2, rfl⟩ := List.append_of_mem hcR
 have hnd : (ps.map (·.1) ++ (R1 ++ c :: R2)).Nodup := h1.nodup_iff.2 (rise_nodup hL.rise)
 refine ⟨R1 ++ R2, ?_, fun d hd => ?_⟩
 ·rw [List.map_append, List.map_cons, List.map_nil, List.append_assoc]
  refine List.Perm.trans (List.Perm.append_left _ ?_) h1
  show (c :: (R1 ++ R2)).Perm _
  exact List.perm_middle.symm
 ·rw [Bool.and_eq_true, h2 d hd]
  have hnd2 : (R1 ++ c :: R2).Nodup := (List.nodup_append.1 hnd).2.1
  have hcn : c ∉ R1 ++ R2 := by
   have := (List.perm_middle.nodup_iff.1 hnd2)
   exact (List.nodup_cons.1 this).1
  constructor
  ·rintro ⟨hd1, hd2⟩
   have hne : d ≠ c := fun e => by
    rw [e, (same_key (kyL_str c.pl)).2 rfl] at hd2; cases hd2
   rcases List.mem_append.1 hd1 with hx | hx
   ·exact List.mem_append_left _ hx
   ·rcases List.mem_cons.1 hx with hx | hx
    ·exact absurd hx hne
    ·exact List.mem_append_right _ hx
  ·intro hd1
   have hne : d ≠ c := fun e => hcn (by rw [← e]; exact hd1)
   refine ⟨?_, ?_⟩
   ·rcases List.mem_append.1 hd1 with hx | hx
    ·exact List.mem_append_left _ hx
    ·exact List.mem_append_right _ (List.mem_cons_of_mem _ hx)
   ·cases hs : (kyL d.pl).sameKey (kyL c.pl)
    ·rfl
    ·exact absurd (rise_one hL.rise hd hc (kyL_inj (hL.ok d hd).pl (hL.ok c hc).pl ((same_key (kyL_str c.pl)).1 hs))) hne
theorem Came.all {L : List Cg} {left : Lit → Bool} {ps : List CgK} (h : Came L left ps) (hl : ∀ k, left k = false) : (ps.map (·.1)).Perm L := by
 obtain ⟨R, h1, h2⟩ := h.rest
 have hR : R = [] := by
  cases R with
  | nil => rfl
  | cons c R =>
   have hc : c ∈ L := h1.mem_iff.1 (by simp)
   have := (h2 c hc).2 (by simp)
   rw [hl] at this; cases this
 rw [hR, List.append_nil] at h1
 exact h1
theorem Came.len {L : List Cg} {left : Lit → Bool} {ps : List CgK} (h : Came L left ps) : ps.length ≤ L.length := by
 obtain ⟨R, h1, _⟩ := h.rest
 have := h1.length_eq
 simp at this
 omega
theorem came_at {es : List (Lit × DataW Value)} {L : List Cg} (hp : es.Perm (L.map entG)) {kl : Lit} (hk : WideAt.IsKeyLit kl) {v : Value} (h : ∀ zd, DataW.atKey (.map es : DataW Value) kl zd = .held v) : ∃ c ∈ L, kl = kyL c.pl ∧ v = .agg (cgC c) := by
 have h1 := h .nil
 unfold DataW.atKey at h1
 dsimp only at h1
 cases hf : es.find? (fun p => p.1.sameKey kl) with
 | none => rw [hf] at h1; cases h1
 | some p =>
  rw [hf] at h1
  dsimp only at h1
  obtain ⟨c, hc, e⟩ := List.mem_map.1 (hp.mem_iff.1 (List.mem_of_find?_eq_some hf))
  have hs := (same_key hk).1 (List.find?_some (p := fun p : Lit × DataW Value => p.1.sameKey kl) hf)
  refine ⟨c, hc, ?_, ?_⟩
  ·rw [← hs, ← e]; rfl
  ·rw [← e] at h1
   simp only [entG, DataW.held.injEq] at h1
   exact h1.symm
theorem values_stops (n : Nat) (hn : 1 ≤ n) (Bm b : Nat) (L : List Cg) (hL : LOk L) (w : World) (hBm : Bm < w.heap.size) (hm : w.cell? ⟨Bm, 0, none⟩ = some (.map (some b))) (hmp : MpAt w b L) :
  SeqStopsK Fence.wide n Tryz.prog 147 #[.pointer (some ⟨Bm, 0, none⟩)] (fun x : CgK => #[.agg (cgC x.1)]) KeepsWalks (fun ys => (ys.map (·.1)).Perm L) (fun _ => True) L.length w := fun l J Jx W hW hJ hJx hY h0 => by
 have hm' := (hW.cell (p := ⟨Bm, 0, none⟩) hBm).trans hm
 have hmpW := hmp.keep (hW.block b hmp.lt)
 obtain ⟨es, hown, hp⟩ := hmpW
 have hz := zeroCg
 refine callsIn_of_wp Tryz.func147 rfl trivial ?_ rfl
 simp only [Tryz.ntmps147, List.size_toArray, List.length_cons, List.length_nil, Nat.reduceAdd, Nat.reduceSub, Array.replicate_succ, Array.replicate_zero, List.push_toArray, List.append_toArray, List.nil_append, List.cons_append]
 gi_wp2_with (first
  | (gi_at_range; refine wpListIn_range_own _ rfl _ 137 rfl 114 119 keyedP Tryz.underlying137 _ b _ _ rfl hown ?_; intro w0 hrg0 hg0 hs0)
  | gi_in)
 try go_frame
 gi_loopw [4] (fun _ wr => ∃ (left : Lit → Bool) (cnt : Nat) (ps : List CgK), wr.ranges Tryz.prog 114 hR b W.heap.size L.length (.map es) left cnt ∧ Came L left ps ∧ J ps wr)
  (fun _ wr => wr.rangeLeft b W.heap.size)
 case atStart =>
  exact ⟨_, _, [], hrg0, Came.start hp, hJ [] W w0 none h0 hg0 (fun r e => by cases e)⟩
 case round =>
  obtain ⟨left, cnt, ps, hrg, hC, hJs⟩ := hrel
  gi_wp2_with (first
   | (gi_at_next; refine wpListIn_next_ranges _ rfl _ rfl 114 keyedP hR (fun v : Value => v) (fun v : Value => v) (fun key kl hk => ⟨key, rfl⟩) (fun v y hv => ⟨v, rfl⟩) b W.heap.size L.length _ _ _ rfl hrg ?_ ?_)
   | gi_in)
  ·intro hc0 hl0
   gi_wp2
   go_end0
   exact ⟨⟨_, rfl⟩, .inl ⟨ps, hC.all hl0, hJs⟩⟩
  ·intro x c kl yd yp w2 cnt2 hkey hlk hv hat hrg2 hlt hg2 hs2 hen
   obtain rfl : yd = DataW.held c := by
    simp only [hR, Option.some.injEq, Prod.mk.injEq] at hv
    exact hv.1.symm
   obtain ⟨cg, hcg, rfl, rfl⟩ := came_at hp (keyedP.key hkey) hat
   have hck := hL.ok cg hcg
   have HL : Hid (cg.pt.bytes.length = 32) := hck.pt.ch.1
   have hC2 := hC.step hL hcg hlk
   have hlen : ps.length < L.length := by have := hC2.len; simp at this; omega
   have hJ2 : J ps w2 := hJ ps wr w2 (some W.heap.size) hJs hg2 (fun r e => by cases e; exact ⟨Nat.le_refl _, hrg.iter_walk⟩)
   have hn2 := CgAt.laid w2 cg0
   have hb3 := alloc_row (A := w2) (.cells (cgC cg0) 119) (cgC cg)
   have hx3 := hn2.setRow cg
   obtain ⟨w3, hw3⟩ : ∃ w3, (w2.alloc (.cells (cgC cg0) 119)).setRow w2.heap.size (cgC cg) = w3 := ⟨_, rfl⟩
   rw [hw3] at hb3 hx3
   have hg3 : w2.grownBy w3 none := ⟨hb3.os, hb3.tape, hb3.output, hb3.size, fun k hk _ => hb3.block k hk⟩
   have hk3 : KeepsWalks w2 w3 := ⟨hb3.size, fun k o hk _ => (hb3.block k (Array.getElem?_eq_some_iff.1 hk).1).trans hk⟩
   have hJ3 : J ps w3 := hJ ps w2 w3 none hJ2 hg3 (fun r e => by cases e)
   have hrg3 := hrg2.of_walks hk3
   obtain ⟨fn, tmps, assign, body, hyi, hRR⟩ := hY ps ⟨cg, hck⟩ w3 hJ3 hlen
   dsimp only at hyi
   have hl3 : Hid _ := hx3.load HL.out
   clear hs2 hrg2 hJ2 hv hat hkey
   gi_wp2_with (first
    | (refine wpListIn_storeS rfl 119 _ _ rfl w2.heap.size (cgC cg) rfl rfl 119 (cgC cg0) hn2.row (by rw [cgC_size HL.out]; exact size_cg) (by rw [cgC_size HL.out, cgC_size len0]) (one_cg _) ?_; rw [hw3])
    | (refine wpListIn_loadS rfl 119 _ rfl _ rfl _ hl3.out ?_))
   refine hRR.mono ?_
   rintro e W3 (⟨rfl, hJ4, hk4⟩ | ⟨rfl, hJx4⟩)
   ·gi_wp2
    have hrg4 := hrg3.of_walks hk4
    go_roundw
    case rel => exact ⟨_, cnt2, ps ++ [⟨cg, hck⟩], hrg4, hC2, hJ4⟩
    case measure => rw [hrg4.left_eq, hrg.left_eq]; exact hlt
   ·gi_wp2
    refine bodyPost_ret (results_none rfl _ _ _) rfl ?_
    exact ⟨⟨_, rfl⟩, .inr ⟨_, trivial, hJx4⟩⟩
theorem appendSeq_any (g : Nat) (lb : Array Value) (eg : ∀ args w, (callFunc g args).run Tryz.prog w = .ok (.enter g args) w) (L : List Cg) (N : Nat) (hN : N ≤ 2000) (w : World)
  (hseq : SeqStopsK Fence.wide 2 Tryz.prog g lb (fun x : CgK => #[.agg (cgC x.1)]) KeepsWalks (fun ys => (ys.map (·.1)).Perm L) (fun _ => True) N w) :
  Calls Tryz.prog 181 #[.slice none 0 0, .func (.func g) #[] lb] w fun e w' => ∃ (v : Value) (ps : List CgK), e = .returned v ∧ (ps.map CgK.c).Perm L ∧ w'.ownsRow w.heap.size 119 46 v ps.length (ps.flatMap ckL) ∧ Below w.heap.size w w' := by
 obtain ⟨i0, hi, hz0, hz1, hz2⟩ := info3 info_cg
 have hz := zeroCg
 refine (callsIn_wide (n := 3)).1 ?_
 refine callsIn_of_wp_marks Tryz.func181 rfl trivial ?_ rfl
 refine wpIn_wide.2 ?_
 simp only [Tryz.ntmps181, List.size_toArray, List.length_cons, List.length_nil, Nat.reduceAdd, Nat.reduceSub, Array.replicate_succ, Array.replicate_zero, List.push_toArray, List.append_toArray, List.nil_append, List.cons_append]
 go_wp2
 refine (wpIn_wide (n := 3)).1 ?_
 have bB := Boxed.new w 104 (.slice none 0 0)
 have hB0 : Below w.heap.size w (w.alloc (.cells #[.slice none 0 0] 104)) := (Below.refl _ w).alloc (Nat.le_refl _) _
 have hs0 : (w.alloc (.cells #[.slice none 0 0] 104)).heap.size = w.heap.size + 1 := by simp
 generalize w.alloc (.cells #[.slice none 0 0] 104) = W0 at *
 refine wpIn_rangeFunc_ownH rfl (by decide) (gf := g) (lb := lb) rfl trivial eg hseq walksK_t walksK_b hB0 (fun _ => rfl)
  (fun pre W => ((∃ v, Boxed W w.heap.size 104 v ∧ W.ownsRow w.heap.size 119 46 v pre.length (pre.flatMap ckL) ∧ ∃ a c, v = .slice a pre.length c)) ∧ Below w.heap.size w W)
  (fun _ _ _ => False)
  (OwnFrom.and (Own.from (holdsRow_own w.heap.size w.heap.size 104 119 46 (fun pre : List CgK => pre.length) (fun pre => pre.flatMap ckL) (fun pre v => ∃ a c, v = .slice a pre.length c)) _) (ownFrom_below (Nat.le_refl _) (by omega)))
  (fun _ _ _ _ _ hs _ _ => hs)
  ⟨⟨_, bB, World.ownsRow_nil _ _ _ _, _, _, rfl⟩, hB0⟩
  (fun x a' W => ∃ Bx, CgAt W Bx x.1 ∧ a' = { tmps := #[.slice none 0 0, .func (.func g) #[] lb, .pointer (some ⟨w.heap.size, 0, none⟩), undef, .slice none 0 0, .pointer (some ⟨Bx, 0, none⟩), .func (.func g) #[] lb, .agg (cgC x.1), undef, undef, undef, undef, undef], defers := [] })
  (fun x a' => Own.from (fun s A B row hs hg hr => by
   obtain ⟨Bx, hs, e⟩ := hs
   exact ⟨Bx, ⟨(hg.block Bx hs.lt (fun e' => by obtain ⟨o, ho, hc⟩ := hr Bx e'.symm; rw [hs.row] at ho; cases ho; cases hc)).trans hs.row⟩, e⟩) _) ?assign ?body ?done ?stop
 case assign =>
  rintro l pre x W K ⟨⟨v, hv, hr, hsv⟩, hB⟩ hK
  have HL : Hid (x.1.pt.bytes.length = 32) := x.2.pt.ch.1
  have hn := CgAt.laid W cg0
  have hb := alloc_row (A := W) (.cells (cgC cg0) 119) (cgC x.1)
  have hx := hn.setRow x.1
  obtain ⟨W1, hW1⟩ : ∃ W1, (W.alloc (.cells (cgC cg0) 119)).setRow W.heap.size (cgC x.1) = W1 := ⟨_, rfl⟩
  rw [hW1] at hb hx
  have hg : W.grownBy W1 none := ⟨hb.os, hb.tape, hb.output, hb.size, fun k hk _ => hb.block k hk⟩
  have hko : KeepsOthers W W1 := KeepsOthers.of_grownBy hg (fun j o ej => by cases ej)
  gi_wp2_with (refine wpListIn_storeS rfl 119 _ _ rfl W.heap.size (cgC x.1) rfl rfl 119 (cgC cg0) hn.row (by rw [cgC_size HL.out]; exact size_cg) (by rw [cgC_size HL.out, cgC_size len0]) (one_cg _) ?_; rw [hW1])
  exact hK _ _ (hko.from _) hko.walks ⟨⟨v, hv.kept hg (by simp), World.ownsRow.kept hr hg (by cases hq : v.ownBlock <;> simp), hsv⟩, hB.trans (hb.mono hB.size)⟩ ⟨W.heap.size, hx, rfl⟩
 case body =>
  rintro l pre x a' W hl0 hrec ⟨⟨v, hv, hr, a4, c4, rfl⟩, hB⟩ ⟨Bx, hx, rfl⟩ hlen
  have HL : Hid (x.1.pt.bytes.length = 32) := x.2.pt.ch.1
  have hvc := hv.cell
  have hvf := hv.frozen
  have hbs := hB.size
  have hlx : Hid _ := hx.load HL.out
  have hbsl := slice_cg x.1 HL.out W
  have hnw : ∀ j u, (ckL x)[j]? = some u → (W.alloc (.cells (cgC x.1) 119)).cell? ((⟨W.heap.size, 0, none⟩ : Addr).add j) = some u := by
   intro j u hj
   have hadd : (⟨W.heap.size, 0, none⟩ : Addr).add j = ⟨W.heap.size, j, none⟩ := by unfold Addr.add; split <;> simp_all
   rw [hadd, cell_of_row _ _ j _ _ _ (heap_alloc_new W _)]
   rw [← hj]
   exact List.getElem?_toArray
  gi_wp2_with (first
   | (refine wpListIn_loadS rfl 119 _ rfl _ rfl _ hlx.out ?_)
   | (refine wpListIn_buildS rfl 104 1 _ rfl #[(0, .agg (cgC x.1))] (by kernel_rfl) hbsl ?_)
   | (gi_at_builtin; refine wpListIn_append_own _ rfl _ _ 104 rfl w.heap.size 119 i0 _ 46 136 Tryz.underlying104 hi hz0 hz1 hz2 (by kernel_rfl) (by decide) _ _ _ rfl (hr.alloc _) ⟨W.heap.size, 0, none⟩ 1 1 (ckL x) rfl (by rw [ckL_len]) hnw (one_cgL _) (by unfold maxLen; omega) (by omega) (by simp; omega) ?_; intro v' w1 hown' hgrow _; obtain ⟨g', cap', rfl⟩ := ownsRow_succ hown'; obtain ⟨hv1, hv2, hr2, hk2, hb2⟩ := hv.appended (by decide) hr hbs (Nat.le_refl _) hown' hgrow; have hvc1 := hv1.cell; have hvf1 := hv1.frozen))
  exact ⟨hk2.from _, hk2.walks, ⟨_, hv2, by rw [List.length_append, List.flatMap_append, List.flatMap_singleton]; exact hr2, _, _, by rw [List.length_append]; rfl⟩, hB.trans hb2⟩
 case done =>
  rintro D ys W hD hperm ⟨⟨v, hv, hr, a4, c4, rfl⟩, hB⟩ hK
  have hvc := hv.cell
  go_wp2
  refine ⟨by simp, .inl ⟨_, _, rfl, run_takeDeferred hK, ?_⟩⟩
  refine ⟨_, results_tmp rfl _ _ _, _, ys, rfl, hperm, ?_, hB.trans (belowK_b (w := w) (Nat.le_refl _) W D _ _ (by omega) hK rfl rfl)⟩
  exact ownsRow_putObj hr _ hK rfl
 case stop =>
  rintro D c pre W _ _ h _
  exact h.elim
structure AlS (w W : World) (g gc : Nat) (A : List Cg) (y : Cg) : Prop where
 row : RowG W g A
 c : CgAt W gc y
 bel : Below w.heap.size w W
theorem AlS.below {w W W' : World} {g gc : Nat} {A : List Cg} {y : Cg} (h : AlS w W g gc A y) (hb : Below W.heap.size W W') : AlS w W' g gc A y := ⟨h.row.below hb, h.c.below hb, h.bel.trans (hb.mono h.bel.size)⟩
theorem AlS.drew {w W : World} {g gc : Nat} {A : List Cg} {y : Cg} (h : AlS w W g gc A y) : AlS w W.drew g gc A y := h.below (Below.refl _ W).drew
theorem xget_at {w : World} {p : Nat} {v : Value} {M : Int} {xs : List Cg} (h : XdAt w p v M xs) (q : Pl) (hq : PlOk q) (x : Cg) (hx : foldX xs q = some x) : Calls Tryz.prog 103 #[.pointer (some ⟨p, 0, none⟩), plV q] w fun e w' =>
  e = .returned (.tuple #[.agg (cgC x), .bool true]) ∧ Below w.heap.size w w' := by
 have := xget_any h q hq
 rw [hx] at this
 exact this
theorem xall_any {w : World} {p : Nat} {v : Value} {M : Int} {xs : List Cg} {s : Dl} (h : XdAt w p v M xs) (hr : Rel s xs) (hs : DlOk s) (hm : xs.length ≤ 5000) (hmL : s.L.length ≤ 5000) : Calls Tryz.prog 51 #[.pointer (some ⟨p, 0, none⟩)] w fun e w' =>
  ∃ u, e = .returned u ∧ w'.ownsRow w.heap.size 119 46 u s.L.length (s.L.flatMap cgL) ∧ Below w.heap.size w w' := by
 have hz := zeroCg
 have len0 : cg0.pt.bytes.length = 32 := cg0_ok.pt.ch.1
 have hok := h.ok
 obtain ⟨a, c, rfl, hlc, hcm, hrow⟩ := xrow_of hok h.at_
 have c0 := h.c0
 have HR : Hid (0 < xs.length → ∃ g, a = some ⟨g, 0, none⟩ ∧ RowG w g xs) := hrow
 have HX : Hid (XdAt w p (.slice a xs.length c) M xs) := h
 obtain ⟨N, hN⟩ : ∃ N, xs.length = N := ⟨_, rfl⟩
 have HN : Hid (xs.length = N) := hN
 rw [hN] at hlc HR c0 hm
 unfold maxLen at hcm
 clear h hrow hN
 go_enter Tryz.func51, Tryz.ntmps51
 go_wp2_with fail
 go_loopw [3, 5, 6, 7, 8, 9, 15] (fun u _ _ _ _ _ t wr => ∃ (k : Nat), k ≤ N ∧ t = .int .i64 k ∧ Hid (wr.ownsRow w.heap.size 119 46 u (upX s xs k).length ((upX s xs k).flatMap cgL)) ∧ Hid (Below w.heap.size w wr)) (fun _ _ _ _ _ _ t _ => N - (intOf t).toNat)
 case atStart => exact ⟨0, Nat.zero_le _, rfl, by rw [upX_zero]; exact World.ownsRow_nil _ _ _ _, Below.refl _ _⟩
 case round =>
  obtain ⟨k, hk, rfl, HO, HB⟩ := hrel
  obtain ⟨wo, rfl⟩ : ∃ wo, wo = wr := ⟨wr, rfl⟩
  by_cases hlt : k < N
  ·have hltI : (k : Int) < N := by omega
   obtain ⟨g, rfl, hr0⟩ := HR.out (by omega)
   have hrw := hr0.below (HB.out.mono (Nat.le_refl _))
   have hkx : k < xs.length := by rw [HN.out]; exact hlt
   have hin : xs.getD k cg0 ∈ xs := by rw [List.getD_eq_getElem?_getD, List.getElem?_eq_getElem hkx]; exact List.getElem_mem _
   have hck := hok _ hin
   obtain ⟨x, hfx, hxs, hxp, hxok⟩ := hr.there hs hin
   have hld : Hid _ := hrw.load hkx hck
   have hsame : Hid (∀ z ∈ upX s xs k, z.pl = (xs.getD k cg0).pl → upX s xs (k + 1) = upX s xs k) := fun z hz e => upX_same hs hkx hz e
   have hmore : Hid ((∀ z ∈ upX s xs k, z.pl ≠ x.pl) → upX s xs (k + 1) = setL (upX s xs k) x) := fun hn => upX_more hs hkx hxs hxp hn
   have hAok := upX_ok hs xs k
   have hAl := upX_len (s := s) xs k
   obtain ⟨A, hA⟩ : ∃ A, upX s xs k = A := ⟨_, rfl⟩
   obtain ⟨A2, hA2⟩ : ∃ A2, upX s xs (k + 1) = A2 := ⟨_, rfl⟩
   rw [hA] at HO hsame hmore hAok hAl
   rw [hA2] at hsame hmore
   have HA2 : Hid (upX s xs (k + 1) = A2) := hA2
   obtain ⟨y, hy⟩ : ∃ y, xs.getD k cg0 = y := ⟨_, rfl⟩
   rw [hy] at hck hld hfx hxp hsame
   have HY : Hid (y.pt.bytes.length = 32) := hck.pt.ch.1
   have HXL : Hid (x.pt.bytes.length = 32) := hxok.pt.ch.1
   clear hy hin hrw hr0 hA hA2 hkx
   obtain ⟨ua, uc, rfl, hun⟩ := row_of hAok.ok HO.out
   have HRA : Hid (0 < A.length → ∃ g, ua = some ⟨g, 0, none⟩ ∧ RowG wo g A) := fun h => by obtain ⟨g, h1, h2, _⟩ := hun h; exact ⟨g, h1, h2⟩
   have hcap : A.length ≤ uc ∧ uc ≤ maxLen := by
    obtain ⟨_, ⟨h2, h3⟩ | ⟨g, cap, cur, e1, _, _, h5, h6, _⟩⟩ := HO.out
    ·simp only [Value.slice.injEq, true_and] at h2; unfold maxLen; omega
    ·simp only [Value.slice.injEq, true_and] at e1; obtain ⟨_, rfl⟩ := e1; exact ⟨h5, h6⟩
   obtain ⟨hcap1, hcap2⟩ := hcap
   unfold maxLen at hcap2
   obtain ⟨n, hn⟩ : ∃ n, A.length = n := ⟨_, rfl⟩
   have HNA : Hid (A.length = n) := hn
   rw [hn] at hcap1 hAl HRA
   rw [hn]
   clear hun hn
   have hn3 := CgAt.laid wo cg0
   have hb3 := alloc_row (A := wo) (.cells (cgC cg0) 119) (cgC y)
   have hy3 := hn3.setRow y
   obtain ⟨w3, hw3⟩ : ∃ w3, (wo.alloc (.cells (cgC cg0) 119)).setRow wo.heap.size (cgC y) = w3 := ⟨_, rfl⟩
   rw [hw3] at hb3 hy3
   go_wp2_with (first
    | (refine wpList_loadG rfl 119 _ rfl _ rfl _ hld.out ?_)
    | (refine wpList_storeG rfl _ _ rfl wo.heap.size y cg0 rfl rfl HY.out len0 hn3 ?_; rw [hw3]))
   go_loopw [6] (fun t wq => ∃ (i : Nat), i ≤ n ∧ t = .int .i64 i ∧ Hid (∀ j, j < i → cmpP (A.getD j cg0).pl y.pl = -1) ∧ Hid (Below w3.heap.size w3 wq)) (fun t _ => n - (intOf t).toNat)
   case atStart => exact ⟨0, Nat.zero_le _, rfl, fun j hj => absurd hj (Nat.not_lt_zero _), Below.refl _ _⟩
   case round =>
    obtain ⟨i, hi, rfl, HLO, HBQ⟩ := hrel
    have hyq := hy3.below HBQ.out
    have hbo0 : Below wo.heap.size wo wr := thenB hb3 HBQ.out
    by_cases hil : i < n
    ·have hilI : (i : Int) < n := by omega
     obtain ⟨ga, rfl, hra0⟩ := HRA.out (by omega)
     have hiA : i < A.length := by rw [HNA.out]; exact hil
     have hAi : CgOk (A.getD i cg0) := hAok.ok _ (getD_mem hiA)
     have hAm : A.getD i cg0 ∈ A := getD_mem hiA
     have hS : AlS w wr ga wo.heap.size A y := ⟨(hra0.below hb3).below HBQ.out, hyq, thenB HB.out hbo0⟩
     have hldz : ∀ W, RowG W ga A → (Instr.loadAt 114 (.pointer (some ⟨ga, i * 46, none⟩))).run Tryz.prog W = .ok (plV (A.getD i cg0).pl) W := fun W h => h.loadP hiA
     obtain ⟨z, hze⟩ : ∃ z, A.getD i cg0 = z := ⟨_, rfl⟩
     have HZE : Hid (A.getD i cg0 = z) := hze
     rw [hze] at hAi hAm hldz
     clear hze hra0 hiA
     by_cases hlz : cmpP z.pl y.pl = -1
     ·have cr := fun W => refCompare_any W z.pl y.pl
      rw [hlz] at cr
      go_wp2_with fail
      refine wp_region_noPanic ?_
      refine wp_region_held_drew (S := fun W => AlS w W ga wo.heap.size A y ∧ Below w3.heap.size w3 W) (by kernel_rfl) ⟨hS.drew, HBQ.out.drew⟩ (fun hHeld => ?_)
      refine tk 0 (.int .i64 i) rfl ?_
      try simp only [nz]
      refine tk 1 (.slice (some ⟨ga, 0, none⟩) n uc) rfl ?_
      try simp only [nz]
      refine tk 2 (.int .i64 n) rfl ?_
      try simp only [nz]
      refine tk 3 (.bool true) rfl ?_
      try simp only [nz]
      refine tk 4 (.bool true) rfl ?_
      try simp only [nz]
      refine tk 5 (.slice (some ⟨ga, 0, none⟩) n uc) rfl ?_
      try simp only [nz]
      refine tk 6 (.int .i64 i) rfl ?_
      try simp only [nz]
      refine tk 7 (.pointer (some ⟨ga, i * 46, none⟩)) rfl ?_
      try simp only [nz]
      refine tk 8 (.pointer (some ⟨ga, i * 46, none⟩)) rfl ?_
      try simp only [nz]
      refine wpAnyH_take (i := 9) (v := plV z.pl) rfl (by kernel_rfl) (by kernel_rfl) (by kernel_rfl) (fun _ _ _ h => h) (yields_load (by rfl) _ _ rfl _ rfl _ (fun W h => hldz W h.1.row)) (by assumption) ?_
      try simp only [nz]
      refine tk 10 (.pointer (some ⟨wo.heap.size, 0, none⟩)) rfl ?_
      try simp only [nz]
      refine wpAnyH_take (i := 11) (v := plV y.pl) rfl (by kernel_rfl) (by kernel_rfl) (by kernel_rfl) (fun _ _ _ h => h) (yields_load (by rfl) _ _ rfl _ rfl _ (fun W h => h.1.c.loadP)) (by assumption) ?_
      try simp only [nz]
      refine rd 12 rfl (fun K hK => ?_)
      go_simp
      go_wp2_with (go_at_call 102; refine (cr _).mono ?_; rintro e w5 ⟨rfl, hb5⟩)
      refine hK.out _ _ ⟨hHeld.1.below hb5, thenB hHeld.2 hb5⟩ (fun hHeld2 => ?_)
      clear hK K
      try simp only [nz]
      refine tk 13 (.bool true) rfl ?_
      try simp only [nz]
      refine tk 14 (.bool true) rfl ?_
      try simp only [nz]
      refine wpAnyH_done (by kernel_rfl) ?_ _
      refine NoPanic.normal ?_
      have HBN : Hid (Below w3.heap.size w3 w5) := hHeld2.2
      have HLN : Hid (∀ j, j < i + 1 → cmpP (A.getD j cg0).pl y.pl = -1) := fun j hj => by
       by_cases e : j = i
       ·rw [e, HZE.out]; exact hlz
       ·exact HLO.out j (by omega)
      clear hHeld hHeld2 cr hldz hS
      go_wp2_with fail
      go_roundw
      case rel => exact ⟨i + 1, by omega, by go_num, HLN, HBN⟩
      case measure => simp [intOf]; omega
     ·have cr := fun W => refCompare_any W z.pl y.pl
      obtain ⟨cv, hcv⟩ : ∃ cv, cmpP z.pl y.pl = cv := ⟨_, rfl⟩
      have hcn : ¬ cv < 0 := by rcases cmpP_ord.three z.pl y.pl with q | q | q <;> rw [hcv] at q <;> first | exact absurd (hcv.trans q) hlz | omega
      rw [hcv] at cr
      clear hcv
      go_wp2_with fail
      refine wp_region_noPanic ?_
      refine wp_region_held_drew (S := fun W => AlS w W ga wo.heap.size A y ∧ Below w3.heap.size w3 W) (by kernel_rfl) ⟨hS.drew, HBQ.out.drew⟩ (fun hHeld => ?_)
      refine tk 0 (.int .i64 i) rfl ?_
      try simp only [nz]
      refine tk 1 (.slice (some ⟨ga, 0, none⟩) n uc) rfl ?_
      try simp only [nz]
      refine tk 2 (.int .i64 n) rfl ?_
      try simp only [nz]
      refine tk 3 (.bool true) rfl ?_
      try simp only [nz]
      refine tk 4 (.bool true) rfl ?_
      try simp only [nz]
      refine tk 5 (.slice (some ⟨ga, 0, none⟩) n uc) rfl ?_
      try simp only [nz]
      refine tk 6 (.int .i64 i) rfl ?_
      try simp only [nz]
      refine tk 7 (.pointer (some ⟨ga, i * 46, none⟩)) rfl ?_
      try simp only [nz]
      refine tk 8 (.pointer (some ⟨ga, i * 46, none⟩)) rfl ?_
      try simp only [nz]
      refine wpAnyH_take (i := 9) (v := plV z.pl) rfl (by kernel_rfl) (by kernel_rfl) (by kernel_rfl) (fun _ _ _ h => h) (yields_load (by rfl) _ _ rfl _ rfl _ (fun W h => hldz W h.1.row)) (by assumption) ?_
      try simp only [nz]
      refine tk 10 (.pointer (some ⟨wo.heap.size, 0, none⟩)) rfl ?_
      try simp only [nz]
      refine wpAnyH_take (i := 11) (v := plV y.pl) rfl (by kernel_rfl) (by kernel_rfl) (by kernel_rfl) (fun _ _ _ h => h) (yields_load (by rfl) _ _ rfl _ rfl _ (fun W h => h.1.c.loadP)) (by assumption) ?_
      try simp only [nz]
      refine rd 12 rfl (fun K hK => ?_)
      go_simp
      go_wp2_with (go_at_call 102; refine (cr _).mono ?_; rintro e w5 ⟨rfl, hb5⟩)
      refine hK.out _ _ ⟨hHeld.1.below hb5, thenB hHeld.2 hb5⟩ (fun hHeld2 => ?_)
      clear hK K
      try simp only [nz]
      refine tk 13 (.bool false) rfl ?_
      try simp only [nz]
      refine tk 14 (.bool false) rfl ?_
      try simp only [nz]
      refine wpAnyH_done (by kernel_rfl) ?_ _
      refine NoPanic.normal ?_
      have HBN : Hid (Below w3.heap.size w3 w5) := hHeld2.2
      have HSN : Hid (AlS w w5 ga wo.heap.size A y) := hHeld2.1
      clear hHeld hHeld2 cr hS
      have heq : ∀ W, (binOp .eql 114 (.agg #[.int .u32 z.pl.ino, .int .i64 z.pl.part, .string z.pl.name, .int .u32 z.pl.chunk]) (.agg #[.int .u32 y.pl.ino, .int .i64 y.pl.part, .string y.pl.name, .int .u32 y.pl.chunk])).run Tryz.prog W = .ok (.bool (plEq z.pl y.pl)) W := fun W => eq_places W _ _ _ _ _ _ _ _
      go_wp2_with fail
      cases hpe : plEq z.pl y.pl <;> rw [hpe] at heq
      ·refine wp_region_noPanic ?_
       refine wp_region_held_drew (S := fun W => AlS w W ga wo.heap.size A y) (by kernel_rfl) HSN.out.drew (fun hHeld => ?_)
       refine tk 0 (.int .i64 i) rfl ?_
       try simp only [nz]
       refine tk 1 (.slice (some ⟨ga, 0, none⟩) n uc) rfl ?_
       try simp only [nz]
       refine tk 2 (.int .i64 n) rfl ?_
       try simp only [nz]
       refine tk 3 (.bool true) rfl ?_
       try simp only [nz]
       refine tk 4 (.bool true) rfl ?_
       try simp only [nz]
       refine tk 5 (.slice (some ⟨ga, 0, none⟩) n uc) rfl ?_
       try simp only [nz]
       refine tk 6 (.int .i64 i) rfl ?_
       try simp only [nz]
       refine tk 7 (.pointer (some ⟨ga, i * 46, none⟩)) rfl ?_
       try simp only [nz]
       refine tk 8 (.pointer (some ⟨ga, i * 46, none⟩)) rfl ?_
       try simp only [nz]
       refine wpAnyH_take (i := 9) (v := .agg #[.int .u32 z.pl.ino, .int .i64 z.pl.part, .string z.pl.name, .int .u32 z.pl.chunk]) rfl (by kernel_rfl) (by kernel_rfl) (by kernel_rfl) (fun _ _ _ h => h) (yields_load (by rfl) _ _ rfl _ rfl _ (fun W h => hldz W h.row)) (by assumption) ?_
       try simp only [nz]
       refine tk 10 (.pointer (some ⟨wo.heap.size, 0, none⟩)) rfl ?_
       try simp only [nz]
       refine wpAnyH_take (i := 11) (v := .agg #[.int .u32 y.pl.ino, .int .i64 y.pl.part, .string y.pl.name, .int .u32 y.pl.chunk]) rfl (by kernel_rfl) (by kernel_rfl) (by kernel_rfl) (fun _ _ _ h => h) (yields_load (by rfl) _ _ rfl _ rfl _ (fun W h => h.c.loadP)) (by assumption) ?_
       try simp only [nz]
       refine tk 12 (.bool false) rfl ?_ (fun W hSw => by (try dsimp only at hSw); (have q := heq W; go_simp))
       try simp only [nz]
       refine tk 13 (.bool false) rfl ?_
       try simp only [nz]
       refine wpAnyH_done (by kernel_rfl) ?_ _
       refine NoPanic.normal ?_
       have HNO : Hid (∀ q ∈ A, q.pl ≠ x.pl) := fun q hq => by
        rw [hxp]
        exact none_at hAok.rise (show i ≤ A.length by rw [HNA.out]; exact hi) HLO.out (fun _ => by rw [HZE.out]; exact ⟨hlz, fun e => by rw [plEq_iff.2 e] at hpe; cases hpe⟩) q hq
       have HHI : Hid (i < A.length → cmpP (A.getD i cg0).pl y.pl ≠ -1) := fun _ => by rw [HZE.out]; exact hlz
       have hbo : Below wo.heap.size wo w5.drew := (thenB hb3 HBN.out).drew
       have HBW : Hid (Below w.heap.size w w5.drew) := HSN.out.bel.drew
       have hyW : CgAt w5.drew wo.heap.size y := HSN.out.c.drew
       obtain ⟨wt, hwt⟩ : ∃ wt, w5.drew = wt := ⟨_, rfl⟩
       rw [hwt] at hbo HBW hyW
       rw [hwt]
       clear hwt heq HSN HBN hldz hHeld
       have HS2 : Hid (A2 = A.take i ++ x :: A.drop i) := by unfold Hid; rw [hmore.out HNO.out]; exact (set_at hAok.rise HNO.out (by rw [HNA.out]; exact hi) (fun j hj => by rw [hxp]; exact HLO.out j hj) (fun hh => by rw [hxp]; exact HHI.out hh)).symm
       have hXq := (HX.out.below (HBW.out.mono (Nat.le_refl _)))
       have hlp : Hid _ := hyW.loadP
       have cgt := xget_at hXq y.pl hck.pl x hfx
       go_wp2_with (first
        | (refine wpList_loadG rfl 114 _ rfl _ rfl _ hlp.out ?_))
       refine cgt.mono ?_
       rintro e w5 ⟨rfl, hb5⟩
       clear cgt
       have hn6 := CgAt.laid w5 cg0
       have hb6 := alloc_row (A := w5) (.cells (cgC cg0) 119) (cgC x)
       have hx6 := hn6.setRow x
       obtain ⟨w6, hw6⟩ : ∃ w6, (w5.alloc (.cells (cgC cg0) 119)).setRow w5.heap.size (cgC x) = w6 := ⟨_, rfl⟩
       rw [hw6] at hb6 hx6
       have HB6 : Hid (Below w.heap.size w w6) := thenB (thenB HBW.out hb5) hb6
       have HO6 : Hid (w6.ownsRow w.heap.size 119 46 (.slice (some ⟨ga, 0, none⟩ : Option Addr) n uc) A.length (A.flatMap cgL)) := by
        have e1 := rowC_below (rowC_below (rowC_below HO.out hbo) hb5) hb6
        rw [HNA.out] at e1
        rw [HNA.out]
        exact e1
       have hs6 := HB6.out.size
       have hiI : (i : Int) ≤ (n : Int) := by omega
       have hicI : (i : Int) ≤ (uc : Int) := by omega
       have hncI : (n : Int) ≤ (uc : Int) := by omega
       have hAt : ∀ z ∈ A.take i, CgOk z := fun z hz => hAok.ok z (List.mem_of_mem_take hz)
       have hAd : ∀ z ∈ A.drop i, CgOk z := fun z hz => hAok.ok z (List.mem_of_mem_drop hz)
       have hx1 : ∀ z ∈ [x], CgOk z := fun z hz => by rw [List.mem_singleton] at hz; rw [hz]; exact hxok
       have HR6 : Hid (RdC w6 (.slice (some ⟨ga, 0, none⟩ : Option Addr) n uc) A) := rdC_own HO6.out
       have HL6 : Hid ((A.take i).length ≤ 5000 ∧ (A.drop i).length ≤ 5000) := by unfold Hid; rw [List.length_take, List.length_drop, HNA.out]; omega
       clear hXq hlp hyW hn3 hy3 hb3 HRA
       go_wp2_with (first
        | (refine wpList_storeG rfl _ _ rfl w5.heap.size x cg0 rfl rfl HXL.out len0 hn6 ?_; rw [hw6])
        | (refine wpList_append_cg rfl _ _ rfl w6.heap.size (.slice none 0 0) [] rfl (World.ownsRow_nil _ _ _ _) (.slice (some ⟨ga, 0, none⟩ : Option Addr) i uc) (A.take i) hAt rfl (rdC_to hAok.ok HR6.out i hi) (by have := HL6.out; simp only [List.length_nil]; omega) (Nat.le_refl _) ?_))
       intro v7 w7 ho7 hg7
       replace ho7 : w7.ownsRow w6.heap.size 119 46 v7 (A.take i).length ((A.take i).flatMap cgL) := ho7.own
       have hb7 : Below w6.heap.size w6 w7 := (Below.refl _ w6).grown hg7 (Nat.le_refl _) (fun q hq => by cases hq)
       have hx7 := hx6.below hb7
       have hlx : Hid _ := hx7.load HXL.out
       have HB7 : Hid (Below w.heap.size w w7) := thenB HB6.out hb7
       have HO7 : Hid _ := ho7
       have hsl := slice_cg x HXL.out w7
       have hb8 : Below w7.heap.size w7 (w7.alloc (.cells (cgC x) 119)) := (Below.refl _ _).alloc (Nat.le_refl _) _
       have hx8 := CgAt.laid w7 x
       obtain ⟨w8, hw8⟩ : ∃ w8, w7.alloc (.cells (cgC x) 119) = w8 := ⟨_, rfl⟩
       rw [hw8] at hsl hb8 hx8
       have HO8 : Hid (w8.ownsRow w6.heap.size 119 46 v7 (A.take i).length ((A.take i).flatMap cgL)) := rowC_below HO7.out hb8
       have HB8 : Hid (Below w.heap.size w w8) := thenB HB7.out hb8
       have hs68 : w6.heap.size ≤ w8.heap.size := (thenB hb7 hb8).size
       have hrx : RdC w8 (.slice (some ⟨w7.heap.size, 0, none⟩) 1 1) [x] := ⟨_, _, rfl, (fun e => by cases e), fun _ => ⟨_, 0, rfl, hx8.lt, fun j u hj => by
        rw [cell_of_row _ _ _ _ _ (0, 0) hx8.row, Nat.zero_add]
        rw [List.flatMap_cons, List.flatMap_nil, List.append_nil] at hj
        rw [← Array.getElem?_toList]; exact hj⟩⟩
       go_wp2_with (first
        | (refine wpList_loadG rfl 119 _ rfl _ rfl _ hlx.out ?_)
        | (refine wpList_buildS rfl 104 1 _ rfl #[(0, .agg (cgC x))] (by kernel_rfl) hsl ?_)
        | (refine wpList_append_cg rfl _ _ rfl w6.heap.size v7 (A.take i) rfl HO8.out _ [x] hx1 rfl hrx (by have := HL6.out; simp only [List.length_cons, List.length_nil]; omega) hs68 ?_))
       intro v9 w9 ho9 hg9
       have HO9 : Hid (w9.ownsRow w6.heap.size 119 46 v9 (A.take i ++ [x]).length ((A.take i ++ [x]).flatMap cgL)) := ho9.own
       have hb69 : Below w6.heap.size w6 w9 := (thenB hb7 hb8).grown hg9 hs68 (fun q hq => (World.ownsRow.lt HO8.out q hq).1)
       have hs69 := hb69.size
       have HR9 : Hid (RdC w9 (.slice (some ⟨ga, 0, none⟩ : Option Addr) n uc) A) := HR6.out.below hb69
       have hun : (some ⟨ga, 0, none⟩ : Option Addr) = none → uc = 0 := fun e => by obtain ⟨a', c', e', z1, _⟩ := HR6.out; simp only [Value.slice.injEq] at e'; obtain ⟨rfl, _, rfl⟩ := e'; exact z1 e
       obtain ⟨CA, HCA⟩ : ∃ CA, Hid (cutC (some ⟨ga, 0, none⟩ : Option Addr) uc i = CA) := ⟨_, rfl⟩
       have HRC : Hid (RdC w9 (.slice CA (n - i) (uc - i)) (A.drop i)) := by unfold Hid; rw [← HCA.out]; exact rdC_cut hAok.ok HR9.out i hi hcap1
       clear hx6 hx7 hx8 hlx hsl hrx
       go_wp2_with (first
        | (refine wpList_sliceC rfl _ _ rfl (some ⟨ga, 0, none⟩ : Option Addr) n uc i rfl rfl hi hcap1 hun ?_; rw [HCA.out])
        | (refine wpList_append_cg rfl _ _ rfl w6.heap.size v9 (A.take i ++ [x]) rfl HO9.out _ (A.drop i) hAd rfl HRC.out (by have := HL6.out; simp only [List.length_append, List.length_cons, List.length_nil]; omega) hs69 ?_))
       intro vA wA hoA hgA
       have HBA : Hid (Below w.heap.size w wA) := thenB HB6.out (hb69.grown hgA hs69 (fun q hq => (World.ownsRow.lt HO9.out q hq).1))
       have HOA : Hid (wA.ownsRow w.heap.size 119 46 vA (upX s xs (k + 1)).length ((upX s xs (k + 1)).flatMap cgL)) := by unfold Hid; rw [HA2.out, HS2.out]; exact rowC_mono hoA.own hs6
       clear hoA hgA
       go_wp2_with fail
       go_roundw
       case rel => exact ⟨k + 1, by omega, by go_num, HOA, HBA⟩
       case measure => simp [intOf]; omega
      ·refine wp_region_noPanic ?_
       refine wp_region_held_drew (S := fun W => AlS w W ga wo.heap.size A y) (by kernel_rfl) HSN.out.drew (fun hHeld => ?_)
       refine tk 0 (.int .i64 i) rfl ?_
       try simp only [nz]
       refine tk 1 (.slice (some ⟨ga, 0, none⟩) n uc) rfl ?_
       try simp only [nz]
       refine tk 2 (.int .i64 n) rfl ?_
       try simp only [nz]
       refine tk 3 (.bool true) rfl ?_
       try simp only [nz]
       refine tk 4 (.bool true) rfl ?_
       try simp only [nz]
       refine tk 5 (.slice (some ⟨ga, 0, none⟩) n uc) rfl ?_
       try simp only [nz]
       refine tk 6 (.int .i64 i) rfl ?_
       try simp only [nz]
       refine tk 7 (.pointer (some ⟨ga, i * 46, none⟩)) rfl ?_
       try simp only [nz]
       refine tk 8 (.pointer (some ⟨ga, i * 46, none⟩)) rfl ?_
       try simp only [nz]
       refine wpAnyH_take (i := 9) (v := .agg #[.int .u32 z.pl.ino, .int .i64 z.pl.part, .string z.pl.name, .int .u32 z.pl.chunk]) rfl (by kernel_rfl) (by kernel_rfl) (by kernel_rfl) (fun _ _ _ h => h) (yields_load (by rfl) _ _ rfl _ rfl _ (fun W h => hldz W h.row)) (by assumption) ?_
       try simp only [nz]
       refine tk 10 (.pointer (some ⟨wo.heap.size, 0, none⟩)) rfl ?_
       try simp only [nz]
       refine wpAnyH_take (i := 11) (v := .agg #[.int .u32 y.pl.ino, .int .i64 y.pl.part, .string y.pl.name, .int .u32 y.pl.chunk]) rfl (by kernel_rfl) (by kernel_rfl) (by kernel_rfl) (fun _ _ _ h => h) (yields_load (by rfl) _ _ rfl _ rfl _ (fun W h => h.c.loadP)) (by assumption) ?_
       try simp only [nz]
       refine tk 12 (.bool true) rfl ?_ (fun W hSw => by (try dsimp only at hSw); (have q := heq W; go_simp))
       try simp only [nz]
       refine tk 13 (.bool true) rfl ?_
       try simp only [nz]
       refine wpAnyH_done (by kernel_rfl) ?_ _
       refine NoPanic.normal ?_
       go_wp2_with fail
       have HOA : Hid (w5.drew.ownsRow w.heap.size 119 46 (.slice (some ⟨ga, 0, none⟩) n uc) (upX s xs (k + 1)).length ((upX s xs (k + 1)).flatMap cgL)) := by
        have e1 := rowC_below HO.out ((thenB hb3 HBN.out).drew)
        unfold Hid
        rw [HA2.out, hsame.out z hAm (plEq_iff.1 hpe)]
        rw [HNA.out] at e1 ⊢
        exact e1
       have HBA : Hid (Below w.heap.size w w5.drew) := HSN.out.bel.drew
       go_roundw
       case rel => exact ⟨k + 1, by omega, by go_num, HOA, HBA⟩
       case measure => simp [intOf]; omega
    ·have hilI : ¬ (i : Int) < n := by omega
     go_wp2_with fail
     go_quiet (fail)
     have hbo5 : Below wo.heap.size wo (wr.drewN nq) := thenB hbo0 (belowQ _ _ _)
     have hy5 : CgAt (wr.drewN nq) wo.heap.size y := hyq.below (belowQ _ _ _)
     obtain ⟨w5, hw5⟩ : ∃ w5, wr.drewN nq = w5 := ⟨_, rfl⟩
     rw [hw5] at hbo5 hy5
     rw [hw5]
     clear hw5
     go_wp2_with fail
     go_quiet (fail)
     have HNO : Hid (∀ q ∈ A, q.pl ≠ x.pl) := fun q hq => by
      rw [hxp]
      exact none_at hAok.rise (show i ≤ A.length by rw [HNA.out]; exact hi) HLO.out (fun hh => by rw [HNA.out] at hh; omega) q hq
     have HHI : Hid (i < A.length → cmpP (A.getD i cg0).pl y.pl ≠ -1) := fun hh => by rw [HNA.out] at hh; omega
     have hbo : Below wo.heap.size wo (w5.drewN nq) := thenB hbo5 (belowQ _ _ _)
     have HBW : Hid (Below w.heap.size w (w5.drewN nq)) := thenB HB.out hbo
     have hyW : CgAt (w5.drewN nq) wo.heap.size y := hy5.below (belowQ _ _ _)
     obtain ⟨wt, hwt⟩ : ∃ wt, (w5.drewN nq) = wt := ⟨_, rfl⟩
     rw [hwt] at hbo HBW hyW
     rw [hwt]
     clear hwt hbo5 hy5
     have HS2 : Hid (A2 = A.take i ++ x :: A.drop i) := by unfold Hid; rw [hmore.out HNO.out]; exact (set_at hAok.rise HNO.out (by rw [HNA.out]; exact hi) (fun j hj => by rw [hxp]; exact HLO.out j hj) (fun hh => by rw [hxp]; exact HHI.out hh)).symm
     have hXq := (HX.out.below (HBW.out.mono (Nat.le_refl _)))
     have hlp : Hid _ := hyW.loadP
     have cgt := xget_at hXq y.pl hck.pl x hfx
     go_wp2_with (first
      | (refine wpList_loadG rfl 114 _ rfl _ rfl _ hlp.out ?_))
     refine cgt.mono ?_
     rintro e w5 ⟨rfl, hb5⟩
     clear cgt
     have hn6 := CgAt.laid w5 cg0
     have hb6 := alloc_row (A := w5) (.cells (cgC cg0) 119) (cgC x)
     have hx6 := hn6.setRow x
     obtain ⟨w6, hw6⟩ : ∃ w6, (w5.alloc (.cells (cgC cg0) 119)).setRow w5.heap.size (cgC x) = w6 := ⟨_, rfl⟩
     rw [hw6] at hb6 hx6
     have HB6 : Hid (Below w.heap.size w w6) := thenB (thenB HBW.out hb5) hb6
     have HO6 : Hid (w6.ownsRow w.heap.size 119 46 (.slice ua n uc) A.length (A.flatMap cgL)) := by
      have e1 := rowC_below (rowC_below (rowC_below HO.out hbo) hb5) hb6
      rw [HNA.out] at e1
      rw [HNA.out]
      exact e1
     have hs6 := HB6.out.size
     have hiI : (i : Int) ≤ (n : Int) := by omega
     have hicI : (i : Int) ≤ (uc : Int) := by omega
     have hncI : (n : Int) ≤ (uc : Int) := by omega
     have hAt : ∀ z ∈ A.take i, CgOk z := fun z hz => hAok.ok z (List.mem_of_mem_take hz)
     have hAd : ∀ z ∈ A.drop i, CgOk z := fun z hz => hAok.ok z (List.mem_of_mem_drop hz)
     have hx1 : ∀ z ∈ [x], CgOk z := fun z hz => by rw [List.mem_singleton] at hz; rw [hz]; exact hxok
     have HR6 : Hid (RdC w6 (.slice ua n uc) A) := rdC_own HO6.out
     have HL6 : Hid ((A.take i).length ≤ 5000 ∧ (A.drop i).length ≤ 5000) := by unfold Hid; rw [List.length_take, List.length_drop, HNA.out]; omega
     clear hXq hlp hyW hn3 hy3 hb3 HRA
     go_wp2_with (first
      | (refine wpList_storeG rfl _ _ rfl w5.heap.size x cg0 rfl rfl HXL.out len0 hn6 ?_; rw [hw6])
      | (refine wpList_append_cg rfl _ _ rfl w6.heap.size (.slice none 0 0) [] rfl (World.ownsRow_nil _ _ _ _) (.slice ua i uc) (A.take i) hAt rfl (rdC_to hAok.ok HR6.out i hi) (by have := HL6.out; simp only [List.length_nil]; omega) (Nat.le_refl _) ?_))
     intro v7 w7 ho7 hg7
     replace ho7 : w7.ownsRow w6.heap.size 119 46 v7 (A.take i).length ((A.take i).flatMap cgL) := ho7.own
     have hb7 : Below w6.heap.size w6 w7 := (Below.refl _ w6).grown hg7 (Nat.le_refl _) (fun q hq => by cases hq)
     have hx7 := hx6.below hb7
     have hlx : Hid _ := hx7.load HXL.out
     have HB7 : Hid (Below w.heap.size w w7) := thenB HB6.out hb7
     have HO7 : Hid _ := ho7
     have hsl := slice_cg x HXL.out w7
     have hb8 : Below w7.heap.size w7 (w7.alloc (.cells (cgC x) 119)) := (Below.refl _ _).alloc (Nat.le_refl _) _
     have hx8 := CgAt.laid w7 x
     obtain ⟨w8, hw8⟩ : ∃ w8, w7.alloc (.cells (cgC x) 119) = w8 := ⟨_, rfl⟩
     rw [hw8] at hsl hb8 hx8
     have HO8 : Hid (w8.ownsRow w6.heap.size 119 46 v7 (A.take i).length ((A.take i).flatMap cgL)) := rowC_below HO7.out hb8
     have HB8 : Hid (Below w.heap.size w w8) := thenB HB7.out hb8
     have hs68 : w6.heap.size ≤ w8.heap.size := (thenB hb7 hb8).size
     have hrx : RdC w8 (.slice (some ⟨w7.heap.size, 0, none⟩) 1 1) [x] := ⟨_, _, rfl, (fun e => by cases e), fun _ => ⟨_, 0, rfl, hx8.lt, fun j u hj => by
      rw [cell_of_row _ _ _ _ _ (0, 0) hx8.row, Nat.zero_add]
      rw [List.flatMap_cons, List.flatMap_nil, List.append_nil] at hj
      rw [← Array.getElem?_toList]; exact hj⟩⟩
     go_wp2_with (first
      | (refine wpList_loadG rfl 119 _ rfl _ rfl _ hlx.out ?_)
      | (refine wpList_buildS rfl 104 1 _ rfl #[(0, .agg (cgC x))] (by kernel_rfl) hsl ?_)
      | (refine wpList_append_cg rfl _ _ rfl w6.heap.size v7 (A.take i) rfl HO8.out _ [x] hx1 rfl hrx (by have := HL6.out; simp only [List.length_cons, List.length_nil]; omega) hs68 ?_))
     intro v9 w9 ho9 hg9
     have HO9 : Hid (w9.ownsRow w6.heap.size 119 46 v9 (A.take i ++ [x]).length ((A.take i ++ [x]).flatMap cgL)) := ho9.own
     have hb69 : Below w6.heap.size w6 w9 := (thenB hb7 hb8).grown hg9 hs68 (fun q hq => (World.ownsRow.lt HO8.out q hq).1)
     have hs69 := hb69.size
     have HR9 : Hid (RdC w9 (.slice ua n uc) A) := HR6.out.below hb69
     have hun : ua = none → uc = 0 := fun e => by obtain ⟨a', c', e', z1, _⟩ := HR6.out; simp only [Value.slice.injEq] at e'; obtain ⟨rfl, _, rfl⟩ := e'; exact z1 e
     obtain ⟨CA, HCA⟩ : ∃ CA, Hid (cutC ua uc i = CA) := ⟨_, rfl⟩
     have HRC : Hid (RdC w9 (.slice CA (n - i) (uc - i)) (A.drop i)) := by unfold Hid; rw [← HCA.out]; exact rdC_cut hAok.ok HR9.out i hi hcap1
     clear hx6 hx7 hx8 hlx hsl hrx
     go_wp2_with (first
      | (refine wpList_sliceC rfl _ _ rfl ua n uc i rfl rfl hi hcap1 hun ?_; rw [HCA.out])
      | (refine wpList_append_cg rfl _ _ rfl w6.heap.size v9 (A.take i ++ [x]) rfl HO9.out _ (A.drop i) hAd rfl HRC.out (by have := HL6.out; simp only [List.length_append, List.length_cons, List.length_nil]; omega) hs69 ?_))
     intro vA wA hoA hgA
     have HBA : Hid (Below w.heap.size w wA) := thenB HB6.out (hb69.grown hgA hs69 (fun q hq => (World.ownsRow.lt HO9.out q hq).1))
     have HOA : Hid (wA.ownsRow w.heap.size 119 46 vA (upX s xs (k + 1)).length ((upX s xs (k + 1)).flatMap cgL)) := by unfold Hid; rw [HA2.out, HS2.out]; exact rowC_mono hoA.own hs6
     clear hoA hgA
     go_wp2_with fail
     go_roundw
     case rel => exact ⟨k + 1, by omega, by go_num, HOA, HBA⟩
     case measure => simp [intOf]; omega
  ·obtain rfl : k = N := by omega
   have hltI : ¬ (k : Int) < k := by omega
   have hA := upX_all hr hs
   rw [HN.out] at hA
   rw [hA] at HO
   go_wp2
   go_ret
   exact ⟨_, rfl, HO.out, HB.out⟩
structure KeepX (p : Nat) (w w' : World) : Prop where
 os : w'.os = w.os
 tape : w'.tape = w.tape
 output : w'.output = w.output
 size : w.heap.size ≤ w'.heap.size
 block : ∀ k, k < w.heap.size → k ≠ p → w'.heap[k]? = w.heap[k]?
theorem KeepX.of_below {p : Nat} {w w' : World} (h : Below w.heap.size w w') : KeepX p w w' := ⟨h.os, h.tape, h.output, h.size, fun k hk _ => h.block k hk⟩
theorem run_append_cg (w : World) (a : Option Addr) (A : List Cg) (hA : ∀ c ∈ A, CgOk c) (h : RdC w (.slice a A.length A.length) A) (hlen : A.length ≤ 1000000) (g0 : Nat) (c : Cg) (hc : CgOk c) (hg0 : CgAt w g0 c) (ty : TypeId) :
  ∃ v W, (Builtin.append_ #[104, 104] ty #[.slice a A.length A.length, .slice (some ⟨g0, 0, none⟩) 1 1]).run Tryz.prog w = .ok v W ∧ W.ownsRow w.heap.size 119 46 v (A ++ [c]).length ((A ++ [c]).flatMap cgL) ∧ Below w.heap.size w W := by
 obtain ⟨i, hi, hz0, hz1, hz2⟩ := info3 info_cg
 have hcl := cgL_len hc.pt.ch.1
 have hsrc := Src.ofSlice (P := Tryz.prog) w (size := i.size) (tx := 104) Tryz.underlying104 ⟨g0, 0, none⟩ 1 1 (cgL c) (by rw [hz1, hcl]) (fun j u hj => by
  have hadd : (⟨g0, 0, none⟩ : Addr).add j = ⟨g0, j, none⟩ := by unfold Addr.add; split <;> simp_all
  rw [hadd, cell_of_row w g0 j _ _ (0, 0) hg0.row, ← hj]
  exact List.getElem?_toArray) (one_cgL c)
 have hold : (Builtin.firstCells i.size A.length (.slice a A.length A.length)).run Tryz.prog w.drew = .ok (A.flatMap cgL).toArray w.drew := by
  obtain ⟨a', c', e, _, h4⟩ := h
  simp only [Value.slice.injEq] at e
  obtain ⟨rfl, _, _⟩ := e
  rcases Nat.eq_zero_or_pos A.length with h0 | hp
  ·obtain rfl : A = [] := List.eq_nil_of_length_eq_zero h0
   cases a with
   | none => simp [Builtin.firstCells]
   | some ad => simpa using run_firstCells_some (P := Tryz.prog) w.drew i.size 0 ad 0 0 [] (by simp) (fun j u hj => by simp at hj)
  ·obtain ⟨b, off, rfl, hb, hcs⟩ := h4 hp
   refine run_firstCells_some (P := Tryz.prog) w.drew i.size A.length ⟨b, off, none⟩ A.length A.length _ (by rw [hz1, flatC_len hA]) (fun j u hj => ?_)
   have hadd : (⟨b, off, none⟩ : Addr).add j = ⟨b, off + j, none⟩ := by unfold Addr.add; split <;> simp_all
   rw [hadd]
   exact hcs j u hj
 have hr := run_append_grow_src (P := Tryz.prog) w 104 104 ty 119 i (.agg (cgC cg0)) Tryz.underlying104 hi hz0 a A.length A.length _ hold _ 1 _ hsrc (by omega) (by omega) (by rw [hz2]; exact growslice_fits (by omega) (by omega))
 obtain ⟨cp, hge, hcm, hce⟩ : ∃ cp, A.length + 1 ≤ cp ∧ cp ≤ maxLen ∧ cp = grownCap w (A.length + 1) A.length 119 := ⟨_, grownCap_ge w _ _ _, grownCap_le_maxLen w _ _ _ (by unfold maxLen; omega), rfl⟩
 rw [← hce] at hr
 have hzl : (Builtin.zeroCells (Value.agg (cgC cg0)).cells (cp - (A.length + 1))).size = (cp - (A.length + 1)) * 46 := by
  rw [show (Value.agg (cgC cg0)).cells = cgC cg0 from rfl, size_zeroCells, cgC_size cg0_ok.pt.ch.1]
 have hfl := flatC_len hA
 refine ⟨_, _, hr, ?_, (Below.refl _ w).drew.alloc (Nat.le_refl _) _⟩
 have hl1 : ((A ++ [c]).flatMap cgL) = A.flatMap cgL ++ cgL c := by simp
 have hln : (A ++ [c]).length = A.length + 1 := by simp
 rw [hl1, hln]
 refine ⟨by rw [List.length_append, hfl, hcl]; omega, .inr ⟨w.heap.size, cp, _, rfl, Nat.le_refl _, heap_alloc_new w.drew _, hge, hcm, ?_, ?_⟩⟩
 ·rw [Array.size_append, hzl, List.size_toArray, List.length_append, hfl, hcl]
  have : cp = A.length + 1 + (cp - (A.length + 1)) := by omega
  rw [this, Nat.add_mul, Nat.add_mul, show A.length + 1 + (cp - (A.length + 1)) - (A.length + 1) = cp - (A.length + 1) by omega, Nat.one_mul]
 ·rw [Array.toList_append]
  show ((A.flatMap cgL ++ cgL c) ++ _).take _ = A.flatMap cgL ++ cgL c
  rw [List.take_append_of_le_length (by rw [List.length_append, hfl, hcl]; omega)]
  exact List.take_of_length_le (by rw [List.length_append, hfl, hcl]; omega)
theorem cut3_run (w : World) (a : Option Addr) (n c : Nat) (hc : n ≤ c) : (Instr.sliceAt 104 (.slice a n c) none (some (.int .i64 n)) (some (.int .i64 n))).run Tryz.prog w = .ok (.slice a n n) w := by
 have u := Tryz.underlying104
 have h2 : (n : Int) ≤ (c : Int) := by omega
 go_simp
theorem put_err {s : Dl} {c : Cg} (h : ckOk c = false) : (putX s c).2 = 1 := by unfold putX behX; rw [h]; rfl
theorem put_full {s : Dl} {c : Cg} (h : ckOk c = true) (hi : isX s c.pl = false) (hb : (s.L.length : Int) ≥ s.most) : (putX s c).2 = 201 := by unfold putX behX; rw [h, hi, if_pos rfl, if_neg (by decide), if_pos hb]
theorem put_fine {s : Dl} {c : Cg} (h : ckOk c = true) (hi : isX s c.pl = false) (hb : ¬ (s.L.length : Int) ≥ s.most) : (putX s c).2 = 0 := by unfold putX behX; rw [h, hi, if_pos rfl, if_neg (by decide), if_neg hb]
theorem put_join {s : Dl} {c : Cg} (h : ckOk c = true) (hi : isX s c.pl = true) : (putX s c).2 = (joinX (wasX s c.pl) c).2 := by unfold putX behX; rw [h, hi, if_pos rfl, if_pos rfl]
theorem xput_any {w : World} {p : Nat} {v : Value} {M : Int} {xs : List Cg} {s : Dl} (hX : XdAt w p v M xs) (hr : Rel s xs) (hs : DlOk s) (hM : M = s.most) (hm : xs.length ≤ 5000) (hmL : s.L.length ≤ 5000) (c : Cg) (hc : CgOk c) : Calls Tryz.prog 90 #[.pointer (some ⟨p, 0, none⟩), .agg (cgC c)] w fun e w' =>
  e = .returned (.int .i64 (putX s c).2) ∧ ∃ v', XdAt w' p v' M (if (putX s c).2 = 0 then xs ++ [c] else xs) ∧ KeepX p w w' ∧ (∀ k, v'.ownBlock = some k → v.ownBlock = some k ∨ w.heap.size ≤ k) := by
 have HM : Hid (M = s.most) := hM
 clear hM
 have hz := zeroCg
 have len0 : cg0.pt.bytes.length = 32 := cg0_ok.pt.ch.1
 have HC : Hid (c.pt.bytes.length = 32) := hc.pt.ch.1
 have hwok := getL_ok hs.L c.pl
 have HW : Hid ((wasX s c.pl).pt.bytes.length = 32) := hwok.pt.ch.1
 have al : ∀ (A : World) (o : Obj), Below A.heap.size A (A.alloc o) := fun A o => (Below.refl _ A).alloc (Nat.le_refl _) o
 have hc1 := CgAt.laid w c
 have hB1 := al w (.cells (cgC c) 119)
 obtain ⟨w1, hw1⟩ : ∃ w1, w.alloc (.cells (cgC c) 119) = w1 := ⟨_, rfl⟩
 rw [hw1] at hc1 hB1
 have hl1 : Hid _ := hc1.load HC.out
 have ck := rck_any w1 c hc
 obtain ⟨er, her⟩ : ∃ er, (putX s c).2 = er := ⟨_, rfl⟩
 rw [her]
 go_enter Tryz.func90, Tryz.ntmps90
 go_wp2_with (refine wpList_loadG rfl 119 _ rfl _ rfl _ hl1.out ?_)
 refine ck.mono ?_
 rintro e w2 ⟨rfl, hb2⟩
 clear ck
 have hB2 := thenB hB1 hb2
 have hc2 := hc1.below hb2
 by_cases hck : ckOk c = true
 ·have e1 : ckE c = 0 := by unfold ckE; rw [hck]; rfl
  rw [e1]
  clear e1
  have hX2 := hX.below hB2
  have hp2 : Hid _ := hc2.loadP
  have cg : Calls Tryz.prog 103 #[.pointer (some ⟨p, 0, none⟩), plV c.pl] w2 fun e w' => e = .returned (.tuple #[.agg (cgC (wasX s c.pl)), .bool (isX s c.pl)]) ∧ Below w2.heap.size w2 w' := by
   have := xget_any hX2 c.pl hc.pl
   rw [← hr.now c.pl] at this
   exact this
  go_wp2_with (refine wpList_loadG rfl 114 _ rfl _ rfl _ hp2.out ?_)
  refine cg.mono ?_
  rintro e w3 ⟨rfl, hb3⟩
  clear cg hp2
  have hn4 := CgAt.laid w3 cg0
  have hb4 := alloc_row (A := w3) (.cells (cgC cg0) 119) (cgC (wasX s c.pl))
  have ho4 := hn4.setRow (wasX s c.pl)
  obtain ⟨w4, hw4⟩ : ∃ w4, (w3.alloc (.cells (cgC cg0) 119)).setRow w3.heap.size (cgC (wasX s c.pl)) = w4 := ⟨_, rfl⟩
  rw [hw4] at hb4 ho4
  have hB4 := thenB (thenB hB2 hb3) hb4
  have hc4 := (hc2.below hb3).below hb4
  have hX4 := hX.below hB4
  have lo4 : Hid _ := ho4.load HW.out
  have lc4 : Hid _ := hc4.load HC.out
  cases his : isX s c.pl
  ·go_wp2_with (first
    | (refine wpList_storeG rfl _ _ rfl w3.heap.size (wasX s c.pl) cg0 rfl rfl HW.out len0 hn4 ?_; rw [hw4]))
   have c41 := hX4.c1
   have ca := fun (W : World) (hW : Below w4.heap.size w4 W) => xall_any (hX4.below hW) hr hs hm hmL
   have q5 : ∀ W, Below w4.heap.size w4 W → W.cell? ⟨p, 1, none⟩ = some (.int .i64 M) := fun W hW => (hX4.below hW).c1
   obtain ⟨nl, hnl⟩ : ∃ nl, s.L.length = nl := ⟨_, rfl⟩
   by_cases hbig : (nl : Int) ≥ M
   ·have e2 : er = 201 := by rw [← her]; exact put_full hck his (by rw [hnl, ← HM.out]; exact hbig)
    subst e2
    go_wp2_with fail
    refine wp_region_noPanic ?_
    refine wp_region_held_drew (S := fun W => Below w4.heap.size w4 W) (by kernel_rfl) (Below.refl _ _).drew (fun hHeld => ?_)
    refine tk 0 (.pointer (some ⟨p, 0, none⟩)) rfl ?_
    try simp only [nz]
    refine tk 3 (.pointer (some ⟨p, 0, none⟩)) rfl ?_
    try simp only [nz]
    refine tk 4 (.pointer (some ⟨p, 0, none⟩)) rfl ?_
    try simp only [nz]
    refine tk 5 (.pointer (some ⟨p, 1, none⟩)) rfl ?_
    try simp only [nz]
    refine tk 6 (.int .i64 M) rfl ?_ (fun W hSw => by (try dsimp only at hSw); (have z := q5 W hSw; go_simp))
    try simp only [nz]
    refine rd 1 rfl (fun K hK => ?_)
    go_simp
    go_wp2_with (go_at_call 51; refine (ca _ (by assumption)).mono ?_; rintro e w5 ⟨u, rfl, hu, hb5⟩)
    obtain ⟨ua, uc, rfl⟩ := own_shape hu
    rw [hnl]
    refine hK.out _ _ (thenB (by assumption) hb5) (fun hHeld2 => ?_)
    clear hK K hu
    try simp only [nz]
    refine tk 2 (.int .i64 nl) rfl ?_
    try simp only [nz]
    refine tk 7 (.bool true) rfl ?_
    try simp only [nz]
    refine wpAnyH_done (by kernel_rfl) ?_ _
    refine NoPanic.normal ?_
    have hB6 := thenB hB4 hHeld2
    go_wp2_with fail
    go_ret
    exact ⟨rfl, v, by first | exact hX.below hB6 | (rw [if_neg (by decide)]; exact hX.below hB6), KeepX.of_below hB6, fun k hk => .inl hk⟩
   ·have e2 : er = 0 := by rw [← her]; exact put_fine hck his (by rw [hnl, ← HM.out]; exact hbig)
    subst e2
    go_wp2_with fail
    refine wp_region_noPanic ?_
    refine wp_region_held_drew (S := fun W => Below w4.heap.size w4 W) (by kernel_rfl) (Below.refl _ _).drew (fun hHeld => ?_)
    refine tk 0 (.pointer (some ⟨p, 0, none⟩)) rfl ?_
    try simp only [nz]
    refine tk 3 (.pointer (some ⟨p, 0, none⟩)) rfl ?_
    try simp only [nz]
    refine tk 4 (.pointer (some ⟨p, 0, none⟩)) rfl ?_
    try simp only [nz]
    refine tk 5 (.pointer (some ⟨p, 1, none⟩)) rfl ?_
    try simp only [nz]
    refine tk 6 (.int .i64 M) rfl ?_ (fun W hSw => by (try dsimp only at hSw); (have z := q5 W hSw; go_simp))
    try simp only [nz]
    refine rd 1 rfl (fun K hK => ?_)
    go_simp
    go_wp2_with (go_at_call 51; refine (ca _ (by assumption)).mono ?_; rintro e w5 ⟨u, rfl, hu, hb5⟩)
    obtain ⟨ua, uc, rfl⟩ := own_shape hu
    rw [hnl]
    refine hK.out _ _ (thenB (by assumption) hb5) (fun hHeld2 => ?_)
    clear hK K hu
    try simp only [nz]
    refine tk 2 (.int .i64 nl) rfl ?_
    try simp only [nz]
    refine tk 7 (.bool false) rfl ?_
    try simp only [nz]
    refine wpAnyH_done (by kernel_rfl) ?_ _
    refine NoPanic.normal ?_
    have HBW : Hid (Below w.heap.size w w5) := thenB hB4 hHeld2
    have hcW := hc4.below hHeld2
    obtain ⟨wt, rfl⟩ : ∃ wt, wt = w5 := ⟨_, rfl⟩
    clear hHeld hHeld2 ca q5 c41 hX4 hX2
    go_wp2_with fail
    obtain ⟨a0, cap0, rfl, hlc0, hcm0, hrw0⟩ := xrow_of hX.ok hX.at_
    have hXq := hX.below HBW.out
    have HRD : Hid (RdC wt (.slice a0 xs.length xs.length) xs) := by
     obtain ⟨a', c', e, z1, z2⟩ := rdC_own hXq.at_
     simp only [Value.slice.injEq] at e
     obtain ⟨rfl, _, rfl⟩ := e
     exact ⟨_, _, rfl, fun hn => by have := z1 hn; omega, z2⟩
    have HRT : Hid (wt.heap[p]? = some (.cells (xdC (.slice a0 xs.length cap0) M) 179 (0, 0))) := hXq.row
    have hXok := hX.ok
    have hold : ∀ k, (Value.slice a0 xs.length cap0).ownBlock = some k → k < w.heap.size := fun k hk => (World.ownsRow.lt hX.at_ k hk).2
    have hpl := hX.lt
    have hsW := HBW.out.size
    clear hXq hrw0
    obtain ⟨n, hn⟩ : ∃ n, xs.length = n := ⟨_, rfl⟩
    have HN : Hid (xs.length = n) := hn
    rw [hn] at hlc0 hm
    have q0 : ∀ W, Below wt.heap.size wt W → (Instr.loadAt 104 (.pointer (some ⟨p, 0, none⟩))).run Tryz.prog W = .ok (.slice a0 n cap0) W := fun W hW => by
     have e := (hW.block p (by omega)).trans HRT.out
     have c : W.cell? ⟨p, 0, none⟩ = some (.slice a0 n cap0) := by rw [cell_of_row _ _ _ _ _ (0, 0) e, ← HN.out]; rfl
     have u := Tryz.underlying104
     go_simp
    have q1 : ∀ W, Below wt.heap.size wt W → CgAt W w.heap.size c := fun W hW => hcW.below hW
    have hbs := fun W => slice_cg c HC.out W
    have hct := fun W => cut3_run W a0 n cap0 hlc0
    clear hn
    refine wp_region_noPanic ?_
    refine wp_region_sink 21 (S := fun W => Below wt.heap.size wt W) (by kernel_rfl) (by kernel_rfl) (Below.refl _ _).drew (fun hHeld => ?_)
    refine tk 0 (.pointer (some ⟨p, 0, none⟩)) rfl ?_
    try simp only [nz]
    refine tk 1 (.pointer (some ⟨p, 0, none⟩)) rfl ?_
    try simp only [nz]
    refine tk 2 (.pointer (some ⟨p, 0, none⟩)) rfl ?_
    try simp only [nz]
    refine tk 3 (.pointer (some ⟨p, 0, none⟩)) rfl ?_
    try simp only [nz]
    refine wpAnyH_take (i := 4) (v := .slice a0 n cap0) rfl (by kernel_rfl) (by kernel_rfl) (by kernel_rfl) (fun _ _ _ h => h) (yields_load (by rfl) _ _ rfl _ rfl _ q0) (by assumption) ?_
    try simp only [nz]
    refine tk 5 (.pointer (some ⟨p, 0, none⟩)) rfl ?_
    try simp only [nz]
    refine tk 6 (.pointer (some ⟨p, 0, none⟩)) rfl ?_
    try simp only [nz]
    refine tk 7 (.pointer (some ⟨p, 0, none⟩)) rfl ?_
    try simp only [nz]
    refine wpAnyH_take (i := 8) (v := .slice a0 n cap0) rfl (by kernel_rfl) (by kernel_rfl) (by kernel_rfl) (fun _ _ _ h => h) (yields_load (by rfl) _ _ rfl _ rfl _ q0) (by assumption) ?_
    try simp only [nz]
    refine tk 9 (.int .i64 n) rfl ?_
    try simp only [nz]
    refine tk 10 (.pointer (some ⟨p, 0, none⟩)) rfl ?_
    try simp only [nz]
    refine tk 11 (.pointer (some ⟨p, 0, none⟩)) rfl ?_
    try simp only [nz]
    refine tk 12 (.pointer (some ⟨p, 0, none⟩)) rfl ?_
    try simp only [nz]
    refine wpAnyH_take (i := 13) (v := .slice a0 n cap0) rfl (by kernel_rfl) (by kernel_rfl) (by kernel_rfl) (fun _ _ _ h => h) (yields_load (by rfl) _ _ rfl _ rfl _ q0) (by assumption) ?_
    try simp only [nz]
    refine tk 14 (.int .i64 n) rfl ?_
    try simp only [nz]
    refine tk 15 (.slice a0 n n) rfl ?_ (fun W hSw => by (try dsimp only at hSw); (have q := hct W; go_simp))
    try simp only [nz]
    refine wpAnyH_take (i := 16) (v := .agg (cgC c)) rfl (by kernel_rfl) (by kernel_rfl) (by kernel_rfl) (fun _ _ _ h => h) (yields_load (by rfl) _ _ rfl _ rfl _ (fun W hW => (q1 W hW).load HC.out)) (by assumption) ?_
    try simp only [nz]
    refine rd 17 rfl (fun K hK => ?_)
    rw [if_pos (by rfl)]
    refine wp_buildS 104 1 _ rfl #[(0, .agg (cgC c))] (by kernel_rfl) (hbs _) ?_
    have hb6 : Below wt.heap.size wt (wt.drew.alloc (.cells (cgC c) 119)) := (Below.refl _ wt).drew.alloc (Nat.le_refl _) _
    refine hK.out _ _ hb6 (fun hHeld2 => ?_)
    clear hK K
    try simp only [nz]
    have hx6 := CgAt.laid wt.drew c
    obtain ⟨w6, hw6⟩ : ∃ w6, (wt.drew.alloc (.cells (cgC c) 119)) = w6 := ⟨_, rfl⟩
    rw [hw6] at hb6 hx6 hHeld2 ⊢
    refine rd 18 rfl (fun K hK => ?_)
    rw [if_pos (by rfl)]
    obtain ⟨v7, w7, hrun, h7o, h7b⟩ := run_append_cg w6 a0 xs hXok (HRD.out.below hb6) (by have := HN.out; omega) _ c hc hx6 104
    rw [HN.out] at hrun
    obtain ⟨a7, cap7, rfl⟩ := own_shape h7o
    refine wp_app _ _ 104 rfl _ _ rfl rfl hrun ?_
    have hb7 : Below wt.heap.size wt w7 := thenB hb6 h7b
    refine hK.out _ _ hb7 (fun hHeld4 => ?_)
    clear hK K
    try simp only [nz]
    refine tk 19 (.pointer (some ⟨p, 0, none⟩)) rfl ?_
    try simp only [nz]
    refine tk 20 (.pointer (some ⟨p, 0, none⟩)) rfl ?_
    try simp only [nz]
    have hG7 := (hb7.block p (by omega)).trans HRT.out
    have c70 : w7.cell? ⟨p, 0, none⟩ = some (.slice a0 n cap0) := by rw [cell_of_row _ _ _ _ _ (0, 0) hG7, ← HN.out]; rfl
    have f70 := frozen_of_row w7 p 0 _ _ hG7
    obtain ⟨n7, hn7⟩ : ∃ n7, (xs ++ [c]).length = n7 := ⟨_, rfl⟩
    have HN7 : Hid ((xs ++ [c]).length = n7) := hn7
    rw [hn7] at h7o
    try rw [hn7]
    have hG8 := heap_setCell_same w7 p 0 _ _ (.slice a7 n7 cap7) hG7
    obtain ⟨w8, hw8⟩ : ∃ w8, w7.setCell ⟨p, 0, none⟩ (.slice a7 n7 cap7) = w8 := ⟨_, rfl⟩
    have hS78 : Sole [p] w7 w8 := by rw [← hw8]; exact Sole.setCell _ _ (by simp)
    rw [hw8] at hG8
    have h7k : ∀ k, (Value.slice a7 n7 cap7).ownBlock = some k → w6.heap.size ≤ k := fun k hk => (World.ownsRow.lt h7o k hk).1
    have HO8 : Hid (w8.ownsRow 0 119 46 (.slice a7 n7 cap7) n7 ((xs ++ [c]).flatMap cgL)) := by
     have e1 := own_keep h7o hS78.size (fun k hk hl => hS78.block k hl (by have := h7k k hk; have := hb6.size; simp only [List.mem_singleton]; omega))
     obtain ⟨z1, z2 | ⟨g, cp, cur, z2, z3, z4⟩⟩ := e1
     ·exact ⟨z1, .inl z2⟩
     ·exact ⟨z1, .inr ⟨g, cp, cur, z2, Nat.zero_le _, z4⟩⟩
    have HG8 : Hid (w8.heap[p]? = some (.cells (xdC (.slice a7 n7 cap7) M) 179 (0, 0))) := hG8
    have HK8 : Hid (KeepX p w w8) := by
     have hbw7 : Below w.heap.size w w7 := thenB HBW.out hb7
     exact ⟨hS78.os.trans hbw7.os, hS78.tape.trans hbw7.tape, hS78.output.trans hbw7.output, Nat.le_trans hbw7.size hS78.size, fun k hk hkp => (hS78.block k (Nat.lt_of_lt_of_le hk hbw7.size) (by simpa using hkp)).trans (hbw7.block k hk)⟩
    have HW7 : Hid (∀ k, (Value.slice a7 n7 cap7).ownBlock = some k → (Value.slice a0 n cap0).ownBlock = some k ∨ w.heap.size ≤ k) := fun k hk => .inr (by have := h7k k hk; have := hb6.size; omega)
    refine wpAnyH_done (by kernel_rfl) ?_ _
    refine Behind.run (by rfl) ?_
    go_simp
    go_wp2
    refine NoPanic.normal ?_
    clear q0 q1 hrun h7o h7b hG7 hG8 c70 f70 hS78 hHeld hHeld2 hHeld4 hbs hct h7k
    go_wp2
    go_ret
    refine ⟨rfl, .slice a7 n7 cap7, ?_, ?_, by rw [HN.out]; exact HW7.out⟩
    ·refine ⟨HG8.out, ?_, fun z hz => ?_⟩
     ·try rw [if_pos rfl]
      rw [HN7.out]; exact HO8.out
     ·try rw [if_pos rfl] at hz
      rcases List.mem_append.1 hz with hz | hz
      ·exact hXok z hz
      ·rw [List.mem_singleton] at hz; rw [hz]; exact hc
    ·exact ⟨HK8.out.os, HK8.out.tape, HK8.out.output, HK8.out.size, HK8.out.block⟩
  ·have her2 : er = (joinX (wasX s c.pl) c).2 := by rw [← her]; exact put_join hck his
   have cj := rj_any w4 (wasX s c.pl) c hwok hc
   go_wp2_with (first
    | (refine wpList_storeG rfl _ _ rfl w3.heap.size (wasX s c.pl) cg0 rfl rfl HW.out len0 hn4 ?_; rw [hw4])
    | (refine wpList_loadG rfl 119 _ rfl _ rfl _ lo4.out ?_)
    | (refine wpList_loadG rfl 119 _ rfl _ rfl _ lc4.out ?_))
   refine cj.mono ?_
   rintro e w5 ⟨rfl, hb5⟩
   clear cj
   have hjo := joinX_ok hwok hc
   have HJ : Hid ((joinX (wasX s c.pl) c).1.pt.bytes.length = 32) := hjo.pt.ch.1
   have hn6 := CgAt.laid w5 cg0
   have hb6' := alloc_row (A := w5) (.cells (cgC cg0) 119) (cgC (joinX (wasX s c.pl) c).1)
   obtain ⟨w6', hw6'⟩ : ∃ w6', (w5.alloc (.cells (cgC cg0) 119)).setRow w5.heap.size (cgC (joinX (wasX s c.pl) c).1) = w6' := ⟨_, rfl⟩
   rw [hw6'] at hb6'
   have hB6 := thenB (thenB hB4 hb5) hb6'
   obtain ⟨jn, hjn⟩ : ∃ jn, (joinX (wasX s c.pl) c).2 = jn := ⟨_, rfl⟩
   have HJN : Hid ((joinX (wasX s c.pl) c).2 = jn) := hjn
   rw [hjn]
   have hej : er = jn := her2.trans hjn
   clear her her2 hjn HJN
   subst hej
   by_cases hj0 : er = 0
   ·subst hj0
    have HBW : Hid (Below w.heap.size w w6') := hB6
    have hcW := (hc4.below hb5).below hb6'
    go_wp2_with (refine wpList_storeG rfl _ _ rfl w5.heap.size (joinX (wasX s c.pl) c).1 cg0 rfl rfl HJ.out len0 hn6 ?_; rw [hw6'])
    obtain ⟨wt, rfl⟩ : ∃ wt, wt = w6' := ⟨_, rfl⟩
    clear hX4 hX2
    obtain ⟨a0, cap0, rfl, hlc0, hcm0, hrw0⟩ := xrow_of hX.ok hX.at_
    have hXq := hX.below HBW.out
    have HRD : Hid (RdC wt (.slice a0 xs.length xs.length) xs) := by
     obtain ⟨a', c', e, z1, z2⟩ := rdC_own hXq.at_
     simp only [Value.slice.injEq] at e
     obtain ⟨rfl, _, rfl⟩ := e
     exact ⟨_, _, rfl, fun hn => by have := z1 hn; omega, z2⟩
    have HRT : Hid (wt.heap[p]? = some (.cells (xdC (.slice a0 xs.length cap0) M) 179 (0, 0))) := hXq.row
    have hXok := hX.ok
    have hold : ∀ k, (Value.slice a0 xs.length cap0).ownBlock = some k → k < w.heap.size := fun k hk => (World.ownsRow.lt hX.at_ k hk).2
    have hpl := hX.lt
    have hsW := HBW.out.size
    clear hXq hrw0
    obtain ⟨n, hn⟩ : ∃ n, xs.length = n := ⟨_, rfl⟩
    have HN : Hid (xs.length = n) := hn
    rw [hn] at hlc0 hm
    have q0 : ∀ W, Below wt.heap.size wt W → (Instr.loadAt 104 (.pointer (some ⟨p, 0, none⟩))).run Tryz.prog W = .ok (.slice a0 n cap0) W := fun W hW => by
     have e := (hW.block p (by omega)).trans HRT.out
     have c : W.cell? ⟨p, 0, none⟩ = some (.slice a0 n cap0) := by rw [cell_of_row _ _ _ _ _ (0, 0) e, ← HN.out]; rfl
     have u := Tryz.underlying104
     go_simp
    have q1 : ∀ W, Below wt.heap.size wt W → CgAt W w.heap.size c := fun W hW => hcW.below hW
    have hbs := fun W => slice_cg c HC.out W
    have hct := fun W => cut3_run W a0 n cap0 hlc0
    clear hn
    refine wp_region_noPanic ?_
    refine wp_region_sink 21 (S := fun W => Below wt.heap.size wt W) (by kernel_rfl) (by kernel_rfl) (Below.refl _ _).drew (fun hHeld => ?_)
    refine tk 0 (.pointer (some ⟨p, 0, none⟩)) rfl ?_
    try simp only [nz]
    refine tk 1 (.pointer (some ⟨p, 0, none⟩)) rfl ?_
    try simp only [nz]
    refine tk 2 (.pointer (some ⟨p, 0, none⟩)) rfl ?_
    try simp only [nz]
    refine tk 3 (.pointer (some ⟨p, 0, none⟩)) rfl ?_
    try simp only [nz]
    refine wpAnyH_take (i := 4) (v := .slice a0 n cap0) rfl (by kernel_rfl) (by kernel_rfl) (by kernel_rfl) (fun _ _ _ h => h) (yields_load (by rfl) _ _ rfl _ rfl _ q0) (by assumption) ?_
    try simp only [nz]
    refine tk 5 (.pointer (some ⟨p, 0, none⟩)) rfl ?_
    try simp only [nz]
    refine tk 6 (.pointer (some ⟨p, 0, none⟩)) rfl ?_
    try simp only [nz]
    refine tk 7 (.pointer (some ⟨p, 0, none⟩)) rfl ?_
    try simp only [nz]
    refine wpAnyH_take (i := 8) (v := .slice a0 n cap0) rfl (by kernel_rfl) (by kernel_rfl) (by kernel_rfl) (fun _ _ _ h => h) (yields_load (by rfl) _ _ rfl _ rfl _ q0) (by assumption) ?_
    try simp only [nz]
    refine tk 9 (.int .i64 n) rfl ?_
    try simp only [nz]
    refine tk 10 (.pointer (some ⟨p, 0, none⟩)) rfl ?_
    try simp only [nz]
    refine tk 11 (.pointer (some ⟨p, 0, none⟩)) rfl ?_
    try simp only [nz]
    refine tk 12 (.pointer (some ⟨p, 0, none⟩)) rfl ?_
    try simp only [nz]
    refine wpAnyH_take (i := 13) (v := .slice a0 n cap0) rfl (by kernel_rfl) (by kernel_rfl) (by kernel_rfl) (fun _ _ _ h => h) (yields_load (by rfl) _ _ rfl _ rfl _ q0) (by assumption) ?_
    try simp only [nz]
    refine tk 14 (.int .i64 n) rfl ?_
    try simp only [nz]
    refine tk 15 (.slice a0 n n) rfl ?_ (fun W hSw => by (try dsimp only at hSw); (have q := hct W; go_simp))
    try simp only [nz]
    refine wpAnyH_take (i := 16) (v := .agg (cgC c)) rfl (by kernel_rfl) (by kernel_rfl) (by kernel_rfl) (fun _ _ _ h => h) (yields_load (by rfl) _ _ rfl _ rfl _ (fun W hW => (q1 W hW).load HC.out)) (by assumption) ?_
    try simp only [nz]
    refine rd 17 rfl (fun K hK => ?_)
    rw [if_pos (by rfl)]
    refine wp_buildS 104 1 _ rfl #[(0, .agg (cgC c))] (by kernel_rfl) (hbs _) ?_
    have hb6 : Below wt.heap.size wt (wt.drew.alloc (.cells (cgC c) 119)) := (Below.refl _ wt).drew.alloc (Nat.le_refl _) _
    refine hK.out _ _ hb6 (fun hHeld2 => ?_)
    clear hK K
    try simp only [nz]
    have hx6 := CgAt.laid wt.drew c
    obtain ⟨w6, hw6⟩ : ∃ w6, (wt.drew.alloc (.cells (cgC c) 119)) = w6 := ⟨_, rfl⟩
    rw [hw6] at hb6 hx6 hHeld2 ⊢
    refine rd 18 rfl (fun K hK => ?_)
    rw [if_pos (by rfl)]
    obtain ⟨v7, w7, hrun, h7o, h7b⟩ := run_append_cg w6 a0 xs hXok (HRD.out.below hb6) (by have := HN.out; omega) _ c hc hx6 104
    rw [HN.out] at hrun
    obtain ⟨a7, cap7, rfl⟩ := own_shape h7o
    refine wp_app _ _ 104 rfl _ _ rfl rfl hrun ?_
    have hb7 : Below wt.heap.size wt w7 := thenB hb6 h7b
    refine hK.out _ _ hb7 (fun hHeld4 => ?_)
    clear hK K
    try simp only [nz]
    refine tk 19 (.pointer (some ⟨p, 0, none⟩)) rfl ?_
    try simp only [nz]
    refine tk 20 (.pointer (some ⟨p, 0, none⟩)) rfl ?_
    try simp only [nz]
    have hG7 := (hb7.block p (by omega)).trans HRT.out
    have c70 : w7.cell? ⟨p, 0, none⟩ = some (.slice a0 n cap0) := by rw [cell_of_row _ _ _ _ _ (0, 0) hG7, ← HN.out]; rfl
    have f70 := frozen_of_row w7 p 0 _ _ hG7
    obtain ⟨n7, hn7⟩ : ∃ n7, (xs ++ [c]).length = n7 := ⟨_, rfl⟩
    have HN7 : Hid ((xs ++ [c]).length = n7) := hn7
    rw [hn7] at h7o
    try rw [hn7]
    have hG8 := heap_setCell_same w7 p 0 _ _ (.slice a7 n7 cap7) hG7
    obtain ⟨w8, hw8⟩ : ∃ w8, w7.setCell ⟨p, 0, none⟩ (.slice a7 n7 cap7) = w8 := ⟨_, rfl⟩
    have hS78 : Sole [p] w7 w8 := by rw [← hw8]; exact Sole.setCell _ _ (by simp)
    rw [hw8] at hG8
    have h7k : ∀ k, (Value.slice a7 n7 cap7).ownBlock = some k → w6.heap.size ≤ k := fun k hk => (World.ownsRow.lt h7o k hk).1
    have HO8 : Hid (w8.ownsRow 0 119 46 (.slice a7 n7 cap7) n7 ((xs ++ [c]).flatMap cgL)) := by
     have e1 := own_keep h7o hS78.size (fun k hk hl => hS78.block k hl (by have := h7k k hk; have := hb6.size; simp only [List.mem_singleton]; omega))
     obtain ⟨z1, z2 | ⟨g, cp, cur, z2, z3, z4⟩⟩ := e1
     ·exact ⟨z1, .inl z2⟩
     ·exact ⟨z1, .inr ⟨g, cp, cur, z2, Nat.zero_le _, z4⟩⟩
    have HG8 : Hid (w8.heap[p]? = some (.cells (xdC (.slice a7 n7 cap7) M) 179 (0, 0))) := hG8
    have HK8 : Hid (KeepX p w w8) := by
     have hbw7 : Below w.heap.size w w7 := thenB HBW.out hb7
     exact ⟨hS78.os.trans hbw7.os, hS78.tape.trans hbw7.tape, hS78.output.trans hbw7.output, Nat.le_trans hbw7.size hS78.size, fun k hk hkp => (hS78.block k (Nat.lt_of_lt_of_le hk hbw7.size) (by simpa using hkp)).trans (hbw7.block k hk)⟩
    have HW7 : Hid (∀ k, (Value.slice a7 n7 cap7).ownBlock = some k → (Value.slice a0 n cap0).ownBlock = some k ∨ w.heap.size ≤ k) := fun k hk => .inr (by have := h7k k hk; have := hb6.size; omega)
    refine wpAnyH_done (by kernel_rfl) ?_ _
    refine Behind.run (by rfl) ?_
    go_simp
    go_wp2
    refine NoPanic.normal ?_
    clear q0 q1 hrun h7o h7b hG7 hG8 c70 f70 hS78 hHeld hHeld2 hHeld4 hbs hct h7k
    go_wp2
    go_ret
    refine ⟨rfl, .slice a7 n7 cap7, ?_, ?_, by rw [HN.out]; exact HW7.out⟩
    ·refine ⟨HG8.out, ?_, fun z hz => ?_⟩
     ·try rw [if_pos rfl]
      rw [HN7.out]; exact HO8.out
     ·try rw [if_pos rfl] at hz
      rcases List.mem_append.1 hz with hz | hz
      ·exact hXok z hz
      ·rw [List.mem_singleton] at hz; rw [hz]; exact hc
    ·exact ⟨HK8.out.os, HK8.out.tape, HK8.out.output, HK8.out.size, HK8.out.block⟩
   ·go_wp2_with (refine wpList_storeG rfl _ _ rfl w5.heap.size (joinX (wasX s c.pl) c).1 cg0 rfl rfl HJ.out len0 hn6 ?_; rw [hw6'])
    go_ret
    exact ⟨rfl, v, by first | exact hX.below hB6 | (rw [if_neg hj0]; exact hX.below hB6), KeepX.of_below hB6, fun k hk => .inl hk⟩
 ·have hk0 : ckOk c = false := by simpa using hck
  have e1 : ckE c = 1 := by unfold ckE; rw [hk0]; rfl
  have e2 : er = 1 := by rw [← her]; exact put_err hk0
  subst e2
  rw [e1]
  go_wp2
  go_ret
  exact ⟨rfl, v, by first | exact hX.below hB2 | (rw [if_neg (by decide)]; exact hX.below hB2), KeepX.of_below hB2, fun k hk => .inl hk⟩
end Go.Proofs.YtiplhhaehbjghaaGreat
