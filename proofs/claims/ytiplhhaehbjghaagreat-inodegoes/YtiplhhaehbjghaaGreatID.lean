/- InDo, InDo2, InDo3, InDo4, InDo5, InAll: in one text. -/
import Derived.Test.YtiplhhaehbjghaaGreatM1
import Derived.Test.YtiplhhaehbjghaaGreatIK
import Derived.Deep.RegionHeld3
import Derived.Deep.CutRange
namespace Go.Proofs.YtiplhhaehbjghaaGreat
open Go.RowKit
set_option linter.unusedVariables false
set_option linter.unusedSimpArgs false
set_option maxRecDepth 4000

open Go.RowKit Go.Maps
set_option maxRecDepth 100000

theorem PrAt.cx {w : World} {pp : Nat} {a : Sa} {x : Nat} (h : PrAt w pp a x) : w.cell? ⟨pp, 2, none⟩ = some (.pointer (some ⟨x, 0, none⟩)) := by rw [cell_of_row _ _ _ _ _ (0, 0) h]; rfl
theorem Bo.zlt {B : Nat} {w0 w : World} {pp : Nat} {a : Sa} {x : Nat} {Z : List Nat} {s t : Sg} (h : Bo B w0 w pp a x Z s t) : ∀ k ∈ Z, k < w.heap.size := fun k hk => by
 obtain ⟨X, Y, _, _, _, _, hz⟩ := h.ex
 exact (hz k (by simp [hk])).2.2

set_option maxHeartbeats 8000000 in
theorem do_make {B : Nat} {w0 w : World} {pp : Nat} {a : Sa} {x : Nat} {Z : List Nat} {s : Sg} (h : Bo B w0 w pp a x Z s s) (hiv : Iv s) {N : Nat} (hk : Sk s N) (hN : N ≤ 3800) {oa ob oi : Int} (ho : IOpOk ⟨0, oa, ob, oi⟩) (fa : Option Addr) (fn fc : Nat) :
  Calls Tryz.prog 12 #[.pointer (some ⟨pp, 0, none⟩), .agg (iopC ⟨0, oa, ob, oi⟩ fa fn fc)] w fun e w' => e = .returned (.bool true) ∧ Bo B w0 w' pp a x Z (makR s oa ob).1 (makR s oa ob).1 ∧ KeepZ Z w w' := by
 have hb1 := bel1 w (.cells (iopC ⟨0, oa, ob, oi⟩ fa fn fc) 31)
 have ho1 : IOpAt (w.alloc (.cells (iopC ⟨0, oa, ob, oi⟩ fa fn fc) 31)) w.heap.size ⟨0, oa, ob, oi⟩ fa fn fc := ⟨heap_alloc_new w _⟩
 obtain ⟨w1, hw1⟩ : ∃ w1, w.alloc (.cells (iopC ⟨0, oa, ob, oi⟩ fa fn fc) 31) = w1 := ⟨_, rfl⟩
 rw [hw1] at hb1 ho1
 have h1 := h.add hb1 (Nat.le_refl _) (lt_of_row ho1.row)
 have HZL : Hid (∀ k ∈ Z, k < w.heap.size) := h.zlt
 have HB1 : Hid (Below w.heap.size w w1) := hb1
 have hi0 := ho.i0
 have hi1 := ho.i1
 have ha0 := ho.a0
 have ha1 := ho.a1
 dsimp only at hi0 hi1 ha0 ha1
 have HK : Hid (Sk s N) := hk
 have HIV : Hid (Iv s) := hiv
 have HN : Hid (N ≤ 3800) := hN
 have v0 : w1.cell? ⟨w.heap.size, 0, none⟩ = some (.int .i64 0) := ho1.cell 0 _ rfl
 have cm := (h1.below (Below.refl _ _).drew).callS (R := fun e => e = .returned (.tuple #[.int .u32 (makR s oa ob).2.1, .int .i64 (makR s oa ob).2.2])) (s' := (makR s oa ob).1) (fun X hX => make_in hX oa ob (Nat.le_trans hk.L (by omega)) (Nat.le_trans hk.P (by omega)))
 have hS0 : PrAt w1.drew pp a x ∧ IOpAt w1.drew w.heap.size ⟨0, oa, ob, oi⟩ fa fn fc := ⟨h1.row, ⟨ho1.row⟩⟩
 unfold iopC at hw1 ⊢
 dsimp only at hw1 v0 ⊢
 clear h h1 hb1 ho1 hk hiv hN ho
 go_enter Tryz.func12, Tryz.ntmps12
 go_wp2_with fail
 try rw [hw1]
 clear hw1 v0
 refine wp_region_noPanic ?_
 refine wp_region_held_drew (S := fun W => PrAt W pp a x ∧ IOpAt W w.heap.size ⟨0, oa, ob, oi⟩ fa fn fc) (by kernel_rfl) hS0 (fun hHeld => ?_)
 refine tk 0 (.pointer (some ⟨pp, 0, none⟩)) rfl ?_
 try simp only [nz, Act.put]
 refine tk 1 (.pointer (some ⟨pp, 0, none⟩)) rfl ?_
 try simp only [nz, Act.put]
 refine tk 2 (.pointer (some ⟨pp, 0, none⟩)) rfl ?_
 try simp only [nz, Act.put]
 refine tk 3 (.pointer (some ⟨a.s, 0, none⟩)) rfl ?_ (fun W hSw => by (try dsimp only at hSw); (have z := PrAt.c0 hSw.1; go_simp))
 try simp only [nz, Act.put]
 refine tk 4 (.pointer (some ⟨w.heap.size, 1, none⟩)) rfl ?_
 try simp only [nz, Act.put]
 refine tk 5 (.int .i64 oa) rfl ?_ (fun W hSw => by (try dsimp only at hSw); (have z := hSw.2.c1; go_simp))
 try simp only [nz, Act.put]
 refine tk 6 (.pointer (some ⟨w.heap.size, 2, none⟩)) rfl ?_
 try simp only [nz, Act.put]
 refine tk 7 (.int .i64 ob) rfl ?_ (fun W hSw => by (try dsimp only at hSw); (have z := hSw.2.c2; go_simp))
 try simp only [nz, Act.put]
 refine rd 8 rfl (fun K hK => ?_)
 go_simp
 go_wp2_with (go_at_call 32; refine cm.mono ?_; rintro e w2 ⟨rfl, hbo, hkz⟩)
 have HBOw2 : Hid (Bo B w0 w2 pp a x (w.heap.size :: Z) ((makR s oa ob).1) s) := hbo
 have HKZw2 : Hid (KeepZ (w.heap.size :: Z) w1 w2) := hkz
 have HIOw2 : Hid (IOpAt w2 w.heap.size ⟨0, oa, ob, oi⟩ fa fn fc) := ⟨(hkz w.heap.size List.mem_cons_self).trans (show w1.drew.heap[w.heap.size]? = _ from hHeld.2.row)⟩
 refine hK.out _ _ ⟨hbo.row, HIOw2.out⟩ (fun hHeld2 => ?_)
 clear hK K cm
 try simp only [nz, Act.put]
 refine tk 9 (.tuple #[.int .u32 (makR s oa ob).2.1, .int .i64 (makR s oa ob).2.2]) rfl ?_
 try simp only [nz, Act.put]
 refine tk 10 (.int .u32 (makR s oa ob).2.1) rfl ?_
 try simp only [nz, Act.put]
 refine tk 11 (.int .i64 (makR s oa ob).2.2) rfl ?_
 try simp only [nz, Act.put]
 refine tk 12 (.int .u32 (makR s oa ob).2.1) rfl ?_
 try simp only [nz, Act.put]
 refine tk 13 (.int .i64 (makR s oa ob).2.2) rfl ?_
 try simp only [nz, Act.put]
 refine wpAnyH_done (by kernel_rfl) ?_ _
 refine NoPanic.normal ?_
 clear hHeld hHeld2 hbo hkz hS0
 have cx := (HBOw2.out.below (Below.refl _ _).drew).callX (R := fun e => e = .returned (.tuple #[.int .u32 (makR s oa ob).2.1, .int .i64 (makR s oa ob).2.2])) (t' := (makR s oa ob).1) (fun Y hY _ => make_x hY oa ob (Nat.le_trans HK.out.L (by have := HN.out; unfold Hid at this; omega)) (Nat.le_trans HK.out.P (by have := HN.out; unfold Hid at this; omega)))
 have hS0 : PrAt w2.drew pp a x ∧ IOpAt w2.drew w.heap.size ⟨0, oa, ob, oi⟩ fa fn fc := ⟨HBOw2.out.row, ⟨HIOw2.out.row⟩⟩
 go_wp2_with fail
 refine wp_region_noPanic ?_
 refine wp_region_held_drew (S := fun W => PrAt W pp a x ∧ IOpAt W w.heap.size ⟨0, oa, ob, oi⟩ fa fn fc) (by kernel_rfl) hS0 (fun hHeld => ?_)
 refine tk 0 (.pointer (some ⟨pp, 0, none⟩)) rfl ?_
 try simp only [nz, Act.put]
 refine tk 1 (.pointer (some ⟨pp, 0, none⟩)) rfl ?_
 try simp only [nz, Act.put]
 refine tk 2 (.pointer (some ⟨pp, 2, none⟩)) rfl ?_
 try simp only [nz, Act.put]
 refine tk 3 (.pointer (some ⟨x, 0, none⟩)) rfl ?_ (fun W hSw => by (try dsimp only at hSw); (have z := PrAt.cx hSw.1; go_simp))
 try simp only [nz, Act.put]
 refine tk 4 (.pointer (some ⟨w.heap.size, 1, none⟩)) rfl ?_
 try simp only [nz, Act.put]
 refine tk 5 (.int .i64 oa) rfl ?_ (fun W hSw => by (try dsimp only at hSw); (have z := hSw.2.c1; go_simp))
 try simp only [nz, Act.put]
 refine tk 6 (.pointer (some ⟨w.heap.size, 2, none⟩)) rfl ?_
 try simp only [nz, Act.put]
 refine tk 7 (.int .i64 ob) rfl ?_ (fun W hSw => by (try dsimp only at hSw); (have z := hSw.2.c2; go_simp))
 try simp only [nz, Act.put]
 refine rd 8 rfl (fun K hK => ?_)
 go_simp
 go_wp2_with (go_at_call 39; refine cx.mono ?_; rintro e w3 ⟨rfl, hbo, hkz⟩)
 have HBOw3 : Hid (Bo B w0 w3 pp a x (w.heap.size :: Z) ((makR s oa ob).1) ((makR s oa ob).1)) := hbo
 have HKZw3 : Hid (KeepZ (w.heap.size :: Z) w2 w3) := hkz
 have HIOw3 : Hid (IOpAt w3 w.heap.size ⟨0, oa, ob, oi⟩ fa fn fc) := ⟨(hkz w.heap.size List.mem_cons_self).trans (show w2.drew.heap[w.heap.size]? = _ from hHeld.2.row)⟩
 refine hK.out _ _ ⟨hbo.row, HIOw3.out⟩ (fun hHeld2 => ?_)
 clear hK K cx
 try simp only [nz, Act.put]
 refine tk 9 (.tuple #[.int .u32 (makR s oa ob).2.1, .int .i64 (makR s oa ob).2.2]) rfl ?_
 try simp only [nz, Act.put]
 refine tk 10 (.int .u32 (makR s oa ob).2.1) rfl ?_
 try simp only [nz, Act.put]
 refine tk 11 (.int .i64 (makR s oa ob).2.2) rfl ?_
 try simp only [nz, Act.put]
 refine tk 12 (.int .u32 (makR s oa ob).2.1) rfl ?_
 try simp only [nz, Act.put]
 refine tk 13 (.int .i64 (makR s oa ob).2.2) rfl ?_
 try simp only [nz, Act.put]
 refine wpAnyH_done (by kernel_rfl) ?_ _
 refine NoPanic.normal ?_
 clear hHeld hHeld2 hbo hkz hS0
 have HF : Hid (Bo B w0 w3 pp a x Z ((makR s oa ob).1) ((makR s oa ob).1) ∧ KeepZ Z w w3) := ⟨HBOw3.out.sub (fun k hk => List.mem_cons_of_mem _ hk), fun k hk => (HKZw3.out k (List.mem_cons_of_mem _ hk)).trans ((HKZw2.out k (List.mem_cons_of_mem _ hk)).trans (HB1.out.block k (HZL.out k hk)))⟩
 generalize (makR s oa ob).2.1 = r1 at *
 generalize (makR s oa ob).2.2 = r2 at *
 clear HBOw2 HBOw3 HKZw2 HKZw3 HIOw2 HIOw3
 go_wp2
 go_ret
 exact ⟨rfl, HF.out⟩

set_option maxHeartbeats 8000000 in
theorem do_kind {B : Nat} {w0 w : World} {pp : Nat} {a : Sa} {x : Nat} {Z : List Nat} {s : Sg} (h : Bo B w0 w pp a x Z s s) (hiv : Iv s) {N : Nat} (hk : Sk s N) (hN : N ≤ 3800) {oa ob oi : Int} (ho : IOpOk ⟨1, oa, ob, oi⟩) (fa : Option Addr) (fn fc : Nat) :
  Calls Tryz.prog 12 #[.pointer (some ⟨pp, 0, none⟩), .agg (iopC ⟨1, oa, ob, oi⟩ fa fn fc)] w fun e w' => e = .returned (.bool true) ∧ Bo B w0 w' pp a x Z s s ∧ KeepZ Z w w' := by
 have hb1 := bel1 w (.cells (iopC ⟨1, oa, ob, oi⟩ fa fn fc) 31)
 have ho1 : IOpAt (w.alloc (.cells (iopC ⟨1, oa, ob, oi⟩ fa fn fc) 31)) w.heap.size ⟨1, oa, ob, oi⟩ fa fn fc := ⟨heap_alloc_new w _⟩
 obtain ⟨w1, hw1⟩ : ∃ w1, w.alloc (.cells (iopC ⟨1, oa, ob, oi⟩ fa fn fc) 31) = w1 := ⟨_, rfl⟩
 rw [hw1] at hb1 ho1
 have h1 := h.add hb1 (Nat.le_refl _) (lt_of_row ho1.row)
 have HZL : Hid (∀ k ∈ Z, k < w.heap.size) := h.zlt
 have HB1 : Hid (Below w.heap.size w w1) := hb1
 have hi0 := ho.i0
 have hi1 := ho.i1
 have ha0 := ho.a0
 have ha1 := ho.a1
 dsimp only at hi0 hi1 ha0 ha1
 have HK : Hid (Sk s N) := hk
 have HIV : Hid (Iv s) := hiv
 have HN : Hid (N ≤ 3800) := hN
 have v0 : w1.cell? ⟨w.heap.size, 0, none⟩ = some (.int .i64 1) := ho1.cell 0 _ rfl
 have cm := (h1.below (Below.refl _ _).drew).callS (R := fun e => e = .returned (.tuple #[.int .i64 (fdR s oi).1.k, .int .i64 (fdR s oi).2])) (s' := s) (fun X hX => (kind_in hX oi hi0 hi1).mono (by rintro e w' ⟨rfl, hb⟩; exact ⟨rfl, hX.out hb⟩))
 have hS0 : PrAt w1.drew pp a x ∧ IOpAt w1.drew w.heap.size ⟨1, oa, ob, oi⟩ fa fn fc := ⟨h1.row, ⟨ho1.row⟩⟩
 unfold iopC at hw1 ⊢
 dsimp only at hw1 v0 ⊢
 clear h h1 hb1 ho1 hk hiv hN ho
 go_enter Tryz.func12, Tryz.ntmps12
 go_wp2_with fail
 try rw [hw1]
 clear hw1 v0
 refine wp_region_noPanic ?_
 refine wp_region_held_drew (S := fun W => PrAt W pp a x ∧ IOpAt W w.heap.size ⟨1, oa, ob, oi⟩ fa fn fc) (by kernel_rfl) hS0 (fun hHeld => ?_)
 refine tk 0 (.pointer (some ⟨pp, 0, none⟩)) rfl ?_
 try simp only [nz, Act.put]
 refine tk 1 (.pointer (some ⟨pp, 0, none⟩)) rfl ?_
 try simp only [nz, Act.put]
 refine tk 2 (.pointer (some ⟨pp, 0, none⟩)) rfl ?_
 try simp only [nz, Act.put]
 refine tk 3 (.pointer (some ⟨a.s, 0, none⟩)) rfl ?_ (fun W hSw => by (try dsimp only at hSw); (have z := PrAt.c0 hSw.1; go_simp))
 try simp only [nz, Act.put]
 refine tk 4 (.pointer (some ⟨w.heap.size, 3, none⟩)) rfl ?_
 try simp only [nz, Act.put]
 refine tk 5 (.int .u32 oi) rfl ?_ (fun W hSw => by (try dsimp only at hSw); (have z := hSw.2.c3; go_simp))
 try simp only [nz, Act.put]
 refine rd 6 rfl (fun K hK => ?_)
 go_simp
 go_wp2_with (go_at_call 25; refine cm.mono ?_; rintro e w2 ⟨rfl, hbo, hkz⟩)
 have HBOw2 : Hid (Bo B w0 w2 pp a x (w.heap.size :: Z) (s) s) := hbo
 have HKZw2 : Hid (KeepZ (w.heap.size :: Z) w1 w2) := hkz
 have HIOw2 : Hid (IOpAt w2 w.heap.size ⟨1, oa, ob, oi⟩ fa fn fc) := ⟨(hkz w.heap.size List.mem_cons_self).trans (show w1.drew.heap[w.heap.size]? = _ from hHeld.2.row)⟩
 refine hK.out _ _ ⟨hbo.row, HIOw2.out⟩ (fun hHeld2 => ?_)
 clear hK K cm
 try simp only [nz, Act.put]
 refine tk 7 (.tuple #[.int .i64 (fdR s oi).1.k, .int .i64 (fdR s oi).2]) rfl ?_
 try simp only [nz, Act.put]
 refine tk 8 (.int .i64 (fdR s oi).1.k) rfl ?_
 try simp only [nz, Act.put]
 refine tk 9 (.int .i64 (fdR s oi).2) rfl ?_
 try simp only [nz, Act.put]
 refine tk 10 (.int .i64 (fdR s oi).1.k) rfl ?_
 try simp only [nz, Act.put]
 refine tk 11 (.int .i64 (fdR s oi).2) rfl ?_
 try simp only [nz, Act.put]
 refine wpAnyH_done (by kernel_rfl) ?_ _
 refine NoPanic.normal ?_
 clear hHeld hHeld2 hbo hkz hS0
 have cx := (HBOw2.out.below (Below.refl _ _).drew).callX (R := fun e => e = .returned (.tuple #[.int .i64 (fdR s oi).1.k, .int .i64 (fdR s oi).2])) (t' := s) (fun Y hY _ => (kind_x hY HK.out.ck oi hi0 hi1).mono (by rintro e w' ⟨rfl, hb⟩; exact ⟨rfl, hY.out hb⟩))
 have hS0 : PrAt w2.drew pp a x ∧ IOpAt w2.drew w.heap.size ⟨1, oa, ob, oi⟩ fa fn fc := ⟨HBOw2.out.row, ⟨HIOw2.out.row⟩⟩
 go_wp2_with fail
 refine wp_region_noPanic ?_
 refine wp_region_held_drew (S := fun W => PrAt W pp a x ∧ IOpAt W w.heap.size ⟨1, oa, ob, oi⟩ fa fn fc) (by kernel_rfl) hS0 (fun hHeld => ?_)
 refine tk 0 (.pointer (some ⟨pp, 0, none⟩)) rfl ?_
 try simp only [nz, Act.put]
 refine tk 1 (.pointer (some ⟨pp, 0, none⟩)) rfl ?_
 try simp only [nz, Act.put]
 refine tk 2 (.pointer (some ⟨pp, 2, none⟩)) rfl ?_
 try simp only [nz, Act.put]
 refine tk 3 (.pointer (some ⟨x, 0, none⟩)) rfl ?_ (fun W hSw => by (try dsimp only at hSw); (have z := PrAt.cx hSw.1; go_simp))
 try simp only [nz, Act.put]
 refine tk 4 (.pointer (some ⟨w.heap.size, 3, none⟩)) rfl ?_
 try simp only [nz, Act.put]
 refine tk 5 (.int .u32 oi) rfl ?_ (fun W hSw => by (try dsimp only at hSw); (have z := hSw.2.c3; go_simp))
 try simp only [nz, Act.put]
 refine rd 6 rfl (fun K hK => ?_)
 go_simp
 go_wp2_with (go_at_call 40; refine cx.mono ?_; rintro e w3 ⟨rfl, hbo, hkz⟩)
 have HBOw3 : Hid (Bo B w0 w3 pp a x (w.heap.size :: Z) (s) (s)) := hbo
 have HKZw3 : Hid (KeepZ (w.heap.size :: Z) w2 w3) := hkz
 have HIOw3 : Hid (IOpAt w3 w.heap.size ⟨1, oa, ob, oi⟩ fa fn fc) := ⟨(hkz w.heap.size List.mem_cons_self).trans (show w2.drew.heap[w.heap.size]? = _ from hHeld.2.row)⟩
 refine hK.out _ _ ⟨hbo.row, HIOw3.out⟩ (fun hHeld2 => ?_)
 clear hK K cx
 try simp only [nz, Act.put]
 refine tk 7 (.tuple #[.int .i64 (fdR s oi).1.k, .int .i64 (fdR s oi).2]) rfl ?_
 try simp only [nz, Act.put]
 refine tk 8 (.int .i64 (fdR s oi).1.k) rfl ?_
 try simp only [nz, Act.put]
 refine tk 9 (.int .i64 (fdR s oi).2) rfl ?_
 try simp only [nz, Act.put]
 refine tk 10 (.int .i64 (fdR s oi).1.k) rfl ?_
 try simp only [nz, Act.put]
 refine tk 11 (.int .i64 (fdR s oi).2) rfl ?_
 try simp only [nz, Act.put]
 refine wpAnyH_done (by kernel_rfl) ?_ _
 refine NoPanic.normal ?_
 clear hHeld hHeld2 hbo hkz hS0
 have HF : Hid (Bo B w0 w3 pp a x Z (s) (s) ∧ KeepZ Z w w3) := ⟨HBOw3.out.sub (fun k hk => List.mem_cons_of_mem _ hk), fun k hk => (HKZw3.out k (List.mem_cons_of_mem _ hk)).trans ((HKZw2.out k (List.mem_cons_of_mem _ hk)).trans (HB1.out.block k (HZL.out k hk)))⟩
 generalize (fdR s oi).1.k = r1 at *
 generalize (fdR s oi).2 = r2 at *
 clear HBOw2 HBOw3 HKZw2 HKZw3 HIOw2 HIOw3
 go_wp2
 go_ret
 exact ⟨rfl, HF.out⟩

set_option maxHeartbeats 8000000 in
theorem do_size {B : Nat} {w0 w : World} {pp : Nat} {a : Sa} {x : Nat} {Z : List Nat} {s : Sg} (h : Bo B w0 w pp a x Z s s) (hiv : Iv s) {N : Nat} (hk : Sk s N) (hN : N ≤ 3800) {oa ob oi : Int} (ho : IOpOk ⟨3, oa, ob, oi⟩) (fa : Option Addr) (fn fc : Nat) :
  Calls Tryz.prog 12 #[.pointer (some ⟨pp, 0, none⟩), .agg (iopC ⟨3, oa, ob, oi⟩ fa fn fc)] w fun e w' => e = .returned (.bool true) ∧ Bo B w0 w' pp a x Z (sizeR s oi).1 (sizeR s oi).1 ∧ KeepZ Z w w' := by
 have hb1 := bel1 w (.cells (iopC ⟨3, oa, ob, oi⟩ fa fn fc) 31)
 have ho1 : IOpAt (w.alloc (.cells (iopC ⟨3, oa, ob, oi⟩ fa fn fc) 31)) w.heap.size ⟨3, oa, ob, oi⟩ fa fn fc := ⟨heap_alloc_new w _⟩
 obtain ⟨w1, hw1⟩ : ∃ w1, w.alloc (.cells (iopC ⟨3, oa, ob, oi⟩ fa fn fc) 31) = w1 := ⟨_, rfl⟩
 rw [hw1] at hb1 ho1
 have h1 := h.add hb1 (Nat.le_refl _) (lt_of_row ho1.row)
 have HZL : Hid (∀ k ∈ Z, k < w.heap.size) := h.zlt
 have HB1 : Hid (Below w.heap.size w w1) := hb1
 have hi0 := ho.i0
 have hi1 := ho.i1
 have ha0 := ho.a0
 have ha1 := ho.a1
 dsimp only at hi0 hi1 ha0 ha1
 have HK : Hid (Sk s N) := hk
 have HIV : Hid (Iv s) := hiv
 have HN : Hid (N ≤ 3800) := hN
 have v0 : w1.cell? ⟨w.heap.size, 0, none⟩ = some (.int .i64 3) := ho1.cell 0 _ rfl
 have cm := (h1.below (Below.refl _ _).drew).callS (R := fun e => e = .returned (.tuple #[.int .i64 (sizeR s oi).2.1, .int .i64 (sizeR s oi).2.2])) (s' := (sizeR s oi).1) (fun X hX => size_in hX oi hi0 hi1 (Nat.le_trans hk.R (by omega)))
 have hS0 : PrAt w1.drew pp a x ∧ IOpAt w1.drew w.heap.size ⟨3, oa, ob, oi⟩ fa fn fc := ⟨h1.row, ⟨ho1.row⟩⟩
 unfold iopC at hw1 ⊢
 dsimp only at hw1 v0 ⊢
 clear h h1 hb1 ho1 hk hiv hN ho
 go_enter Tryz.func12, Tryz.ntmps12
 go_wp2_with fail
 try rw [hw1]
 clear hw1 v0
 refine wp_region_noPanic ?_
 refine wp_region_held_drew (S := fun W => PrAt W pp a x ∧ IOpAt W w.heap.size ⟨3, oa, ob, oi⟩ fa fn fc) (by kernel_rfl) hS0 (fun hHeld => ?_)
 refine tk 0 (.pointer (some ⟨pp, 0, none⟩)) rfl ?_
 try simp only [nz, Act.put]
 refine tk 1 (.pointer (some ⟨pp, 0, none⟩)) rfl ?_
 try simp only [nz, Act.put]
 refine tk 2 (.pointer (some ⟨pp, 0, none⟩)) rfl ?_
 try simp only [nz, Act.put]
 refine tk 3 (.pointer (some ⟨a.s, 0, none⟩)) rfl ?_ (fun W hSw => by (try dsimp only at hSw); (have z := PrAt.c0 hSw.1; go_simp))
 try simp only [nz, Act.put]
 refine tk 4 (.pointer (some ⟨w.heap.size, 3, none⟩)) rfl ?_
 try simp only [nz, Act.put]
 refine tk 5 (.int .u32 oi) rfl ?_ (fun W hSw => by (try dsimp only at hSw); (have z := hSw.2.c3; go_simp))
 try simp only [nz, Act.put]
 refine rd 6 rfl (fun K hK => ?_)
 go_simp
 go_wp2_with (go_at_call 43; refine cm.mono ?_; rintro e w2 ⟨rfl, hbo, hkz⟩)
 have HBOw2 : Hid (Bo B w0 w2 pp a x (w.heap.size :: Z) ((sizeR s oi).1) s) := hbo
 have HKZw2 : Hid (KeepZ (w.heap.size :: Z) w1 w2) := hkz
 have HIOw2 : Hid (IOpAt w2 w.heap.size ⟨3, oa, ob, oi⟩ fa fn fc) := ⟨(hkz w.heap.size List.mem_cons_self).trans (show w1.drew.heap[w.heap.size]? = _ from hHeld.2.row)⟩
 refine hK.out _ _ ⟨hbo.row, HIOw2.out⟩ (fun hHeld2 => ?_)
 clear hK K cm
 try simp only [nz, Act.put]
 refine tk 7 (.tuple #[.int .i64 (sizeR s oi).2.1, .int .i64 (sizeR s oi).2.2]) rfl ?_
 try simp only [nz, Act.put]
 refine tk 8 (.int .i64 (sizeR s oi).2.1) rfl ?_
 try simp only [nz, Act.put]
 refine tk 9 (.int .i64 (sizeR s oi).2.2) rfl ?_
 try simp only [nz, Act.put]
 refine tk 10 (.int .i64 (sizeR s oi).2.1) rfl ?_
 try simp only [nz, Act.put]
 refine tk 11 (.int .i64 (sizeR s oi).2.2) rfl ?_
 try simp only [nz, Act.put]
 refine wpAnyH_done (by kernel_rfl) ?_ _
 refine NoPanic.normal ?_
 clear hHeld hHeld2 hbo hkz hS0
 have cx := (HBOw2.out.below (Below.refl _ _).drew).callX (R := fun e => e = .returned (.tuple #[.int .i64 (sizeR s oi).2.1, .int .i64 (sizeR s oi).2.2])) (t' := (sizeR s oi).1) (fun Y hY _ => size_x hY HK.out.ck oi hi0 hi1 (Nat.le_trans HK.out.R (by have := HN.out; unfold Hid at this; omega)))
 have hS0 : PrAt w2.drew pp a x ∧ IOpAt w2.drew w.heap.size ⟨3, oa, ob, oi⟩ fa fn fc := ⟨HBOw2.out.row, ⟨HIOw2.out.row⟩⟩
 go_wp2_with fail
 refine wp_region_noPanic ?_
 refine wp_region_held_drew (S := fun W => PrAt W pp a x ∧ IOpAt W w.heap.size ⟨3, oa, ob, oi⟩ fa fn fc) (by kernel_rfl) hS0 (fun hHeld => ?_)
 refine tk 0 (.pointer (some ⟨pp, 0, none⟩)) rfl ?_
 try simp only [nz, Act.put]
 refine tk 1 (.pointer (some ⟨pp, 0, none⟩)) rfl ?_
 try simp only [nz, Act.put]
 refine tk 2 (.pointer (some ⟨pp, 2, none⟩)) rfl ?_
 try simp only [nz, Act.put]
 refine tk 3 (.pointer (some ⟨x, 0, none⟩)) rfl ?_ (fun W hSw => by (try dsimp only at hSw); (have z := PrAt.cx hSw.1; go_simp))
 try simp only [nz, Act.put]
 refine tk 4 (.pointer (some ⟨w.heap.size, 3, none⟩)) rfl ?_
 try simp only [nz, Act.put]
 refine tk 5 (.int .u32 oi) rfl ?_ (fun W hSw => by (try dsimp only at hSw); (have z := hSw.2.c3; go_simp))
 try simp only [nz, Act.put]
 refine rd 6 rfl (fun K hK => ?_)
 go_simp
 go_wp2_with (go_at_call 44; refine cx.mono ?_; rintro e w3 ⟨rfl, hbo, hkz⟩)
 have HBOw3 : Hid (Bo B w0 w3 pp a x (w.heap.size :: Z) ((sizeR s oi).1) ((sizeR s oi).1)) := hbo
 have HKZw3 : Hid (KeepZ (w.heap.size :: Z) w2 w3) := hkz
 have HIOw3 : Hid (IOpAt w3 w.heap.size ⟨3, oa, ob, oi⟩ fa fn fc) := ⟨(hkz w.heap.size List.mem_cons_self).trans (show w2.drew.heap[w.heap.size]? = _ from hHeld.2.row)⟩
 refine hK.out _ _ ⟨hbo.row, HIOw3.out⟩ (fun hHeld2 => ?_)
 clear hK K cx
 try simp only [nz, Act.put]
 refine tk 7 (.tuple #[.int .i64 (sizeR s oi).2.1, .int .i64 (sizeR s oi).2.2]) rfl ?_
 try simp only [nz, Act.put]
 refine tk 8 (.int .i64 (sizeR s oi).2.1) rfl ?_
 try simp only [nz, Act.put]
 refine tk 9 (.int .i64 (sizeR s oi).2.2) rfl ?_
 try simp only [nz, Act.put]
 refine tk 10 (.int .i64 (sizeR s oi).2.1) rfl ?_
 try simp only [nz, Act.put]
 refine tk 11 (.int .i64 (sizeR s oi).2.2) rfl ?_
 try simp only [nz, Act.put]
 refine wpAnyH_done (by kernel_rfl) ?_ _
 refine NoPanic.normal ?_
 clear hHeld hHeld2 hbo hkz hS0
 have HF : Hid (Bo B w0 w3 pp a x Z ((sizeR s oi).1) ((sizeR s oi).1) ∧ KeepZ Z w w3) := ⟨HBOw3.out.sub (fun k hk => List.mem_cons_of_mem _ hk), fun k hk => (HKZw3.out k (List.mem_cons_of_mem _ hk)).trans ((HKZw2.out k (List.mem_cons_of_mem _ hk)).trans (HB1.out.block k (HZL.out k hk)))⟩
 generalize (sizeR s oi).2.1 = r1 at *
 generalize (sizeR s oi).2.2 = r2 at *
 clear HBOw2 HBOw3 HKZw2 HKZw3 HIOw2 HIOw3
 go_wp2
 go_ret
 exact ⟨rfl, HF.out⟩

set_option maxHeartbeats 8000000 in
theorem do_link {B : Nat} {w0 w : World} {pp : Nat} {a : Sa} {x : Nat} {Z : List Nat} {s : Sg} (h : Bo B w0 w pp a x Z s s) (hiv : Iv s) {N : Nat} (hk : Sk s N) (hN : N ≤ 3800) {oa ob oi : Int} (ho : IOpOk ⟨5, oa, ob, oi⟩) (fa : Option Addr) (fn fc : Nat) :
  Calls Tryz.prog 12 #[.pointer (some ⟨pp, 0, none⟩), .agg (iopC ⟨5, oa, ob, oi⟩ fa fn fc)] w fun e w' => e = .returned (.bool true) ∧ Bo B w0 w' pp a x Z (lkR s oi oa).1 (lkR s oi oa).1 ∧ KeepZ Z w w' := by
 have hb1 := bel1 w (.cells (iopC ⟨5, oa, ob, oi⟩ fa fn fc) 31)
 have ho1 : IOpAt (w.alloc (.cells (iopC ⟨5, oa, ob, oi⟩ fa fn fc) 31)) w.heap.size ⟨5, oa, ob, oi⟩ fa fn fc := ⟨heap_alloc_new w _⟩
 obtain ⟨w1, hw1⟩ : ∃ w1, w.alloc (.cells (iopC ⟨5, oa, ob, oi⟩ fa fn fc) 31) = w1 := ⟨_, rfl⟩
 rw [hw1] at hb1 ho1
 have h1 := h.add hb1 (Nat.le_refl _) (lt_of_row ho1.row)
 have HZL : Hid (∀ k ∈ Z, k < w.heap.size) := h.zlt
 have HB1 : Hid (Below w.heap.size w w1) := hb1
 have hi0 := ho.i0
 have hi1 := ho.i1
 have ha0 := ho.a0
 have ha1 := ho.a1
 dsimp only at hi0 hi1 ha0 ha1
 have HK : Hid (Sk s N) := hk
 have HIV : Hid (Iv s) := hiv
 have HN : Hid (N ≤ 3800) := hN
 have v0 : w1.cell? ⟨w.heap.size, 0, none⟩ = some (.int .i64 5) := ho1.cell 0 _ rfl
 have cm := (h1.below (Below.refl _ _).drew).callS (R := fun e => e = .returned (.tuple #[.int .i64 (lkR s oi oa).2.1, .int .i64 (lkR s oi oa).2.2])) (s' := (lkR s oi oa).1) (fun X hX => link_in hX oi hi0 hi1 oa ha0 ha1 hk (by omega) (Nat.le_trans hk.R (by omega)) (Nat.le_trans hk.U (by omega)))
 have hS0 : PrAt w1.drew pp a x ∧ IOpAt w1.drew w.heap.size ⟨5, oa, ob, oi⟩ fa fn fc := ⟨h1.row, ⟨ho1.row⟩⟩
 unfold iopC at hw1 ⊢
 dsimp only at hw1 v0 ⊢
 clear h h1 hb1 ho1 hk hiv hN ho
 go_enter Tryz.func12, Tryz.ntmps12
 go_wp2_with fail
 try rw [hw1]
 clear hw1 v0
 refine wp_region_noPanic ?_
 refine wp_region_held_drew (S := fun W => PrAt W pp a x ∧ IOpAt W w.heap.size ⟨5, oa, ob, oi⟩ fa fn fc) (by kernel_rfl) hS0 (fun hHeld => ?_)
 refine tk 0 (.pointer (some ⟨pp, 0, none⟩)) rfl ?_
 try simp only [nz, Act.put]
 refine tk 1 (.pointer (some ⟨pp, 0, none⟩)) rfl ?_
 try simp only [nz, Act.put]
 refine tk 2 (.pointer (some ⟨pp, 0, none⟩)) rfl ?_
 try simp only [nz, Act.put]
 refine tk 3 (.pointer (some ⟨a.s, 0, none⟩)) rfl ?_ (fun W hSw => by (try dsimp only at hSw); (have z := PrAt.c0 hSw.1; go_simp))
 try simp only [nz, Act.put]
 refine tk 4 (.pointer (some ⟨w.heap.size, 3, none⟩)) rfl ?_
 try simp only [nz, Act.put]
 refine tk 5 (.int .u32 oi) rfl ?_ (fun W hSw => by (try dsimp only at hSw); (have z := hSw.2.c3; go_simp))
 try simp only [nz, Act.put]
 refine tk 6 (.pointer (some ⟨w.heap.size, 1, none⟩)) rfl ?_
 try simp only [nz, Act.put]
 refine tk 7 (.int .i64 oa) rfl ?_ (fun W hSw => by (try dsimp only at hSw); (have z := hSw.2.c1; go_simp))
 try simp only [nz, Act.put]
 refine rd 8 rfl (fun K hK => ?_)
 go_simp
 go_wp2_with (go_at_call 33; refine cm.mono ?_; rintro e w2 ⟨rfl, hbo, hkz⟩)
 have HBOw2 : Hid (Bo B w0 w2 pp a x (w.heap.size :: Z) ((lkR s oi oa).1) s) := hbo
 have HKZw2 : Hid (KeepZ (w.heap.size :: Z) w1 w2) := hkz
 have HIOw2 : Hid (IOpAt w2 w.heap.size ⟨5, oa, ob, oi⟩ fa fn fc) := ⟨(hkz w.heap.size List.mem_cons_self).trans (show w1.drew.heap[w.heap.size]? = _ from hHeld.2.row)⟩
 refine hK.out _ _ ⟨hbo.row, HIOw2.out⟩ (fun hHeld2 => ?_)
 clear hK K cm
 try simp only [nz, Act.put]
 refine tk 9 (.tuple #[.int .i64 (lkR s oi oa).2.1, .int .i64 (lkR s oi oa).2.2]) rfl ?_
 try simp only [nz, Act.put]
 refine tk 10 (.int .i64 (lkR s oi oa).2.1) rfl ?_
 try simp only [nz, Act.put]
 refine tk 11 (.int .i64 (lkR s oi oa).2.2) rfl ?_
 try simp only [nz, Act.put]
 refine tk 12 (.int .i64 (lkR s oi oa).2.1) rfl ?_
 try simp only [nz, Act.put]
 refine tk 13 (.int .i64 (lkR s oi oa).2.2) rfl ?_
 try simp only [nz, Act.put]
 refine wpAnyH_done (by kernel_rfl) ?_ _
 refine NoPanic.normal ?_
 clear hHeld hHeld2 hbo hkz hS0
 have cx := (HBOw2.out.below (Below.refl _ _).drew).callX (R := fun e => e = .returned (.tuple #[.int .i64 (lkR s oi oa).2.1, .int .i64 (lkR s oi oa).2.2])) (t' := (lkR s oi oa).1) (fun Y hY _ => link_x hY oi hi0 hi1 oa ha0 ha1 HK.out (by have := HN.out; unfold Hid at this; omega) (HIV.out.dir oi))
 have hS0 : PrAt w2.drew pp a x ∧ IOpAt w2.drew w.heap.size ⟨5, oa, ob, oi⟩ fa fn fc := ⟨HBOw2.out.row, ⟨HIOw2.out.row⟩⟩
 go_wp2_with fail
 refine wp_region_noPanic ?_
 refine wp_region_held_drew (S := fun W => PrAt W pp a x ∧ IOpAt W w.heap.size ⟨5, oa, ob, oi⟩ fa fn fc) (by kernel_rfl) hS0 (fun hHeld => ?_)
 refine tk 0 (.pointer (some ⟨pp, 0, none⟩)) rfl ?_
 try simp only [nz, Act.put]
 refine tk 1 (.pointer (some ⟨pp, 0, none⟩)) rfl ?_
 try simp only [nz, Act.put]
 refine tk 2 (.pointer (some ⟨pp, 2, none⟩)) rfl ?_
 try simp only [nz, Act.put]
 refine tk 3 (.pointer (some ⟨x, 0, none⟩)) rfl ?_ (fun W hSw => by (try dsimp only at hSw); (have z := PrAt.cx hSw.1; go_simp))
 try simp only [nz, Act.put]
 refine tk 4 (.pointer (some ⟨w.heap.size, 3, none⟩)) rfl ?_
 try simp only [nz, Act.put]
 refine tk 5 (.int .u32 oi) rfl ?_ (fun W hSw => by (try dsimp only at hSw); (have z := hSw.2.c3; go_simp))
 try simp only [nz, Act.put]
 refine tk 6 (.pointer (some ⟨w.heap.size, 1, none⟩)) rfl ?_
 try simp only [nz, Act.put]
 refine tk 7 (.int .i64 oa) rfl ?_ (fun W hSw => by (try dsimp only at hSw); (have z := hSw.2.c1; go_simp))
 try simp only [nz, Act.put]
 refine rd 8 rfl (fun K hK => ?_)
 go_simp
 go_wp2_with (go_at_call 47; refine cx.mono ?_; rintro e w3 ⟨rfl, hbo, hkz⟩)
 have HBOw3 : Hid (Bo B w0 w3 pp a x (w.heap.size :: Z) ((lkR s oi oa).1) ((lkR s oi oa).1)) := hbo
 have HKZw3 : Hid (KeepZ (w.heap.size :: Z) w2 w3) := hkz
 have HIOw3 : Hid (IOpAt w3 w.heap.size ⟨5, oa, ob, oi⟩ fa fn fc) := ⟨(hkz w.heap.size List.mem_cons_self).trans (show w2.drew.heap[w.heap.size]? = _ from hHeld.2.row)⟩
 refine hK.out _ _ ⟨hbo.row, HIOw3.out⟩ (fun hHeld2 => ?_)
 clear hK K cx
 try simp only [nz, Act.put]
 refine tk 9 (.tuple #[.int .i64 (lkR s oi oa).2.1, .int .i64 (lkR s oi oa).2.2]) rfl ?_
 try simp only [nz, Act.put]
 refine tk 10 (.int .i64 (lkR s oi oa).2.1) rfl ?_
 try simp only [nz, Act.put]
 refine tk 11 (.int .i64 (lkR s oi oa).2.2) rfl ?_
 try simp only [nz, Act.put]
 refine tk 12 (.int .i64 (lkR s oi oa).2.1) rfl ?_
 try simp only [nz, Act.put]
 refine tk 13 (.int .i64 (lkR s oi oa).2.2) rfl ?_
 try simp only [nz, Act.put]
 refine wpAnyH_done (by kernel_rfl) ?_ _
 refine NoPanic.normal ?_
 clear hHeld hHeld2 hbo hkz hS0
 have HF : Hid (Bo B w0 w3 pp a x Z ((lkR s oi oa).1) ((lkR s oi oa).1) ∧ KeepZ Z w w3) := ⟨HBOw3.out.sub (fun k hk => List.mem_cons_of_mem _ hk), fun k hk => (HKZw3.out k (List.mem_cons_of_mem _ hk)).trans ((HKZw2.out k (List.mem_cons_of_mem _ hk)).trans (HB1.out.block k (HZL.out k hk)))⟩
 generalize (lkR s oi oa).2.1 = r1 at *
 generalize (lkR s oi oa).2.2 = r2 at *
 clear HBOw2 HBOw3 HKZw2 HKZw3 HIOw2 HIOw3
 go_wp2
 go_ret
 exact ⟨rfl, HF.out⟩

open Go.RowKit Go.Maps
set_option maxRecDepth 100000

set_option maxHeartbeats 8000000 in
theorem do_rm {B : Nat} {w0 w : World} {pp : Nat} {a : Sa} {x : Nat} {Z : List Nat} {s : Sg} (h : Bo B w0 w pp a x Z s s) (hiv : Iv s) {N : Nat} (hk : Sk s N) (hN : N ≤ 3800) {oa ob oi : Int} (ho : IOpOk ⟨6, oa, ob, oi⟩) (fa : Option Addr) (fn fc : Nat) :
  Calls Tryz.prog 12 #[.pointer (some ⟨pp, 0, none⟩), .agg (iopC ⟨6, oa, ob, oi⟩ fa fn fc)] w fun e w' => e = .returned (.bool true) ∧ Bo B w0 w' pp a x Z (rmR s oi).1 (rmR s oi).1 ∧ KeepZ Z w w' := by
 have hb1 := bel1 w (.cells (iopC ⟨6, oa, ob, oi⟩ fa fn fc) 31)
 have ho1 : IOpAt (w.alloc (.cells (iopC ⟨6, oa, ob, oi⟩ fa fn fc) 31)) w.heap.size ⟨6, oa, ob, oi⟩ fa fn fc := ⟨heap_alloc_new w _⟩
 obtain ⟨w1, hw1⟩ : ∃ w1, w.alloc (.cells (iopC ⟨6, oa, ob, oi⟩ fa fn fc) 31) = w1 := ⟨_, rfl⟩
 rw [hw1] at hb1 ho1
 have h1 := h.add hb1 (Nat.le_refl _) (lt_of_row ho1.row)
 have HZL : Hid (∀ k ∈ Z, k < w.heap.size) := h.zlt
 have HB1 : Hid (Below w.heap.size w w1) := hb1
 have hi0 := ho.i0
 have hi1 := ho.i1
 dsimp only at hi0 hi1
 have HK : Hid (Sk s N) := hk
 have HIV : Hid (Iv s) := hiv
 have HN : Hid (N ≤ 3800) := hN
 have v0 : w1.cell? ⟨w.heap.size, 0, none⟩ = some (.int .i64 6) := ho1.cell 0 _ rfl
 have cm := (h1.below (Below.refl _ _).drew).callS (R := fun e => e = .returned (.int .i64 (rmR s oi).2)) (s' := (rmR s oi).1) (fun X hX => rm_in hX oi hi0 hi1 hk (by omega) (Nat.le_trans hk.R (by omega)) (Nat.le_trans hk.U (by omega)))
 have hS0 : PrAt w1.drew pp a x ∧ IOpAt w1.drew w.heap.size ⟨6, oa, ob, oi⟩ fa fn fc := ⟨h1.row, ⟨ho1.row⟩⟩
 unfold iopC at hw1 ⊢
 dsimp only at hw1 v0 ⊢
 clear h h1 hb1 ho1 hk hiv hN ho
 go_enter Tryz.func12, Tryz.ntmps12
 go_wp2_with fail
 try rw [hw1]
 clear hw1 v0
 refine wp_region_noPanic ?_
 refine wp_region_held_drew (S := fun W => PrAt W pp a x ∧ IOpAt W w.heap.size ⟨6, oa, ob, oi⟩ fa fn fc) (by kernel_rfl) hS0 (fun hHeld => ?_)
 refine tk 0 (.pointer (some ⟨pp, 0, none⟩)) rfl ?_
 try simp only [nz, Act.put]
 refine tk 1 (.pointer (some ⟨pp, 0, none⟩)) rfl ?_
 try simp only [nz, Act.put]
 refine tk 2 (.pointer (some ⟨pp, 0, none⟩)) rfl ?_
 try simp only [nz, Act.put]
 refine tk 3 (.pointer (some ⟨a.s, 0, none⟩)) rfl ?_ (fun W hSw => by (try dsimp only at hSw); (have z := PrAt.c0 hSw.1; go_simp))
 try simp only [nz, Act.put]
 refine tk 4 (.pointer (some ⟨w.heap.size, 3, none⟩)) rfl ?_
 try simp only [nz, Act.put]
 refine tk 5 (.int .u32 oi) rfl ?_ (fun W hSw => by (try dsimp only at hSw); (have z := hSw.2.c3; go_simp))
 try simp only [nz, Act.put]
 refine tk 7 (.pointer (some ⟨pp, 0, none⟩)) rfl ?_
 try simp only [nz, Act.put]
 refine tk 8 (.pointer (some ⟨pp, 0, none⟩)) rfl ?_
 try simp only [nz, Act.put]
 refine tk 9 (.pointer (some ⟨pp, 2, none⟩)) rfl ?_
 try simp only [nz, Act.put]
 refine tk 10 (.pointer (some ⟨x, 0, none⟩)) rfl ?_ (fun W hSw => by (try dsimp only at hSw); (have z := PrAt.cx hSw.1; go_simp))
 try simp only [nz, Act.put]
 refine tk 11 (.pointer (some ⟨w.heap.size, 3, none⟩)) rfl ?_
 try simp only [nz, Act.put]
 refine tk 12 (.int .u32 oi) rfl ?_ (fun W hSw => by (try dsimp only at hSw); (have z := hSw.2.c3; go_simp))
 try simp only [nz, Act.put]
 refine rd 6 rfl (fun K hK => ?_)
 go_simp
 go_wp2_with (go_at_call 48; refine cm.mono ?_; rintro e w2 ⟨rfl, hbo, hkz⟩)
 have HBOw2 : Hid (Bo B w0 w2 pp a x (w.heap.size :: Z) (rmR s oi).1 s) := hbo
 have HKZw2 : Hid (KeepZ (w.heap.size :: Z) w1 w2) := hkz
 have HIOw2 : Hid (IOpAt w2 w.heap.size ⟨6, oa, ob, oi⟩ fa fn fc) := ⟨(hkz w.heap.size List.mem_cons_self).trans (show w1.drew.heap[w.heap.size]? = _ from hHeld.2.row)⟩
 refine hK.out _ _ ⟨hbo.row, HIOw2.out⟩ (fun hHeld2 => ?_)
 clear hK K cm
 try simp only [nz, Act.put]
 have cx := HBOw2.out.callX (R := fun e => e = .returned (.int .i64 (rmR s oi).2)) (t' := (rmR s oi).1) (fun Y hY _ => rm_x hY oi hi0 hi1 HK.out (by have := HN.out; unfold Hid at this; omega) (HIV.out.dir oi))
 refine rd 13 rfl (fun K hK => ?_)
 go_simp
 go_wp2_with (go_at_call 49; refine cx.mono ?_; rintro e w3 ⟨rfl, hbo3, hkz3⟩)
 have HBOw3 : Hid (Bo B w0 w3 pp a x (w.heap.size :: Z) (rmR s oi).1 (rmR s oi).1) := hbo3
 have HKZw3 : Hid (KeepZ (w.heap.size :: Z) w2 w3) := hkz3
 have HIOw3 : Hid (IOpAt w3 w.heap.size ⟨6, oa, ob, oi⟩ fa fn fc) := ⟨(hkz3 w.heap.size List.mem_cons_self).trans HIOw2.out.row⟩
 refine hK.out _ _ ⟨hbo3.row, HIOw3.out⟩ (fun hHeld3 => ?_)
 clear hK K cx
 try simp only [nz, Act.put]
 refine tk 14 (.bool true) rfl ?_
 try simp only [nz, Act.put]
 refine tk 15 (.bool true) rfl ?_
 try simp only [nz, Act.put]
 refine wpAnyH_done (by kernel_rfl) ?_ _
 refine NoPanic.normal ?_
 have HF : Hid (Bo B w0 w3 pp a x Z (rmR s oi).1 (rmR s oi).1 ∧ KeepZ Z w w3) := ⟨HBOw3.out.sub (fun k hk => List.mem_cons_of_mem _ hk), fun k hk => (HKZw3.out k (List.mem_cons_of_mem _ hk)).trans ((HKZw2.out k (List.mem_cons_of_mem _ hk)).trans (HB1.out.block k (HZL.out k hk)))⟩
 clear hHeld hHeld2 hHeld3 hbo hkz hbo3 hkz3 hS0 HBOw2 HBOw3 HKZw2 HKZw3 HIOw2 HIOw3
 go_wp2
 go_ret
 exact ⟨rfl, HF.out⟩

open Go.RowKit Go.Maps
set_option maxRecDepth 100000

theorem info_f17 : (Tryz.prog.info? 98).map (fun i => (i.zero, i.size, i.bytes)) = some (some (.agg #[.int .i64 0, .int .i64 0]), 2, 16) := by kernel_rfl
theorem fi_one17 : ∀ f : Int × Int, ∀ u ∈ fiE f, u.oneCell' = true := by
 intro f u hu
 unfold fiE at hu
 simp only [List.mem_cons, List.not_mem_nil, or_false] at hu
 rcases hu with rfl | rfl <;> rfl
/-- As callS, and the heap does not shrink. -/
theorem Bo.callSZ {B : Nat} {w0 w : World} {pp : Nat} {a : Sa} {x : Nat} {Z : List Nat} {s t s' : Sg} (h : Bo B w0 w pp a x Z s t) {f : FuncId} {args : Array Value} {R : Ending → Prop} (hc : ∀ X, SgIn B w a X s → Calls Tryz.prog f args w fun e w' => R e ∧ SgOut B w a X s' w') :
  Calls Tryz.prog f args w fun e w' => R e ∧ Bo B w0 w' pp a x Z s' t ∧ KeepZ Z w w' ∧ w.heap.size ≤ w'.heap.size := by
 obtain ⟨X, Y, p, g1, g2, hd, hz⟩ := h.ex
 refine (hc X g1).mono ?_
 rintro e w' ⟨hR, X', k1, k2, k3⟩
 refine ⟨hR, ⟨⟨X', Y, k2.row p (hz pp (by simp)).1, k1, g2.keep k2.size (fun k hk hh => k2.block k hk (fun hx => ?_)), fun k hk hy => ?_, fun k hk => ?_⟩, h.bel.trans (k2.belowX g1.ge (Nat.le_trans h.B h.bel.size)), h.B⟩, fun k hk => ?_, k2.size⟩
 ·rcases hh with e | e
  ·have := g1.ge k hx; omega
  ·exact hd k hx e
 ·rcases k3 k hk with e | e
  ·exact hd k e hy
  ·have := (g2.lt k hy).1; omega
 ·obtain ⟨z1, z2, z3⟩ := hz k hk
  refine ⟨fun hm => ?_, z2, Nat.lt_of_lt_of_le z3 k2.size⟩
  rcases k3 k hm with e | e
  ·exact z1 e
  ·omega
 ·obtain ⟨z1, z2, z3⟩ := hz k (by simp [hk])
  exact k2.block k z3 z1
set_option maxHeartbeats 16000000 in
theorem do_set {B : Nat} {w0 w : World} {pp : Nat} {a : Sa} {x : Nat} {Z : List Nat} {s : Sg} (h : Bo B w0 w pp a x Z s s) (hiv : Iv s) {N : Nat} (hk : Sk s N) (hN : N ≤ 3800) {oa ob oi : Int} (ho : IOpOk ⟨4, oa, ob, oi⟩) (fa : Option Addr) (fn fc : Nat) (fs : List (Int × Int)) (hr : RdZ 2 fiE w (.slice fa fn fc) fs) (hfn : fn ≤ 100) (hf : fiOk fs) :
  Calls Tryz.prog 12 #[.pointer (some ⟨pp, 0, none⟩), .agg (iopC ⟨4, oa, ob, oi⟩ fa fn fc)] w fun e w' => e = .returned (.bool true) ∧ Bo B w0 w' pp a x Z (setR s oi fs).1 (setR s oi fs).1 ∧ KeepZ Z w w' := by
 obtain ⟨iE, hiE, hz0, hz1, hz2⟩ := info_parts info_f17
 obtain ⟨hfl, hfnc, hfcm⟩ := hr.len
 have hb1 := bel1 w (.cells (iopC ⟨4, oa, ob, oi⟩ fa fn fc) 31)
 have ho1 : IOpAt (w.alloc (.cells (iopC ⟨4, oa, ob, oi⟩ fa fn fc) 31)) w.heap.size ⟨4, oa, ob, oi⟩ fa fn fc := ⟨heap_alloc_new w _⟩
 obtain ⟨w1, hw1⟩ : ∃ w1, w.alloc (.cells (iopC ⟨4, oa, ob, oi⟩ fa fn fc) 31) = w1 := ⟨_, rfl⟩
 rw [hw1] at hb1 ho1
 have HH1 : Hid (Bo B w0 w1 pp a x (w.heap.size :: Z) s s) := h.add hb1 (Nat.le_refl _) (lt_of_row ho1.row)
 have HZL : Hid (∀ k ∈ Z, k < w.heap.size) := h.zlt
 have HB1 : Hid (Below w.heap.size w w1) := hb1
 have HO1 : Hid (IOpAt w1 w.heap.size ⟨4, oa, ob, oi⟩ fa fn fc) := ho1
 have HR1 : Hid (RdZ 2 fiE w1 (.slice fa fn fc) fs) := hr.below hb1
 have HFL : Hid (fs.length = fn ∧ fn ≤ 100) := ⟨hfl, hfn⟩
 have HFO : Hid (fiOk fs) := hf
 have hi0 := ho.i0
 have hi1 := ho.i1
 dsimp only at hi0 hi1
 have HK : Hid (Sk s N) := hk
 have HIV : Hid (Iv s) := hiv
 have HN : Hid (N ≤ 3800) := hN
 have v0 : w1.cell? ⟨w.heap.size, 0, none⟩ = some (.int .i64 4) := ho1.cell 0 _ rfl
 have v4 : w1.cell? ⟨w.heap.size, 4, none⟩ = some (.slice fa fn fc) := ho1.cell 4 _ rfl
 unfold iopC at hw1 ⊢
 dsimp only at hw1 ⊢
 clear h hb1 ho1 hk hiv hN ho hr hf hfl hfcm
 go_enter Tryz.func12, Tryz.ntmps12
 go_wp2_with fail
 try rw [hw1]
 clear hw1 v0 v4
 go_loopg [21, 159] fn (fun kx s21 s159 wr => ∃ (i : Nat) (va : Option Addr) (n c : Nat), s159 = .int .i64 i ∧ s21 = .slice va n c ∧ i ≤ fn ∧ fn - i ≤ kx ∧ Hid (Below w1.heap.size w1 wr ∧ OwnL w1.heap.size 98 2 fiE wr (.slice va n c) (fs.take i)))
 case atStart => exact ⟨0, none, 0, 0, rfl, rfl, Nat.zero_le _, by omega, Below.refl _ _, OwnL.nil _ _ _ _ _⟩
 case round =>
  obtain ⟨i, va, n, c, rfl, rfl, hin, hkx, HW⟩ := hrel
  by_cases hlt : i < fn
  ·obtain ⟨f, hy⟩ : ∃ y, fs[i]? = some y := ⟨_, List.getElem?_eq_getElem (by have := HFL.out.1; omega)⟩
   have HY : Hid (fs[i]? = some f) := hy
   obtain ⟨b0, o0, rfl, hb0, c0, c1⟩ := fi_cells (HR1.out.below HW.out.1) hy
   have hbA := bel1 wr (.cells #[.int .i64 f.1, .int .i64 f.2] 97)
   have hrA := heap_alloc_new wr (.cells #[.int .i64 f.1, .int .i64 f.2] 97)
   obtain ⟨wA, hwA⟩ : ∃ wA, wr.alloc (.cells #[.int .i64 f.1, .int .i64 f.2] 97) = wA := ⟨_, rfl⟩
   rw [hwA] at hbA hrA
   have a0 : wA.cell? ⟨wr.heap.size, 0, none⟩ = some (.int .i64 f.1) := by rw [cell_of_row _ _ _ _ _ (0, 0) hrA]; rfl
   have a1 : wA.cell? ⟨wr.heap.size, 1, none⟩ = some (.int .i64 f.2) := by rw [cell_of_row _ _ _ _ _ (0, 0) hrA]; rfl
   have hbB := bel1 wA (.cells #[.int .i64 f.1, .int .i64 f.2] 98)
   have r1 : RdZ 2 fiE (wA.alloc (.cells #[.int .i64 f.1, .int .i64 f.2] 98)) (.slice (some ⟨wA.heap.size, 0, none⟩) 1 1) [f] := rdZ_own fi_len (base := wA.heap.size) (e := 98) ⟨rfl, .inr ⟨wA.heap.size, 1, #[.int .i64 f.1, .int .i64 f.2], rfl, Nat.le_refl _, heap_alloc_new _ _, Nat.le_refl _, by decide, rfl, rfl⟩⟩
   have b1 := thenB hbA hbB
   have o1 := HW.out.2.below b1
   have B1 : Hid _ := HW.out.1.trans (b1.mono HW.out.1.size)
   have hiI : (i : Int) < (fn : Int) := by omega
   have hib : (i : Int) + 1 ≤ 9223372036854775807 := by have := HFL.out.2; omega
   clear hy hbA hrA hbB b1
   go_wp2_with (refine wpList_append_E fi_len fi_one17 Tryz.underlying95 hiE hz0 hz1 hz2 rfl (by decide) (by decide) rfl _ _ rfl w1.heap.size _ _ rfl o1 _ [f] rfl r1 (by have := HFL.out; simp; omega) B1.out.size ?_; rintro v2 w2 ho2 hg2)
   obtain ⟨a2, c2, rfl⟩ := row_slice ho2
   have HO2 : Hid _ := ho2
   have HG2 : Hid _ := hg2
   clear ho2 hg2 o1 r1
   go_roundg (fn - (i + 1))
   case measure => omega
   case rel =>
    refine ⟨i + 1, a2, _, c2, by rw [show ((i : Int) + 1) = ((i + 1 : Nat) : Int) by omega], rfl, by omega, by omega, tgrown_below B1.out HG2.out ?_ B1.out.size, by rw [take_next HY.out]; exact HO2.out⟩
    intro g hg
    rcases HW.out.2.2 with ⟨e, _⟩ | ⟨g', cap, cur, e, hb', _⟩
    ·rw [e] at hg; cases hg
    ·rw [e] at hg; cases hg; exact hb'
  obtain rfl : fn = i := by omega
  obtain ⟨hbw, how⟩ := HW.out
  rw [List.take_of_length_le (by have := HFL.out.1; omega)] at how
  have hrw : RdZ 2 fiE wr (.slice va n c) fs := rdZ_own fi_len how
  obtain ⟨hln, hnc, hcm⟩ := hrw.len
  obtain ⟨Z2, hZ, hsub, hown⟩ : ∃ Z2, Bo B w0 wr pp a x Z2 s s ∧ (∀ k ∈ w.heap.size :: Z, k ∈ Z2) ∧ ∀ g, (Value.slice va n c).ownBlock = some g → g ∈ Z2 := by
   rcases how.2 with ⟨e, _⟩ | ⟨g', cap, cur, e, hb', hh, _⟩
   ·exact ⟨_, HH1.out.below hbw, fun k hk => hk, fun g hg => by rw [e] at hg; cases hg⟩
   ·exact ⟨_, HH1.out.add hbw hb' (lt_of_row hh), fun k hk => List.mem_cons_of_mem _ hk, fun g hg => by rw [e] at hg; cases hg; exact List.mem_cons_self⟩
  have HRW : Hid (RdZ 2 fiE wr (.slice va n c) fs) := hrw
  have HSUB : Hid (∀ k ∈ w.heap.size :: Z, k ∈ Z2) := hsub
  have HOWN : Hid (∀ g, (Value.slice va n c).ownBlock = some g → g ∈ Z2) := hown
  have HNL : Hid (n ≤ 1000) := by have := HFL.out; unfold Hid; omega
  have HBW : Hid (Below w1.heap.size w1 wr) := hbw
  have cm := (hZ.below (Below.refl _ _).drew).callSZ (R := fun e => e = .returned (.int .i64 (setR s oi fs).2)) (s' := (setR s oi fs).1) (fun X hX => set_in hX oi hi0 hi1 fa fn fc fs ((HR1.out.below hbw).below (Below.refl _ wr).drew) (by have := HFL.out.2; omega) HFO.out (Nat.le_trans HK.out.L (by have := HN.out; unfold Hid at this; omega)) (Nat.le_trans HK.out.P (by have := HN.out; unfold Hid at this; omega)) (Nat.le_trans HK.out.U (by have := HN.out; unfold Hid at this; omega)))
  have hS0 : PrAt wr.drew pp a x ∧ IOpAt wr.drew w.heap.size ⟨4, oa, ob, oi⟩ fa fn fc := ⟨hZ.row, ⟨(HO1.out.below hbw).row⟩⟩
  clear hbw how hrw hln hnc hcm hZ hsub hown HW hkx hin hlt
  go_wp2_with fail
  refine wp_region_noPanic ?_
  refine wp_region_held_drew (S := fun W => PrAt W pp a x ∧ IOpAt W w.heap.size ⟨4, oa, ob, oi⟩ fa fn fc) (by kernel_rfl) hS0 (fun hHeld => ?_)
  refine tk 0 (.pointer (some ⟨pp, 0, none⟩)) rfl ?_
  try simp only [nz, Act.put]
  refine tk 1 (.pointer (some ⟨pp, 0, none⟩)) rfl ?_
  try simp only [nz, Act.put]
  refine tk 2 (.pointer (some ⟨pp, 0, none⟩)) rfl ?_
  try simp only [nz, Act.put]
  refine tk 3 (.pointer (some ⟨a.s, 0, none⟩)) rfl ?_ (fun W hSw => by (try dsimp only at hSw); (have z := PrAt.c0 hSw.1; go_simp))
  try simp only [nz, Act.put]
  refine tk 4 (.pointer (some ⟨w.heap.size, 3, none⟩)) rfl ?_
  try simp only [nz, Act.put]
  refine tk 5 (.int .u32 oi) rfl ?_ (fun W hSw => by (try dsimp only at hSw); (have z := hSw.2.c3; go_simp))
  try simp only [nz, Act.put]
  refine tk 6 (.pointer (some ⟨w.heap.size, 4, none⟩)) rfl ?_
  try simp only [nz, Act.put]
  refine tk 7 (.slice fa fn fc) rfl ?_ (fun W hSw => by (try dsimp only at hSw); (have z := hSw.2.c4; go_simp))
  try simp only [nz, Act.put]
  refine tk 9 (.pointer (some ⟨pp, 0, none⟩)) rfl ?_
  try simp only [nz, Act.put]
  refine tk 10 (.pointer (some ⟨pp, 0, none⟩)) rfl ?_
  try simp only [nz, Act.put]
  refine tk 11 (.pointer (some ⟨pp, 2, none⟩)) rfl ?_
  try simp only [nz, Act.put]
  refine tk 12 (.pointer (some ⟨x, 0, none⟩)) rfl ?_ (fun W hSw => by (try dsimp only at hSw); (have z := PrAt.cx hSw.1; go_simp))
  try simp only [nz, Act.put]
  refine tk 13 (.pointer (some ⟨w.heap.size, 3, none⟩)) rfl ?_
  try simp only [nz, Act.put]
  refine tk 14 (.int .u32 oi) rfl ?_ (fun W hSw => by (try dsimp only at hSw); (have z := hSw.2.c3; go_simp))
  try simp only [nz, Act.put]
  refine tk 15 (.slice va n c) rfl ?_
  try simp only [nz, Act.put]
  refine rd 8 rfl (fun K hK => ?_)
  go_simp
  go_wp2_with (go_at_call 45; refine cm.mono ?_; rintro e w2 ⟨rfl, hbo, hkz, hgz⟩)
  have HBOw2 : Hid (Bo B w0 w2 pp a x Z2 (setR s oi fs).1 s) := hbo
  have HKZw2 : Hid (KeepZ Z2 wr w2) := hkz
  have HIOw2 : Hid (IOpAt w2 w.heap.size ⟨4, oa, ob, oi⟩ fa fn fc) := ⟨(hkz w.heap.size (HSUB.out _ List.mem_cons_self)).trans (show wr.drew.heap[w.heap.size]? = _ from hHeld.2.row)⟩
  refine hK.out _ _ ⟨hbo.row, HIOw2.out⟩ (fun hHeld2 => ?_)
  clear hK K cm
  try simp only [nz, Act.put]
  have HR2 : Hid (RdZ 2 fiE w2 (.slice va n c) fs) := HRW.out.keep hgz (fun g hg => HKZw2.out g (HOWN.out g hg))
  have cx := HBOw2.out.callX (R := fun e => e = .returned (.int .i64 (setR s oi fs).2)) (t' := (setR s oi fs).1) (fun Y hY hz => set_x hY oi hi0 hi1 va n c fs HR2.out (fun b off e _ hm => hz b (HOWN.out b (by rw [e]; rfl)) hm) HNL.out HFO.out HK.out (by have := HN.out; unfold Hid at this; omega))
  refine rd 16 rfl (fun K hK => ?_)
  go_simp
  go_wp2_with (go_at_call 46; refine cx.mono ?_; rintro e w3 ⟨rfl, hbo3, hkz3⟩)
  have HBOw3 : Hid (Bo B w0 w3 pp a x Z2 (setR s oi fs).1 (setR s oi fs).1) := hbo3
  have HKZw3 : Hid (KeepZ Z2 w2 w3) := hkz3
  have HIOw3 : Hid (IOpAt w3 w.heap.size ⟨4, oa, ob, oi⟩ fa fn fc) := ⟨(hkz3 w.heap.size (HSUB.out _ List.mem_cons_self)).trans HIOw2.out.row⟩
  refine hK.out _ _ ⟨hbo3.row, HIOw3.out⟩ (fun hHeld3 => ?_)
  clear hK K cx
  try simp only [nz, Act.put]
  refine tk 17 (.bool true) rfl ?_
  try simp only [nz, Act.put]
  refine tk 18 (.bool true) rfl ?_
  try simp only [nz, Act.put]
  refine wpAnyH_done (by kernel_rfl) ?_ _
  refine NoPanic.normal ?_
  have HF : Hid (Bo B w0 w3 pp a x Z (setR s oi fs).1 (setR s oi fs).1 ∧ KeepZ Z w w3) := ⟨HBOw3.out.sub (fun k hk => HSUB.out k (List.mem_cons_of_mem _ hk)), fun k hk => (HKZw3.out k (HSUB.out k (List.mem_cons_of_mem _ hk))).trans ((HKZw2.out k (HSUB.out k (List.mem_cons_of_mem _ hk))).trans ((HBW.out.block k (Nat.lt_of_lt_of_le (HZL.out k hk) HB1.out.size)).trans (HB1.out.block k (HZL.out k hk))))⟩
  clear hHeld hHeld2 hHeld3 hbo hkz hbo3 hkz3 hS0 HBOw2 HBOw3 HKZw2 HKZw3 HIOw2 HIOw3
  go_wp2
  go_ret
  exact ⟨rfl, HF.out⟩

open Go.RowKit Go.Maps
set_option maxRecDepth 100000

set_option maxHeartbeats 8000000 in
theorem do_none {B : Nat} {w0 w : World} {pp : Nat} {a : Sa} {x : Nat} {Z : List Nat} {s : Sg} (h : Bo B w0 w pp a x Z s s) {od oa ob oi : Int} (hd : ¬ (0 ≤ od ∧ od ≤ 6)) (fa : Option Addr) (fn fc : Nat) :
  Calls Tryz.prog 12 #[.pointer (some ⟨pp, 0, none⟩), .agg (iopC ⟨od, oa, ob, oi⟩ fa fn fc)] w fun e w' => e = .returned (.bool true) ∧ Bo B w0 w' pp a x Z s s ∧ KeepZ Z w w' := by
 have hb1 := bel1 w (.cells (iopC ⟨od, oa, ob, oi⟩ fa fn fc) 31)
 have ho1 : IOpAt (w.alloc (.cells (iopC ⟨od, oa, ob, oi⟩ fa fn fc) 31)) w.heap.size ⟨od, oa, ob, oi⟩ fa fn fc := ⟨heap_alloc_new w _⟩
 obtain ⟨w1, hw1⟩ : ∃ w1, w.alloc (.cells (iopC ⟨od, oa, ob, oi⟩ fa fn fc) 31) = w1 := ⟨_, rfl⟩
 rw [hw1] at hb1 ho1
 have HF : Hid (Bo B w0 w1 pp a x Z s s ∧ KeepZ Z w w1) := ⟨h.below hb1, fun k hk => hb1.block k (h.zlt k hk)⟩
 have v0 : w1.cell? ⟨w.heap.size, 0, none⟩ = some (.int .i64 od) := ho1.cell 0 _ rfl
 have d0 : (od == 0) = false := by simp; omega
 have d1 : (od == 1) = false := by simp; omega
 have d2 : (od == 2) = false := by simp; omega
 have d3 : (od == 3) = false := by simp; omega
 have d4 : (od == 4) = false := by simp; omega
 have d5 : (od == 5) = false := by simp; omega
 have d6 : (od == 6) = false := by simp; omega
 unfold iopC at hw1 ⊢
 dsimp only at hw1 ⊢
 clear h hb1 ho1
 go_enter Tryz.func12, Tryz.ntmps12
 go_wp2_with fail
 try rw [hw1]
 clear hw1 v0
 go_ret
 exact ⟨rfl, HF.out⟩

open Go.RowKit Go.Maps
set_option maxRecDepth 100000

theorem Bo.lts {B : Nat} {w0 w : World} {pp : Nat} {a : Sa} {x : Nat} {Z : List Nat} {s t : Sg} (h : Bo B w0 w pp a x Z s t) : ∀ k ∈ pp :: a.s :: a.v :: a.g :: Z, k < w.heap.size := fun k hk => by
 obtain ⟨X, Y, p, g1, g2, hd, hz⟩ := h.ex
 exact (hz k hk).2.2
/-- A block of Z may be written. -/
theorem Bo.setZ {B : Nat} {w0 w w' : World} {pp : Nat} {a : Sa} {x : Nat} {Z : List Nat} {s t : Sg} {g : Nat} (h : Bo B w0 w pp a x (g :: Z) s t) (hg : B ≤ g) (hne : ∀ k ∈ [pp, a.s, a.v, a.g], k ≠ g) (hs : w.heap.size ≤ w'.heap.size) (hk : ∀ k, k < w.heap.size → k ≠ g → w'.heap[k]? = w.heap[k]?) (hb : Below B w w') : Bo B w0 w' pp a x (g :: Z) s t := by
 obtain ⟨X, Y, p, g1, g2, hd, hz⟩ := h.ex
 have zg := hz g (by simp)
 refine ⟨⟨X, Y, (hk pp (lt_of_row p) (hne pp (by simp))).trans p, g1.keep hs (fun k h1 h2 => hk k h1 (fun e => ?_)), g2.keep hs (fun k h1 h2 => hk k h1 (fun e => ?_)), hd, fun k hk' => ⟨(hz k hk').1, (hz k hk').2.1, Nat.lt_of_lt_of_le (hz k hk').2.2 hs⟩⟩, h.bel.trans (hb.mono (Nat.le_refl _)), h.B⟩
 ·rcases h2 with e2 | e2 | e2 | e2 | e2
  ·omega
  ·exact zg.1 (e ▸ e2)
  ·exact hne a.s (by simp) (e2 ▸ e)
  ·exact hne a.v (by simp) (e2 ▸ e)
  ·exact hne a.g (by simp) (e2 ▸ e)
 ·rcases h2 with e2 | e2
  ·omega
  ·exact zg.2.1 (e ▸ e2)

set_option maxHeartbeats 8000000 in
theorem do_stat {B : Nat} {w0 w : World} {pp : Nat} {a : Sa} {x : Nat} {Z : List Nat} {s : Sg} (h : Bo B w0 w pp a x Z s s) {N : Nat} (hk : Sk s N) (hN : N ≤ 3800) {oa ob oi : Int} (ho : IOpOk ⟨2, oa, ob, oi⟩) (fa : Option Addr) (fn fc : Nat) :
  Calls Tryz.prog 12 #[.pointer (some ⟨pp, 0, none⟩), .agg (iopC ⟨2, oa, ob, oi⟩ fa fn fc)] w fun e w' => e = .returned (.bool true) ∧ Bo B w0 w' pp a x Z (statR s oi).1 (statR s oi).1 := by
 have hb1 := bel1 w (.cells (iopC ⟨2, oa, ob, oi⟩ fa fn fc) 31)
 have ho1 : IOpAt (w.alloc (.cells (iopC ⟨2, oa, ob, oi⟩ fa fn fc) 31)) w.heap.size ⟨2, oa, ob, oi⟩ fa fn fc := ⟨heap_alloc_new w _⟩
 obtain ⟨w1, hw1⟩ : ∃ w1, w.alloc (.cells (iopC ⟨2, oa, ob, oi⟩ fa fn fc) 31) = w1 := ⟨_, rfl⟩
 rw [hw1] at hb1 ho1
 have h1 := h.add hb1 (Nat.le_refl _) (lt_of_row ho1.row)
 have hi0 := ho.i0
 have hi1 := ho.i1
 dsimp only at hi0 hi1
 have v0 : w1.cell? ⟨w.heap.size, 0, none⟩ = some (.int .i64 2) := ho1.cell 0 _ rfl
 have HBE : Hid (B ≤ w1.heap.size) := Nat.le_trans h.B h1.bel.size
 have HG0 : Hid (B ≤ w.heap.size) := Nat.le_trans h.B h.bel.size
 have cmF : ∀ W Z', Bo B w0 W pp a x Z' s s → Calls Tryz.prog 41 #[.pointer (some ⟨a.s, 0, none⟩), .int .u32 oi] W fun e w' => e = .returned (.tuple #[inV (statR s oi).2.1, .int .i64 (statR s oi).2.2]) ∧ Bo B w0 w' pp a x Z' (statR s oi).1 s ∧ KeepZ Z' W w' := fun W Z' hW => hW.callS (fun X hX => stat_in hX oi hi0 hi1 (Nat.le_trans hk.R (by omega)))
 have cxF : ∀ W Z' s', Bo B w0 W pp a x Z' s' s → Calls Tryz.prog 42 #[.pointer (some ⟨x, 0, none⟩), .int .u32 oi] W fun e w' => e = .returned (.tuple #[inV (statR s oi).2.1, .int .i64 (statR s oi).2.2]) ∧ Bo B w0 w' pp a x Z' s' (statR s oi).1 ∧ KeepZ Z' W w' := fun W Z' s' hW => hW.callX (fun Y hY _ => stat_x hY hk.ck oi hi0 hi1 (Nat.le_trans hk.R (by omega)))
 obtain ⟨⟨s', ⟨k, m, ln, sz⟩, er⟩, hst⟩ : ∃ r, statR s oi = r := ⟨_, rfl⟩
 rw [hst] at cmF cxF ⊢
 unfold inV at cmF cxF
 dsimp only at cmF cxF ⊢
 have HS1 : Hid (Bo B w0 w1 pp a x (w.heap.size :: Z) s s) := h1
 have HO1 : Hid (IOpAt w1 w.heap.size ⟨2, oa, ob, oi⟩ fa fn fc) := ho1
 unfold iopC at hw1 ⊢
 dsimp only at hw1 v0 ⊢
 clear h h1 hb1 ho1 hk hN ho hst
 go_enter Tryz.func12, Tryz.ntmps12
 go_upto_region 11 with fail
 try rw [hw1]
 clear hw1 v0
 go_cut [13, 14] from 96 to 105 (fun p e wx => e = .int .i64 er ∧ ∃ g, p = .pointer (some ⟨g, 0, none⟩) ∧ Hid (Bo B w0 wx pp a x (g :: w.heap.size :: Z) s' s ∧ InRow wx g k m ln sz ∧ IOpAt wx w.heap.size ⟨2, oa, ob, oi⟩ fa fn fc))
 case first =>
  have hS0 : PrAt w1.drew pp a x ∧ IOpAt w1.drew w.heap.size ⟨2, oa, ob, oi⟩ fa fn fc := ⟨HS1.out.row, ⟨HO1.out.row⟩⟩
  refine wp_region_noPanic ?_
  refine wp_region_held_drew (S := fun W => PrAt W pp a x ∧ IOpAt W w.heap.size ⟨2, oa, ob, oi⟩ fa fn fc) (by kernel_rfl) hS0 (fun hHeld => ?_)
  refine tk 0 (.pointer (some ⟨pp, 0, none⟩)) rfl ?_
  try simp only [nz, Act.put]
  refine tk 1 (.pointer (some ⟨pp, 0, none⟩)) rfl ?_
  try simp only [nz, Act.put]
  refine tk 2 (.pointer (some ⟨pp, 0, none⟩)) rfl ?_
  try simp only [nz, Act.put]
  refine tk 3 (.pointer (some ⟨a.s, 0, none⟩)) rfl ?_ (fun W hSw => by (try dsimp only at hSw); (have z := PrAt.c0 hSw.1; go_simp))
  try simp only [nz, Act.put]
  refine tk 4 (.pointer (some ⟨w.heap.size, 3, none⟩)) rfl ?_
  try simp only [nz, Act.put]
  refine tk 5 (.int .u32 oi) rfl ?_ (fun W hSw => by (try dsimp only at hSw); (have z := hSw.2.c3; go_simp))
  try simp only [nz, Act.put]
  refine wpAnyH_ready (rs := [6, 10]) (by kernel_rfl) (by simp) ?_
  refine AllReadyH.cons rfl (fun K hK => ?_) (AllReadyH.cons rfl (fun K hK => ?_) AllReadyH.nil)
  ·go_simp
   go_wp2_with (go_at_call 41; refine (cmF _ _ (HS1.out.below (Below.refl _ _).drew)).mono ?_; rintro e w2 ⟨rfl, hbo, hkz⟩)
   have HIOw2 : Hid (IOpAt w2 w.heap.size ⟨2, oa, ob, oi⟩ fa fn fc) := ⟨(hkz w.heap.size List.mem_cons_self).trans (show w1.drew.heap[w.heap.size]? = _ from hHeld.2.row)⟩
   have HBO2 : Hid (Bo B w0 w2 pp a x (w.heap.size :: Z) s' s) := hbo
   refine hK.out _ _ ⟨hbo.row, HIOw2.out⟩ (fun hHeld2 => ?_)
   clear hK K
   try simp only [nz, Act.put]
   refine tk 7 (.tuple #[.agg #[.int .i64 k, .int .i64 m, .int .i64 ln, .int .i64 sz], .int .i64 er]) rfl ?_
   try simp only [nz, Act.put]
   refine tk 8 (.agg #[.int .i64 k, .int .i64 m, .int .i64 ln, .int .i64 sz]) rfl ?_
   try simp only [nz, Act.put]
   refine tk 9 (.int .i64 er) rfl ?_
   try simp only [nz, Act.put]
   refine rd 10 rfl (fun K hK => ?_)
   go_simp
   have hbA := bel1 w2 (.cells #[.int .i64 0, .int .i64 0, .int .i64 0, .int .i64 0] 91)
   refine hK.out _ _ ⟨(hbA.block _ (lt_of_row hbo.row)).trans hbo.row, HIOw2.out.below hbA⟩ (fun hHeld3 => ?_)
   clear hK K
   try simp only [nz, Act.put]
   refine rd 11 rfl (fun K hK => ?_)
   go_simp
   have hbV := bel1 w2 (.cells #[.int .i64 k, .int .i64 m, .int .i64 ln, .int .i64 sz] 91)
   have hrV : InRow (w2.alloc (.cells #[.int .i64 k, .int .i64 m, .int .i64 ln, .int .i64 sz] 91)) w2.heap.size k m ln sz := ⟨heap_alloc_new _ _⟩
   have HFIN : Hid (Bo B w0 (w2.alloc (.cells #[.int .i64 k, .int .i64 m, .int .i64 ln, .int .i64 sz] 91)) pp a x (w2.heap.size :: w.heap.size :: Z) s' s ∧ InRow (w2.alloc (.cells #[.int .i64 k, .int .i64 m, .int .i64 ln, .int .i64 sz] 91)) w2.heap.size k m ln sz ∧ IOpAt (w2.alloc (.cells #[.int .i64 k, .int .i64 m, .int .i64 ln, .int .i64 sz] 91)) w.heap.size ⟨2, oa, ob, oi⟩ fa fn fc) := ⟨HBO2.out.add hbV (Nat.le_refl _) (lt_of_row hrV.row), hrV, HIOw2.out.below hbV⟩
   refine hK.out _ _ ⟨HFIN.out.1.row, HFIN.out.2.2⟩ (fun hHeld4 => ?_)
   clear hK K
   try simp only [nz, Act.put]
   refine tk 12 (.int .i64 er) rfl ?_
   try simp only [nz, Act.put]
   refine wpAnyH_done (by kernel_rfl) ?_ _
   refine NoPanic.normal ?_
   go_wp2_with fail
   go_meet
   case rel => exact ⟨rfl, _, rfl, HFIN⟩
  ·go_simp
   have hbA := bel1 w1.drew (.cells #[.int .i64 0, .int .i64 0, .int .i64 0, .int .i64 0] 91)
   have hS2 := (HS1.out.below (Below.refl _ _).drew).add hbA (Nat.le_refl _) (lt_of_row (heap_alloc_new _ _))
   refine hK.out _ _ ⟨hS2.row, (show IOpAt w1.drew w.heap.size ⟨2, oa, ob, oi⟩ fa fn fc from ⟨HO1.out.row⟩).below hbA⟩ (fun hHeld2 => ?_)
   clear hK K
   try simp only [nz, Act.put]
   refine rd 6 rfl (fun K hK => ?_)
   go_simp
   go_wp2_with (go_at_call 41; refine (cmF _ _ hS2).mono ?_; rintro e w2 ⟨rfl, hbo, hkz⟩)
   have HIOw2 : Hid (IOpAt w2 w.heap.size ⟨2, oa, ob, oi⟩ fa fn fc) := ⟨(hkz w.heap.size (by simp)).trans (hHeld2.2.row)⟩
   have HR2 : Hid (InRow w2 w1.heap.size 0 0 0 0) := ⟨(hkz _ List.mem_cons_self).trans (heap_alloc_new _ _)⟩
   refine hK.out _ _ ⟨hbo.row, HIOw2.out⟩ (fun hHeld3 => ?_)
   clear hK K
   try simp only [nz, Act.put]
   refine tk 7 (.tuple #[.agg #[.int .i64 k, .int .i64 m, .int .i64 ln, .int .i64 sz], .int .i64 er]) rfl ?_
   try simp only [nz, Act.put]
   refine tk 8 (.agg #[.int .i64 k, .int .i64 m, .int .i64 ln, .int .i64 sz]) rfl ?_
   try simp only [nz, Act.put]
   refine tk 9 (.int .i64 er) rfl ?_
   try simp only [nz, Act.put]
   have r1 : InRow (w2.setCell ⟨w1.heap.size, 0, none⟩ (.int .i64 k)) w1.heap.size k 0 0 0 := ⟨heap_setCell_same w2 w1.heap.size 0 _ _ (.int .i64 k) HR2.out.row⟩
   have r2 := r1.set1 m
   have r3 := r2.set2 ln
   have r4 := r3.set3 sz
   have x0 := HR2.out.cell 0 _ rfl
   have x1 := r1.cell 1 _ rfl
   have x2 := r2.cell 2 _ rfl
   have x3 := r3.cell 3 _ rfl
   have y0 : w2.frozen? ⟨w1.heap.size, 0, none⟩ = false := by simp [World.frozen?, HR2.out.row]
   have y1 : (w2.setCell ⟨w1.heap.size, 0, none⟩ (.int .i64 k)).frozen? ⟨w1.heap.size, 1, none⟩ = false := by simp [World.frozen?, r1.row]
   have y2 : ((w2.setCell ⟨w1.heap.size, 0, none⟩ (.int .i64 k)).setCell ⟨w1.heap.size, 1, none⟩ (.int .i64 m)).frozen? ⟨w1.heap.size, 2, none⟩ = false := by simp [World.frozen?, r2.row]
   have y3 : (((w2.setCell ⟨w1.heap.size, 0, none⟩ (.int .i64 k)).setCell ⟨w1.heap.size, 1, none⟩ (.int .i64 m)).setCell ⟨w1.heap.size, 2, none⟩ (.int .i64 ln)).frozen? ⟨w1.heap.size, 3, none⟩ = false := by simp [World.frozen?, r3.row]
   obtain ⟨w4, hw4⟩ : ∃ w4, (((w2.setCell ⟨w1.heap.size, 0, none⟩ (.int .i64 k)).setCell ⟨w1.heap.size, 1, none⟩ (.int .i64 m)).setCell ⟨w1.heap.size, 2, none⟩ (.int .i64 ln)).setCell ⟨w1.heap.size, 3, none⟩ (.int .i64 sz) = w4 := ⟨_, rfl⟩
   have hbel : Below B w2 w4 := by
    rw [← hw4]
    exact ((((Below.refl B w2).setCell (p := ⟨w1.heap.size, 0, none⟩) HBE.out _).setCell (p := ⟨w1.heap.size, 1, none⟩) HBE.out _).setCell (p := ⟨w1.heap.size, 2, none⟩) HBE.out _).setCell (p := ⟨w1.heap.size, 3, none⟩) HBE.out _
   have hoth : ∀ q, q ≠ w1.heap.size → w4.heap[q]? = w2.heap[q]? := fun q hq => by
    rw [← hw4, heap_setCell_other _ _ q _ hq, heap_setCell_other _ _ q _ hq, heap_setCell_other _ _ q _ hq, heap_setCell_other _ _ q _ hq]
   rw [hw4] at r4
   have HFIN : Hid (Bo B w0 w4 pp a x (w1.heap.size :: w.heap.size :: Z) s' s ∧ InRow w4 w1.heap.size k m ln sz ∧ IOpAt w4 w.heap.size ⟨2, oa, ob, oi⟩ fa fn fc) := ⟨hbo.setZ HBE.out (fun q hq e => by have e' : q = w1.heap.size := e; have := HS1.out.lts q (by simp only [List.mem_cons, List.not_mem_nil, or_false] at hq ⊢; rcases hq with h | h | h | h <;> simp [h]); omega) hbel.size (fun q _ hq => hoth q hq) hbel, r4, ⟨(hoth _ (fun e => by have := lt_of_row HO1.out.row; omega)).trans HIOw2.out.row⟩⟩
   clear r1 r2 r3 r4 hbel hoth hbo hkz hHeld hHeld2
   refine rd 11 rfl (fun K hK => ?_)
   go_simp
   try rw [hw4]
   refine hK.out _ _ ⟨HFIN.out.1.row, HFIN.out.2.2⟩ (fun hHeld4 => ?_)
   clear hK K x0 x1 x2 x3 y0 y1 y2 y3
   try simp only [nz, Act.put]
   refine tk 12 (.int .i64 er) rfl ?_
   try simp only [nz, Act.put]
   refine wpAnyH_done (by kernel_rfl) ?_ _
   refine NoPanic.normal ?_
   go_wp2_with fail
   go_meet
   case rel => exact ⟨rfl, _, rfl, HFIN⟩
 case rest =>
  obtain ⟨rfl, g, rfl, HA⟩ := hcut
  obtain ⟨w3, rfl⟩ : ∃ w3, w3 = wc := ⟨_, rfl⟩
  clear HS1 HO1 HBE cmF
  have HG0' : Hid (w.heap.size < w3.heap.size) := lt_of_row HA.out.2.2.row
  have HB3 : Hid (B ≤ w3.heap.size) := Nat.le_trans HG0.out (Nat.le_of_lt HG0'.out)
  go_upto_region 12 with fail
  go_cut [15, 16] from 106 to 115 (fun p e wx => e = .int .i64 er ∧ ∃ g', p = .pointer (some ⟨g', 0, none⟩) ∧ Hid (Bo B w0 wx pp a x (g' :: g :: w.heap.size :: Z) s' s' ∧ InRow wx g k m ln sz ∧ InRow wx g' k m ln sz))
  case first =>
   have hS0 : PrAt w3.drew pp a x ∧ IOpAt w3.drew w.heap.size ⟨2, oa, ob, oi⟩ fa fn fc := ⟨HA.out.1.row, ⟨HA.out.2.2.row⟩⟩
   refine wp_region_noPanic ?_
   refine wp_region_held_drew (S := fun W => PrAt W pp a x ∧ IOpAt W w.heap.size ⟨2, oa, ob, oi⟩ fa fn fc) (by kernel_rfl) hS0 (fun hHeld => ?_)
   refine tk 0 (.pointer (some ⟨pp, 0, none⟩)) rfl ?_
   try simp only [nz, Act.put]
   refine tk 1 (.pointer (some ⟨pp, 0, none⟩)) rfl ?_
   try simp only [nz, Act.put]
   refine tk 2 (.pointer (some ⟨pp, 2, none⟩)) rfl ?_
   try simp only [nz, Act.put]
   refine tk 3 (.pointer (some ⟨x, 0, none⟩)) rfl ?_ (fun W hSw => by (try dsimp only at hSw); (have z := PrAt.cx hSw.1; go_simp))
   try simp only [nz, Act.put]
   refine tk 4 (.pointer (some ⟨w.heap.size, 3, none⟩)) rfl ?_
   try simp only [nz, Act.put]
   refine tk 5 (.int .u32 oi) rfl ?_ (fun W hSw => by (try dsimp only at hSw); (have z := hSw.2.c3; go_simp))
   try simp only [nz, Act.put]
   refine wpAnyH_ready (rs := [6, 10]) (by kernel_rfl) (by simp) ?_
   refine AllReadyH.cons rfl (fun K hK => ?_) (AllReadyH.cons rfl (fun K hK => ?_) AllReadyH.nil)
   ·go_simp
    go_wp2_with (go_at_call 42; refine (cxF _ _ _ (HA.out.1.below (Below.refl _ _).drew)).mono ?_; rintro e w2 ⟨rfl, hbo, hkz⟩)
    have HIOw2 : Hid (IOpAt w2 w.heap.size ⟨2, oa, ob, oi⟩ fa fn fc) := ⟨(hkz w.heap.size (by simp)).trans (show w3.drew.heap[w.heap.size]? = _ from hHeld.2.row)⟩
    have HRA : Hid (InRow w2 g k m ln sz) := ⟨(hkz g (by simp)).trans (show w3.drew.heap[g]? = _ from HA.out.2.1.row)⟩
    have HBO2 : Hid (Bo B w0 w2 pp a x (g :: w.heap.size :: Z) s' s') := hbo
    refine hK.out _ _ ⟨hbo.row, HIOw2.out⟩ (fun hHeld2 => ?_)
    clear hK K
    try simp only [nz, Act.put]
    refine tk 7 (.tuple #[.agg #[.int .i64 k, .int .i64 m, .int .i64 ln, .int .i64 sz], .int .i64 er]) rfl ?_
    try simp only [nz, Act.put]
    refine tk 8 (.agg #[.int .i64 k, .int .i64 m, .int .i64 ln, .int .i64 sz]) rfl ?_
    try simp only [nz, Act.put]
    refine tk 9 (.int .i64 er) rfl ?_
    try simp only [nz, Act.put]
    refine rd 10 rfl (fun K hK => ?_)
    go_simp
    have hbA := bel1 w2 (.cells #[.int .i64 0, .int .i64 0, .int .i64 0, .int .i64 0] 91)
    refine hK.out _ _ ⟨(hbA.block _ (lt_of_row hbo.row)).trans hbo.row, HIOw2.out.below hbA⟩ (fun hHeld3 => ?_)
    clear hK K
    try simp only [nz, Act.put]
    refine rd 11 rfl (fun K hK => ?_)
    go_simp
    have hbV := bel1 w2 (.cells #[.int .i64 k, .int .i64 m, .int .i64 ln, .int .i64 sz] 91)
    have hrV : InRow (w2.alloc (.cells #[.int .i64 k, .int .i64 m, .int .i64 ln, .int .i64 sz] 91)) w2.heap.size k m ln sz := ⟨heap_alloc_new _ _⟩
    have HFIN : Hid (Bo B w0 (w2.alloc (.cells #[.int .i64 k, .int .i64 m, .int .i64 ln, .int .i64 sz] 91)) pp a x (w2.heap.size :: g :: w.heap.size :: Z) s' s' ∧ InRow (w2.alloc (.cells #[.int .i64 k, .int .i64 m, .int .i64 ln, .int .i64 sz] 91)) g k m ln sz ∧ InRow (w2.alloc (.cells #[.int .i64 k, .int .i64 m, .int .i64 ln, .int .i64 sz] 91)) w2.heap.size k m ln sz) := ⟨HBO2.out.add hbV (Nat.le_refl _) (lt_of_row hrV.row), ⟨(hbV.block _ (lt_of_row HRA.out.row)).trans HRA.out.row⟩, hrV⟩
    refine hK.out _ _ ⟨HFIN.out.1.row, HIOw2.out.below hbV⟩ (fun hHeld4 => ?_)
    clear hK K
    try simp only [nz, Act.put]
    refine tk 12 (.int .i64 er) rfl ?_
    try simp only [nz, Act.put]
    refine wpAnyH_done (by kernel_rfl) ?_ _
    refine NoPanic.normal ?_
    go_wp2_with fail
    go_meet
    case rel => exact ⟨rfl, _, rfl, HFIN⟩
   ·go_simp
    have hbA := bel1 w3.drew (.cells #[.int .i64 0, .int .i64 0, .int .i64 0, .int .i64 0] 91)
    have hS2 := (HA.out.1.below (Below.refl _ _).drew).add hbA (Nat.le_refl _) (lt_of_row (heap_alloc_new _ _))
    have HRA1 : Hid (InRow (w3.drew.alloc (.cells #[.int .i64 0, .int .i64 0, .int .i64 0, .int .i64 0] 91)) g k m ln sz) := ⟨(hbA.block _ (lt_of_row HA.out.2.1.row)).trans HA.out.2.1.row⟩
    have HGL : Hid (g < w3.heap.size) := lt_of_row HA.out.2.1.row
    refine hK.out _ _ ⟨hS2.row, (show IOpAt w3.drew w.heap.size ⟨2, oa, ob, oi⟩ fa fn fc from ⟨HA.out.2.2.row⟩).below hbA⟩ (fun hHeld2 => ?_)
    clear hK K
    try simp only [nz, Act.put]
    refine rd 6 rfl (fun K hK => ?_)
    go_simp
    go_wp2_with (go_at_call 42; refine (cxF _ _ _ hS2).mono ?_; rintro e w2 ⟨rfl, hbo, hkz⟩)
    have HIOw2 : Hid (IOpAt w2 w.heap.size ⟨2, oa, ob, oi⟩ fa fn fc) := ⟨(hkz w.heap.size (by simp)).trans (hHeld2.2.row)⟩
    have HRA : Hid (InRow w2 g k m ln sz) := ⟨(hkz g (by simp)).trans HRA1.out.row⟩
    have HR2 : Hid (InRow w2 w3.heap.size 0 0 0 0) := ⟨(hkz _ List.mem_cons_self).trans (heap_alloc_new _ _)⟩
    refine hK.out _ _ ⟨hbo.row, HIOw2.out⟩ (fun hHeld3 => ?_)
    clear hK K
    try simp only [nz, Act.put]
    refine tk 7 (.tuple #[.agg #[.int .i64 k, .int .i64 m, .int .i64 ln, .int .i64 sz], .int .i64 er]) rfl ?_
    try simp only [nz, Act.put]
    refine tk 8 (.agg #[.int .i64 k, .int .i64 m, .int .i64 ln, .int .i64 sz]) rfl ?_
    try simp only [nz, Act.put]
    refine tk 9 (.int .i64 er) rfl ?_
    try simp only [nz, Act.put]
    have r1 : InRow (w2.setCell ⟨w3.heap.size, 0, none⟩ (.int .i64 k)) w3.heap.size k 0 0 0 := ⟨heap_setCell_same w2 w3.heap.size 0 _ _ (.int .i64 k) HR2.out.row⟩
    have r2 := r1.set1 m
    have r3 := r2.set2 ln
    have r4 := r3.set3 sz
    have x0 := HR2.out.cell 0 _ rfl
    have x1 := r1.cell 1 _ rfl
    have x2 := r2.cell 2 _ rfl
    have x3 := r3.cell 3 _ rfl
    have y0 : w2.frozen? ⟨w3.heap.size, 0, none⟩ = false := by simp [World.frozen?, HR2.out.row]
    have y1 : (w2.setCell ⟨w3.heap.size, 0, none⟩ (.int .i64 k)).frozen? ⟨w3.heap.size, 1, none⟩ = false := by simp [World.frozen?, r1.row]
    have y2 : ((w2.setCell ⟨w3.heap.size, 0, none⟩ (.int .i64 k)).setCell ⟨w3.heap.size, 1, none⟩ (.int .i64 m)).frozen? ⟨w3.heap.size, 2, none⟩ = false := by simp [World.frozen?, r2.row]
    have y3 : (((w2.setCell ⟨w3.heap.size, 0, none⟩ (.int .i64 k)).setCell ⟨w3.heap.size, 1, none⟩ (.int .i64 m)).setCell ⟨w3.heap.size, 2, none⟩ (.int .i64 ln)).frozen? ⟨w3.heap.size, 3, none⟩ = false := by simp [World.frozen?, r3.row]
    obtain ⟨w4, hw4⟩ : ∃ w4, (((w2.setCell ⟨w3.heap.size, 0, none⟩ (.int .i64 k)).setCell ⟨w3.heap.size, 1, none⟩ (.int .i64 m)).setCell ⟨w3.heap.size, 2, none⟩ (.int .i64 ln)).setCell ⟨w3.heap.size, 3, none⟩ (.int .i64 sz) = w4 := ⟨_, rfl⟩
    have hbel : Below B w2 w4 := by
     rw [← hw4]
     exact ((((Below.refl B w2).setCell (p := ⟨w3.heap.size, 0, none⟩) HB3.out _).setCell (p := ⟨w3.heap.size, 1, none⟩) HB3.out _).setCell (p := ⟨w3.heap.size, 2, none⟩) HB3.out _).setCell (p := ⟨w3.heap.size, 3, none⟩) HB3.out _
    have hoth : ∀ q, q ≠ w3.heap.size → w4.heap[q]? = w2.heap[q]? := fun q hq => by
     rw [← hw4, heap_setCell_other _ _ q _ hq, heap_setCell_other _ _ q _ hq, heap_setCell_other _ _ q _ hq, heap_setCell_other _ _ q _ hq]
    rw [hw4] at r4
    have HFIN : Hid (Bo B w0 w4 pp a x (w3.heap.size :: g :: w.heap.size :: Z) s' s' ∧ InRow w4 g k m ln sz ∧ InRow w4 w3.heap.size k m ln sz) := ⟨hbo.setZ HB3.out (fun q hq e => by have e' : q = w3.heap.size := e; have := HA.out.1.lts q (by simp only [List.mem_cons, List.not_mem_nil, or_false] at hq ⊢; rcases hq with h | h | h | h <;> simp [h]); omega) hbel.size (fun q _ hq => hoth q hq) hbel, ⟨(hoth _ (fun e => by have := HGL.out; unfold Hid at this; omega)).trans HRA.out.row⟩, r4⟩
    have HIO4 : Hid (IOpAt w4 w.heap.size ⟨2, oa, ob, oi⟩ fa fn fc) := ⟨(hoth _ (fun e => by have := HG0'.out; omega)).trans HIOw2.out.row⟩
    clear r1 r2 r3 r4 hbel hoth hbo hkz hHeld hHeld2
    refine rd 11 rfl (fun K hK => ?_)
    go_simp
    try rw [hw4]
    refine hK.out _ _ ⟨HFIN.out.1.row, HIO4.out⟩ (fun hHeld4 => ?_)
    clear hK K x0 x1 x2 x3 y0 y1 y2 y3
    try simp only [nz, Act.put]
    refine tk 12 (.int .i64 er) rfl ?_
    try simp only [nz, Act.put]
    refine wpAnyH_done (by kernel_rfl) ?_ _
    refine NoPanic.normal ?_
    go_wp2_with fail
    go_meet
    case rel => exact ⟨rfl, _, rfl, HFIN⟩
  case rest =>
   obtain ⟨rfl, g', rfl, HE⟩ := hcut
   obtain ⟨w5, rfl⟩ : ∃ w5, w5 = wc := ⟨_, rfl⟩
   have lx : Hid _ := HE.out.2.1.load
   have ly : Hid _ := HE.out.2.2.load
   have heq : ∀ W, (binOp .eql 91 (.agg #[.int .i64 k, .int .i64 m, .int .i64 ln, .int .i64 sz]) (.agg #[.int .i64 k, .int .i64 m, .int .i64 ln, .int .i64 sz])).run Tryz.prog W = .ok (.bool true) W := fun W => by
    rw [eq_inodes]
    simp [inoEq]
   go_wp2_with (first | (refine wpList_loadG rfl 91 _ rfl _ rfl _ lx.out ?_) | (refine wpList_loadG rfl 91 _ rfl _ rfl _ ly.out ?_))
   go_ret
   exact ⟨rfl, HE.out.1.sub (fun q hq => by simp [hq])⟩
 done

open Go.RowKit Go.Maps
set_option maxRecDepth 100000

theorem sizeR_sk1 {s : Sg} {n : Nat} (h : Sk s n) (ino : Int) : Sk (sizeR s ino).1 (n + 1) := by
 unfold sizeR
 split
 ·exact h.mono (by omega)
 ·exact h.read ino [3]
/-- What a call leaves. -/
def doR (s : Sg) (o : IOp) (fs : List (Int × Int)) : Sg :=
 if o.d = 0 then (makR s o.a o.b).1 else if o.d = 2 then (statR s o.ino).1 else if o.d = 3 then (sizeR s o.ino).1 else if o.d = 4 then (setR s o.ino fs).1 else if o.d = 5 then (lkR s o.ino o.a).1 else if o.d = 6 then (rmR s o.ino).1 else s
theorem Bo.n {B : Nat} {w0 w : World} {pp : Nat} {a : Sa} {x : Nat} {Z : List Nat} {s t : Sg} (h : Bo B w0 w pp a x Z s t) : 0 ≤ s.n ∧ s.n ≤ 4294967295 := by
 obtain ⟨X, Y, p, g, _⟩ := h.ex
 exact sg_n g
theorem doR_iv {s : Sg} (h : Iv s) (hn : 0 ≤ s.n ∧ s.n ≤ 4294967295) {o : IOp} (ho : IOpOk o) {fs : List (Int × Int)} (hf : fiOk fs) : Iv (doR s o fs) := by
 unfold doR
 split
 ·exact h.make hn.1 hn.2 _ _
 split
 ·exact h.stat _
 split
 ·exact h.size _
 split
 ·exact h.set _ ho.i0 ho.i1 _ hf
 split
 ·exact h.link _ ho.i0 ho.i1 _
 split
 ·exact h.rm _ ho.i0 ho.i1
 ·exact h
theorem doR_sk {s : Sg} (hi : Iv s) {n : Nat} (h : Sk s n) (o : IOp) (fs : List (Int × Int)) : Sk (doR s o fs) (n + 30) := by
 unfold doR
 split
 ·exact (h.make _ _).mono (by omega)
 split
 ·exact (h.stat _).mono (by omega)
 split
 ·exact (sizeR_sk1 h _).mono (by omega)
 split
 ·exact (h.set _ _).mono (by omega)
 split
 ·exact (h.link hi.d _ _).mono (by omega)
 split
 ·exact (h.rm hi.d _).mono (by omega)
 ·exact h.mono (by omega)

theorem do_any {B : Nat} {w0 w : World} {pp : Nat} {a : Sa} {x : Nat} {Z : List Nat} {s : Sg} (h : Bo B w0 w pp a x Z s s) (hiv : Iv s) {N : Nat} (hk : Sk s N) (hN : N ≤ 3800) {o : IOp} (ho : IOpOk o) (fa : Option Addr) (fn fc : Nat) (fs : List (Int × Int)) (hr : RdZ 2 fiE w (.slice fa fn fc) fs) (hfn : fn ≤ 100) (hf : fiOk fs) :
  Calls Tryz.prog 12 #[.pointer (some ⟨pp, 0, none⟩), .agg (iopC o fa fn fc)] w fun e w' => e = .returned (.bool true) ∧ Bo B w0 w' pp a x Z (doR s o fs) (doR s o fs) := by
 obtain ⟨d, oa, ob, oi⟩ := o
 unfold doR
 dsimp only
 by_cases h0 : d = 0
 ·subst h0
  exact (do_make h hiv hk hN ho fa fn fc).mono (fun e w' q => ⟨q.1, q.2.1⟩)
 by_cases h1 : d = 1
 ·subst h1
  exact (do_kind h hiv hk hN ho fa fn fc).mono (fun e w' q => ⟨q.1, q.2.1⟩)
 by_cases h2 : d = 2
 ·subst h2
  exact do_stat h hk hN ho fa fn fc
 by_cases h3 : d = 3
 ·subst h3
  exact (do_size h hiv hk hN ho fa fn fc).mono (fun e w' q => ⟨q.1, q.2.1⟩)
 by_cases h4 : d = 4
 ·subst h4
  exact (do_set h hiv hk hN ho fa fn fc fs hr hfn hf).mono (fun e w' q => ⟨q.1, q.2.1⟩)
 by_cases h5 : d = 5
 ·subst h5
  exact (do_link h hiv hk hN ho fa fn fc).mono (fun e w' q => ⟨q.1, q.2.1⟩)
 by_cases h6 : d = 6
 ·subst h6
  exact (do_rm h hiv hk hN ho fa fn fc).mono (fun e w' q => ⟨q.1, q.2.1⟩)
 ·rw [if_neg h0, if_neg h2, if_neg h3, if_neg h4, if_neg h5, if_neg h6]
  exact (do_none h (by omega) fa fn fc).mono (fun e w' q => ⟨q.1, q.2.1⟩)

end Go.Proofs.YtiplhhaehbjghaaGreat
