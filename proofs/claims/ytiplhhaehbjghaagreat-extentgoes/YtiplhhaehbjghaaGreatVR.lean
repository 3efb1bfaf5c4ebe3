/- VwRef, VwCount, VwRef2: in one text. -/
import Derived.Test.YtiplhhaehbjghaaGreatM1
import Derived.Test.YtiplhhaehbjghaaGreatS2
import Derived.Test.YtiplhhaehbjghaaGreatIJ
import Derived.Test.YtiplhhaehbjghaaGreatRP
import Derived.Test.YtiplhhaehbjghaaGreatPF
import Derived.Deep.CutRange
import Derived.Deep.CutBlock
namespace Go.Proofs.YtiplhhaehbjghaaGreat
open Go.RowKit
set_option linter.unusedVariables false
set_option maxHeartbeats 32000000
set_option maxRecDepth 100000
set_option linter.unusedSimpArgs false
theorem ret_itemR3 {fn : Func} {Rr : Ending → World → Prop} {a : Act} {w : World} {p u x : Tmp} (h : fn.results = #[.cell p 130, .tmp u, .tmp x]) (g : Nat) (y : It) (hy : y.bytes.length = 32) (hp : a.tmps.getD p undef = .pointer (some ⟨g, 0, none⟩)) (v : Value) (hu : a.tmps.getD u undef = v) (v' : Value) (hx : a.tmps.getD x undef = v')
  (hg : ItAt 130 w g y) (hd : a.defers = []) (hR : Rr (.returned (.tuple #[.agg (itC y), v, v'])) w) : bodyPost Tryz.prog fn Rr .ret a w := by
 refine bodyPost_ret ?_ hd hR
 have hp' : a.tmps[p]?.getD undef = .pointer (some ⟨g, 0, none⟩) := by simpa using hp
 have hu' : a.tmps[u]?.getD undef = v := by simpa using hu
 have hx' : a.tmps[x]?.getD undef = v' := by simpa using hx
 have hl := run_loadVar_row (P := Tryz.prog) w g _ 130 (itC y) _ _ hg.row Tryz.underlying130 rfl (by rw [itC_size hy]; exact size_itemR)
 simp [results, h, hp', hu', hx', asAddr, hl, Result.andThen]
theorem built_inodeR (k m l s : Int) : Tryz.prog.built 130 [(0, .agg #[.int .i64 k, .int .i64 m, .int .i64 l, .int .i64 s])] = some (itC ⟨k, m, l, s, 0, zeroC⟩) := by kernel_rfl
theorem built_leadR (t : Int) : Tryz.prog.built 130 [(1, .int .u32 t)] = some (itC ⟨0, 0, 0, 0, t, zeroC⟩) := by kernel_rfl
theorem built_chunkR {b : List Int} (hb : b.length = 32) : Tryz.prog.built 130 [(2, .agg (bytesV b))] = some (itC ⟨0, 0, 0, 0, 0, b⟩) := by
 have h : ∀ f : Nat → Int, Tryz.prog.built 130 [(2, .agg (bytesV ((List.range 32).map f)))] = some (itC ⟨0, 0, 0, 0, 0, (List.range 32).map f⟩) := by intro f; kernel_rfl
 rw [ch_eq hb]; exact h _
theorem itSet1 (x : It) (m : Int) : (itC x).setIfInBounds 1 (.int .i64 m) = itC ⟨x.kind, m, x.links, x.size, x.lead, x.bytes⟩ := by unfold itC; simp
theorem itSet2 (x : It) (m : Int) : (itC x).setIfInBounds 2 (.int .i64 m) = itC ⟨x.kind, x.mode, m, x.size, x.lead, x.bytes⟩ := by unfold itC; simp
theorem itSet3 (x : It) (m : Int) : (itC x).setIfInBounds 3 (.int .i64 m) = itC ⟨x.kind, x.mode, x.links, m, x.lead, x.bytes⟩ := by unfold itC; simp
structure RwS (w W : World) (y : It) (c : Cg) : Prop where
 i : ItAt 130 W w.heap.size y
 c : CgAt W (w.heap.size + 1) c
 r : ItAt 130 W (w.heap.size + 1 + 1) it0
 bel : Below w.heap.size w W
theorem rw_laid (w : World) (x : It) (c : Cg) : RwS w (((w.alloc (.cells (itC x) 130)).alloc (.cells (cgC c) 119)).alloc (.cells (itC it0) 130)) x c := by
 have al : ∀ (A : World) (o : Obj), Below A.heap.size A (A.alloc o) := fun A o => (Below.refl _ A).alloc (Nat.le_refl _) o
 refine ⟨((ItAt.laid _ w x).below (al _ _)).below (al _ _), ?_, ?_, (((Below.refl _ w).alloc (Nat.le_refl _) _).alloc (by simp) _).alloc (by simp; omega) _⟩
 ·have h := (CgAt.laid (w.alloc (.cells (itC x) 130)) c).below (al _ (.cells (itC it0) 130))
  rwa [World.size_alloc] at h
 ·have h := ItAt.laid 130 ((w.alloc (.cells (itC x) 130)).alloc (.cells (cgC c) 119)) it0
  rwa [World.size_alloc, World.size_alloc] at h
theorem RwS.set {w W : World} {y : It} {c : Cg} (h : RwS w W y c) (j : Nat) (v : Value) (y' : It) (hy : (itC y).setIfInBounds j v = itC y') : RwS w (W.setCell ⟨w.heap.size, j, none⟩ v) y' c := by
 refine ⟨⟨?_⟩, ⟨(heap_setCell_other W ⟨w.heap.size, j, none⟩ _ v (by show w.heap.size + 1 ≠ w.heap.size; omega)).trans h.c.row⟩, ⟨(heap_setCell_other W ⟨w.heap.size, j, none⟩ _ v (by show w.heap.size + 1 + 1 ≠ w.heap.size; omega)).trans h.r.row⟩, h.bel.setCell (p := ⟨w.heap.size, j, none⟩) (Nat.le_refl _) v⟩
 have := heap_setCell_same W w.heap.size j _ _ v h.i.row
 rw [← hy]
 exact this
theorem rwth_any (w : World) (x : It) (hx : ItOk x) (is : Bool) (c : Cg) (hc : CgOk c) : Calls Tryz.prog 190 #[.agg (itC x), .bool is, .agg (cgC c)] w fun e w' =>
  e = .returned (.tuple #[.agg (itC (refW x is c).1), .bool (refW x is c).2.1, .int .i64 (refW x is c).2.2]) ∧ Below w.heap.size w w' := by
 have hzR := zeroItemR
 have len0 := ch_zero.1
 have HX : Hid (x.bytes.length = 32) := hx.ch.1
 have HCL : Hid (c.pt.bytes.length = 32) := hc.pt.ch.1
 have hS := rw_laid w x c
 obtain ⟨w1, hw1⟩ : ∃ w1, (((w.alloc (.cells (itC x) 130)).alloc (.cells (cgC c) 119)).alloc (.cells (itC it0) 130)) = w1 := ⟨_, rfl⟩
 rw [hw1] at hS
 have HS : Hid (RwS w w1 x c) := hS
 have x1 := hS.c.c1
 have x4 := hS.c.c4
 have hr := hS.r
 have hB := hS.bel
 have fin : ∀ (W : World) (y : It), RwS w W y c → ∀ z : It, Below w.heap.size w (W.setRow (w.heap.size + 1 + 1) (itC z)) := fun W y h z => below_setRow h.bel (by omega) _
 have FIN : Hid _ := fin
 have HE : Hid (refW x is c = if c.gone then (it0, false, 0) else if c.pl.part = 2 then (leadI c, true, 0) else if c.pl.part = 3 then (laidI x c, true, 0) else if c.fresh then (freshI c, true, 0) else if is then (⟨x.kind, wM c x.mode, wL c x.links, wS c x.size, x.lead, x.bytes⟩, true, 0) else (it0, false, 3)) := rfl
 generalize refW x is c = R at *
 clear hS fin
 go_enter Tryz.func190, Tryz.ntmps190
 cases hg : c.gone
 rotate_left
 ·rw [hg] at x4
  go_wp2_with (first | (refine wpList_buildBy rfl 130 _ rfl _ rfl [] (by kernel_rfl) (itC it0) built_zeroR ?_) | (refine wpList_storeR rfl _ _ rfl (w.heap.size + 1 + 1) it0 it0 rfl rfl len0 len0 hr ?_))
  exact ret_itemR3 rfl (w.heap.size + 1 + 1) it0 len0 rfl _ rfl _ rfl (hr.setRow _) rfl ⟨by rw [HE.out, hg]; rfl, FIN.out _ _ HS.out _⟩
 rw [hg] at x4
 by_cases h2 : c.pl.part = 2
 ·have b2 : (c.pl.part == 2) = true := by simp [h2]
  have x11 := HS.out.c.c11
  go_wp2_with (first | (refine wpList_buildBy rfl 130 _ rfl _ rfl [(1, .int .u32 c.to)] (by kernel_rfl) (itC (leadI c)) (built_leadR _) ?_) | (refine wpList_storeR rfl _ _ rfl (w.heap.size + 1 + 1) (leadI c) it0 rfl rfl len0 len0 hr ?_))
  exact ret_itemR3 rfl (w.heap.size + 1 + 1) (leadI c) len0 rfl _ rfl _ rfl (hr.setRow _) rfl ⟨by rw [HE.out, hg, if_neg (by simp), if_pos h2]; rfl, FIN.out _ _ HS.out _⟩
 have b2 : (c.pl.part == 2) = false := by simp [h2]
 by_cases h3 : c.pl.part = 3
 ·have b3 : (c.pl.part == 3) = true := by simp [h3]
  have lb : Hid _ := HS.out.i.loadC HX.out
  have lp : Hid _ := HS.out.c.loadT HCL.out
  have cl := rlay_any w1 x.bytes c.pt hx.ch hc.pt
  go_wp2_with (first | (refine wpList_loadG rfl 115 _ rfl _ rfl _ lb.out ?_) | (refine wpList_loadG rfl 117 _ rfl _ rfl _ lp.out ?_))
  refine cl.mono ?_
  rintro e w2 ⟨rfl, hb2⟩
  clear cl
  have hr2 := hr.below hb2
  have hL := layB_len x.bytes c.pt
  have HL : Hid ((laidI x c).bytes.length = 32) := hL
  go_wp2_with (first | (refine wpList_buildBy rfl 130 _ rfl _ rfl [(2, .agg (bytesV (layB x.bytes c.pt)))] (by kernel_rfl) (itC (laidI x c)) (built_chunkR hL) ?_) | (refine wpList_storeR rfl _ _ rfl (w.heap.size + 1 + 1) (laidI x c) it0 rfl rfl HL.out len0 hr2 ?_))
  exact ret_itemR3 rfl (w.heap.size + 1 + 1) (laidI x c) HL.out rfl _ rfl _ rfl (hr2.setRow _) rfl ⟨by rw [HE.out, hg, if_neg (by simp), if_neg h2, if_pos h3]; rfl, below_setRow (thenB HS.out.bel hb2) (by omega) _⟩
 have b3 : (c.pl.part == 3) = false := by simp [h3]
 have x5 := HS.out.c.c5
 cases hf : c.fresh
 rotate_left
 ·rw [hf] at x5
  have li : Hid _ := HS.out.c.loadI
  go_wp2_with (first | (refine wpList_loadG rfl 91 _ rfl _ rfl _ li.out ?_) | (refine wpList_buildBy rfl 130 _ rfl _ rfl [(0, .agg #[.int .i64 c.kind, .int .i64 c.mode, .int .i64 c.links, .int .i64 c.size])] (by kernel_rfl) (itC (freshI c)) (built_inodeR _ _ _ _) ?_) | (refine wpList_storeR rfl _ _ rfl (w.heap.size + 1 + 1) (freshI c) it0 rfl rfl len0 len0 hr ?_))
  exact ret_itemR3 rfl (w.heap.size + 1 + 1) (freshI c) len0 rfl _ rfl _ rfl (hr.setRow _) rfl ⟨by rw [HE.out, hg, if_neg (by simp), if_neg h2, if_neg h3, hf]; rfl, FIN.out _ _ HS.out _⟩
 rw [hf] at x5
 cases is
 ·go_wp2_with (first | (refine wpList_buildBy rfl 130 _ rfl _ rfl [] (by kernel_rfl) (itC it0) built_zeroR ?_) | (refine wpList_storeR rfl _ _ rfl (w.heap.size + 1 + 1) it0 it0 rfl rfl len0 len0 hr ?_))
  exact ret_itemR3 rfl (w.heap.size + 1 + 1) it0 len0 rfl _ rfl _ rfl (hr.setRow _) rfl ⟨by rw [HE.out, hg, if_neg (by simp), if_neg h2, if_neg h3, hf]; rfl, FIN.out _ _ HS.out _⟩
 have HE2 : Hid (R = (⟨x.kind, wM c x.mode, wL c x.links, wS c x.size, x.lead, x.bytes⟩, true, 0)) := by unfold Hid; rw [HE.out, hg, if_neg (by simp), if_neg h2, if_neg h3, hf]; rfl
 have x6 := HS.out.c.c6
 have x8 := HS.out.c.c8
 have f1 := HS.out.i.fr 1
 have i1 := HS.out.i.c1
 clear HE hg hf
 obtain ⟨b1, hb1⟩ : ∃ b1, (bits .and .i64 c.fields 1 != 0) = b1 := ⟨_, rfl⟩
 have HM : Hid (wM c x.mode = if b1 then c.mode else x.mode) := by unfold Hid wM bF; rw [hb1]
 go_upto_if 45 with fail
 try rw [hb1]
 go_cut [] from 46 to 50 (fun wx => Hid (RwS w wx ⟨x.kind, wM c x.mode, x.links, x.size, x.lead, x.bytes⟩ c))
 case first =>
  cases b1
  ·go_wp2_with fail
   go_meet
   case rel => rw [HM.out]; exact HS
  ·go_wp2_with fail
   go_meet
   case rel => rw [HM.out]; exact HS.out.set 1 _ _ (itSet1 _ _)
 case rest =>
  have HS1 : Hid _ := hcut.out
  obtain ⟨w2, rfl⟩ : ∃ w2, w2 = wc := ⟨_, rfl⟩
  clear x1 x4 x5 x6 x8 f1 i1 hr hB HS b2 b3 h2 h3 hcut hb1 hw1
  have y6 := HS1.out.c.c6
  have y9 := HS1.out.c.c9
  have g2 := HS1.out.i.fr 2
  have j2 := HS1.out.i.c2
  obtain ⟨b2, hb2⟩ : ∃ b2, (bits .and .i64 c.fields 2 != 0) = b2 := ⟨_, rfl⟩
  have HL : Hid (wL c x.links = if b2 then c.links else x.links) := by unfold Hid wL bF; rw [hb2]
  go_upto_if 54 with fail
  try rw [hb2]
  go_cut [] from 55 to 59 (fun wx => Hid (RwS w wx ⟨x.kind, wM c x.mode, wL c x.links, x.size, x.lead, x.bytes⟩ c))
  case first =>
   cases b2
   ·go_wp2_with fail
    go_meet
    case rel => rw [HL.out]; exact HS1
   ·go_wp2_with fail
    go_meet
    case rel => rw [HL.out]; exact HS1.out.set 2 _ _ (itSet2 _ _)
  case rest =>
   have HS2 : Hid _ := hcut.out
   obtain ⟨w3, rfl⟩ : ∃ w3, w3 = wc := ⟨_, rfl⟩
   clear y6 y9 g2 j2 HS1 hcut hb2
   have z6 := HS2.out.c.c6
   have z10 := HS2.out.c.c10
   have k3 := HS2.out.i.fr 3
   have m3 := HS2.out.i.c3
   obtain ⟨b4, hb4⟩ : ∃ b4, (bits .and .i64 c.fields 4 != 0) = b4 := ⟨_, rfl⟩
   have HZ : Hid (wS c x.size = if b4 then c.size else x.size) := by unfold Hid wS bF; rw [hb4]
   go_upto_if 63 with fail
   try rw [hb4]
   go_cut [] from 64 to 68 (fun wx => Hid (RwS w wx ⟨x.kind, wM c x.mode, wL c x.links, wS c x.size, x.lead, x.bytes⟩ c))
   case first =>
    cases b4
    ·go_wp2_with fail
     go_meet
     case rel => rw [HZ.out]; exact HS2
    ·go_wp2_with fail
     go_meet
     case rel => rw [HZ.out]; exact HS2.out.set 3 _ _ (itSet3 _ _)
   case rest =>
    have HS3 : Hid _ := hcut.out
    obtain ⟨w4, rfl⟩ : ∃ w4, w4 = wc := ⟨_, rfl⟩
    clear z6 z10 k3 m3 HS2 hcut hb4
    obtain ⟨y, hy⟩ : ∃ y : It, (⟨x.kind, wM c x.mode, wL c x.links, wS c x.size, x.lead, x.bytes⟩ : It) = y := ⟨_, rfl⟩
    have HY : Hid (y.bytes.length = 32) := by rw [← hy]; exact HX.out
    rw [hy] at HS3 HE2
    clear hy
    have ly : Hid _ := HS3.out.i.loadR HY.out
    have hr := HS3.out.r
    go_wp2_with (first | (refine wpList_loadG rfl 130 _ rfl _ rfl _ ly.out ?_) | (refine wpList_storeR rfl _ _ rfl (w.heap.size + 1 + 1) y it0 rfl rfl HY.out len0 hr ?_))
    exact ret_itemR3 rfl (w.heap.size + 1 + 1) y HY.out rfl _ rfl _ rfl (hr.setRow _) rfl ⟨by rw [HE2.out]; rfl, FIN.out _ _ HS3.out _⟩
theorem refAll_any (w : World) (c : Cg) (hc : CgOk c) : Calls Tryz.prog 188 #[.agg (cgC c)] w fun e w' => e = .returned (.bool (refA c)) ∧ Below w.heap.size w w' := by
 have hb1 : Below w.heap.size w (w.alloc (.cells (cgC c) 119)) := (Below.refl _ w).alloc (Nat.le_refl _) _
 have hc1 := CgAt.laid w c
 obtain ⟨w1, hw1⟩ : ∃ w1, w.alloc (.cells (cgC c) 119) = w1 := ⟨_, rfl⟩
 rw [hw1] at hb1 hc1
 have x1 := hc1.c1
 have x4 := hc1.c4
 have x5 := hc1.c5
 have x12 := hc1.c12
 have HE : Hid (refA c = (c.gone || c.fresh || c.pl.part == 2 || c.pt.fresh)) := rfl
 generalize refA c = R at *
 clear hc1
 go_enter Tryz.func188, Tryz.ntmps188
 cases h1 : c.gone
 ·cases h2 : c.fresh
  ·cases h3 : (c.pl.part == 2)
   ·rw [h1] at x4
    rw [h2] at x5
    go_wp2
    go_ret
    exact ⟨by rw [HE.out, h1, h2, h3]; rfl, hb1⟩
   ·rw [h1] at x4
    rw [h2] at x5
    go_wp2
    go_ret
    exact ⟨by rw [HE.out, h1, h2, h3]; rfl, hb1⟩
  ·rw [h1] at x4
   rw [h2] at x5
   go_wp2
   go_ret
   exact ⟨by rw [HE.out, h1, h2]; rfl, hb1⟩
 ·rw [h1] at x4
  go_wp2
  go_ret
  exact ⟨by rw [HE.out, h1]; rfl, hb1⟩
open Go.RowKit Go.Shelf
theorem vg_new (l : List (ByteArray × ByteArray)) (m : Int) (q : Pl) : vgR l (newS m) q = (stI l q, stB l q, stE l q) := by
 unfold vgR
 rw [show isX (newS m) q = false from rfl]
 rfl
theorem stI_dec {l : List (ByteArray × ByteArray)} {q : Pl} (h : plOk q = true) (hf : fdB l (keyS q) = true) : stI l q = decI q.part (valS l (keyS q)) ∧ stE l q = decE q.part (valS l (keyS q)) ∧ stB l q = decide (decE q.part (valS l (keyS q)) = 0) := by
 have e1 : stB l q = decide (decE q.part (valS l (keyS q)) = 0) := by unfold stB; rw [h, hf]; rfl
 refine ⟨?_, by unfold stE; rw [h, hf]; rfl, e1⟩
 unfold stI
 rw [e1]
 by_cases h0 : decE q.part (valS l (keyS q)) = 0
 ·rw [decide_eq_true h0]; rfl
 ·rw [decide_eq_false h0]
  unfold decI
  rw [if_neg h0]
  rfl
theorem st_none {l : List (ByteArray × ByteArray)} {q : Pl} (h : plOk q = true) (hf : fdB l (keyS q) = false) : stI l q = it0 ∧ stE l q = 0 ∧ stB l q = false := by
 have e1 : stB l q = false := by unfold stB; rw [h, hf]; rfl
 refine ⟨?_, by unfold stE; rw [h, hf]; rfl, e1⟩
 unfold stI
 rw [e1]
 rfl
theorem wp_stR {w : World} {o : Oper} {a : Act} {K : Act → World → Prop} {Q : Exit → Act → World → Prop} (x y : Operand) (ho : o.op = .store 130 x y) (g : Nat) (z old : It) (hx : a.eval x = .pointer (some ⟨g, 0, none⟩)) (hy : a.eval y = .agg (itC z)) (hz : z.bytes.length = 32) (hold : old.bytes.length = 32) (hat : ItAt 130 w g old)
  (h : K (a.put o.dst undef) (w.setRow g (itC z))) : o.wp Tryz.prog a w K Q :=
 wp_store_row 130 x y ho g (itC z) hx hy 130 (itC old) hat.row (by rw [itC_size hz]; exact size_itemR) (by rw [itC_size hz, itC_size hold]) (one_item z) h
theorem refW_len {x : It} (hx : x.bytes.length = 32) (is : Bool) (c : Cg) : (refW x is c).1.bytes.length = 32 := by
 have h0 : zeroC.length = 32 := ch_zero.1
 unfold refW leadI laidI freshI
 repeat' split
 all_goals (first | exact h0 | exact layB_len _ _ | exact hx)
theorem st_err {l : List (ByteArray × ByteArray)} {q : Pl} (h : stE l q ≠ 0) : stI l q = it0 ∧ stB l q = false := by
 have e : stB l q = false := by
  unfold stB
  unfold stE at h
  cases hk : plOk q
  ·rfl
  ·cases hf : fdB l (keyS q)
   ·rfl
   ·rw [hk, hf] at h
    simp only [if_true] at h
    simp [h]
 exact ⟨by unfold stI; rw [e]; rfl, e⟩
theorem based_any (w : World) (a : Option Addr) (len cap : Nat) (l : List (ByteArray × ByteArray)) (hl : RdK w a len cap l) (p : Pl) (hp : PlOk p) (hk : plOk p = true) : Calls Tryz.prog 189 #[.slice a len cap, plV p] w fun e w' =>
  e = .returned (.tuple #[.agg (itC (stI l p)), .bool (stB l p), .int .i64 (stE l p)]) ∧ Below w.heap.size w w' := by
 have hzR := zeroItemR
 have len0 := ch_zero.1
 have al : ∀ (A : World) (o : Obj), Below A.heap.size A (A.alloc o) := fun A o => (Below.refl _ A).alloc (Nat.le_refl _) o
 have HP : Hid (plE p = 0) := by unfold Hid plE; rw [hk]; rfl
 have HK : Hid (plOk p = true) := hk
 clear hk
 have hq1 := PlAt.laid w p
 have hb1 := al w (.cells (plCells p) 114)
 obtain ⟨w1, hw1⟩ : ∃ w1, w.alloc (.cells (plCells p) 114) = w1 := ⟨_, rfl⟩
 rw [hw1] at hq1 hb1
 have hi2 := ItAt.laid 130 w1 it0
 have hb2 := al w1 (.cells (itC it0) 130)
 obtain ⟨w2, hw2⟩ : ∃ w2, w1.alloc (.cells (itC it0) 130) = w2 := ⟨_, rfl⟩
 rw [hw2] at hi2 hb2
 have hB2 := thenB hb1 hb2
 have hq2 := hq1.below hb2
 have lp2 : Hid _ := hq2.loadG
 have ck := refKey_any w2 p hp
 rw [HP.out] at ck
 rw [show plV p = .agg (plCells p) from rfl] at ck lp2 ⊢
 go_enter Tryz.func189, Tryz.ntmps189
 go_wp2_with (refine wpList_loadG rfl 114 _ rfl _ rfl _ lp2.out ?_)
 refine ck.mono ?_
 rintro e w3 ⟨rfl, hb3⟩
 clear ck lp2
 have hB3 := thenB hB2 hb3
 have cf := find_any w3 a len cap l (hl.below hB3) (keyS p)
 go_wp2_with fail
 refine cf.mono ?_
 rintro e wf ⟨rfl, hbf⟩
 clear cf
 have HBf : Hid _ := thenB hB3 hbf
 have HIf : Hid _ := (hi2.below hb3).below hbf
 have HQf : Hid _ := (hq2.below hb3).below hbf
 have HLE : Hid (w.heap.size ≤ w1.heap.size) := hb1.size
 clear hi2 hq2 hq1 hb1 hb2 hB2 hb3 hB3 hbf hw1 hw2
 obtain ⟨rb, hrb⟩ : ∃ rb, w1.heap.size = rb := ⟨_, rfl⟩
 rw [hrb] at HIf HLE ⊢
 clear hrb
 obtain ⟨fb, hfb⟩ : ∃ fb, fdB l (keyS p) = fb := ⟨_, rfl⟩
 obtain ⟨fn, hfn⟩ : ∃ fn, fdN l (keyS p) = fn := ⟨_, rfl⟩
 have HFB : Hid (fdB l (keyS p) = fb) := hfb
 have HFN : Hid (fdN l (keyS p) = fn) := hfn
 rw [hfb, hfn]
 clear hfb hfn
 cases fb
 ·obtain ⟨q1, q2, q3⟩ := st_none HK.out HFB.out
  have Q : Hid _ := And.intro q1 (And.intro q2 q3)
  clear q1 q2 q3
  have hif := HIf.out
  go_wp2_with (first | (refine wpList_buildBy rfl 130 _ rfl _ rfl [] (by kernel_rfl) (itC it0) built_zeroR ?_) | (refine wpList_storeR rfl _ _ rfl rb it0 it0 rfl rfl len0 len0 hif ?_))
  exact ret_itemR3 rfl rb it0 len0 rfl _ rfl _ rfl (HIf.out.setRow _) rfl ⟨by rw [Q.out.1, Q.out.2.1, Q.out.2.2]; rfl, below_setRow HBf.out HLE.out _⟩
 ·obtain ⟨q1, q2, q3⟩ := stI_dec HK.out HFB.out
  obtain ⟨pr, hpr, _⟩ := fdB_lt HFB.out
  have hvs : valS l (keyS p) = pr.2 := by unfold valS; rw [HFB.out, if_pos rfl, List.getD_eq_getElem?_getD, hpr]; rfl
  rw [hvs] at q1 q2 q3
  have Q : Hid _ := And.intro q1 (And.intro q2 q3)
  clear q1 q2 q3 hvs
  rw [HFN.out] at hpr
  have hlt := (List.getElem?_eq_some_iff.1 hpr).1
  obtain ⟨hll, hnc, hcm, hI⟩ := hl
  obtain ⟨bk, off, rfl, hbk, hcs⟩ := hI (by omega)
  have hrv := (hcs _ _ hpr).2
  have qp : ∀ W, Below wf.heap.size wf W → W.cell? ⟨w.heap.size, 1, none⟩ = some (.int .i64 p.part) := fun W hW => (HQf.out.below hW).c1
  have qv : ∀ W, Below wf.heap.size wf W → W.cell? ⟨bk, off + fn * 2 + 1, none⟩ = some (.string pr.2) := fun W hW => ((thenB HBf.out hW).cell (p := ⟨bk, off + fn * 2 + 1, none⟩) hbk).trans hrv
  have hltI : (fn : Int) < len := by omega
  unfold maxLen at hcm
  clear hI hcs hrv hpr
  have HDL : Hid ((decI p.part pr.2).bytes.length = 32) := (decI_ok p.part pr.2).ch.1
  obtain ⟨di, hdi⟩ : ∃ di, decI p.part pr.2 = di := ⟨_, rfl⟩
  obtain ⟨de, hde⟩ : ∃ de, decE p.part pr.2 = de := ⟨_, rfl⟩
  have cd : ∀ W, Calls Tryz.prog 225 #[.int .i64 p.part, .string pr.2] W fun e w' => e = .returned (.tuple #[.agg (itC di), .int .i64 de]) ∧ Below W.heap.size W w' := fun W => by rw [← hdi, ← hde]; exact refDec_any W p.part pr.2
  rw [hdi, hde] at Q
  rw [hdi] at HDL
  clear hdi hde
  go_upto_region 5 with fail
  go_cut [11, 12] from 27 to 37 (fun t11 t12 wx => ∃ G, t11 = .pointer (some ⟨G, 0, none⟩) ∧ t12 = .int .i64 de ∧ Hid (ItAt 130 wx G di) ∧ Hid (Below wf.heap.size wf wx))
  case first =>
   go_wp2_with fail
   refine wp_region_noPanic ?_
   refine wp_region_held_drew (S := fun W => Below wf.heap.size wf W) (by kernel_rfl) (Below.refl _ _).drew (fun hHeld => ?_)
   refine tk 0 (.pointer (some ⟨w.heap.size, 1, none⟩)) rfl ?_
   try simp only [nz]
   refine tk 1 (.int .i64 p.part) rfl ?_ (fun W hSw => by (try dsimp only at hSw); (have z := qp W hSw; go_simp))
   try simp only [nz]
   refine tk 2 (.slice (some ⟨bk, off, none⟩) len cap) rfl ?_
   try simp only [nz]
   refine tk 3 (.int .i64 fn) rfl ?_
   try simp only [nz]
   refine tk 4 (.pointer (some ⟨bk, off + fn * 2, none⟩)) rfl ?_
   try simp only [nz]
   refine tk 5 (.pointer (some ⟨bk, off + fn * 2 + 1, none⟩)) rfl ?_
   try simp only [nz]
   refine tk 6 (.string pr.2) rfl ?_ (fun W hSw => by (try dsimp only at hSw); (have z := qv W hSw; go_simp))
   try simp only [nz]
   refine wpAnyH_ready (rs := [7, 11]) (by kernel_rfl) (by simp) ?_
   refine AllReadyH.cons rfl (fun K hK => ?_) (AllReadyH.cons rfl (fun K hK => ?_) AllReadyH.nil)
   ·go_simp
    go_wp2_with (go_at_call 225; refine (cd _).mono ?_; rintro e w5 ⟨rfl, hb5⟩)
    refine hK.out _ _ (hHeld.trans (hb5.mono hHeld.size)) (fun hHeld2 => ?_)
    clear hK K
    try simp only [nz]
    refine tk 8 (.tuple #[.agg (itC di), .int .i64 de]) rfl ?_
    try simp only [nz]
    refine tk 9 (.agg (itC di)) rfl ?_
    try simp only [nz]
    refine tk 10 (.int .i64 de) rfl ?_
    try simp only [nz]
    refine rd 11 rfl (fun K hK => ?_)
    go_simp
    go_wp2
    have hat := ItAt.laid 130 w5 it0
    have HGE : Hid (wf.heap.size ≤ w5.heap.size) := hHeld2.size
    have hb6 := al w5 (.cells (itC it0) 130)
    obtain ⟨G, hG⟩ : ∃ G, w5.heap.size = G := ⟨_, rfl⟩
    refine hK.out _ _ (hHeld2.trans (hb6.mono hHeld2.size)) (fun hHeld3 => ?_)
    clear hK K
    try simp only [nz]
    obtain ⟨w6, hw6⟩ : ∃ w6, w5.alloc (.cells (itC it0) 130) = w6 := ⟨_, rfl⟩
    rw [hw6] at hat hHeld3 ⊢
    rw [hG] at hat HGE ⊢
    clear hb6 hw6 hb5 hHeld2 hG
    refine rd 12 rfl (fun K hK => ?_)
    rw [if_pos (by rfl)]
    refine wp_stR _ _ rfl G di it0 rfl rfl HDL.out len0 hat ?_
    have HB7 : Hid (Below wf.heap.size wf (w6.setRow G (itC di))) := below_setRow hHeld3 HGE.out _
    have HA7 : Hid _ := hat.setRow di
    refine hK.out _ _ HB7.out (fun hHeld4 => ?_)
    clear hK K
    try simp only [nz]
    refine tk 13 (.int .i64 de) rfl ?_
    try simp only [nz]
    refine wpAnyH_done (by kernel_rfl) ?_ _
    refine NoPanic.normal ?_
    clear hHeld hHeld3 hHeld4
    go_wp2_with fail
    go_meet
    case rel => exact ⟨G, rfl, rfl, HA7, HB7⟩
   ·go_simp
    go_wp2
    have hat : ItAt 130 (wf.alloc (.cells (itC it0) 130)).drew wf.heap.size it0 := (ItAt.laid 130 wf it0).below (Below.refl _ _).drew
    have hb6 : Below wf.heap.size wf (wf.alloc (.cells (itC it0) 130)).drew := (al wf _).drew
    refine hK.out _ _ hb6 (fun hHeld2 => ?_)
    clear hK K
    try simp only [nz]
    obtain ⟨w6, hw6⟩ : ∃ w6, (wf.alloc (.cells (itC it0) 130)).drew = w6 := ⟨_, rfl⟩
    rw [hw6] at hat hHeld2 ⊢
    clear hw6 hb6 hHeld
    refine rd 7 rfl (fun K hK => ?_)
    go_simp
    go_wp2_with (go_at_call 225; refine (cd _).mono ?_; rintro e w5 ⟨rfl, hb5⟩)
    have hat5 := hat.below hb5
    refine hK.out _ _ (hHeld2.trans (hb5.mono hHeld2.size)) (fun hHeld3 => ?_)
    clear hK K hat hb5 hHeld2
    try simp only [nz]
    refine tk 8 (.tuple #[.agg (itC di), .int .i64 de]) rfl ?_
    try simp only [nz]
    refine tk 9 (.agg (itC di)) rfl ?_
    try simp only [nz]
    refine tk 10 (.int .i64 de) rfl ?_
    try simp only [nz]
    refine rd 12 rfl (fun K hK => ?_)
    rw [if_pos (by rfl)]
    refine wp_stR _ _ rfl wf.heap.size di it0 rfl rfl HDL.out len0 hat5 ?_
    have HB7 : Hid (Below wf.heap.size wf (w5.setRow wf.heap.size (itC di))) := below_setRow hHeld3 (Nat.le_refl _) _
    have HA7 : Hid _ := hat5.setRow di
    refine hK.out _ _ HB7.out (fun hHeld4 => ?_)
    clear hK K
    try simp only [nz]
    refine tk 13 (.int .i64 de) rfl ?_
    try simp only [nz]
    refine wpAnyH_done (by kernel_rfl) ?_ _
    refine NoPanic.normal ?_
    clear hHeld3 hHeld4
    go_wp2_with fail
    go_meet
    case rel => exact ⟨wf.heap.size, rfl, rfl, HA7, HB7⟩
  case rest =>
   obtain ⟨G, rfl, rfl, HG, HBC⟩ := hcut
   have lg : Hid _ := HG.out.loadR HDL.out
   have hic := HIf.out.below HBC.out
   have HIC : Hid _ := hic
   by_cases h0 : de = 0
   ·subst h0
    go_wp2_with (first | (refine wpList_loadG rfl 130 _ rfl _ rfl _ lg.out ?_) | (refine wpList_storeR rfl _ _ rfl rb di it0 rfl rfl HDL.out len0 hic ?_))
    exact ret_itemR3 rfl rb di HDL.out rfl _ rfl _ rfl (HIC.out.setRow _) rfl ⟨by rw [Q.out.1, Q.out.2.1, Q.out.2.2]; rfl, below_setRow (thenB HBf.out HBC.out) HLE.out _⟩
   ·have h0b : (de == 0) = false := by simp [h0]
    go_wp2_with (first | (refine wpList_loadG rfl 130 _ rfl _ rfl _ lg.out ?_) | (refine wpList_storeR rfl _ _ rfl rb di it0 rfl rfl HDL.out len0 hic ?_))
    exact ret_itemR3 rfl rb di HDL.out rfl _ rfl _ rfl (HIC.out.setRow _) rfl ⟨by rw [Q.out.1, Q.out.2.1, Q.out.2.2, decide_eq_false h0]; rfl, below_setRow (thenB HBf.out HBC.out) HLE.out _⟩
theorem at_any (w : World) (a : Option Addr) (len cap : Nat) (l : List (ByteArray × ByteArray)) (hl : RdK w a len cap l) (p : Pl) (hp : PlOk p) (hk : plOk p = true) (c : Cg) (hc : CgOk c) (ch : Bool) : Calls Tryz.prog 157 #[.slice a len cap, plV p, .agg (cgC c), .bool ch] w fun e w' =>
  e = .returned (.tuple #[.agg (itC (refT l p c ch).1), .bool (refT l p c ch).2.1, .int .i64 (refT l p c ch).2.2]) ∧ Below w.heap.size w w' := by
 have hzR := zeroItemR
 have len0 := ch_zero.1
 have al : ∀ (A : World) (o : Obj), Below A.heap.size A (A.alloc o) := fun A o => (Below.refl _ A).alloc (Nat.le_refl _) o
 have HCL : Hid (c.pt.bytes.length = 32) := hc.pt.ch.1
 have hq1 := PlAt.laid w p
 have hb1 := al w (.cells (plCells p) 114)
 obtain ⟨w1, hw1⟩ : ∃ w1, w.alloc (.cells (plCells p) 114) = w1 := ⟨_, rfl⟩
 rw [hw1] at hq1 hb1
 have hc2 := CgAt.laid w1 c
 have hb2 := al w1 (.cells (cgC c) 119)
 obtain ⟨w2, hw2⟩ : ∃ w2, w1.alloc (.cells (cgC c) 119) = w2 := ⟨_, rfl⟩
 rw [hw2] at hc2 hb2
 have hi3 := ItAt.laid 130 w2 it0
 have hb3 := al w2 (.cells (itC it0) 130)
 obtain ⟨w3, hw3⟩ : ∃ w3, w2.alloc (.cells (itC it0) 130) = w3 := ⟨_, rfl⟩
 rw [hw3] at hi3 hb3
 have hn4 := ItAt.laid 130 w3 it0
 have hb4 := alloc_row (A := w3) (.cells (itC it0) 130) (itC it0)
 have hx4 := hn4.setRow it0
 obtain ⟨w4, hw4⟩ : ∃ w4, (w3.alloc (.cells (itC it0) 130)).setRow w3.heap.size (itC it0) = w4 := ⟨_, rfl⟩
 rw [hw4] at hb4 hx4
 have hB4 := thenB hb1 (thenB hb2 (thenB hb3 hb4))
 have HQ4 : Hid _ := hq1.below (thenB hb2 (thenB hb3 hb4))
 have HC4 : Hid _ := hc2.below (thenB hb3 hb4)
 have HR4 : Hid _ := hi3.below hb4
 have HX4 : Hid _ := hx4
 have HLE : Hid (w.heap.size ≤ w2.heap.size) := Nat.le_trans hb1.size hb2.size
 have HLX : Hid (w2.heap.size < w3.heap.size) := by rw [← hw3]; show _ < _; simp
 have lc4 : Hid _ := HC4.out.load HCL.out
 have HE : Hid (refT l p c ch = if ch then (if refA c then refW it0 false c else if stE l p ≠ 0 then (it0, false, stE l p) else refW (stI l p) (stB l p) c) else (stI l p, stB l p, stE l p)) := rfl
 generalize refT l p c ch = R at *
 have ca := refAll_any w4 c hc
 rw [show plV p = .agg (plCells p) from rfl]
 go_enter Tryz.func157, Tryz.ntmps157
 have lq4 : Hid _ := HQ4.out.loadG
 rw [show plV p = .agg (plCells p) from rfl] at lq4
 have HSI : Hid ((stI l p).bytes.length = 32) := (stI_ok l p).ch.1
 have HL12 : Hid (w1.heap.size < w2.heap.size) := by rw [← hw2]; show _ < _; simp
 have cb := based_any w4 a len cap l (hl.below hB4) p hp hk
 rw [show plV p = .agg (plCells p) from rfl] at cb
 cases ch
 ·clear ca lc4
  have lc4 := lq4
  go_wp2_with (first | (refine wpList_buildBy rfl 130 _ rfl _ rfl [] (by kernel_rfl) (itC it0) built_zeroR ?_) | (refine wpList_storeR rfl _ _ rfl w3.heap.size it0 it0 rfl rfl len0 len0 hn4 ?_; rw [hw4]) | (refine wpList_loadG rfl 114 _ rfl _ rfl _ lq4.out ?_) | (refine wpList_loadG rfl 119 _ rfl _ rfl _ lc4.out ?_))
  refine cb.mono ?_
  rintro e w5 ⟨rfl, hb5⟩
  have hB5 := thenB hB4 hb5
  have hn6 := ItAt.laid 130 w5 it0
  have hb6 := alloc_row (A := w5) (.cells (itC it0) 130) (itC (stI l p))
  have HY6 : Hid _ := hn6.setRow (stI l p)
  obtain ⟨w6, hw6⟩ : ∃ w6, (w5.alloc (.cells (itC it0) 130)).setRow w5.heap.size (itC (stI l p)) = w6 := ⟨_, rfl⟩
  rw [hw6] at hb6 HY6
  have hB6 := thenB hB5 hb6
  have hb46 := thenB hb5 hb6
  have hr6 := HR4.out.below hb46
  have hx6 := HX4.out.below hb46
  have hc6 := HC4.out.below hb46
  have ly6 : Hid _ := HY6.out.loadR HSI.out
  by_cases he : stE l p = 0
  ·rw [he]
   have hx7 := hx6.setRow (stI l p)
   have hr7 : ItAt 130 (w6.setRow w3.heap.size (itC (stI l p))) w2.heap.size it0 := ⟨(setRow_other _ _ _ _ (by have := HLX.out; omega)).trans hr6.row⟩
   have hc7 : CgAt (w6.setRow w3.heap.size (itC (stI l p))) w1.heap.size c := ⟨(setRow_other _ _ _ _ (by have := HLX.out; have := HL12.out; omega)).trans hc6.row⟩
   have hB7 : Below w.heap.size w (w6.setRow w3.heap.size (itC (stI l p))) := below_setRow hB6 (by have := HLX.out; have := HLE.out; omega) _
   obtain ⟨w7, hw7⟩ : ∃ w7, w6.setRow w3.heap.size (itC (stI l p)) = w7 := ⟨_, rfl⟩
   rw [hw7] at hx7 hr7 hc7 hB7
   have lx7 : Hid _ := hx7.loadR HSI.out
   have lc7 : Hid _ := hc7.load HCL.out
   clear hc7 hc6 hb46 hb5 hB5 hB6 hb6
   go_wp2_with (first
    | (refine wpList_storeR rfl _ _ rfl w5.heap.size (stI l p) it0 rfl rfl HSI.out len0 hn6 ?_; rw [hw6])
    | (refine wpList_loadG rfl 130 _ rfl _ rfl _ ly6.out ?_)
    | (refine wpList_storeR rfl _ _ rfl w3.heap.size (stI l p) it0 rfl rfl HSI.out len0 hx6 ?_; rw [hw7])
    | (refine wpList_loadG rfl 130 _ rfl _ rfl _ lx7.out ?_)
    | (refine wpList_storeR rfl _ _ rfl w2.heap.size (stI l p) it0 rfl rfl HSI.out len0 hr7 ?_))
   exact ret_itemR3 rfl w2.heap.size (stI l p) HSI.out rfl _ rfl _ rfl (hr7.setRow _) rfl ⟨by rw [HE.out, if_neg (by simp), he]; rfl, below_setRow hB7 HLE.out _⟩
  ·have E1 : Hid _ := (st_err he).1
   have E2 : Hid _ := (st_err he).2
   have heb : (stE l p != 0) = true := by simp [he]
   go_wp2_with (first
    | (refine wpList_storeR rfl _ _ rfl w5.heap.size (stI l p) it0 rfl rfl HSI.out len0 hn6 ?_; rw [hw6])
    | (refine wpList_buildBy rfl 130 _ rfl _ rfl [] (by kernel_rfl) (itC it0) built_zeroR ?_)
    | (refine wpList_storeR rfl _ _ rfl w2.heap.size it0 it0 rfl rfl len0 len0 hr6 ?_))
   exact ret_itemR3 rfl w2.heap.size it0 len0 rfl _ rfl _ rfl (hr6.setRow _) rfl ⟨by rw [HE.out]; simp [E1.out, E2.out], below_setRow hB6 HLE.out _⟩
 ·cases hA : refA c
  ·rw [hA] at ca
   go_wp2_with (first | (refine wpList_buildBy rfl 130 _ rfl _ rfl [] (by kernel_rfl) (itC it0) built_zeroR ?_) | (refine wpList_storeR rfl _ _ rfl w3.heap.size it0 it0 rfl rfl len0 len0 hn4 ?_; rw [hw4]) | (refine wpList_loadG rfl 114 _ rfl _ rfl _ lq4.out ?_) | (refine wpList_loadG rfl 119 _ rfl _ rfl _ lc4.out ?_))
   refine ca.mono ?_
   rintro e w4b ⟨rfl, hb4b⟩
   clear ca
   have hB4 := thenB hB4 hb4b
   have HQ4 : Hid _ := HQ4.out.below hb4b
   have HC4 : Hid _ := HC4.out.below hb4b
   have HR4 : Hid _ := HR4.out.below hb4b
   have HX4 : Hid _ := HX4.out.below hb4b
   have lq4 : Hid _ := HQ4.out.loadG
   rw [show plV p = .agg (plCells p) from rfl] at lq4
   have cb := based_any w4b a len cap l (hl.below hB4) p hp hk
   rw [show plV p = .agg (plCells p) from rfl] at cb
   clear hb4b
   go_wp2_with (first | (refine wpList_buildBy rfl 130 _ rfl _ rfl [] (by kernel_rfl) (itC it0) built_zeroR ?_) | (refine wpList_storeR rfl _ _ rfl w3.heap.size it0 it0 rfl rfl len0 len0 hn4 ?_; rw [hw4]) | (refine wpList_loadG rfl 114 _ rfl _ rfl _ lq4.out ?_) | (refine wpList_loadG rfl 119 _ rfl _ rfl _ lc4.out ?_))
   refine cb.mono ?_
   rintro e w5 ⟨rfl, hb5⟩
   have hB5 := thenB hB4 hb5
   have hn6 := ItAt.laid 130 w5 it0
   have hb6 := alloc_row (A := w5) (.cells (itC it0) 130) (itC (stI l p))
   have HY6 : Hid _ := hn6.setRow (stI l p)
   obtain ⟨w6, hw6⟩ : ∃ w6, (w5.alloc (.cells (itC it0) 130)).setRow w5.heap.size (itC (stI l p)) = w6 := ⟨_, rfl⟩
   rw [hw6] at hb6 HY6
   have hB6 := thenB hB5 hb6
   have hb46 := thenB hb5 hb6
   have hr6 := HR4.out.below hb46
   have hx6 := HX4.out.below hb46
   have hc6 := HC4.out.below hb46
   have ly6 : Hid _ := HY6.out.loadR HSI.out
   by_cases he : stE l p = 0
   ·rw [he]
    have hx7 := hx6.setRow (stI l p)
    have hr7 : ItAt 130 (w6.setRow w3.heap.size (itC (stI l p))) w2.heap.size it0 := ⟨(setRow_other _ _ _ _ (by have := HLX.out; omega)).trans hr6.row⟩
    have hc7 : CgAt (w6.setRow w3.heap.size (itC (stI l p))) w1.heap.size c := ⟨(setRow_other _ _ _ _ (by have := HLX.out; have := HL12.out; omega)).trans hc6.row⟩
    have hB7 : Below w.heap.size w (w6.setRow w3.heap.size (itC (stI l p))) := below_setRow hB6 (by have := HLX.out; have := HLE.out; omega) _
    obtain ⟨w7, hw7⟩ : ∃ w7, w6.setRow w3.heap.size (itC (stI l p)) = w7 := ⟨_, rfl⟩
    rw [hw7] at hx7 hr7 hc7 hB7
    have lx7 : Hid _ := hx7.loadR HSI.out
    have lc7 : Hid _ := hc7.load HCL.out
    clear hc7 hc6 hb46 hb5 hB5 hB6 hb6
    have cw := rwth_any w7 (stI l p) (stI_ok l p) (stB l p) c hc
    go_wp2_with (first
     | (refine wpList_storeR rfl _ _ rfl w5.heap.size (stI l p) it0 rfl rfl HSI.out len0 hn6 ?_; rw [hw6])
     | (refine wpList_loadG rfl 130 _ rfl _ rfl _ ly6.out ?_)
     | (refine wpList_storeR rfl _ _ rfl w3.heap.size (stI l p) it0 rfl rfl HSI.out len0 hx6 ?_; rw [hw7])
     | (refine wpList_loadG rfl 130 _ rfl _ rfl _ lx7.out ?_)
     | (refine wpList_loadG rfl 119 _ rfl _ rfl _ lc7.out ?_))
    refine cw.mono ?_
    rintro e w8 ⟨rfl, hb8⟩
    clear cw
    have hr8 := hr7.below hb8
    have HWL : Hid ((refW (stI l p) (stB l p) c).1.bytes.length = 32) := refW_len (stI_ok l p).ch.1 _ _
    have HE8 : Hid (R = refW (stI l p) (stB l p) c) := by unfold Hid; rw [HE.out]; simp [hA, he]
    have HB8 : Hid _ := thenB hB7 hb8
    obtain ⟨Z, hZ⟩ : ∃ Z, refW (stI l p) (stB l p) c = Z := ⟨_, rfl⟩
    rw [hZ] at HWL HE8 ⊢
    clear hZ
    go_wp2_with (refine wpList_storeR rfl _ _ rfl w2.heap.size Z.1 it0 rfl rfl HWL.out len0 hr8 ?_)
    exact ret_itemR3 rfl w2.heap.size Z.1 HWL.out rfl _ rfl _ rfl (hr8.setRow _) rfl ⟨by rw [HE8.out]; rfl, below_setRow HB8.out HLE.out _⟩
   ·have E1 : Hid _ := (st_err he).1
    have E2 : Hid _ := (st_err he).2
    have heb : (stE l p != 0) = true := by simp [he]
    go_wp2_with (first
     | (refine wpList_storeR rfl _ _ rfl w5.heap.size (stI l p) it0 rfl rfl HSI.out len0 hn6 ?_; rw [hw6])
     | (refine wpList_buildBy rfl 130 _ rfl _ rfl [] (by kernel_rfl) (itC it0) built_zeroR ?_)
     | (refine wpList_storeR rfl _ _ rfl w2.heap.size it0 it0 rfl rfl len0 len0 hr6 ?_))
    exact ret_itemR3 rfl w2.heap.size it0 len0 rfl _ rfl _ rfl (hr6.setRow _) rfl ⟨by rw [HE.out]; simp [hA, he], below_setRow hB6 HLE.out _⟩
  ·rw [hA] at ca
   go_wp2_with (first | (refine wpList_buildBy rfl 130 _ rfl _ rfl [] (by kernel_rfl) (itC it0) built_zeroR ?_) | (refine wpList_storeR rfl _ _ rfl w3.heap.size it0 it0 rfl rfl len0 len0 hn4 ?_; rw [hw4]) | (refine wpList_loadG rfl 114 _ rfl _ rfl _ lq4.out ?_) | (refine wpList_loadG rfl 119 _ rfl _ rfl _ lc4.out ?_))
   refine ca.mono ?_
   rintro e w5 ⟨rfl, hb5⟩
   clear ca cb
   have hB5 := thenB hB4 hb5
   have hr5 := HR4.out.below hb5
   have lx5 : Hid _ := (HX4.out.below hb5).loadR len0
   have lc5 : Hid _ := (HC4.out.below hb5).load HCL.out
   have cw := rwth_any w5 it0 it0_ok false c hc
   go_wp2_with (first | (refine wpList_loadG rfl 130 _ rfl _ rfl _ lx5.out ?_) | (refine wpList_loadG rfl 119 _ rfl _ rfl _ lc5.out ?_))
   refine cw.mono ?_
   rintro e w8 ⟨rfl, hb8⟩
   clear cw
   have hr8 := hr5.below hb8
   have HWL : Hid ((refW it0 false c).1.bytes.length = 32) := refW_len len0 _ _
   have HE8 : Hid (R = refW it0 false c) := by unfold Hid; rw [HE.out]; simp [hA]
   generalize refW it0 false c = Z at *
   go_wp2_with (refine wpList_storeR rfl _ _ rfl w2.heap.size Z.1 it0 rfl rfl HWL.out len0 hr8 ?_)
   exact ret_itemR3 rfl w2.heap.size Z.1 HWL.out rfl _ rfl _ rfl (hr8.setRow _) rfl ⟨by rw [HE8.out]; rfl, below_setRow (thenB hB5 hb8) HLE.out _⟩
end Go.Proofs.YtiplhhaehbjghaaGreat
