/- The contract of view.changed. -/
import Derived.Test.YtjjhfginmamlkaaGreatV6
namespace Go.Proofs.YtjjhfginmamlkaaGreat
open Go.RowKit
set_option linter.unusedVariables false
set_option linter.unusedSimpArgs false
set_option maxRecDepth 100000

theorem ItAt.loadJ {T : TypeId} {w : World} {g : Nat} {x : It} (h : ItAt T w g x) : (Instr.loadAt 89 (.pointer (some ⟨g, 0, none⟩))).run Tryz.prog w = .ok (.agg #[.int .i64 x.kind, .int .i64 x.mode, .int .i64 x.links, .int .i64 x.size]) w :=
  run_loadAt_mid w g 0 89 _ _ h.rangeI Tryz.underlying89 rfl (by kernel_rfl)

/-- A record's fields with those of a change. -/
def withI (x : It) (c : Cg) : It := ⟨x.kind, wM c x.mode, wL c x.links, wS c x.size, 0, zeroC⟩
def freshI (c : Cg) : It := ⟨c.kind, c.mode, c.links, c.size, 0, zeroC⟩
def leadI (c : Cg) : It := ⟨0, 0, 0, 0, c.to, zeroC⟩
/-- What stands at a change's place behind it, upon what stands there: the item, whether, the error. -/
def chR (x : It) (is : Bool) (er : Int) (c : Cg) : It × Bool × Int :=
  if c.gone then (it0, false, 0) else if c.fresh then (freshI c, true, 0) else if c.pl.part = 2 then (leadI c, true, 0) else if c.pt.fresh then (laidI it0 c, true, 0)
  else if er ≠ 0 then (it0, false, er) else if c.pl.part = 3 then (laidI x c, true, 0) else if is then (withI x c, true, 0) else (it0, false, 3)
def chL (l : List (ByteArray × ByteArray)) (c : Cg) : It × Bool × Int := chR (stI l c.pl) (stB l c.pl) (stE l c.pl) c

set_option maxHeartbeats 8000000 in
theorem changed_any {w : World} {g : Nat} {a : Option Addr} {n cap : Nat} {l : List (ByteArray × ByteArray)} (hS : SoAt w g a n cap l) (c : Cg) (hc : CgOk c) : Calls Tryz.prog 97 #[baV g, .agg (cgC c)] w fun e w' =>
    e = .returned (.tuple #[.agg (itC (chL l c).1), .bool (chL l c).2.1, .int .i64 (chL l c).2.2]) ∧ Below w.heap.size w w' := by
  have hz := zeroItem
  have len0 := ch_zero.1
  have HC : Hid (c.pt.bytes.length = 32) := hc.pt.ch.1
  have al : ∀ (A : World) (o : Obj), Below A.heap.size A (A.alloc o) := fun A o => (Below.refl _ A).alloc (Nat.le_refl _) o
  have hc1 := CgAt.laid w c
  have hb1 := al w (.cells (cgC c) 94)
  obtain ⟨w1, hw1⟩ : ∃ w1, w.alloc (.cells (cgC c) 94) = w1 := ⟨_, rfl⟩
  rw [hw1] at hc1 hb1
  have hr2 := ItAt.laid 150 w1 it0
  have hb2 := al w1 (.cells (itC it0) 150)
  obtain ⟨w2, hw2⟩ : ∃ w2, w1.alloc (.cells (itC it0) 150) = w2 := ⟨_, rfl⟩
  rw [hw2] at hr2 hb2
  have hB2 := thenB hb1 hb2
  have hle : w.heap.size ≤ w1.heap.size := hb1.size
  have hc2 := hc1.below hb2
  have c1 := hc2.c1
  have c4 := hc2.c4
  have c5 := hc2.c5
  have c11 := hc2.c11
  have c12 := hc2.c12
  have lI : Hid _ := hc2.loadI
  have lP : Hid _ := hc2.loadP
  have lC : Hid _ := hc2.load HC.out
  unfold chL
  unfold baV
  cases hg : c.gone
  case true =>
    have HR : Hid (chR (stI l c.pl) (stB l c.pl) (stE l c.pl) c = (it0, false, 0)) := by unfold Hid chR; rw [hg]; rfl
    rw [HR.out]
    rw [hg] at c4
    go_enter Tryz.func97, Tryz.ntmps97
    go_wp2_with (first | (refine wpList_buildBy rfl 150 _ rfl _ rfl [] (by kernel_rfl) (itC it0) built_zero ?_) | (refine wpList_storeI rfl _ _ rfl w1.heap.size it0 it0 rfl rfl len0 len0 hr2 ?_))
    exact ret_item3 rfl w1.heap.size it0 len0 rfl _ rfl _ rfl (hr2.setRow _) rfl ⟨rfl, below_setRow hB2 hle _⟩
  rw [hg] at c4
  cases hf : c.fresh
  case true =>
    have HR : Hid (chR (stI l c.pl) (stB l c.pl) (stE l c.pl) c = (freshI c, true, 0)) := by unfold Hid chR; rw [hg, hf]; rfl
    rw [HR.out]
    rw [hf] at c5
    go_enter Tryz.func97, Tryz.ntmps97
    go_wp2_with (first
      | (refine wpList_loadG rfl 89 _ rfl _ rfl _ lI.out ?_)
      | (refine wpList_buildBy rfl 150 _ rfl _ rfl [(0, .agg #[.int .i64 c.kind, .int .i64 c.mode, .int .i64 c.links, .int .i64 c.size])] (by kernel_rfl) (itC (freshI c)) (built_inode _ _ _ _) ?_)
      | (refine wpList_storeI rfl _ _ rfl w1.heap.size (freshI c) it0 rfl rfl len0 len0 hr2 ?_))
    exact ret_item3 rfl w1.heap.size (freshI c) len0 rfl _ rfl _ rfl (hr2.setRow _) rfl ⟨rfl, below_setRow hB2 hle _⟩
  rw [hf] at c5
  by_cases hp : c.pl.part = 2
  · have HR : Hid (chR (stI l c.pl) (stB l c.pl) (stE l c.pl) c = (leadI c, true, 0)) := by unfold Hid chR; rw [hg, hf, if_pos hp]; rfl
    rw [HR.out]
    rw [hp] at c1
    go_enter Tryz.func97, Tryz.ntmps97
    go_wp2_with (first
      | (refine wpList_buildBy rfl 150 _ rfl _ rfl [(1, .int .u32 c.to)] (by kernel_rfl) (itC (leadI c)) (built_lead _) ?_)
      | (refine wpList_storeI rfl _ _ rfl w1.heap.size (leadI c) it0 rfl rfl len0 len0 hr2 ?_))
    exact ret_item3 rfl w1.heap.size (leadI c) len0 rfl _ rfl _ rfl (hr2.setRow _) rfl ⟨rfl, below_setRow hB2 hle _⟩
  have hpb : (c.pl.part == 2) = false := by simpa using hp
  cases hpf : c.pt.fresh
  case true =>
    have HR : Hid (chR (stI l c.pl) (stB l c.pl) (stE l c.pl) c = (laidI it0 c, true, 0)) := by unfold Hid chR; rw [hg, hf, if_neg hp, hpf]; rfl
    rw [HR.out]
    rw [hpf] at c12
    have HL : Hid ((laidI it0 c).bytes.length = 32) := layB_len _ _
    have cl := laid_any w2 it0 it0_ok c hc
    go_enter Tryz.func97, Tryz.ntmps97
    go_wp2_with (first
      | (refine wpList_loadG rfl 94 _ rfl _ rfl _ lC.out ?_)
      | (refine wpList_buildBy rfl 150 _ rfl _ rfl [] (by kernel_rfl) (itC it0) built_zero ?_))
    refine cl.mono ?_
    rintro e w3 ⟨rfl, hb3⟩
    clear cl
    have hr3 := hr2.below hb3
    have hB3 := thenB hB2 hb3
    go_wp2_with (refine wpList_storeI rfl _ _ rfl w1.heap.size (laidI it0 c) it0 rfl rfl HL.out len0 hr3 ?_)
    exact ret_item3 rfl w1.heap.size (laidI it0 c) HL.out rfl _ rfl _ rfl (hr3.setRow _) rfl ⟨rfl, below_setRow hB3 hle _⟩
  rw [hpf] at c12
  have cs := standing_any (hS.below hB2) c.pl hc.pl
  unfold baV at cs
  have hxo := stI_ok l c.pl
  have HR0 : Hid (chR (stI l c.pl) (stB l c.pl) (stE l c.pl) c = if stE l c.pl ≠ 0 then (it0, false, stE l c.pl) else if c.pl.part = 3 then (laidI (stI l c.pl) c, true, 0) else if stB l c.pl then (withI (stI l c.pl) c, true, 0) else (it0, false, 3)) := by unfold Hid chR; rw [hg, hf, if_neg hp, hpf]; rfl
  rw [HR0.out]
  clear HR0
  generalize stI l c.pl = x at *
  generalize stE l c.pl = er at *
  generalize stB l c.pl = is at *
  have HX : Hid (x.bytes.length = 32) := hxo.ch.1
  obtain ⟨R, hR⟩ : ∃ R, (if er ≠ 0 then (it0, false, er) else if c.pl.part = 3 then (laidI x c, true, 0) else if is then (withI x c, true, 0) else (it0, false, (3 : Int))) = R := ⟨_, rfl⟩
  have HR : Hid ((if er ≠ 0 then (it0, false, er) else if c.pl.part = 3 then (laidI x c, true, 0) else if is then (withI x c, true, 0) else (it0, false, (3 : Int))) = R) := hR
  rw [hR]
  clear hR
  go_enter Tryz.func97, Tryz.ntmps97
  go_wp2_with (refine wpList_loadG rfl 87 _ rfl _ rfl _ lP.out ?_)
  refine cs.mono ?_
  rintro e w3 ⟨rfl, hb3⟩
  clear cs c1 c4 c5 c11 c12 lI lP lC
  have hr3 := hr2.below hb3
  have hB3 := thenB hB2 hb3
  have hn4 := ItAt.laid 150 w3 it0
  have hb4 := alloc_row (A := w3) (.cells (itC it0) 150) (itC x)
  have hx4 := hn4.setRow x
  obtain ⟨w4, hw4⟩ : ∃ w4, (w3.alloc (.cells (itC it0) 150)).setRow w3.heap.size (itC x) = w4 := ⟨_, rfl⟩
  rw [hw4] at hb4 hx4
  have hr4 := hr3.below hb4
  have hB4 := thenB hB3 hb4
  have hc4 := (hc2.below hb3).below hb4
  have d1 := hc4.c1
  have lC4 : Hid _ := hc4.load HC.out
  by_cases he : er = 0
  case neg =>
    have e0 : Hid (R = (it0, false, er)) := by unfold Hid; rw [← HR.out, if_pos he]
    go_wp2_with (first
      | (refine wpList_storeI rfl _ _ rfl w3.heap.size x it0 rfl rfl HX.out len0 hn4 ?_; rw [hw4])
      | (refine wpList_buildBy rfl 150 _ rfl _ rfl [] (by kernel_rfl) (itC it0) built_zero ?_)
      | (refine wpList_storeI rfl _ _ rfl w1.heap.size it0 it0 rfl rfl len0 len0 hr4 ?_))
    exact ret_item3 rfl w1.heap.size it0 len0 rfl _ rfl _ rfl (hr4.setRow _) rfl ⟨by rw [e0.out]; rfl, below_setRow hB4 hle _⟩
  subst he
  by_cases hp3 : c.pl.part = 3
  · have e0 : Hid (R = (laidI x c, true, 0)) := by unfold Hid; rw [← HR.out, if_neg (by decide), if_pos hp3]
    rw [hp3] at d1
    have HL : Hid ((laidI x c).bytes.length = 32) := layB_len _ _
    have lx4 : Hid _ := hx4.loadW HX.out
    have cl := laid_any w4 x hxo c hc
    go_wp2_with (first
      | (refine wpList_storeI rfl _ _ rfl w3.heap.size x it0 rfl rfl HX.out len0 hn4 ?_; rw [hw4])
      | (refine wpList_loadG rfl 150 _ rfl _ rfl _ lx4.out ?_)
      | (refine wpList_loadG rfl 94 _ rfl _ rfl _ lC4.out ?_))
    refine cl.mono ?_
    rintro e w5 ⟨rfl, hb5⟩
    clear cl
    have hr5 := hr4.below hb5
    have hB5 := thenB hB4 hb5
    go_wp2_with (refine wpList_storeI rfl _ _ rfl w1.heap.size (laidI x c) it0 rfl rfl HL.out len0 hr5 ?_)
    exact ret_item3 rfl w1.heap.size (laidI x c) HL.out rfl _ rfl _ rfl (hr5.setRow _) rfl ⟨by rw [e0.out]; rfl, below_setRow hB5 hle _⟩
  have hpb3 : (c.pl.part == 3) = false := by simpa using hp3
  cases his : is
  · have e0 : Hid (R = (it0, false, 3)) := by unfold Hid; rw [← HR.out, if_neg (by decide), if_neg hp3, his]; rfl
    go_wp2_with (first
      | (refine wpList_storeI rfl _ _ rfl w3.heap.size x it0 rfl rfl HX.out len0 hn4 ?_; rw [hw4])
      | (refine wpList_buildBy rfl 150 _ rfl _ rfl [] (by kernel_rfl) (itC it0) built_zero ?_)
      | (refine wpList_storeI rfl _ _ rfl w1.heap.size it0 it0 rfl rfl len0 len0 hr4 ?_))
    exact ret_item3 rfl w1.heap.size it0 len0 rfl _ rfl _ rfl (hr4.setRow _) rfl ⟨by rw [e0.out]; rfl, below_setRow hB4 hle _⟩
  · have e0 : Hid (R = (withI x c, true, 0)) := by unfold Hid; rw [← HR.out, if_neg (by decide), if_neg hp3, his]; rfl
    have lj4 : Hid _ := hx4.loadJ
    have cw := vwith_any w4 x.kind x.mode x.links x.size c
    go_wp2_with (first
      | (refine wpList_storeI rfl _ _ rfl w3.heap.size x it0 rfl rfl HX.out len0 hn4 ?_; rw [hw4])
      | (refine wpList_loadG rfl 89 _ rfl _ rfl _ lj4.out ?_)
      | (refine wpList_loadG rfl 94 _ rfl _ rfl _ lC4.out ?_))
    refine cw.mono ?_
    rintro e w5 ⟨rfl, hb5⟩
    clear cw
    have hr5 := hr4.below hb5
    have hB5 := thenB hB4 hb5
    go_wp2_with (first
      | (refine wpList_buildBy rfl 150 _ rfl _ rfl [(0, .agg #[.int .i64 x.kind, .int .i64 (wM c x.mode), .int .i64 (wL c x.links), .int .i64 (wS c x.size)])] (by kernel_rfl) (itC (withI x c)) (built_inode _ _ _ _) ?_)
      | (refine wpList_storeI rfl _ _ rfl w1.heap.size (withI x c) it0 rfl rfl len0 len0 hr5 ?_))
    exact ret_item3 rfl w1.heap.size (withI x c) len0 rfl _ rfl _ rfl (hr5.setRow _) rfl ⟨by rw [e0.out]; rfl, below_setRow hB5 hle _⟩

end Go.Proofs.YtjjhfginmamlkaaGreat
