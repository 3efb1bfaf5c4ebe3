/- The contract of view.changed over a store that may fail (written by tools/laws/VwChL_gen.py). -/
import Derived.Test.YtjjhfginmamlkaaGreatVwStL
import Derived.Test.YtjjhfginmamlkaaGreatV6
namespace Go.Proofs.YtjjhfginmamlkaaGreat
open Go.RowKit
set_option linter.unusedVariables false
set_option linter.unusedSimpArgs false
set_option maxRecDepth 100000

/-- What a call that may ask the store leaves. -/
structure LOut (w : World) (g : Nat) (a : Option Addr) (n cap : Nat) (l : List (ByteArray × ByteArray)) (f : Int) (w' : World) : Prop where
  sole : Sole [g] w w'
  so : SoL w' g a n cap l f
theorem LOut.of {w w' : World} {g : Nat} {a : Option Addr} {n cap : Nat} {l : List (ByteArray × ByteArray)} {f : Int} (hS : SoL w g a n cap l f) (hb : Below w.heap.size w w') : LOut w g a n cap l f w' := ⟨Sole.of_below hb _, hS.below hb⟩
theorem LOut.below {w wm w' : World} {g : Nat} {a : Option Addr} {n cap : Nat} {l : List (ByteArray × ByteArray)} {f : Int} (h : LOut w g a n cap l f wm) (hb : Below wm.heap.size wm w') : LOut w g a n cap l f w' := ⟨h.sole.trans (Sole.of_below hb _), h.so.below hb⟩
theorem LOut.setRow {w wm : World} {g : Nat} {a : Option Addr} {n cap : Nat} {l : List (ByteArray × ByteArray)} {f f0 : Int} (h : LOut w g a n cap l f wm) (hS : SoL w g a n cap l f0) (k : Nat) (hk : w.heap.size ≤ k) (cs : Array Value) : LOut w g a n cap l f (wm.setRow k cs) :=
  ⟨h.sole.after (sole_setRow _ _ _) (fun q hq => .inr (by rw [List.mem_singleton] at hq; omega)), h.so.setRow k cs (by have := hS.lt; omega) (fun q hp e => by have := hS.lts q hp e; omega)⟩
theorem LOut.pre {w wm w' : World} {g : Nat} {a : Option Addr} {n cap : Nat} {l : List (ByteArray × ByteArray)} {f : Int} (hb : Below w.heap.size w wm) (h : LOut wm g a n cap l f w') : LOut w g a n cap l f w' := ⟨(Sole.of_below hb _).trans h.sole, h.so⟩
theorem LOut.drew {w wm : World} {g : Nat} {a : Option Addr} {n cap : Nat} {l : List (ByteArray × ByteArray)} {f : Int} (h : LOut w g a n cap l f wm) : LOut w g a n cap l f wm.drew := h.below (Below.refl _ _).drew
theorem stV_ok (l : List (ByteArray × ByteArray)) (f : Int) (q : Pl) : ItOk (stV l f q).1 := by
  unfold stV
  split
  · exact it0_ok
  · exact stI_ok l q
/-- What a change makes of what the base tells; how often that one may be asked behind it. -/
def chV (l : List (ByteArray × ByteArray)) (f : Int) (c : Cg) : It × Bool × Int := chR (stV l f c.pl).1 (stV l f c.pl).2.1 (stV l f c.pl).2.2 c
def chF (f : Int) (c : Cg) : Int := if c.gone || c.fresh || decide (c.pl.part = 2) || c.pt.fresh then f else stF f c.pl

set_option maxHeartbeats 8000000 in
theorem changed_l {w : World} {g : Nat} {a : Option Addr} {n cap : Nat} {l : List (ByteArray × ByteArray)} {f : Int} (hS : SoL w g a n cap l f) (c : Cg) (hc : CgOk c) : Calls Tryz.prog 97 #[baV g, .agg (cgC c)] w fun e w' =>
    e = .returned (.tuple #[.agg (itC (chV l f c).1), .bool (chV l f c).2.1, .int .i64 (chV l f c).2.2]) ∧ LOut w g a n cap l (chF f c) w' := by
  have hz := zeroItem
  have len0 := ch_zero.1
  have HC : Hid (c.pt.bytes.length = 32) := hc.pt.ch.1
  have al : ∀ (A : World) (o : Obj), Below A.heap.size A (A.alloc o) := fun A o => (Below.refl _ A).alloc (Nat.le_refl _) o
  have hc1 := CgAt.laid w c
  have hb1 := al w (.cells (cgC c) 94)
  obtain ⟨w1, hw1⟩ : ∃ w1, w.alloc (.cells (cgC c) 94) = w1 := ⟨_, rfl⟩
  rw [hw1] at hc1 hb1
  have hr2 := ItAt.laid 150 w1 it0
  have hb2 := al w1 (.cells (itC it0) 150)
  obtain ⟨w2, hw2⟩ : ∃ w2, w1.alloc (.cells (itC it0) 150) = w2 := ⟨_, rfl⟩
  rw [hw2] at hr2 hb2
  have hB2 := thenB hb1 hb2
  have hle : w.heap.size ≤ w1.heap.size := hb1.size
  have hc2 := hc1.below hb2
  have c1 := hc2.c1
  have c4 := hc2.c4
  have c5 := hc2.c5
  have c11 := hc2.c11
  have c12 := hc2.c12
  have lI : Hid _ := hc2.loadI
  have lP : Hid _ := hc2.loadP
  have lC : Hid _ := hc2.load HC.out
  unfold chV
  unfold baV
  cases hg : c.gone
  case true =>
    have HR : Hid (chR (stV l f c.pl).1 (stV l f c.pl).2.1 (stV l f c.pl).2.2 c = (it0, false, 0)) := by unfold Hid chR; rw [hg]; rfl
    rw [HR.out]
    have HFF : Hid (chF f c = f) := by unfold Hid chF; rw [hg]; rfl
    rw [hg] at c4
    go_enter Tryz.func97, Tryz.ntmps97
    go_wp2_with (first | (refine wpList_buildBy rfl 150 _ rfl _ rfl [] (by kernel_rfl) (itC it0) built_zero ?_) | (refine wpList_storeI rfl _ _ rfl w1.heap.size it0 it0 rfl rfl len0 len0 hr2 ?_))
    exact ret_item3 rfl w1.heap.size it0 len0 rfl _ rfl _ rfl (hr2.setRow _) rfl ⟨rfl, by rw [HFF.out]; exact LOut.setRow (LOut.of hS hB2) hS _ hle _⟩
  rw [hg] at c4
  cases hf : c.fresh
  case true =>
    have HR : Hid (chR (stV l f c.pl).1 (stV l f c.pl).2.1 (stV l f c.pl).2.2 c = (freshI c, true, 0)) := by unfold Hid chR; rw [hg, hf]; rfl
    rw [HR.out]
    have HFF : Hid (chF f c = f) := by unfold Hid chF; rw [hg, hf]; rfl
    rw [hf] at c5
    go_enter Tryz.func97, Tryz.ntmps97
    go_wp2_with (first
      | (refine wpList_loadG rfl 89 _ rfl _ rfl _ lI.out ?_)
      | (refine wpList_buildBy rfl 150 _ rfl _ rfl [(0, .agg #[.int .i64 c.kind, .int .i64 c.mode, .int .i64 c.links, .int .i64 c.size])] (by kernel_rfl) (itC (freshI c)) (built_inode _ _ _ _) ?_)
      | (refine wpList_storeI rfl _ _ rfl w1.heap.size (freshI c) it0 rfl rfl len0 len0 hr2 ?_))
    exact ret_item3 rfl w1.heap.size (freshI c) len0 rfl _ rfl _ rfl (hr2.setRow _) rfl ⟨rfl, by rw [HFF.out]; exact LOut.setRow (LOut.of hS hB2) hS _ hle _⟩
  rw [hf] at c5
  by_cases hp : c.pl.part = 2
  · have HR : Hid (chR (stV l f c.pl).1 (stV l f c.pl).2.1 (stV l f c.pl).2.2 c = (leadI c, true, 0)) := by unfold Hid chR; rw [hg, hf, if_pos hp]; rfl
    rw [HR.out]
    have HFF : Hid (chF f c = f) := by unfold Hid chF; rw [hg, hf]; simp [hp]
    rw [hp] at c1
    go_enter Tryz.func97, Tryz.ntmps97
    go_wp2_with (first
      | (refine wpList_buildBy rfl 150 _ rfl _ rfl [(1, .int .u32 c.to)] (by kernel_rfl) (itC (leadI c)) (built_lead _) ?_)
      | (refine wpList_storeI rfl _ _ rfl w1.heap.size (leadI c) it0 rfl rfl len0 len0 hr2 ?_))
    exact ret_item3 rfl w1.heap.size (leadI c) len0 rfl _ rfl _ rfl (hr2.setRow _) rfl ⟨rfl, by rw [HFF.out]; exact LOut.setRow (LOut.of hS hB2) hS _ hle _⟩
  have hpb : (c.pl.part == 2) = false := by simpa using hp
  cases hpf : c.pt.fresh
  case true =>
    have HR : Hid (chR (stV l f c.pl).1 (stV l f c.pl).2.1 (stV l f c.pl).2.2 c = (laidI it0 c, true, 0)) := by unfold Hid chR; rw [hg, hf, if_neg hp, hpf]; rfl
    rw [HR.out]
    have HFF : Hid (chF f c = f) := by unfold Hid chF; rw [hg, hf, hpf]; simp
    rw [hpf] at c12
    have HL : Hid ((laidI it0 c).bytes.length = 32) := layB_len _ _
    have cl := laid_any w2 it0 it0_ok c hc
    go_enter Tryz.func97, Tryz.ntmps97
    go_wp2_with (first
      | (refine wpList_loadG rfl 94 _ rfl _ rfl _ lC.out ?_)
      | (refine wpList_buildBy rfl 150 _ rfl _ rfl [] (by kernel_rfl) (itC it0) built_zero ?_))
    refine cl.mono ?_
    rintro e w3 ⟨rfl, hb3⟩
    clear cl
    have hr3 := hr2.below hb3
    have hB3 := thenB hB2 hb3
    go_wp2_with (refine wpList_storeI rfl _ _ rfl w1.heap.size (laidI it0 c) it0 rfl rfl HL.out len0 hr3 ?_)
    exact ret_item3 rfl w1.heap.size (laidI it0 c) HL.out rfl _ rfl _ rfl (hr3.setRow _) rfl ⟨rfl, by rw [HFF.out]; exact LOut.setRow (LOut.of hS hB3) hS _ hle _⟩
  rw [hpf] at c12
  have HFF : Hid (chF f c = stF f c.pl) := by unfold Hid chF; rw [hg, hf, hpf]; simp [hp]
  have cs := standing_l (hS.below hB2) c.pl hc.pl
  unfold baV at cs
  have hxo := stV_ok l f c.pl
  have HR0 : Hid (chR (stV l f c.pl).1 (stV l f c.pl).2.1 (stV l f c.pl).2.2 c = if (stV l f c.pl).2.2 ≠ 0 then (it0, false, (stV l f c.pl).2.2) else if c.pl.part = 3 then (laidI (stV l f c.pl).1 c, true, 0) else if (stV l f c.pl).2.1 then (withI (stV l f c.pl).1 c, true, 0) else (it0, false, 3)) := by unfold Hid chR; rw [hg, hf, if_neg hp, hpf]; rfl
  rw [HR0.out]
  clear HR0
  generalize stV l f c.pl = V at *
  obtain ⟨x, is, er⟩ := V
  dsimp only at cs hxo ⊢
  have HX : Hid (x.bytes.length = 32) := hxo.ch.1
  obtain ⟨R, hR⟩ : ∃ R, (if er ≠ 0 then (it0, false, er) else if c.pl.part = 3 then (laidI x c, true, 0) else if is then (withI x c, true, 0) else (it0, false, (3 : Int))) = R := ⟨_, rfl⟩
  have HR : Hid ((if er ≠ 0 then (it0, false, er) else if c.pl.part = 3 then (laidI x c, true, 0) else if is then (withI x c, true, 0) else (it0, false, (3 : Int))) = R) := hR
  rw [hR]
  clear hR
  go_enter Tryz.func97, Tryz.ntmps97
  go_wp2_with (refine wpList_loadG rfl 87 _ rfl _ rfl _ lP.out ?_)
  refine cs.mono ?_
  rintro e w3 ⟨rfl, hs3, hS3⟩
  clear cs c1 c4 c5 c11 c12 lI lP lC
  have hgl := hS.lt
  have hr3 : ItAt 150 w3 w1.heap.size it0 := ⟨(hs3.block _ (Array.getElem?_eq_some_iff.1 hr2.row).1 (fun e => by rw [List.mem_singleton] at e; omega)).trans hr2.row⟩
  have hc3 : CgAt w3 w.heap.size c := ⟨(hs3.block _ hc2.lt (fun e => by rw [List.mem_singleton] at e; omega)).trans hc2.row⟩
  have hB3 : LOut w g a n cap l (chF f c) w3 := by rw [HFF.out]; exact ⟨(Sole.of_below hB2 _).trans hs3, hS3⟩
  clear hs3 hS3 hgl
  have hn4 := ItAt.laid 150 w3 it0
  have hb4 := alloc_row (A := w3) (.cells (itC it0) 150) (itC x)
  have hx4 := hn4.setRow x
  obtain ⟨w4, hw4⟩ : ∃ w4, (w3.alloc (.cells (itC it0) 150)).setRow w3.heap.size (itC x) = w4 := ⟨_, rfl⟩
  rw [hw4] at hb4 hx4
  have hr4 := hr3.below hb4
  have hB4 := LOut.below hB3 hb4
  have hc4 := hc3.below hb4
  have d1 := hc4.c1
  have lC4 : Hid _ := hc4.load HC.out
  by_cases he : er = 0
  case neg =>
    have e0 : Hid (R = (it0, false, er)) := by unfold Hid; rw [← HR.out, if_pos he]
    go_wp2_with (first
      | (refine wpList_storeI rfl _ _ rfl w3.heap.size x it0 rfl rfl HX.out len0 hn4 ?_; rw [hw4])
      | (refine wpList_buildBy rfl 150 _ rfl _ rfl [] (by kernel_rfl) (itC it0) built_zero ?_)
      | (refine wpList_storeI rfl _ _ rfl w1.heap.size it0 it0 rfl rfl len0 len0 hr4 ?_))
    exact ret_item3 rfl w1.heap.size it0 len0 rfl _ rfl _ rfl (hr4.setRow _) rfl ⟨by rw [e0.out]; rfl, LOut.setRow hB4 hS _ hle _⟩
  subst he
  by_cases hp3 : c.pl.part = 3
  · have e0 : Hid (R = (laidI x c, true, 0)) := by unfold Hid; rw [← HR.out, if_neg (by decide), if_pos hp3]
    rw [hp3] at d1
    have HL : Hid ((laidI x c).bytes.length = 32) := layB_len _ _
    have lx4 : Hid _ := hx4.loadW HX.out
    have cl := laid_any w4 x hxo c hc
    go_wp2_with (first
      | (refine wpList_storeI rfl _ _ rfl w3.heap.size x it0 rfl rfl HX.out len0 hn4 ?_; rw [hw4])
      | (refine wpList_loadG rfl 150 _ rfl _ rfl _ lx4.out ?_)
      | (refine wpList_loadG rfl 94 _ rfl _ rfl _ lC4.out ?_))
    refine cl.mono ?_
    rintro e w5 ⟨rfl, hb5⟩
    clear cl
    have hr5 := hr4.below hb5
    have hB5 := LOut.below hB4 hb5
    go_wp2_with (refine wpList_storeI rfl _ _ rfl w1.heap.size (laidI x c) it0 rfl rfl HL.out len0 hr5 ?_)
    exact ret_item3 rfl w1.heap.size (laidI x c) HL.out rfl _ rfl _ rfl (hr5.setRow _) rfl ⟨by rw [e0.out]; rfl, LOut.setRow hB5 hS _ hle _⟩
  have hpb3 : (c.pl.part == 3) = false := by simpa using hp3
  cases his : is
  · have e0 : Hid (R = (it0, false, 3)) := by unfold Hid; rw [← HR.out, if_neg (by decide), if_neg hp3, his]; rfl
    go_wp2_with (first
      | (refine wpList_storeI rfl _ _ rfl w3.heap.size x it0 rfl rfl HX.out len0 hn4 ?_; rw [hw4])
      | (refine wpList_buildBy rfl 150 _ rfl _ rfl [] (by kernel_rfl) (itC it0) built_zero ?_)
      | (refine wpList_storeI rfl _ _ rfl w1.heap.size it0 it0 rfl rfl len0 len0 hr4 ?_))
    exact ret_item3 rfl w1.heap.size it0 len0 rfl _ rfl _ rfl (hr4.setRow _) rfl ⟨by rw [e0.out]; rfl, LOut.setRow hB4 hS _ hle _⟩
  · have e0 : Hid (R = (withI x c, true, 0)) := by unfold Hid; rw [← HR.out, if_neg (by decide), if_neg hp3, his]; rfl
    have lj4 : Hid _ := hx4.loadJ
    have cw := vwith_any w4 x.kind x.mode x.links x.size c
    go_wp2_with (first
      | (refine wpList_storeI rfl _ _ rfl w3.heap.size x it0 rfl rfl HX.out len0 hn4 ?_; rw [hw4])
      | (refine wpList_loadG rfl 89 _ rfl _ rfl _ lj4.out ?_)
      | (refine wpList_loadG rfl 94 _ rfl _ rfl _ lC4.out ?_))
    refine cw.mono ?_
    rintro e w5 ⟨rfl, hb5⟩
    clear cw
    have hr5 := hr4.below hb5
    have hB5 := LOut.below hB4 hb5
    go_wp2_with (first
      | (refine wpList_buildBy rfl 150 _ rfl _ rfl [(0, .agg #[.int .i64 x.kind, .int .i64 (wM c x.mode), .int .i64 (wL c x.links), .int .i64 (wS c x.size)])] (by kernel_rfl) (itC (withI x c)) (built_inode _ _ _ _) ?_)
      | (refine wpList_storeI rfl _ _ rfl w1.heap.size (withI x c) it0 rfl rfl len0 len0 hr5 ?_))
    exact ret_item3 rfl w1.heap.size (withI x c) len0 rfl _ rfl _ rfl (hr5.setRow _) rfl ⟨by rw [e0.out]; rfl, LOut.setRow hB5 hS _ hle _⟩

end Go.Proofs.YtjjhfginmamlkaaGreat
