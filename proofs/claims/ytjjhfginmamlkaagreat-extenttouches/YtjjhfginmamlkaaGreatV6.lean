/- VwStand, VwChg: in one text. -/
import Derived.Test.YtjjhfginmamlkaaGreatVwNames
import Derived.Test.YtjjhfginmamlkaaGreatP3
import Derived.Test.YtjjhfginmamlkaaGreatI2
import Derived.Test.YtjjhfginmamlkaaGreatD5
import Derived.Test.YtjjhfginmamlkaaGreatD2
namespace Go.Proofs.YtjjhfginmamlkaaGreat
open Go.RowKit
set_option linter.unusedVariables false
set_option linter.unusedSimpArgs false
set_option maxRecDepth 4000

set_option maxRecDepth 100000

/-- The error, whether there is something, and what it is. -/
def stE (l : List (ByteArray × ByteArray)) (q : Pl) : Int := if plOk q then (if fdB l (keyS q) then decE q.part (valS l (keyS q)) else 0) else 30
def stB (l : List (ByteArray × ByteArray)) (q : Pl) : Bool := plOk q && fdB l (keyS q) && decide (decE q.part (valS l (keyS q)) = 0)
def stI (l : List (ByteArray × ByteArray)) (q : Pl) : It := if stB l q then decI q.part (valS l (keyS q)) else it0
theorem stI_ok (l : List (ByteArray × ByteArray)) (q : Pl) : ItOk (stI l q) := by
  unfold stI; split
  · exact decI_ok _ _
  · exact it0_ok

theorem ret_item3 {fn : Func} {R : Ending → World → Prop} {a : Act} {w : World} {p u x : Tmp} (h : fn.results = #[.cell p 150, .tmp u, .tmp x]) (g : Nat) (y : It) (hy : y.bytes.length = 32) (hp : a.tmps.getD p undef = .pointer (some ⟨g, 0, none⟩)) (v : Value) (hu : a.tmps.getD u undef = v) (v' : Value) (hx : a.tmps.getD x undef = v')
    (hg : ItAt 150 w g y) (hd : a.defers = []) (hR : R (.returned (.tuple #[.agg (itC y), v, v'])) w) : bodyPost Tryz.prog fn R .ret a w := by
  refine bodyPost_ret ?_ hd hR
  have hp' : a.tmps[p]?.getD undef = .pointer (some ⟨g, 0, none⟩) := by simpa using hp
  have hu' : a.tmps[u]?.getD undef = v := by simpa using hu
  have hx' : a.tmps[x]?.getD undef = v' := by simpa using hx
  have hl := run_loadVar_row (P := Tryz.prog) w g _ 150 (itC y) _ _ hg.row Tryz.underlying150 rfl (by rw [itC_size hy]; exact size_item)
  simp [results, h, hp', hu', hx', asAddr, hl, Result.andThen]

theorem ItAt.loadW {w : World} {g : Nat} {x : It} (h : ItAt 150 w g x) (hx : x.bytes.length = 32) : (Instr.loadAt 150 (.pointer (some ⟨g, 0, none⟩))).run Tryz.prog w = .ok (.agg (itC x)) w := by
  have := run_loadAt_mid (P := Tryz.prog) w g 0 150 (itC x).toList _ (fun j u hu => by rw [cell_of_row _ _ _ _ _ (0, 0) h.row, Nat.zero_add, ← Array.getElem?_toList]; exact hu) Tryz.underlying150 rfl (by rw [Array.length_toList, itC_size hx]; exact size_item)
  simpa using this

set_option maxHeartbeats 4000000 in
theorem standing_any {w : World} {g : Nat} {a : Option Addr} {n cap : Nat} {l : List (ByteArray × ByteArray)} (hS : SoAt w g a n cap l) (q : Pl) (hq : PlOk q) : Calls Tryz.prog 98 #[baV g, plV q] w fun e w' =>
    e = .returned (.tuple #[.agg (itC (stI l q)), .bool (stB l q), .int .i64 (stE l q)]) ∧ Below w.heap.size w w' := by
  have hz := zeroItem
  have len0 := ch_zero.1
  have al : ∀ (A : World) (o : Obj), Below A.heap.size A (A.alloc o) := fun A o => (Below.refl _ A).alloc (Nat.le_refl _) o
  have hq1 := PlAt.laid w q
  have hb1 := al w (.cells (plCells q) 87)
  have HS1 : Hid (w.heap.size < (w.alloc (.cells (plCells q) 87)).heap.size) := by unfold Hid; simp
  obtain ⟨w1, hw1⟩ : ∃ w1, w.alloc (.cells (plCells q) 87) = w1 := ⟨_, rfl⟩
  rw [hw1] at hq1 hb1 HS1
  have hi2 := ItAt.laid 150 w1 it0
  have hb2 := al w1 (.cells (itC it0) 150)
  obtain ⟨w2, hw2⟩ : ∃ w2, w1.alloc (.cells (itC it0) 150) = w2 := ⟨_, rfl⟩
  rw [hw2] at hi2 hb2
  have hq2 := hq1.below hb2
  have hB2 := thenB hb1 hb2
  have lp2 : Hid _ := hq2.loadG
  have ck := key_any w2 q hq
  unfold plE at ck
  rw [show plV q = .agg (plCells q) from rfl] at ck ⊢
  rw [show plV q = .agg (plCells q) from rfl] at lp2
  unfold baV
  go_enter Tryz.func98, Tryz.ntmps98
  go_wp2_with (refine wpList_loadG rfl 87 _ rfl _ rfl _ lp2.out ?_)
  refine ck.mono ?_
  rintro e w3 ⟨rfl, hb3⟩
  clear ck lp2
  have hB3 := thenB hB2 hb3
  have hi3 := hi2.below hb3
  have hq3 := hq2.below hb3
  have hle : w.heap.size ≤ w1.heap.size := Nat.le_of_lt HS1.out
  cases hok : plOk q
  · have e1 : Hid (stB l q = false) := by unfold Hid stB; rw [hok]; rfl
    have e2 : Hid (stI l q = it0) := by unfold Hid stI; rw [e1.out]; rfl
    have e3 : Hid (stE l q = 30) := by unfold Hid stE; rw [hok]; rfl
    rw [show (if false = true then (0 : Int) else 30) = 30 from rfl]
    clear hok
    go_wp2_with (first | (refine wpList_buildBy rfl 150 _ rfl _ rfl [] (by kernel_rfl) (itC it0) built_zero ?_) | (refine wpList_storeI rfl _ _ rfl w1.heap.size it0 it0 rfl rfl len0 len0 hi3 ?_))
    exact ret_item3 rfl w1.heap.size it0 len0 rfl _ rfl _ rfl (hi3.setRow _) rfl ⟨by rw [e1.out, e2.out, e3.out]; rfl, below_setRow hB3 hle _⟩
  · rw [show (if true = true then (0 : Int) else 30) = 0 from rfl]
    have HK : Hid (plOk q = true) := hok
    clear hok
    have cg := sget_any (hS.below hB3) (keyS q)
    go_wp2_with fail
    refine cg.mono ?_
    rintro e w4 ⟨rfl, hb4⟩
    clear cg
    have hB4 := thenB hB3 hb4
    have hi4 := hi3.below hb4
    have hq4 := hq3.below hb4
    cases hF : fdB l (keyS q)
    · have e1 : Hid (stB l q = false) := by unfold Hid stB; rw [hF, Bool.and_false]; rfl
      have e2 : Hid (stI l q = it0) := by unfold Hid stI; rw [e1.out]; rfl
      have e3 : Hid (stE l q = 0) := by unfold Hid stE; rw [HK.out, hF]; rfl
      go_wp2_with (first | (refine wpList_buildBy rfl 150 _ rfl _ rfl [] (by kernel_rfl) (itC it0) built_zero ?_) | (refine wpList_storeI rfl _ _ rfl w1.heap.size it0 it0 rfl rfl len0 len0 hi4 ?_))
      exact ret_item3 rfl w1.heap.size it0 len0 rfl _ rfl _ rfl (hi4.setRow _) rfl ⟨by rw [e1.out, e2.out, e3.out]; rfl, below_setRow hB4 hle _⟩
    · have HF : Hid (fdB l (keyS q) = true) := hF
      clear hF
      have p1 := hq4.c1
      have cd := decode_any w4 q.part (valS l (keyS q))
      go_wp2_with fail
      refine cd.mono ?_
      rintro e w5 ⟨rfl, hb5⟩
      clear cd
      have hB5 := thenB hB4 hb5
      have hi5 := hi4.below hb5
      have hdo := (decI_ok q.part (valS l (keyS q))).ch.1
      obtain ⟨de, hde⟩ : ∃ de, decE q.part (valS l (keyS q)) = de := ⟨_, rfl⟩
      obtain ⟨x, hx⟩ : ∃ x, decI q.part (valS l (keyS q)) = x := ⟨_, rfl⟩
      have HD : Hid (decE q.part (valS l (keyS q)) = de) := hde
      have HX : Hid (decI q.part (valS l (keyS q)) = x) := hx
      rw [hde, hx]
      rw [hx] at hdo
      clear hde hx
      have HO : Hid (x.bytes.length = 32) := hdo
      clear hdo
      have hn6 := ItAt.laid 150 w5 it0
      have hb6 := alloc_row (A := w5) (.cells (itC it0) 150) (itC x)
      have hx6 := hn6.setRow x
      obtain ⟨w6, hw6⟩ : ∃ w6, (w5.alloc (.cells (itC it0) 150)).setRow w5.heap.size (itC x) = w6 := ⟨_, rfl⟩
      rw [hw6] at hb6 hx6
      have hB6 := thenB hB5 hb6
      have hi6 := hi5.below hb6
      have l6 : Hid _ := hx6.loadW HO.out
      by_cases h0 : de = 0
      · subst h0
        have e1 : Hid (stB l q = true) := by unfold Hid stB; rw [HK.out, HF.out, HD.out]; rfl
        have e2 : Hid (stI l q = x) := by unfold Hid stI; rw [e1.out, HX.out]; rfl
        have e3 : Hid (stE l q = 0) := by unfold Hid stE; rw [HK.out, HF.out, HD.out]; rfl
        go_wp2_with (first
          | (refine wpList_storeI rfl _ _ rfl w5.heap.size x it0 rfl rfl HO.out len0 hn6 ?_; rw [hw6])
          | (refine wpList_loadG rfl 150 _ rfl _ rfl _ l6.out ?_)
          | (refine wpList_storeI rfl _ _ rfl w1.heap.size x it0 rfl rfl HO.out len0 hi6 ?_))
        exact ret_item3 rfl w1.heap.size x HO.out rfl _ rfl _ rfl (hi6.setRow _) rfl ⟨by rw [e1.out, e2.out, e3.out]; rfl, below_setRow hB6 hle _⟩
      · have e1 : Hid (stB l q = false) := by unfold Hid stB; rw [HK.out, HF.out, HD.out, decide_eq_false h0]; rfl
        have e2 : Hid (stI l q = it0) := by unfold Hid stI; rw [e1.out]; rfl
        have e3 : Hid (stE l q = de) := by unfold Hid stE; rw [HK.out, HF.out, HD.out]; rfl
        go_wp2_with (first
          | (refine wpList_storeI rfl _ _ rfl w5.heap.size x it0 rfl rfl HO.out len0 hn6 ?_; rw [hw6])
          | (refine wpList_buildBy rfl 150 _ rfl _ rfl [] (by kernel_rfl) (itC it0) built_zero ?_)
          | (refine wpList_storeI rfl _ _ rfl w1.heap.size it0 it0 rfl rfl len0 len0 hi6 ?_))
        exact ret_item3 rfl w1.heap.size it0 len0 rfl _ rfl _ rfl (hi6.setRow _) rfl ⟨by rw [e1.out, e2.out, e3.out]; rfl, below_setRow hB6 hle _⟩

set_option maxRecDepth 100000

set_option maxHeartbeats 4000000 in
theorem vwith_any (w : World) (k m l s : Int) (c : Cg) : Calls Tryz.prog 117 #[.agg #[.int .i64 k, .int .i64 m, .int .i64 l, .int .i64 s], .agg (cgC c)] w fun e w' => e = .returned (.agg #[.int .i64 k, .int .i64 (wM c m), .int .i64 (wL c l), .int .i64 (wS c s)]) ∧ Below w.heap.size w w' := by
  have hS := with_laid w k m l s c
  obtain ⟨w1, hw1⟩ : ∃ w1, (((w.alloc (.cells #[.int .i64 k, .int .i64 m, .int .i64 l, .int .i64 s] 89)).alloc (.cells (cgC c) 94)).alloc (.cells #[.int .i64 0, .int .i64 0, .int .i64 0, .int .i64 0] 89)) = w1 := ⟨_, rfl⟩
  rw [hw1] at hS
  have c6 := hS.c.c6
  have c8 := hS.c.c8
  have c9 := hS.c.c9
  have c10 := hS.c.c10
  have i0 := hS.i.cell 0 _ rfl
  have i1 := hS.i.cell 1 _ rfl
  have i2 := hS.i.cell 2 _ rfl
  have i3 := hS.i.cell 3 _ rfl
  have f1 := hS.i.fr 1
  have f2 := hS.i.fr 2
  have f3 := hS.i.fr 3
  have r0 := hS.r.cell 0 _ rfl
  have r1 := hS.r.cell 1 _ rfl
  have r2 := hS.r.cell 2 _ rfl
  have r3 := hS.r.cell 3 _ rfl
  have q0 := hS.r.fr 0
  have q1 := hS.r.fr 1
  have q2 := hS.r.fr 2
  have q3 := hS.r.fr 3
  have hr := hS.r
  have hB := hS.bel
  clear hS
  cases h1 : (bits .and .i64 c.fields 1 != 0) <;> cases h2 : (bits .and .i64 c.fields 2 != 0) <;> cases h4 : (bits .and .i64 c.fields 4 != 0)
  all_goals
    simp only [wM, wL, wS, bF, h1, h2, h4, if_true, if_false, Bool.false_eq_true]
    go_enter Tryz.func117, Tryz.ntmps117
    go_wp2
    refine ret_in rfl (w.heap.size + 1 + 1) _ _ _ _ rfl (InRow.put (k := 0) (m := 0) (l := 0) (s := 0) ?_ _ _ _ _) rfl ⟨rfl, ?_⟩
    · repeat (first | with_reducible exact hr | with_reducible refine InRow.apart ?_ _ _ _ (by omega))
    · repeat (first | with_reducible exact hB | with_reducible refine Below.setCell ?_ (by dsimp only; omega) _)

theorem ItAt.loadV {T : TypeId} {w : World} {g : Nat} {x : It} (h : ItAt T w g x) (hx : x.bytes.length = 32) : (Instr.loadAt 90 (.pointer (some ⟨g, 5, none⟩))).run Tryz.prog w = .ok (.agg (bytesV x.bytes)) w :=
  run_loadAt_mid w g 5 90 _ _ h.range Tryz.underlying90 rfl (by rw [List.length_map, hx]; exact size_chunk)

/-- A chunk with a change's patch. -/
def laidI (x : It) (c : Cg) : It := ⟨0, 0, 0, 0, 0, layB x.bytes c.pt⟩

set_option maxHeartbeats 4000000 in
theorem laid_any (w : World) (x : It) (hx : ItOk x) (c : Cg) (hc : CgOk c) : Calls Tryz.prog 116 #[.agg (itC x), .agg (cgC c)] w fun e w' => e = .returned (.agg (itC (laidI x c))) ∧ Below w.heap.size w w' := by
  have hz := zeroItem
  have len0 := ch_zero.1
  have HX : Hid (x.bytes.length = 32) := hx.ch.1
  have HC : Hid (c.pt.bytes.length = 32) := hc.pt.ch.1
  have HL : Hid ((layB x.bytes c.pt).length = 32) := layB_len _ _
  have al : ∀ (A : World) (o : Obj), Below A.heap.size A (A.alloc o) := fun A o => (Below.refl _ A).alloc (Nat.le_refl _) o
  have hx1 := ItAt.laid 150 w x
  have hb1 := al w (.cells (itC x) 150)
  obtain ⟨w1, hw1⟩ : ∃ w1, w.alloc (.cells (itC x) 150) = w1 := ⟨_, rfl⟩
  rw [hw1] at hx1 hb1
  have hc2 := CgAt.laid w1 c
  have hb2 := al w1 (.cells (cgC c) 94)
  obtain ⟨w2, hw2⟩ : ∃ w2, w1.alloc (.cells (cgC c) 94) = w2 := ⟨_, rfl⟩
  rw [hw2] at hc2 hb2
  have hr3 := ItAt.laid 150 w2 it0
  have hb3 := al w2 (.cells (itC it0) 150)
  obtain ⟨w3, hw3⟩ : ∃ w3, w2.alloc (.cells (itC it0) 150) = w3 := ⟨_, rfl⟩
  rw [hw3] at hr3 hb3
  have lx : Hid _ := ((hx1.below hb2).below hb3).loadV HX.out
  have lc : Hid _ := (hc2.below hb3).loadT HC.out
  have cl := lay_any w3 x.bytes c.pt hx.ch hc.pt
  have hB3 := thenB (thenB hb1 hb2) hb3
  have HG : Hid (w.heap.size ≤ w2.heap.size) := Nat.le_trans hb1.size hb2.size
  go_enter Tryz.func116, Tryz.ntmps116
  go_wp2_with (first
    | (refine wpList_loadG rfl 90 _ rfl _ rfl _ lx.out ?_)
    | (refine wpList_loadG rfl 92 _ rfl _ rfl _ lc.out ?_))
  refine cl.mono ?_
  rintro e w4 ⟨rfl, hb4⟩
  clear cl
  have hr4 := hr3.below hb4
  have hB4 := thenB hB3 hb4
  go_wp2_with (first
    | (refine wpList_buildBy rfl 150 _ rfl _ rfl [(2, .agg (bytesV (layB x.bytes c.pt)))] (by kernel_rfl) (itC (laidI x c)) (built_chunk HL.out) ?_)
    | (refine wpList_storeI rfl _ _ rfl w2.heap.size (laidI x c) it0 rfl rfl HL.out len0 hr4 ?_))
  exact ret_item rfl w2.heap.size (laidI x c) HL.out rfl (hr4.setRow _) rfl ⟨rfl, below_setRow hB4 HG.out _⟩

end Go.Proofs.YtjjhfginmamlkaaGreat
