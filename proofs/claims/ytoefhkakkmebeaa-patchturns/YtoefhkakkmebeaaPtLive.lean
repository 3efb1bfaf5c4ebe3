/- The law's live: the chapter's examples. -/
import Derived.Test.YtoefhkakkmebeaaPtOf
import Derived.Test.YtoefhkakkmebeaaPtJoin
import Derived.BigQuiet
namespace Go.Proofs.Ytoefhkakkmebeaa
open Go.RowKit
set_option linter.unusedVariables false
set_option linter.unusedSimpArgs false
set_option maxRecDepth 100000

/-- As 'wpList_buildBy', guarded or not. -/
theorem wpList_buildG {ops : Array Oper} {rest : List Oper} {o : Oper} {a : Act} {w : World} {Q : Exit → Act → World → Prop} (hw : Region.wanted o (yielded ops a.tmps) = true) (t : TypeId) (parts : Array (Nat × Operand)) (ho : o.op = .build t parts)
    (vs : List (Nat × Value)) (hp : (parts.map fun (i, x) => (i, a.eval x)).toList = vs) (cells : Array Value) (hf : Try.prog.built t vs = some cells)
    (h : wpList Try.prog ops Q rest (a.put o.dst (.agg cells)) w) : wpList Try.prog ops Q (o :: rest) a w :=
  BigFrame.wpList_want hw fun K hK => by
    unfold Oper.wp execOp
    simp only [ho, Sem.run_bind, run_build (P := Try.prog) w t _ cells (by rw [hp]; exact hf), Result.andThen_ok, Sem.run_pure]
    exact hK _ _ h

theorem wpList_newP {w : World} {ops : Array Oper} {rest : List Oper} {o : Oper} {a : Act} {Q : Exit → Act → World → Prop} (hg : o.guard = none) (x y : Operand) (ho : o.op = .store 26 x y)
    (hx : a.eval x = .pointer (some ⟨w.heap.size, 0, none⟩)) (z old : Pt) (hy : a.eval y = .agg (ptC z)) (hz : z.bytes.length = 32) (hold : old.bytes.length = 32)
    (h : wpList Try.prog ops Q rest (a.put o.dst undef) (w.alloc (.cells (ptC z) 26))) : wpList Try.prog ops Q (o :: rest) a (w.alloc (.cells (ptC old) 26)) := by
  refine wpList_storeP hg x y ho w.heap.size z old hx hy hz hold (PtAt.laid w old) ?_
  rw [World.setRow_alloc_new]; exact h
theorem wpList_newC {w : World} {ops : Array Oper} {rest : List Oper} {o : Oper} {a : Act} {Q : Exit → Act → World → Prop} (hg : o.guard = none) (x y : Operand) (ho : o.op = .store 24 x y)
    (hx : a.eval x = .pointer (some ⟨w.heap.size, 0, none⟩)) (z old : List Int) (hy : a.eval y = .agg (bytesV z)) (hz : z.length = 32) (hold : old.length = 32)
    (h : wpList Try.prog ops Q rest (a.put o.dst undef) (w.alloc (.cells (bytesV z) 24))) : wpList Try.prog ops Q (o :: rest) a (w.alloc (.cells (bytesV old) 24)) := by
  refine wpList_storeC hg x y ho w.heap.size z old hx hy hz hold (ChAt.laid w old) ?_
  rw [World.setRow_alloc_new]; exact h

def ab : ByteArray := ⟨#[97, 98]⟩
def lv1 : List Int := 1 :: 2 :: 3 :: List.replicate 29 0
theorem lv1_ch : Ch lv1 := ⟨rfl, by intro x hx; simp [lv1] at hx; omega⟩
theorem built_lv : Try.prog.built 24 [(0, .int .u8 1), (1, .int .u8 2), (2, .int .u8 3)] = some (bytesV lv1) := by kernel_rfl

set_option maxHeartbeats 4000000 in
theorem live_any (w : World) : Calls Try.prog 8 #[] w fun e w' => e = .returned (.bool true) ∧ Below w.heap.size w w' := by
  have hz := zeroPt
  have hzc := zeroCh
  have HZ : Hid (zeroC.length = 32) := ch_zero.1
  have c1 := fun W => of_any W 30 ab (by decide) (by decide)
  have c2 := fun W => of_any W 31 ab (by decide) (by decide)
  have c3 := fun W => zero_any W 32
  have hF : PtOk ⟨true, 0, zeroC⟩ := ⟨by decide, ch_zero⟩
  have c4 := fun W => lay_any W lv1 ⟨true, 0, zeroC⟩ lv1_ch hF
  have e1 : ofE 30 ab = 0 := by decide
  have e2 : ofE 31 ab = 1 := by decide
  have e2' : ofR 31 ab = pt0 := by rfl
  have e3 : zeroE 32 = 0 := by decide
  have e3' : zeroP 32 = pt0 := by rfl
  have e4 : layB lv1 ⟨true, 0, zeroC⟩ = zeroC := by decide
  have m1 : (ofR 30 ab).mask = 3221225472 := by decide
  have m2 : (ofR 30 ab).bytes.getD 31 0 = 98 := by decide
  have f1 : (ofR 30 ab).fresh = false := by decide
  have ok1 := ofR_ok 30 ab
  rw [e1] at c1
  rw [e2, e2'] at c2
  rw [e3, e3'] at c3
  rw [e4] at c4
  clear e1 e2 e3 e4 e2' e3'
  unfold ab at c1 c2 m1 m2 f1 ok1
  generalize ofR 30 ⟨#[97, 98]⟩ = P1 at *
  have HP : Hid (P1.bytes.length = 32) := ok1.ch.1
  have hq := fun W => eq_chunks W ch_zero.1 ch_zero.1
  rw [decide_eq_true rfl] at hq
  go_enter Try.func8, Try.ntmps8
  go_wp2_with fail
  refine (c1 _).mono ?_
  rintro e w1 ⟨rfl, hb1⟩
  go_wp2_with (refine wpList_newP rfl _ _ rfl rfl P1 pt0 rfl HP.out HZ.out ?_)
  refine (c2 _).mono ?_
  rintro e w2 ⟨rfl, hb2⟩
  go_wp2_with (refine wpList_newP rfl _ _ rfl rfl pt0 pt0 rfl HZ.out HZ.out ?_)
  refine (c3 _).mono ?_
  rintro e w3 ⟨rfl, hb3⟩
  go_wp2_with (first
    | (refine wpList_newP rfl _ _ rfl rfl pt0 pt0 rfl HZ.out HZ.out ?_)
    | (refine wpList_buildBy rfl 24 _ rfl _ rfl [(0, .int .u8 1), (1, .int .u8 2), (2, .int .u8 3)] (by kernel_rfl) (bytesV lv1) built_lv ?_)
    | (refine wpList_buildBy rfl 26 _ rfl _ rfl [(0, .bool true)] (by kernel_rfl) (ptC ⟨true, 0, zeroC⟩) (built_fresh true) ?_))
  refine (c4 _).mono ?_
  rintro e w4 ⟨rfl, hb4⟩
  have al : ∀ (A : World) (o : Obj), Below A.heap.size A (A.alloc o) := fun A o => (Below.refl _ A).alloc (Nat.le_refl _) o
  have b2 : Below w1.heap.size w1 w2 := thenB (al _ _) hb2
  have b3 : Below w2.heap.size w2 w3 := thenB (al _ _) hb3
  have b4 : Below w3.heap.size w3 w4 := thenB (al _ _) hb4
  have p1 : PtAt w4 w1.heap.size P1 := (((PtAt.laid w1 P1).below hb2).below b3).below b4
  have p3 : PtAt w4 w3.heap.size pt0 := (PtAt.laid w3 pt0).below hb4
  obtain ⟨w5, hw5⟩ : ∃ w5, w4.alloc (.cells (bytesV zeroC) 24) = w5 := ⟨_, rfl⟩
  have b5 : Below w4.heap.size w4 w5 := by rw [← hw5]; exact al _ _
  have q50 : ChAt w5 w4.heap.size zeroC := by rw [← hw5]; exact ChAt.laid w4 zeroC
  obtain ⟨w6, hw6⟩ : ∃ w6, w5.setRow w4.heap.size (bytesV zeroC) = w6 := ⟨_, rfl⟩
  have b6 : Below w4.heap.size w4 w6 := by rw [← hw6]; exact below_setRow b5 (Nat.le_refl _) _
  have q1 := p1.below b6
  have q3 := p3.below b6
  have q5 : ChAt w6 w4.heap.size zeroC := by rw [← hw6]; exact q50.setRow _
  have HB : Hid (Below w.heap.size w w6) := thenB (thenB (thenB (thenB hb1 b2) b3) b4) b6
  have k1 := q1.c1
  rw [m1] at k1
  have k2 := q1.byte HP.out (i := 31) (by decide)
  rw [m2] at k2
  have k3 := q3.c1
  have hld : Hid _ := q5.load HZ.out
  clear al b2 b3 b4 b5 b6 hb1 hb2 hb3 hb4 p1 p3 m1 m2 f1 c1 c2 c3 c4
  go_wp2_with (first
    | (refine wpList_storeC rfl _ _ rfl w4.heap.size zeroC zeroC rfl rfl HZ.out HZ.out q50 ?_; rw [hw6])
    | (refine wpList_loadG rfl 24 _ rfl _ rfl _ hld.out ?_)
    | (refine wpList_buildG rfl 24 _ rfl [] (by kernel_rfl) (bytesV zeroC) built_ch0 ?_))
  go_ret
  exact ⟨rfl, HB.out⟩

end Go.Proofs.Ytoefhkakkmebeaa
