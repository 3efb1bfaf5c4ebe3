/- The contracts of delta.withFields and of the document's with. -/
import Derived.Test.YtmifpeocgikbeabCgState
namespace Go.Proofs.Ytmifpeocgikbeab
open Go.RowKit
set_option linter.unusedVariables false
set_option linter.unusedSimpArgs false
set_option maxRecDepth 100000

/-- Whether a change names a field. -/
def bF (f m : Int) : Bool := bits .and .i64 f m != 0
def wM (c : Cg) (m : Int) : Int := if bF c.fields 1 then c.mode else m
def wL (c : Cg) (l : Int) : Int := if bF c.fields 2 then c.links else l
def wS (c : Cg) (s : Int) : Int := if bF c.fields 4 then c.size else s

/-- An inode lies in the block 'g', a variable of its own. -/
structure InRow (w : World) (g : Nat) (k m l s : Int) : Prop where
  row : w.heap[g]? = some (.cells #[.int .i64 k, .int .i64 m, .int .i64 l, .int .i64 s] 32 (0, 0))
theorem InRow.lt {w : World} {g : Nat} {k m l s : Int} (h : InRow w g k m l s) : g < w.heap.size := (Array.getElem?_eq_some_iff.1 h.row).1
theorem InRow.below {w w' : World} {g : Nat} {k m l s : Int} (h : InRow w g k m l s) (hb : Below w.heap.size w w') : InRow w' g k m l s := ⟨(hb.block g h.lt).trans h.row⟩
theorem InRow.cell {w : World} {g : Nat} {k m l s : Int} (h : InRow w g k m l s) (j : Nat) (v : Value) (hv : (#[.int .i64 k, .int .i64 m, .int .i64 l, .int .i64 s] : Array Value)[j]? = some v) : w.cell? ⟨g, j, none⟩ = some v := by
  rw [cell_of_row w g j _ _ (0, 0) h.row]; exact hv
theorem InRow.fr {w : World} {g : Nat} {k m l s : Int} (h : InRow w g k m l s) (j : Nat) : w.frozen? ⟨g, j, none⟩ = false := by simp [World.frozen?, h.row]
theorem InRow.apart {w : World} {g : Nat} {k m l s : Int} (h : InRow w g k m l s) (b i : Nat) (v : Value) (hk : g ≠ b) : InRow (w.setCell ⟨b, i, none⟩ v) g k m l s := ⟨(heap_setCell_other w ⟨b, i, none⟩ g v hk).trans h.row⟩
theorem InRow.put {w : World} {g : Nat} {k m l s : Int} (h : InRow w g k m l s) (k' m' l' s' : Int) : InRow ((((w.setCell ⟨g, 0, none⟩ (.int .i64 k')).setCell ⟨g, 1, none⟩ (.int .i64 m')).setCell ⟨g, 2, none⟩ (.int .i64 l')).setCell ⟨g, 3, none⟩ (.int .i64 s')) g k' m' l' s' := by
  have h1 := heap_setCell_same w g 0 _ _ (.int .i64 k') h.row
  have h2 := heap_setCell_same _ g 1 _ _ (.int .i64 m') h1
  have h3 := heap_setCell_same _ g 2 _ _ (.int .i64 l') h2
  have h4 := heap_setCell_same _ g 3 _ _ (.int .i64 s') h3
  exact ⟨h4⟩
theorem InRow.load {w : World} {g : Nat} {k m l s : Int} (h : InRow w g k m l s) : (Instr.loadAt 32 (.pointer (some ⟨g, 0, none⟩))).run Try.prog w = .ok (.agg #[.int .i64 k, .int .i64 m, .int .i64 l, .int .i64 s]) w := by
  have hl := run_loadVar_row (P := Try.prog) w g _ 32 _ _ _ h.row Try.underlying32 rfl (by kernel_rfl)
  simp only [Instr.loadAt, Instr.sureAddr, Sem.run_bind, Sem.run_pure, Result.andThen_ok, hl]

theorem ret_in {fn : Func} {R : Ending → World → Prop} {a : Act} {w : World} {p : Tmp} (h : fn.results = #[.cell p 32]) (g : Nat) (k m l s : Int) (hp : a.tmps.getD p undef = .pointer (some ⟨g, 0, none⟩))
    (hg : InRow w g k m l s) (hd : a.defers = []) (hR : R (.returned (.agg #[.int .i64 k, .int .i64 m, .int .i64 l, .int .i64 s])) w) : bodyPost Try.prog fn R .ret a w :=
  bodyPost_ret (results_cell_row h a.tmps w g _ _ _ _ hp hg.row Try.underlying32 rfl (by kernel_rfl)) hd hR

/-- Three variables: an inode, a change, an inode. -/
structure WithS (w W : World) (k m l s : Int) (c : Cg) : Prop where
  i : InRow W w.heap.size k m l s
  c : CgAt W (w.heap.size + 1) c
  r : InRow W (w.heap.size + 1 + 1) 0 0 0 0
  bel : Below w.heap.size w W
theorem with_laid (w : World) (k m l s : Int) (c : Cg) : WithS w (((w.alloc (.cells #[.int .i64 k, .int .i64 m, .int .i64 l, .int .i64 s] 32)).alloc (.cells (cgC c) 37)).alloc (.cells #[.int .i64 0, .int .i64 0, .int .i64 0, .int .i64 0] 32)) k m l s c := by
  have al : ∀ (A : World) (o : Obj), Below A.heap.size A (A.alloc o) := fun A o => (Below.refl _ A).alloc (Nat.le_refl _) o
  refine ⟨⟨?_⟩, ?_, ⟨?_⟩, (((Below.refl _ w).alloc (Nat.le_refl _) _).alloc (by simp) _).alloc (by simp; omega) _⟩
  · have h : InRow (w.alloc (.cells #[.int .i64 k, .int .i64 m, .int .i64 l, .int .i64 s] 32)) w.heap.size k m l s := ⟨heap_alloc_new w _⟩
    exact ((h.below (al _ _)).below (al _ _)).row
  · have h := (CgAt.laid (w.alloc (.cells #[.int .i64 k, .int .i64 m, .int .i64 l, .int .i64 s] 32)) c).below (al _ (.cells #[.int .i64 0, .int .i64 0, .int .i64 0, .int .i64 0] 32))
    rwa [World.size_alloc] at h
  · have h := heap_alloc_new ((w.alloc (.cells #[.int .i64 k, .int .i64 m, .int .i64 l, .int .i64 s] 32)).alloc (.cells (cgC c) 37)) (.cells #[.int .i64 0, .int .i64 0, .int .i64 0, .int .i64 0] 32)
    rwa [World.size_alloc, World.size_alloc] at h

set_option maxHeartbeats 4000000 in
theorem with_any (w : World) (k m l s : Int) (c : Cg) : Calls Try.prog 65 #[.agg #[.int .i64 k, .int .i64 m, .int .i64 l, .int .i64 s], .agg (cgC c)] w fun e w' => e = .returned (.agg #[.int .i64 k, .int .i64 (wM c m), .int .i64 (wL c l), .int .i64 (wS c s)]) ∧ Below w.heap.size w w' := by
  have hS := with_laid w k m l s c
  obtain ⟨w1, hw1⟩ : ∃ w1, (((w.alloc (.cells #[.int .i64 k, .int .i64 m, .int .i64 l, .int .i64 s] 32)).alloc (.cells (cgC c) 37)).alloc (.cells #[.int .i64 0, .int .i64 0, .int .i64 0, .int .i64 0] 32)) = w1 := ⟨_, rfl⟩
  rw [hw1] at hS
  have c6 := hS.c.c6
  have c8 := hS.c.c8
  have c9 := hS.c.c9
  have c10 := hS.c.c10
  have i0 := hS.i.cell 0 _ rfl
  have i1 := hS.i.cell 1 _ rfl
  have i2 := hS.i.cell 2 _ rfl
  have i3 := hS.i.cell 3 _ rfl
  have f1 := hS.i.fr 1
  have f2 := hS.i.fr 2
  have f3 := hS.i.fr 3
  have r0 := hS.r.cell 0 _ rfl
  have r1 := hS.r.cell 1 _ rfl
  have r2 := hS.r.cell 2 _ rfl
  have r3 := hS.r.cell 3 _ rfl
  have q0 := hS.r.fr 0
  have q1 := hS.r.fr 1
  have q2 := hS.r.fr 2
  have q3 := hS.r.fr 3
  have hr := hS.r
  have hB := hS.bel
  clear hS
  cases h1 : (bits .and .i64 c.fields 1 != 0) <;> cases h2 : (bits .and .i64 c.fields 2 != 0) <;> cases h4 : (bits .and .i64 c.fields 4 != 0)
  all_goals
    simp only [wM, wL, wS, bF, h1, h2, h4, if_true, if_false, Bool.false_eq_true]
    go_enter Try.func65, Try.ntmps65
    go_wp2
    refine ret_in rfl (w.heap.size + 1 + 1) _ _ _ _ rfl (InRow.put (k := 0) (m := 0) (l := 0) (s := 0) ?_ _ _ _ _) rfl ⟨rfl, ?_⟩
    · repeat (first | with_reducible exact hr | with_reducible refine InRow.apart ?_ _ _ _ (by omega))
    · repeat (first | with_reducible exact hB | with_reducible refine Below.setCell ?_ (by dsimp only; omega) _)

set_option maxHeartbeats 4000000 in
theorem rwith_any (w : World) (k m l s : Int) (c : Cg) : Calls Try.prog 29 #[.agg #[.int .i64 k, .int .i64 m, .int .i64 l, .int .i64 s], .agg (cgC c)] w fun e w' => e = .returned (.agg #[.int .i64 k, .int .i64 (wM c m), .int .i64 (wL c l), .int .i64 (wS c s)]) ∧ Below w.heap.size w w' := by
  have hS := with_laid w k m l s c
  obtain ⟨w1, hw1⟩ : ∃ w1, (((w.alloc (.cells #[.int .i64 k, .int .i64 m, .int .i64 l, .int .i64 s] 32)).alloc (.cells (cgC c) 37)).alloc (.cells #[.int .i64 0, .int .i64 0, .int .i64 0, .int .i64 0] 32)) = w1 := ⟨_, rfl⟩
  rw [hw1] at hS
  have c6 := hS.c.c6
  have c8 := hS.c.c8
  have c9 := hS.c.c9
  have c10 := hS.c.c10
  have i0 := hS.i.cell 0 _ rfl
  have i1 := hS.i.cell 1 _ rfl
  have i2 := hS.i.cell 2 _ rfl
  have i3 := hS.i.cell 3 _ rfl
  have f1 := hS.i.fr 1
  have f2 := hS.i.fr 2
  have f3 := hS.i.fr 3
  have r0 := hS.r.cell 0 _ rfl
  have r1 := hS.r.cell 1 _ rfl
  have r2 := hS.r.cell 2 _ rfl
  have r3 := hS.r.cell 3 _ rfl
  have q0 := hS.r.fr 0
  have q1 := hS.r.fr 1
  have q2 := hS.r.fr 2
  have q3 := hS.r.fr 3
  have hr := hS.r
  have hB := hS.bel
  clear hS
  cases h1 : (bits .and .i64 c.fields 1 != 0) <;> cases h2 : (bits .and .i64 c.fields 2 != 0) <;> cases h4 : (bits .and .i64 c.fields 4 != 0)
  all_goals
    simp only [wM, wL, wS, bF, h1, h2, h4, if_true, if_false, Bool.false_eq_true]
    go_enter Try.func29, Try.ntmps29
    go_wp2
    refine ret_in rfl (w.heap.size + 1 + 1) _ _ _ _ rfl (InRow.put (k := 0) (m := 0) (l := 0) (s := 0) ?_ _ _ _ _) rfl ⟨rfl, ?_⟩
    · repeat (first | with_reducible exact hr | with_reducible refine InRow.apart ?_ _ _ _ (by omega))
    · repeat (first | with_reducible exact hB | with_reducible refine Below.setCell ?_ (by dsimp only; omega) _)

end Go.Proofs.Ytmifpeocgikbeab
