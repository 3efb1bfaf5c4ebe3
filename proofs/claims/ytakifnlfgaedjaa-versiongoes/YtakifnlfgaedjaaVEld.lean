/- The contracts of version's ask (with the eldest's closure), eldest, Horizon, Settle. -/
import Derived.Test.YtakifnlfgaedjaaVOpen
namespace Go.Proofs.Ytakifnlfgaedjaa
open Go.RowKit
set_option linter.unusedVariables false
set_option linter.unusedSimpArgs false
set_option maxRecDepth 4000

/-- The eldest version that is seen. -/
def eldT (s : Rg) : Tr := match s.opn with
  | [] => s.t
  | x :: _ => x.t
def trA (t : Tr) : Array Value := #[.int .u32 t.root, .int .u64 t.ver, .int .i64 t.chg]

set_option maxHeartbeats 1000000 in
theorem eld1_any {w : World} {q : Nat} {t0 : Tr} (t : Tr) (h : w.heap[q]? = some (.cells (trA t0) 59 (0, 0))) : Calls Try.prog 38 #[.agg (trA t), .pointer (some ⟨q, 0, none⟩)] w fun e w' => e = .returned (.bool true) ∧ w'.heap[q]? = some (.cells (trA t) 59 (0, 0)) ∧ Sole [q] w w' := by
  obtain ⟨root, ver, chg⟩ := t
  obtain ⟨r0, v0, k0⟩ := t0
  unfold trA at *
  dsimp only at *
  have hq := (Array.getElem?_eq_some_iff.1 h).1
  obtain ⟨w1, hw1⟩ : ∃ w1, w.alloc (.cells #[.int .u32 root, .int .u64 ver, .int .i64 chg] 59) = w1 := ⟨_, rfl⟩
  have hB1 : Below w.heap.size w w1 := by rw [← hw1]; exact (Below.refl _ w).alloc (Nat.le_refl _) _
  have hg1 : w1.heap[w.heap.size]? = some (.cells #[.int .u32 root, .int .u64 ver, .int .i64 chg] 59 (0, 0)) := by rw [← hw1]; exact heap_alloc_new w _
  have a0 : w1.cell? ⟨w.heap.size, 0, none⟩ = some (.int .u32 root) := by rw [cell_of_row _ _ 0 _ _ (0, 0) hg1]; rfl
  have a1 : w1.cell? ⟨w.heap.size, 1, none⟩ = some (.int .u64 ver) := by rw [cell_of_row _ _ 1 _ _ (0, 0) hg1]; rfl
  have a2 : w1.cell? ⟨w.heap.size, 2, none⟩ = some (.int .i64 chg) := by rw [cell_of_row _ _ 2 _ _ (0, 0) hg1]; rfl
  have hd := (hB1.block q hq).trans h
  have z0 := cell_of_row _ _ 0 _ _ (0, 0) hd
  have z1 := cell_of_row _ _ 1 _ _ (0, 0) hd
  have z2 := cell_of_row _ _ 2 _ _ (0, 0) hd
  have f0 := frozen_of_row w1 q 0 _ _ hd
  have f1 := frozen_of_row w1 q 1 _ _ hd
  have f2 := frozen_of_row w1 q 2 _ _ hd
  simp only [List.getElem?_toArray, List.getElem?_cons_zero, List.getElem?_cons_succ] at z0 z1 z2
  have g1 := heap_setCell_same w1 q 0 _ _ (.int .u32 root) hd
  simp only [List.setIfInBounds_toArray, List.set_cons_zero, List.set_cons_succ] at g1
  have g2 := heap_setCell_same _ q 1 _ _ (.int .u64 ver) g1
  simp only [List.setIfInBounds_toArray, List.set_cons_zero, List.set_cons_succ] at g2
  have g3 := heap_setCell_same _ q 2 _ _ (.int .i64 chg) g2
  simp only [List.setIfInBounds_toArray, List.set_cons_zero, List.set_cons_succ] at g3
  have HG : Hid _ := g3
  have HS : Hid (Sole [q] w (((w1.setCell ⟨q, 0, none⟩ (.int .u32 root)).setCell ⟨q, 1, none⟩ (.int .u64 ver)).setCell ⟨q, 2, none⟩ (.int .i64 chg))) :=
    (((Sole.of_below hB1 [q]).trans (Sole.setCell _ _ (by simp))).trans (Sole.setCell _ _ (by simp))).trans (Sole.setCell _ _ (by simp))
  clear hd g1 g2 g3 h hg1 hB1
  go_enter Try.func38, Try.ntmps38
  go_wp2
  go_ret
  exact ⟨rfl, HG.out, HS.out⟩

set_option maxHeartbeats 1000000 in
theorem askE_any {B : Nat} {w : World} {p q : Nat} {v : Value} {s : Rg} {t0 : Tr} (h : RgAt B w p v s) (hl : s.opn.length ≤ 1000) (hq : w.heap[q]? = some (.cells (trA t0) 59 (0, 0))) : Calls Try.prog 31 #[ptrR p, .func (Fn.func 38) #[] #[.pointer (some ⟨q, 0, none⟩)]] w fun e w' => e = .returned (.tuple #[]) ∧ w'.heap[q]? = some (.cells (trA (eldT s)) 59 (0, 0)) ∧ Sole [q] w w' := by
  obtain ⟨⟨root, ver, chg⟩, base, last, opn⟩ := s
  obtain ⟨a, c, rfl⟩ := own_shape h.own
  have c0 : w.cell? ⟨p, 0, none⟩ = some (.int .u32 root) := h.cell 0 _ rfl
  have c1 : w.cell? ⟨p, 1, none⟩ = some (.int .u64 ver) := h.cell 1 _ rfl
  have c2 : w.cell? ⟨p, 2, none⟩ = some (.int .i64 chg) := h.cell 2 _ rfl
  have c5 : w.cell? ⟨p, 5, none⟩ = some (.slice a opn.length c) := h.cell 5 _ rfl
  obtain ⟨hc1, hc2⟩ := own_cap h.own
  unfold maxLen at hc2
  unfold ptrR
  dsimp only at *
  cases opn with
  | nil =>
    have cf := eld1_any ⟨root, ver, chg⟩ hq
    unfold eldT
    dsimp only
    unfold trA at *
    dsimp only at *
    clear h
    go_enter Try.func31, Try.ntmps31
    go_wp2
    go_loopw [5, 11] (fun _ t wr => t = .int .i64 0 ∧ wr = w) (fun _ _ _ => 0)
    case atStart => exact ⟨rfl, rfl⟩
    case round =>
      obtain ⟨rfl, rfl⟩ := hrel
      go_wp2_with fail
      refine cf.mono ?_
      rintro e1 w1 ⟨rfl, h1, h2⟩
      clear cf c0 c1 c2 c5 hq
      go_wp2
      go_end0
      exact ⟨rfl, h1, h2⟩
  | cons x r =>
    obtain ⟨g, cap, hv, hcl, hcm, _, hgl, hcell⟩ := own_sns h.own (by simp)
    simp only [Value.slice.injEq, true_and] at hv
    obtain ⟨rfl, rfl⟩ := hv
    obtain ⟨id, ⟨xr, xv, xc⟩⟩ := x
    have d0 : w.cell? ⟨g, 0, none⟩ = some (.int .i64 id) := by simpa using hcell 0 _ rfl 0 _ rfl
    have d1 : w.cell? ⟨g, 1, none⟩ = some (.int .u32 xr) := by simpa using hcell 0 _ rfl 1 _ rfl
    have d2 : w.cell? ⟨g, 2, none⟩ = some (.int .u64 xv) := by simpa using hcell 0 _ rfl 2 _ rfl
    have d3 : w.cell? ⟨g, 3, none⟩ = some (.int .i64 xc) := by simpa using hcell 0 _ rfl 3 _ rfl
    have hlen : ((⟨id, ⟨xr, xv, xc⟩⟩ : Sn) :: r).length = r.length + 1 := rfl
    rw [hlen] at c5 hc1 hl
    obtain ⟨m, hm⟩ : ∃ m, r.length = m := ⟨_, rfl⟩
    rw [hm] at c5 hc1 hl
    obtain ⟨w1, hw1⟩ : ∃ w1, w.alloc (.cells #[.int .i64 id, .int .u32 xr, .int .u64 xv, .int .i64 xc] 64) = w1 := ⟨_, rfl⟩
    have hB1 : Below w.heap.size w w1 := by rw [← hw1]; exact (Below.refl _ w).alloc (Nat.le_refl _) _
    have hg1 : w1.heap[w.heap.size]? = some (.cells #[.int .i64 id, .int .u32 xr, .int .u64 xv, .int .i64 xc] 64 (0, 0)) := by rw [← hw1]; exact heap_alloc_new w _
    have a1 : w1.cell? ⟨w.heap.size, 1, none⟩ = some (.int .u32 xr) := by rw [cell_of_row _ _ 1 _ _ (0, 0) hg1]; rfl
    have a2 : w1.cell? ⟨w.heap.size, 2, none⟩ = some (.int .u64 xv) := by rw [cell_of_row _ _ 2 _ _ (0, 0) hg1]; rfl
    have a3 : w1.cell? ⟨w.heap.size, 3, none⟩ = some (.int .i64 xc) := by rw [cell_of_row _ _ 3 _ _ (0, 0) hg1]; rfl
    have cf := eld1_any ⟨xr, xv, xc⟩ ((hB1.block q (Array.getElem?_eq_some_iff.1 hq).1).trans hq)
    unfold eldT
    dsimp only
    unfold trA at *
    dsimp only at *
    have hpos : ((0 : Int) < (m : Int) + 1) := by omega
    have hS1 := Sole.of_below hB1 [q]
    clear h hcell hg1 hB1 hlen
    go_enter Try.func31, Try.ntmps31
    go_wp2
    go_loopw [5, 11] (fun _ t wr => t = .int .i64 0 ∧ wr = w) (fun _ _ _ => 0)
    case atStart => exact ⟨rfl, rfl⟩
    case round =>
      obtain ⟨rfl, rfl⟩ := hrel
      go_wp2_with fail
      refine cf.mono ?_
      rintro e1 w2 ⟨rfl, h1, h2⟩
      clear cf c0 c1 c2 c5 hq
      go_wp2
      refine bodyPost_ret (results_none rfl _ _ _) rfl ?_
      exact ⟨rfl, h1, hS1.trans h2⟩

theorem ret_tree {fn : Func} {R : Ending → World → Prop} {a : Act} {w : World} {p : Tmp} (h : fn.results = #[.cell p 59]) (g : Nat) (t : Tr) {ty : TypeId} {fr : Nat × Nat} (hp : a.tmps.getD p undef = .pointer (some ⟨g, 0, none⟩))
    (hg : w.heap[g]? = some (.cells (trA t) ty fr)) (hd : a.defers = []) (hR : R (.returned (.agg (trA t))) w) : bodyPost Try.prog fn R .ret a w :=
  bodyPost_ret (results_cell_row h a.tmps w g ty (trA t) fr _ hp hg Try.underlying59 rfl (by kernel_rfl)) hd hR

set_option maxHeartbeats 2000000 in
theorem eldest_any {B : Nat} {w : World} {p : Nat} {v : Value} {s : Rg} (h : RgAt B w p v s) (hl : s.opn.length ≤ 1000) : Calls Try.prog 27 #[ptrR p] w fun e w' => e = .returned (.agg (trA (eldT s))) ∧ Below w.heap.size w w' := by
  obtain ⟨w1, hw1⟩ : ∃ w1, w.alloc (.cells #[.int .u32 0, .int .u64 0, .int .i64 0] 59) = w1 := ⟨_, rfl⟩
  obtain ⟨w2, hw2⟩ : ∃ w2, w1.alloc (.cells #[.int .u32 0, .int .u64 0, .int .i64 0] 59) = w2 := ⟨_, rfl⟩
  have hB1 : Below w.heap.size w w1 := by rw [← hw1]; exact (Below.refl _ w).alloc (Nat.le_refl _) _
  have hB2 : Below w1.heap.size w1 w2 := by rw [← hw2]; exact (Below.refl _ w1).alloc (Nat.le_refl _) _
  have hB12 := thenB hB1 hB2
  have hs1 : w1.heap.size = w.heap.size + 1 := by rw [← hw1]; simp
  have hs2 : w2.heap.size = w.heap.size + 2 := by rw [← hw2]; simp [hs1]
  have hg1 : w1.heap[w.heap.size]? = some (.cells (trA ⟨0, 0, 0⟩) 59 (0, 0)) := by rw [← hw1]; exact heap_alloc_new w _
  have hg1' := (hB2.block w.heap.size (by omega)).trans hg1
  have hg2 : w2.heap[w.heap.size + 1]? = some (.cells (trA ⟨0, 0, 0⟩) 59 (0, 0)) := by rw [← hw2, ← hs1]; exact heap_alloc_new w1 _
  have ca := askE_any (h.below hB12) hl hg2
  unfold ptrR at *
  have HG1 : Hid _ := hg1'
  have HS1 : Hid (w1.heap.size = w.heap.size + 1) := hs1
  have HS2 : Hid (w2.heap.size = w.heap.size + 2) := hs2
  generalize hE : eldT s = t at *
  obtain ⟨root, ver, chg⟩ := t
  clear hg1 hg1' hg2 hs2 h hE hB2
  go_enter Try.func27, Try.ntmps27
  go_wp2_with fail
  refine ca.mono ?_
  rintro e1 w3 ⟨rfl, h1, h2⟩
  clear ca
  unfold trA at h1
  dsimp only at h1
  have a0 : w3.cell? ⟨w.heap.size + 1, 0, none⟩ = some (.int .u32 root) := by rw [cell_of_row _ _ 0 _ _ (0, 0) h1]; rfl
  have a1 : w3.cell? ⟨w.heap.size + 1, 1, none⟩ = some (.int .u64 ver) := by rw [cell_of_row _ _ 1 _ _ (0, 0) h1]; rfl
  have a2 : w3.cell? ⟨w.heap.size + 1, 2, none⟩ = some (.int .i64 chg) := by rw [cell_of_row _ _ 2 _ _ (0, 0) h1]; rfl
  have hd : w3.heap[w.heap.size]? = some (.cells #[.int .u32 0, .int .u64 0, .int .i64 0] 59 (0, 0)) := (h2.block w.heap.size (by have := HS2.out; omega) (by simp)).trans HG1.out
  have z0 := cell_of_row _ _ 0 _ _ (0, 0) hd
  have z1 := cell_of_row _ _ 1 _ _ (0, 0) hd
  have z2 := cell_of_row _ _ 2 _ _ (0, 0) hd
  have f0 := frozen_of_row w3 w.heap.size 0 _ _ hd
  have f1 := frozen_of_row w3 w.heap.size 1 _ _ hd
  have f2 := frozen_of_row w3 w.heap.size 2 _ _ hd
  simp only [List.getElem?_toArray, List.getElem?_cons_zero, List.getElem?_cons_succ] at z0 z1 z2
  have g1 := heap_setCell_same w3 w.heap.size 0 _ _ (.int .u32 root) hd
  simp only [List.setIfInBounds_toArray, List.set_cons_zero, List.set_cons_succ] at g1
  have g2 := heap_setCell_same _ w.heap.size 1 _ _ (.int .u64 ver) g1
  simp only [List.setIfInBounds_toArray, List.set_cons_zero, List.set_cons_succ] at g2
  have g3 := heap_setCell_same _ w.heap.size 2 _ _ (.int .i64 chg) g2
  simp only [List.setIfInBounds_toArray, List.set_cons_zero, List.set_cons_succ] at g3
  have HG : Hid _ := g3
  have HB : Hid (Below w.heap.size w (((w3.setCell ⟨w.heap.size, 0, none⟩ (.int .u32 root)).setCell ⟨w.heap.size, 1, none⟩ (.int .u64 ver)).setCell ⟨w.heap.size, 2, none⟩ (.int .i64 chg))) :=
    Sole.belowOf (Sole.belowOf hB12 h2 hB12.size (by simp)) ((((Sole.setCell w3 _ (by simp) : Sole [w.heap.size] w3 _)).trans (Sole.setCell _ _ (by simp))).trans (Sole.setCell _ _ (by simp))) (by have := h2.size; have := HS2.out; omega) (by simp)
  clear hd g1 g2 g3 h1
  go_wp2
  exact ret_tree rfl w.heap.size ⟨root, ver, chg⟩ rfl HG.out rfl ⟨rfl, HB.out⟩

theorem field1_any (W : World) (r v c : Int) : (Instr.field 59 (.agg #[.int .u32 r, .int .u64 v, .int .i64 c]) 1).run Try.prog W = .ok (.int .u64 v) W := by kernel_rfl
theorem field2_any (W : World) (r v c : Int) : (Instr.field 59 (.agg #[.int .u32 r, .int .u64 v, .int .i64 c]) 2).run Try.prog W = .ok (.int .i64 c) W := by kernel_rfl

theorem horizon_any {B : Nat} {w : World} {p : Nat} {v : Value} {s : Rg} (h : RgAt B w p v s) (hl : s.opn.length ≤ 1000) : Calls Try.prog 23 #[ptrR p] w fun e w' => e = .returned (.int .u64 (eldT s).ver) ∧ Below w.heap.size w w' := by
  have ce := eldest_any h hl
  have hf := field1_any
  unfold ptrR trA at *
  clear h
  go_enter Try.func23, Try.ntmps23
  go_wp2_with fail
  refine ce.mono ?_
  rintro e1 w1 ⟨rfl, hb⟩
  go_wp2
  go_ret
  exact ⟨rfl, hb⟩

def settleR (s : Rg) : Rg := ⟨s.t, (eldT s).chg, s.last, s.opn⟩

set_option maxHeartbeats 1000000 in
theorem settle_any {B : Nat} {w : World} {p : Nat} {v : Value} {s : Rg} (h : RgAt B w p v s) (hl : s.opn.length ≤ 1000) : Calls Try.prog 17 #[ptrR p] w fun e w' => e = .returned (.tuple #[]) ∧ RgAt B w' p v (settleR s) ∧ Sole [p] w w' := by
  have ce := eldest_any h hl
  have hf := field2_any
  unfold settleR
  unfold ptrR trA at *
  have H : Hid (RgAt B w p v s) := h
  clear h
  go_enter Try.func17, Try.ntmps17
  go_wp2_with fail
  refine ce.mono ?_
  rintro e1 w1 ⟨rfl, hb⟩
  clear ce
  have h1 := H.out.below hb
  have hrow := h1.row
  unfold rgC at hrow
  have z3 : w1.cell? ⟨p, 3, none⟩ = some (.int .i64 s.base) := h1.cell 3 _ rfl
  have f3 := frozen_of_row w1 p 3 _ _ hrow
  have g := heap_setCell_same w1 p 3 _ _ (.int .i64 (eldT s).chg) hrow
  simp only [List.setIfInBounds_toArray, List.set_cons_zero, List.set_cons_succ] at g
  have HG : Hid _ := g
  have H1 : Hid _ := h1
  have hp := h1.lt
  clear hrow g h1
  go_wp2
  go_end0
  have hS : Sole [p] w1 (w1.setCell ⟨p, 3, none⟩ (.int .i64 (eldT s).chg)) := Sole.setCell _ _ (by simp)
  exact ⟨rfl, ⟨HG.out, own_keep H1.out.own hS.size (fun q hq hl => hS.block q hl (by have := (H1.out.apart q hq).1; simpa using this))⟩, (Sole.of_below hb [p]).trans hS⟩

end Go.Proofs.Ytakifnlfgaedjaa
