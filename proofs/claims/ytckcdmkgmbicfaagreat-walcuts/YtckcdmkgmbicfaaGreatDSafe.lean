/- makeSafe, settle. -/
import Derived.Test.YtckcdmkgmbicfaaGreatDSmall
import Derived.Great.BuildSlice
import Derived.StillTailTactics
namespace Go.Proofs.YtckcdmkgmbicfaaGreat
open Go.RowKit Go.Maps
set_option linter.unusedVariables false

theorem MapAt.drew {w : World} {b : Nat} {M : Int → Option (List Int)} (h : MapAt w b M) : MapAt w.drew b M := h.same rfl

/-- 'delete(m, k)' in a walk. -/
theorem wpList_drop {w : World} {ops : Array Oper} {rest : List Oper} {o : Oper} {a : Act} {Q : Exit → Act → World → Prop} (hg : o.guard = none) (m x : Operand)
    (hop : o.op = Op.call { callee := Callee.builtin Builtin.delete, args := #[m, x], argTypes := #[65, 3] }) (b : Nat) (M : Int → Option (List Int)) (hm : a.eval m = .map (some b)) (hM : MapAt w b M) (i : Int) (hx : a.eval x = .int .i64 i) (h0 : 0 ≤ i) (h1 : i < 1024)
    (hK : ∀ w', MapAt w' b (upd M i none) → w.grownBy w' (some b) → w'.heap.size = w.heap.size → wpList Tryz.prog ops Q rest (a.put o.dst (.tuple #[])) w') :
    wpList Tryz.prog ops Q (o :: rest) a w := by
  refine wpList_plain hg fun K' hK' => ?_
  obtain ⟨w', hrun, r1, r2, r3⟩ := hM.drop h0 h1 o.type
  unfold Oper.wp
  simp [execOp, hop, resolve, invoke, builtin, hm, hx, hrun, Result.andThen]
  exact hK' _ _ (hK w' r1 r2 r3)

/-- A block's bytes, wherever they lie. -/
theorem run_loadB {W : World} {b off : Nat} {xs : List Int} (hl : xs.length = 512) (hc : ∀ i, i < xs.length → W.cell? ⟨b, off + i, none⟩ = some (.int .u8 (xs.getD i 0))) :
    (loadVar 136 ⟨b, off, none⟩).run Tryz.prog W = .ok (.agg (bytesV xs)) W := by
  have h := run_loadCells_list (P := Tryz.prog) W ⟨b, off, none⟩ (xs.map (Value.int .u8)) (fun j v hv => by
    have hj : j < xs.length := by
      rcases Nat.lt_or_ge j xs.length with h | h
      · exact h
      · rw [List.getElem?_eq_none (by simpa using h)] at hv; cases hv
    have hadd : (⟨b, off, none⟩ : Addr).add j = ⟨b, off + j, none⟩ := by unfold Addr.add; split <;> simp_all
    rw [hadd, hc j hj, ← hv]
    simp [List.getElem?_eq_getElem hj])
  have hs : (Go.sizeOf 136).run Tryz.prog W = .ok (xs.map (Value.int .u8)).length W := by
    rw [List.length_map, hl]
    exact Tryz.sizeOf136 W
  unfold loadVar
  rw [Sem.run_bind, Tryz.isAgg136 W]
  simp only [Result.andThen_ok, if_true, Sem.run_bind, hs, h, Sem.run_pure]
  rfl

theorem cells_row {W : World} {g : Nat} {xs : List Int} {t : TypeId} {fr : Nat × Nat} (h : W.heap[g]? = some (.cells (bytesV xs) t fr)) (i : Nat) (hi : i < xs.length) : W.cell? ⟨g, 0 + i, none⟩ = some (.int .u8 (xs.getD i 0)) := by
  rw [Nat.zero_add, cell_of_row _ _ i (bytesV xs) t fr h]
  simp [bytesV, List.getElem?_eq_getElem hi]

theorem wpStill_loadB {ops : Array Oper} {w : World} {Q : Act → Prop} {a : Act} {o : Oper} {rest : List Oper} (hg : o.guard = none) (x : Operand) (ho : o.op = .load 136 x)
    (b off : Nat) (hx : a.eval x = .pointer (some ⟨b, off, none⟩)) (xs : List Int) (hl : xs.length = 512) (hc : ∀ i, i < xs.length → w.cell? ⟨b, off + i, none⟩ = some (.int .u8 (xs.getD i 0)))
    (h : wpStill Tryz.prog ops w Q rest (a.put o.dst (.agg (bytesV xs)))) : wpStill Tryz.prog ops w Q (o :: rest) a := by
  refine wpStill_step fun K hK => ?_
  rw [if_pos (show Region.wanted o (yielded ops a.tmps) = true by simp [Region.wanted, hg])]
  unfold Oper.still execOp
  simp only [ho, hx, Instr.loadAt, Instr.sureAddr, Sem.run_bind, Sem.run_pure, Result.andThen_ok, run_loadB hl hc]
  exact ⟨rfl, hK _ h⟩

/-- 'm[k] = v' in a walk. -/
theorem wpList_put {w : World} {ops : Array Oper} {rest : List Oper} {o : Oper} {a : Act} {Q : Exit → Act → World → Prop} (hg : o.guard = none) (m x v : Operand)
    (hop : o.op = Op.mapUpdate 65 m x v) (b : Nat) (M : Int → Option (List Int)) (hm : a.eval m = .map (some b)) (hM : MapAt w b M) (i : Int) (hx : a.eval x = .int .i64 i) (h0 : 0 ≤ i) (h1 : i < 1024) (c : List Int) (hv : a.eval v = .agg (bytesV c)) (hc : Blk c)
    (hK : ∀ w', MapAt w' b (upd M i (some c)) → w.grownBy w' (some b) → w'.heap.size = w.heap.size → wpList Tryz.prog ops Q rest (a.put o.dst undef) w') :
    wpList Tryz.prog ops Q (o :: rest) a w := by
  refine wpList_plain hg fun K' hK' => ?_
  obtain ⟨w', hrun, r1, r2, r3⟩ := hM.write h0 h1 hc
  unfold Oper.wp
  simp [execOp, hop, hm, hx, hv, hrun, Result.andThen]
  exact hK' _ _ (hK w' r1 r2 r3)

/-- What is safe where a block was made so. -/
def safeSt (s : St) (i : Int) (c : List Int) : St := { s with safe := upd s.safe i c }

theorem good_safe {s : St} (h : Good s) {i : Int} {c : List Int} (hc : Blk c) : Good (safeSt s i c) := by
  refine ⟨h.b0, h.b1, fun j => ?_, h.pend, h.l0, h.l1, h.w0, h.w1, h.mz⟩
  show Blk (upd s.safe i c j)
  by_cases e : j = i
  · subst e; rw [upd_same]; exact hc
  · rw [upd_other _ _ _ e]; exact h.safe j

set_option maxRecDepth 100000 in
set_option maxHeartbeats 2000000 in
theorem disk_makeSafe {w : World} {p bs bp : Nat} {s : St} (h : DiskAt w p bs bp s) (i : Int) (h0 : 0 ≤ i) (h1 : i < s.blocks) (c : List Int) (hc : Blk c) :
    Calls Tryz.prog 76 #[ptr p, .int .i64 i, .agg (bytesV c)] w fun e w' => e = .returned (.tuple #[]) ∧ DiskAt w' p bs bp (safeSt s i c) ∧ Sole [bs] w w' := by
  have hi2 : i < 1024 := by have := h.good.b1; omega
  obtain ⟨w1, hw1⟩ : ∃ w1, w.alloc (.cells (bytesV c) 136) = w1 := ⟨_, rfl⟩
  have hB : Below w.heap.size w w1 := by rw [← hw1]; exact (Below.refl _ w).alloc (Nat.le_refl _) _
  have hg1 : w1.heap[w.heap.size]? = some (.cells (bytesV c) 136 (0, 0)) := by rw [← hw1]; exact heap_alloc_new w _
  have H1 : Hid (w1.heap[w.heap.size]? = some (.cells (bytesV c) 136 (0, 0))) := hg1
  have HI : Hid ((Tryz.prog.info? 136).map (·.size) = some (bytesV c).size) := by
    unfold Hid; rw [bytesV_size, hc.1]; kernel_rfl
  have h' := h.below hB
  have c1 := h'.c1
  obtain ⟨M, hM, hsM⟩ := h'.safe
  have HM : Hid (MapAt w1 bs M) := hM
  have HS : Hid (∀ i, s.safe i = (M i).getD zeroB) := hsM
  have heq := fun W => eq_blocks W hc blk_zero
  have hlt := h.lt
  have hs1 := hB.size
  unfold ptr
  by_cases hz : c = zeroB
  · have heq' : ∀ W, (binOp .eql 136 (.agg (bytesV c)) (.agg (bytesV zeroB))).run Tryz.prog W = .ok (.bool true) W := fun W => by rw [heq W]; simp [hz]
    clear heq
    have HZ : Hid (c = zeroB) := hz
    clear hz hM hsM hg1 hlt hs1
    go_enter Tryz.func76, Tryz.ntmps76
    go_wp2_with (first
      | (refine wpList_load_row rfl 136 _ rfl w.heap.size rfl 136 (bytesV c) (0, 0) _ H1.out Tryz.underlying136 rfl HI.out ?_)
      | (refine wpList_buildTo rfl 136 #[] rfl _ rfl (bytesV zeroB) (by kernel_rfl) ?_)
      | (refine wpList_drop rfl _ _ rfl bs M rfl HM.out i rfl h0 hi2 ?_; intro w2 hM2 hgr2 hsz2))
    refine bodyPost_ret (results_none rfl _ _ _) rfl ?_
    refine ⟨rfl, ?_, (Sole.of_below hB _).trans (Sole.of_grown hgr2 (by simp))⟩
    refine h'.safeTurn hM2 hgr2 (fun j => ?_) (good_safe h.good hc).safe
    show upd s.safe i c j = _
    by_cases e : j = i
    · subst e; rw [upd_same, upd_same, HZ.out]; rfl
    · rw [upd_other _ _ _ e, upd_other _ _ _ e]; exact HS.out j
  · have heq' : ∀ W, (binOp .eql 136 (.agg (bytesV c)) (.agg (bytesV zeroB))).run Tryz.prog W = .ok (.bool false) W := fun W => by rw [heq W]; simp [hz]
    clear heq
    have HC : Hid (∀ i, i < c.length → w1.drew.cell? ⟨w.heap.size, 0 + i, none⟩ = some (.int .u8 (c.getD i 0))) := cells_row hg1
    clear hz hM hsM hg1 hlt hs1
    go_enter Tryz.func76, Tryz.ntmps76
    go_wp2_with (first
      | (refine wpList_load_row rfl 136 _ rfl w.heap.size rfl 136 (bytesV c) (0, 0) _ H1.out Tryz.underlying136 rfl HI.out ?_)
      | (refine wpList_buildTo rfl 136 #[] rfl _ rfl (bytesV zeroB) (by kernel_rfl) ?_))
    refine wp_region_still_tail 6 (by kernel_rfl) (by kernel_rfl) ?_
    change wpStill _ _ w1.drew (fun a' => wpList _ _ _ _ a' w1.drew) _ _
    simp only [List.take_succ_cons, List.take_zero, List.drop_succ_cons, List.drop_zero]
    still_step
    still_step
    still_step
    still_step
    still_step
    refine wpStill_loadB rfl _ rfl w.heap.size 0 rfl c hc.1 HC.out ?_
    refine wpStill_nil ?_
    refine wpList_put rfl _ _ _ rfl bs M rfl HM.out.drew i rfl h0 hi2 c rfl hc ?_
    intro w2 hM2 hgr2 hsz2
    go_wp2_with fail
    go_end0
    have hgr3 : w1.grownBy w2 (some bs) := ⟨hgr2.os, hgr2.tape, hgr2.output, hgr2.size, hgr2.block⟩
    refine ⟨rfl, ?_, (Sole.of_below hB _).trans (Sole.of_grown hgr3 (by simp))⟩
    refine h'.safeTurn hM2 hgr3 (fun j => ?_) (good_safe h.good hc).safe
    show upd s.safe i c j = _
    by_cases e : j = i
    · subst e; rw [upd_same, upd_same]; rfl
    · rw [upd_other _ _ _ e, upd_other _ _ _ e]; exact HS.out j

end Go.Proofs.YtckcdmkgmbicfaaGreat
