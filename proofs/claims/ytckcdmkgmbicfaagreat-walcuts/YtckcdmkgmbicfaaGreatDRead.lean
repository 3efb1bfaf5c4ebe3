/- Read, Clone. -/
import Derived.Test.YtckcdmkgmbicfaaGreatDWrite
import Derived.Test.YtckcdmkgmbicfaaGreatDBar
import Derived.Shelf.SlMaps.Clone
import Derived.Ground.SlmcProg
namespace Go.Proofs.YtckcdmkgmbicfaaGreat
open Go.RowKit Go.Maps Go.Shelf Go.Proofs
set_option linter.unusedVariables false

/-- How a block is read. -/
def seen (s : St) (i : Int) : List Int := (s.pend i).getD (s.safe i)

theorem seen_blk {s : St} (h : Good s) (i : Int) : Blk (seen s i) := by
  unfold seen
  cases hp : s.pend i with
  | none => exact h.safe i
  | some c => exact (h.pend i c hp).2.2

theorem disk_Read_err {w : World} {p bs bp : Nat} {s : St} (h : DiskAt w p bs bp s) (i : Int) (h0 : -9223372036854775808 ≤ i) (h1 : i ≤ 9223372036854775807) (hu : useErr s i ≠ 0) :
    Calls Tryz.prog 106 #[ptr p, .int .i64 i] w fun e w' => e = .returned (.tuple #[.slice none 0 0, .int .i64 (useErr s i)]) ∧ w' = w := by
  have hmu := disk_mayUse h i h0 h1
  generalize useErr s i = u at *
  unfold ptr at hmu ⊢
  go_enter Tryz.func106, Tryz.ntmps106
  go_wp2_with fail
  refine hmu.mono ?_
  rintro e w0 ⟨rfl, rfl⟩
  go_wp2_with fail
  go_ret2
  exact ⟨rfl, rfl⟩

theorem wpList_storeB {w : World} {ops : Array Oper} {rest : List Oper} {o : Oper} {a : Act} {Q : Exit → Act → World → Prop} (hg : o.guard = none) (x y : Operand) (ho : o.op = .store 136 x y)
    (hx : a.eval x = .pointer (some ⟨w.heap.size, 0, none⟩)) (c old : List Int) (hy : a.eval y = .agg (bytesV c)) (hc : c.length = 512) (hold : old.length = 512)
    (h : wpList Tryz.prog ops Q rest (a.put o.dst undef) (w.alloc (.cells (bytesV c) 136))) : wpList Tryz.prog ops Q (o :: rest) a (w.alloc (.cells (bytesV old) 136)) := by
  refine wpList_store_row hg 136 x y ho w.heap.size (bytesV c) hx hy 136 (bytesV old) (heap_alloc_new w _) (by rw [bytesV_size, hc]; kernel_rfl) (by rw [bytesV_size, bytesV_size, hc, hold]) ?_ ?_
  · exact Array.all_eq_true_iff_forall_mem.2 (fun u hu => ints_oneCell .u8 c u (by simpa [bytesV] using hu))
  · rw [World.setRow_alloc_new]; exact h

theorem slice_block {w : World} {c : List Int} (hc : c.length = 512) : (Instr.sliceAt 136 (.pointer (some ⟨w.heap.size, 0, none⟩)) none none none).run Tryz.prog (w.alloc (.cells (bytesV c) 136)) = .ok (.slice (some ⟨w.heap.size, 0, none⟩) 512 512) (w.alloc (.cells (bytesV c) 136)) := by
  simp [Instr.sliceAt, run_underlying Tryz.underlying136, go_sem]

set_option maxRecDepth 100000 in
set_option maxHeartbeats 4000000 in
theorem disk_Read_ok {w : World} {p bs bp : Nat} {s : St} (h : DiskAt w p bs bp s) (i : Int) (h0 : -9223372036854775808 ≤ i) (h1 : i ≤ 9223372036854775807) (hu : useErr s i = 0) :
    Calls Tryz.prog 106 #[ptr p, .int .i64 i] w fun e w' => e = .returned (.tuple #[.slice (some ⟨w.heap.size, 0, none⟩) 512 512, .int .i64 0]) ∧ w' = w.alloc (.cells (bytesV (seen s i)) 136) := by
  have hmu := disk_mayUse h i h0 h1
  rw [hu] at hmu
  have c1 := h.c1
  have c2 := h.c2
  obtain ⟨M, hM, hsM⟩ := h.safe
  have HP : Hid (MapAt w bp s.pend) := h.pend
  have HM : Hid (MapAt w bs M) := hM
  have hza : ∀ W : World, (zeroValue 136).run Tryz.prog W = .ok (.agg (bytesV zeroB)) W := zeroBlock
  have c1' := (h.below (((Below.refl _ w).alloc (Nat.le_refl _) (.cells (bytesV zeroB) 136)))).c1
  unfold ptr at hmu ⊢
  cases hp : s.pend i with
  | none =>
    have hse : seen s i = (M i).getD zeroB := by unfold seen; rw [hp]; exact hsM i
    rw [hse]
    have hf : (s.pend i).isSome = false := by rw [hp]; rfl
    have hz : (s.pend i).getD zeroB = zeroB := by rw [hp]; rfl
    clear hu hM hsM hp hse
    go_enter Tryz.func106, Tryz.ntmps106
    go_wp2_with fail
    refine hmu.mono ?_
    rintro e w0 ⟨rfl, rfl⟩
    have hl1 : ((s.pend i).getD zeroB).length = 512 := by rw [hz]; rfl
    have hl2 : ((M i).getD zeroB).length = 512 := by
      cases hm : M i with
      | none => rfl
      | some x => exact (HM.out.bound hm).2.2.1
    have hl0 : zeroB.length = 512 := rfl
    go_wp2_with (first
      | (refine wpList_lookOk rfl _ _ rfl bp s.pend rfl HP.out i rfl h0 h1 ?_)
      | (refine wpList_storeB rfl _ _ rfl rfl zeroB zeroB rfl hl0 hl0 ?_)
      | (refine wpList_look rfl _ _ rfl bs M rfl (HM.out.same (Below.heap_alloc _ _ _ HM.out.lt)) i rfl h0 h1 ?_)
      | (refine wpList_storeB rfl _ _ rfl rfl ((M i).getD zeroB) zeroB rfl hl2 hl0 ?_))
    go_ret2
    exact ⟨rfl, rfl⟩
  | some c =>
    have hse : seen s i = c := by unfold seen; rw [hp]; rfl
    rw [hse]
    have hf : (s.pend i).isSome = true := by rw [hp]; rfl
    have hz : (s.pend i).getD zeroB = c := by rw [hp]; rfl
    have hlc : c.length = 512 := (HP.out.bound hp).2.2.1
    clear hu hM hsM hp hse
    go_enter Tryz.func106, Tryz.ntmps106
    go_wp2_with fail
    refine hmu.mono ?_
    rintro e w0 ⟨rfl, rfl⟩
    have hl0 : zeroB.length = 512 := rfl
    go_wp2_with (first
      | (refine wpList_lookOk rfl _ _ rfl bp s.pend rfl HP.out i rfl h0 h1 ?_)
      | (refine wpList_storeB rfl _ _ rfl rfl c zeroB rfl hlc hl0 ?_))
    go_ret2
    exact ⟨rfl, rfl⟩

theorem rd_block (w : World) {c : List Int} (hc : Blk c) : Rd (w.alloc (.cells (bytesV c) 136)) (.slice (some ⟨w.heap.size, 0, none⟩) 512 512) c := by
  refine ⟨_, 512, by rw [hc.1], by rw [hc.1]; omega, by unfold maxLen; omega, (by intro e; cases e), fun _ => ⟨_, 0, rfl, by simp, fun i hi => ?_⟩⟩
  exact cells_row (heap_alloc_new w _) i hi

theorem disk_Read_rd {w : World} {p bs bp : Nat} {s : St} (h : DiskAt w p bs bp s) (i : Int) (h0 : -9223372036854775808 ≤ i) (h1 : i ≤ 9223372036854775807) (hu : useErr s i = 0) :
    Calls Tryz.prog 106 #[ptr p, .int .i64 i] w fun e w' => ∃ g, e = .returned (.tuple #[.slice (some ⟨g, 0, none⟩) 512 512, .int .i64 0]) ∧ w.heap.size ≤ g ∧ w'.heap[g]? = some (.cells (bytesV (seen s i)) 136 (0, 0)) ∧ Rd w' (.slice (some ⟨g, 0, none⟩) 512 512) (seen s i) ∧ Below w.heap.size w w' := by
  refine (disk_Read_ok h i h0 h1 hu).mono ?_
  rintro e w' ⟨rfl, rfl⟩
  exact ⟨_, rfl, Nat.le_refl _, heap_alloc_new w _, rd_block w (seen_blk h.good i), (Below.refl _ w).alloc (Nat.le_refl _) _⟩

end Go.Proofs.YtckcdmkgmbicfaaGreat
