/- Read, Clone. -/
import Derived.Test.YthgdbjpefjjeaaaGreatDWrite
import Derived.Test.YthgdbjpefjjeaaaGreatDBar
import Derived.Shelf.SlMaps.Clone
import Derived.Ground.SlmcProg
namespace Go.Proofs.YthgdbjpefjjeaaaGreat
open Go.RowKit Go.Maps Go.Shelf Go.Proofs
set_option linter.unusedVariables false

/-- How a block is read. -/
def seen (s : St) (i : Int) : List Int := (s.pend i).getD (s.safe i)

theorem seen_blk {s : St} (h : Good s) (i : Int) : Blk (seen s i) := by
  unfold seen
  cases hp : s.pend i with
  | none => exact h.safe i
  | some c => exact (h.pend i c hp).2.2

theorem disk_Read_err {w : World} {p bs bp : Nat} {s : St} (h : DiskAt w p bs bp s) (i : Int) (h0 : -9223372036854775808 ≤ i) (h1 : i ≤ 9223372036854775807) (hu : useErr s i ≠ 0) :
    Calls Tryz.prog 57 #[ptr p, .int .i64 i] w fun e w' => e = .returned (.tuple #[.slice none 0 0, .int .i64 (useErr s i)]) ∧ w' = w := by
  have hmu := disk_mayUse h i h0 h1
  generalize useErr s i = u at *
  unfold ptr at hmu ⊢
  go_enter Tryz.func57, Tryz.ntmps57
  go_wp2_with fail
  refine hmu.mono ?_
  rintro e w0 ⟨rfl, rfl⟩
  go_wp2_with fail
  go_ret2
  exact ⟨rfl, rfl⟩

theorem wpList_storeB {w : World} {ops : Array Oper} {rest : List Oper} {o : Oper} {a : Act} {Q : Exit → Act → World → Prop} (hg : o.guard = none) (x y : Operand) (ho : o.op = .store 121 x y)
    (hx : a.eval x = .pointer (some ⟨w.heap.size, 0, none⟩)) (c old : List Int) (hy : a.eval y = .agg (bytesV c)) (hc : c.length = 512) (hold : old.length = 512)
    (h : wpList Tryz.prog ops Q rest (a.put o.dst undef) (w.alloc (.cells (bytesV c) 121))) : wpList Tryz.prog ops Q (o :: rest) a (w.alloc (.cells (bytesV old) 121)) := by
  refine wpList_store_row hg 121 x y ho w.heap.size (bytesV c) hx hy 121 (bytesV old) (heap_alloc_new w _) (by rw [bytesV_size, hc]; kernel_rfl) (by rw [bytesV_size, bytesV_size, hc, hold]) ?_ ?_
  · exact Array.all_eq_true_iff_forall_mem.2 (fun u hu => ints_oneCell .u8 c u (by simpa [bytesV] using hu))
  · rw [World.setRow_alloc_new]; exact h

theorem slice_block {w : World} {c : List Int} (hc : c.length = 512) : (Instr.sliceAt 121 (.pointer (some ⟨w.heap.size, 0, none⟩)) none none none).run Tryz.prog (w.alloc (.cells (bytesV c) 121)) = .ok (.slice (some ⟨w.heap.size, 0, none⟩) 512 512) (w.alloc (.cells (bytesV c) 121)) := by
  simp [Instr.sliceAt, run_underlying Tryz.underlying121, go_sem]

set_option maxRecDepth 100000 in
set_option maxHeartbeats 4000000 in
theorem disk_Read_ok {w : World} {p bs bp : Nat} {s : St} (h : DiskAt w p bs bp s) (i : Int) (h0 : -9223372036854775808 ≤ i) (h1 : i ≤ 9223372036854775807) (hu : useErr s i = 0) :
    Calls Tryz.prog 57 #[ptr p, .int .i64 i] w fun e w' => e = .returned (.tuple #[.slice (some ⟨w.heap.size, 0, none⟩) 512 512, .int .i64 0]) ∧ w' = w.alloc (.cells (bytesV (seen s i)) 121) := by
  have hmu := disk_mayUse h i h0 h1
  rw [hu] at hmu
  have c1 := h.c1
  have c2 := h.c2
  obtain ⟨M, hM, hsM⟩ := h.safe
  have HP : Hid (MapAt w bp s.pend) := h.pend
  have HM : Hid (MapAt w bs M) := hM
  have hza : ∀ W : World, (zeroValue 121).run Tryz.prog W = .ok (.agg (bytesV zeroB)) W := zeroBlock
  have c1' := (h.below (((Below.refl _ w).alloc (Nat.le_refl _) (.cells (bytesV zeroB) 121)))).c1
  unfold ptr at hmu ⊢
  cases hp : s.pend i with
  | none =>
    have hse : seen s i = (M i).getD zeroB := by unfold seen; rw [hp]; exact hsM i
    rw [hse]
    have hf : (s.pend i).isSome = false := by rw [hp]; rfl
    have hz : (s.pend i).getD zeroB = zeroB := by rw [hp]; rfl
    clear hu hM hsM hp hse
    go_enter Tryz.func57, Tryz.ntmps57
    go_wp2_with fail
    refine hmu.mono ?_
    rintro e w0 ⟨rfl, rfl⟩
    have hl1 : ((s.pend i).getD zeroB).length = 512 := by rw [hz]; rfl
    have hl2 : ((M i).getD zeroB).length = 512 := by
      cases hm : M i with
      | none => rfl
      | some x => exact (HM.out.bound hm).2.2.1
    have hl0 : zeroB.length = 512 := rfl
    go_wp2_with (first
      | (refine wpList_lookOk rfl _ _ rfl bp s.pend rfl HP.out i rfl h0 h1 ?_)
      | (refine wpList_storeB rfl _ _ rfl rfl zeroB zeroB rfl hl0 hl0 ?_)
      | (refine wpList_look rfl _ _ rfl bs M rfl (HM.out.same (Below.heap_alloc _ _ _ HM.out.lt)) i rfl h0 h1 ?_)
      | (refine wpList_storeB rfl _ _ rfl rfl ((M i).getD zeroB) zeroB rfl hl2 hl0 ?_))
    go_ret2
    exact ⟨rfl, rfl⟩
  | some c =>
    have hse : seen s i = c := by unfold seen; rw [hp]; rfl
    rw [hse]
    have hf : (s.pend i).isSome = true := by rw [hp]; rfl
    have hz : (s.pend i).getD zeroB = c := by rw [hp]; rfl
    have hlc : c.length = 512 := (HP.out.bound hp).2.2.1
    clear hu hM hsM hp hse
    go_enter Tryz.func57, Tryz.ntmps57
    go_wp2_with fail
    refine hmu.mono ?_
    rintro e w0 ⟨rfl, rfl⟩
    have hl0 : zeroB.length = 512 := rfl
    go_wp2_with (first
      | (refine wpList_lookOk rfl _ _ rfl bp s.pend rfl HP.out i rfl h0 h1 ?_)
      | (refine wpList_storeB rfl _ _ rfl rfl c zeroB rfl hlc hl0 ?_))
    go_ret2
    exact ⟨rfl, rfl⟩

theorem rd_block (w : World) {c : List Int} (hc : Blk c) : Rd (w.alloc (.cells (bytesV c) 121)) (.slice (some ⟨w.heap.size, 0, none⟩) 512 512) c := by
  refine ⟨_, 512, by rw [hc.1], by rw [hc.1]; omega, by unfold maxLen; omega, (by intro e; cases e), fun _ => ⟨_, 0, rfl, by simp, fun i hi => ?_⟩⟩
  exact cells_row (heap_alloc_new w _) i hi

theorem disk_Read_rd {w : World} {p bs bp : Nat} {s : St} (h : DiskAt w p bs bp s) (i : Int) (h0 : -9223372036854775808 ≤ i) (h1 : i ≤ 9223372036854775807) (hu : useErr s i = 0) :
    Calls Tryz.prog 57 #[ptr p, .int .i64 i] w fun e w' => ∃ g, e = .returned (.tuple #[.slice (some ⟨g, 0, none⟩) 512 512, .int .i64 0]) ∧ w.heap.size ≤ g ∧ w'.heap[g]? = some (.cells (bytesV (seen s i)) 121 (0, 0)) ∧ Rd w' (.slice (some ⟨g, 0, none⟩) 512 512) (seen s i) ∧ Below w.heap.size w w' := by
  refine (disk_Read_ok h i h0 h1 hu).mono ?_
  rintro e w' ⟨rfl, rfl⟩
  exact ⟨_, rfl, Nat.le_refl _, heap_alloc_new w _, rd_block w (seen_blk h.good i), (Below.refl _ w).alloc (Nat.le_refl _) _⟩

def Tryz.cloneA_ren : Go.Shelf.Ren := ⟨fun | 5 => 163 | 7 => 164 | n => n, fun | 23 => 62 | 25 => 3 | 3 => 121 | 4 => 4 | 20 => 20 | n => n, fun | n => n⟩
theorem Tryz.cloneA : Go.Proofs.SlLaysW.n5 Tryz.prog Tryz.cloneA_ren := {
  mixed := by kernel_rfl
  f5 := ⟨Tryz.f163.name, by decide, Tryz.func163.trans (congrArg some (by kernel_rfl))⟩
  f7 := Tryz.func164.trans (congrArg some (by kernel_rfl))
  t4 := Tryz.underlying4
  a4 := Tryz.isAgg4
  z4 := Tryz.sizeOf4
  v4 := Tryz.zeroValue4
  t20 := Tryz.underlying20
  a20 := Tryz.isAgg20
  z20 := Tryz.sizeOf20
  v20 := Tryz.zeroValue20
  t23 := Tryz.underlying62
  a23 := Tryz.isAgg62
  z23 := Tryz.sizeOf62
  v23 := Tryz.zeroValue62 }

theorem clone_map {w : World} {b : Nat} {M : Int → Option (List Int)} (h : MapAt w b M) :
    Calls Tryz.prog 163 #[.map (some b)] w fun e w' => e = .returned (.map (some w.heap.size)) ∧ MapAt w' w.heap.size M ∧ Below w.heap.size w w' ∧ w'.heap.size = w.heap.size + 1 := by
  obtain ⟨es, cl, hb⟩ := h.is
  refine (AnyW.maps_Clone Tryz.cloneA b es cl w hb).mono ?_
  rintro e w' ⟨rfl, rfl⟩
  exact ⟨rfl, h.copied hb, (Below.refl _ w).alloc (Nat.le_refl _) _, by simp⟩

set_option maxHeartbeats 4000000 in
theorem disk_Clone {w : World} {p bs bp : Nat} {s : St} (h : DiskAt w p bs bp s) :
    Calls Tryz.prog 161 #[ptr p] w fun e w' => e = .returned (ptr w.heap.size) ∧ DiskAt w' w.heap.size (w.heap.size + 1) (w.heap.size + 2) s ∧ Below w.heap.size w w' := by
  have c0 := h.c0
  have c1 := h.c1
  have c2 := h.c2
  have c3 := h.c3
  have c4 := h.c4
  have c5 := h.c5
  have c6 := h.c6
  have c7 := h.c7
  obtain ⟨M, hM, hsM⟩ := h.safe
  obtain ⟨w1, hw1⟩ : ∃ w1, w.alloc (.cells (cellsOf bs bp s) 66) = w1 := ⟨_, rfl⟩
  have hB1 : Below w.heap.size w w1 := by rw [← hw1]; exact (Below.refl _ w).alloc (Nat.le_refl _) _
  have hs1 : w1.heap.size = w.heap.size + 1 := by rw [← hw1]; simp
  have hr1 : w1.heap[w.heap.size]? = some (.cells (cellsOf bs bp s) 66 (0, 0)) := by rw [← hw1]; exact heap_alloc_new w _
  have h1 := h.below hB1
  have d1 := h1.c1
  have hM1 := hM.same (hB1.block bs h.lt.2.1)
  have hcl1 := clone_map hM1
  have hltp := h.lt
  rw [hs1] at hcl1
  have HS1 : Hid (w1.heap.size = w.heap.size + 1) := hs1
  have HL : Hid (p < w.heap.size ∧ bs < w.heap.size ∧ bp < w.heap.size) := hltp
  have HG : Hid (Good s ∧ ∀ i, s.safe i = (M i).getD zeroB) := ⟨h.good, hsM⟩
  have HP : Hid (MapAt w bp s.pend) := h.pend
  unfold cellsOf at hw1
  have hr1' := trivial
  have HR : Hid (w1.heap[w.heap.size]? = some (.cells (cellsOf bs bp s) 66 (0, 0))) := hr1
  clear hr1 hs1 hM1 hM hsM h h1 hltp
  unfold ptr
  go_enter Tryz.func161, Tryz.ntmps161
  go_wp2_with fail
  refine hcl1.mono ?_
  rintro e w2 ⟨rfl, hM2, hB2, hs2⟩
  have hr2 : w2.heap[w.heap.size]? = some (.cells (cellsOf bs bp s) 66 (0, 0)) := (hB2.block _ (by omega)).trans HR.out
  have k1 : w2.cell? ⟨w.heap.size, 1, none⟩ = some (.map (some bs)) := by rw [cell_of_row _ _ 1 _ _ (0, 0) hr2]; rfl
  have l1 : w2.frozen? ⟨w.heap.size, 1, none⟩ = false := by simp [World.frozen?, hr2]
  obtain ⟨w3, hw3⟩ : ∃ w3, w2.setCell ⟨w.heap.size, 1, none⟩ (.map (some (w.heap.size + 1))) = w3 := ⟨_, rfl⟩
  have hS3 : Sole [w.heap.size] w2 w3 := by rw [← hw3]; exact Sole.setCell _ _ (by simp)
  have hs3 : w3.heap.size = w.heap.size + 2 := by rw [← hw3]; simp [World.setCell]; omega
  have hr3 : w3.heap[w.heap.size]? = some (.cells (cellsOf (w.heap.size + 1) bp s) 66 (0, 0)) := by
    rw [← hw3, heap_setCell_same w2 _ _ _ _ _ hr2]
    simp [cellsOf]
  have hlt := HL.out
  have hM3 : MapAt w3 (w.heap.size + 1) M := hM2.same (hS3.block _ (by omega) (by simp))
  have hP3 : MapAt w3 bp s.pend := HP.out.same (by rw [hS3.block bp (by omega) (by simp; omega), hB2.block bp (by omega), hB1.block bp (by omega)])
  have d2 : w3.cell? ⟨p, 2, none⟩ = some (.map (some bp)) := by
    rw [← c2]
    refine World.cell?_of_block ?_
    show w3.heap[p]? = w.heap[p]?
    rw [hS3.block p (by omega) (by simp; omega), hB2.block p (by omega), hB1.block p (by omega)]
  have hcl2 := clone_map hP3
  rw [hs3] at hcl2
  have HR3 : Hid (w3.heap[w.heap.size]? = some (.cells (cellsOf (w.heap.size + 1) bp s) 66 (0, 0))) := hr3
  have HM3 : Hid (MapAt w3 (w.heap.size + 1) M) := hM3
  have HS3 : Hid (w3.heap.size = w.heap.size + 2) := hs3
  have HL2 : Hid (w2.heap.size = w.heap.size + 2) := by unfold Hid; omega
  clear hr2 hr3 hM2 hM3 hP3 hs3 hs2 hlt
  go_wp2_with fail
  refine hcl2.mono ?_
  rintro e w4 ⟨rfl, hM4, hB4, hs4⟩
  have hr4 : w4.heap[w.heap.size]? = some (.cells (cellsOf (w.heap.size + 1) bp s) 66 (0, 0)) := (hB4.block _ (by omega)).trans HR3.out
  have k2 : w4.cell? ⟨w.heap.size, 2, none⟩ = some (.map (some bp)) := by rw [cell_of_row _ _ 2 _ _ (0, 0) hr4]; rfl
  have l2 : w4.frozen? ⟨w.heap.size, 2, none⟩ = false := by simp [World.frozen?, hr4]
  have HR4 : Hid (w4.heap[w.heap.size]? = some (.cells (cellsOf (w.heap.size + 1) bp s) 66 (0, 0))) := hr4
  have HS4 : Hid (w4.heap.size = w.heap.size + 2 + 1) := hs4
  clear hr4 hs4
  go_wp2_with fail
  go_ret
  have hS5 : Sole [w.heap.size] w4 (w4.setCell ⟨w.heap.size, 2, none⟩ (.map (some (w.heap.size + 2)))) := Sole.setCell _ _ (by simp)
  have hs4 := HS4.out
  have hl2 := HL2.out
  have hs3 := HS3.out
  have hs1 := HS1.out
  refine ⟨rfl, ⟨?_, ⟨M, HM3.out.same ?_, HG.out.2⟩, hM4.same (hS5.block _ (by omega) (by simp)), by omega, HG.out.1⟩, ?_⟩
  · rw [heap_setCell_same w4 _ _ _ _ _ HR4.out]
    simp [cellsOf]
  · rw [hS5.block _ (by omega) (by simp), hB4.block _ (by omega)]
  · have q1 : Sole [] w w1 := Sole.of_below hB1 _
    have q2 : Sole [w.heap.size] w1 w2 := ⟨hB2.os, hB2.tape, hB2.output, hB2.size, fun k hk _ => hB2.block k (by omega)⟩
    have q4 : Sole [w.heap.size] w3 w4 := ⟨hB4.os, hB4.tape, hB4.output, hB4.size, fun k hk _ => hB4.block k (by omega)⟩
    exact ((((q1.after q2 (by simp)).after hS3 (by simp)).after q4 (by simp)).after hS5 (by simp)).below

end Go.Proofs.YthgdbjpefjjeaaaGreat
