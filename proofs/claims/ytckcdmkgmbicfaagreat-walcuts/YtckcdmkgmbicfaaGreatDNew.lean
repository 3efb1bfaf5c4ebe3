/- New, Blocks, Arm, countWrite. -/
import Derived.Test.YtckcdmkgmbicfaaGreatDSmall
import Derived.Carry
namespace Go.Proofs.YtckcdmkgmbicfaaGreat
open Go.RowKit Go.Maps
set_option linter.unusedVariables false

theorem disk_Blocks {w : World} {p bs bp : Nat} {s : St} (h : DiskAt w p bs bp s) : Calls Tryz.prog 54 #[ptr p] w fun e w' => e = .returned (.int .i64 s.blocks) ∧ w' = w := by
  have c0 := h.c0
  unfold ptr
  go_enter Tryz.func54, Tryz.ntmps54
  go_wp2_with fail
  go_ret
  exact ⟨rfl, rfl⟩

/-- A new disk. -/
def freshSt (n : Int) : St := { blocks := n, safe := fun _ => zeroB, pend := fun _ => none, off := false, armed := false, left := 0, mask := ⟨#[]⟩, writes := 0 }

theorem good_fresh {n : Int} (h0 : 1 ≤ n) (h1 : n ≤ 1024) : Good (freshSt n) :=
  ⟨h0, h1, fun _ => blk_zero, (fun i c h => by cases h), Int.le_refl _, (by simp [freshSt]), (by simp [freshSt]), (by simp [freshSt]), Nat.zero_le _⟩

theorem disk_New_bad (w : World) (n : Int) (h : n < 1 ∨ 1024 < n) : Calls Tryz.prog 9 #[.int .i64 n] w fun e w' => e = .returned (.tuple #[.pointer none, .int .i64 1]) ∧ w' = w := by
  rcases h with h | h
  · go_enter Tryz.func9, Tryz.ntmps9
    go_wp2_with fail
    go_ret2
    exact ⟨rfl, rfl⟩
  · have h' : ¬ n < 1 := by omega
    go_enter Tryz.func9, Tryz.ntmps9
    go_wp2_with fail
    go_ret2
    exact ⟨rfl, rfl⟩

theorem disk_New (w : World) (n : Int) (h0 : 1 ≤ n) (h1 : n ≤ 1024) : Calls Tryz.prog 9 #[.int .i64 n] w fun e w' =>
    e = .returned (.tuple #[ptr (w.heap.size + 2), .int .i64 0]) ∧ DiskAt w' (w.heap.size + 2) w.heap.size (w.heap.size + 1) (freshSt n) ∧ Below w.heap.size w w' ∧ w'.heap.size = w.heap.size + 3 := by
  have mm : ∀ W : World, (Instr.makeMap 65 none).run Tryz.prog W = .ok (.map (some W.heap.size)) (W.alloc (.map #[] 0)) := fun W => run_makeMap _ W
  unfold ptr
  have h2 : ¬ n < 1 := by omega
  have h3 : ¬ 1024 < n := by omega
  go_enter Tryz.func9, Tryz.ntmps9
  go_wp2_with fail
  go_ret2
  refine ⟨rfl, ⟨?_, ⟨fun _ => none, ?_, fun _ => rfl⟩, ?_, by omega, good_fresh h0 h1⟩, ?_, ?_⟩
  · have := heap_alloc_new ((w.alloc (.map #[] 0)).alloc (.map #[] 0)) (Obj.cells (cellsOf w.heap.size (w.heap.size + 1) (freshSt n)) 69)
    rw [show ((w.alloc (.map #[] 0)).alloc (.map #[] 0)).heap.size = w.heap.size + 2 from by simp] at this
    exact this
  · have hm := MapAt.made w
    refine hm.same ?_
    rw [Below.heap_alloc _ _ _ (by simp; omega), Below.heap_alloc _ _ _ (by simp)]
  · have hm := MapAt.made (w.alloc (.map #[] 0))
    rw [show (w.alloc (.map #[] 0)).heap.size = w.heap.size + 1 from by simp] at hm
    refine hm.same ?_
    rw [Below.heap_alloc _ _ _ (by simp)]
  · exact (((Below.refl _ w).alloc (Nat.le_refl _) _).alloc (by simp) _).alloc (by simp; omega) _
  · simp

/-- Armed anew. -/
def armSt (s : St) (n : Int) (mask : ByteArray) : St :=
  if s.off then s else if 0 ≤ n then { s with armed := true, left := n, mask := mask } else { s with armed := false, left := 0, mask := ⟨#[]⟩ }

theorem disk_Arm {w : World} {p bs bp : Nat} {s : St} (h : DiskAt w p bs bp s) (n : Int) (h0 : -9223372036854775808 ≤ n) (h1 : n ≤ 9223372036854775807) (mask : ByteArray) (hmask : mask.size ≤ maxLen) :
    Calls Tryz.prog 19 #[ptr p, .int .i64 n, .string mask] w fun e w' => e = .returned (.tuple #[]) ∧ DiskAt w' p bs bp (armSt s n mask) ∧ Sole [p] w w' ∧ w'.heap.size = w.heap.size := by
  have c3 := h.c3
  have f4 := h.fr 4
  have f5 := h.fr 5
  have f6 := h.fr 6
  have c4 := h.c4
  have c5 := h.c5
  have c6 := h.c6
  have hd0 := h.arming false 0 ⟨#[]⟩ (by decide) (by decide) (Nat.zero_le _)
  obtain ⟨s', hs'⟩ : ∃ s', s' = armSt s n mask := ⟨_, rfl⟩
  rw [← hs']
  unfold ptr
  cases ho : s.off
  · rw [ho] at c3
    by_cases hn : 0 ≤ n
    · have hd1 := hd0.arming true n mask hn h1 hmask
      have hd2 := hd1.as (s' := s') (by rw [hs']; simp [armSt, ho, hn])
      have HS := (show Hid (s' = _) from hs')
      have HO := (show Hid (s.off = _) from ho)
      clear hs' ho
      go_enter Tryz.func19, Tryz.ntmps19
      go_wp2_with fail
      go_end0
      exact ⟨rfl, hd2, (sole_arming _ _ _ _ _).trans (sole_arming _ _ _ _ _), by simp [World.setCell]⟩
    · have hd2 := hd0.as (s' := s') (by rw [hs']; simp [armSt, ho, hn])
      have HS := (show Hid (s' = _) from hs')
      have HO := (show Hid (s.off = _) from ho)
      clear hs' ho
      go_enter Tryz.func19, Tryz.ntmps19
      go_wp2_with fail
      go_end0
      exact ⟨rfl, hd2, sole_arming _ _ _ _ _, by simp [World.setCell]⟩
  · rw [ho] at c3
    rw [armSt, ho, if_pos rfl] at hs'
    have hd2 := h.as hs'
    have HS := (show Hid (s' = _) from hs')
    have HO := (show Hid (s.off = _) from ho)
    clear hs' ho
    go_enter Tryz.func19, Tryz.ntmps19
    go_wp2_with fail
    first
      | go_end0
      | refine bodyPost_ret (results_none rfl _ _ _) rfl ?_
    exact ⟨rfl, hd2, Sole.refl _ _, rfl⟩

/-- What a write does to how it is armed. -/
def countSt (s : St) : St := if s.armed then { s with left := s.left - 1 } else s

theorem disk_countWrite {w : World} {p bs bp : Nat} {s : St} (h : DiskAt w p bs bp s) (hl : s.armed = true → 1 ≤ s.left) :
    Calls Tryz.prog 78 #[.pointer (some ⟨p, 4, none⟩)] w fun e w' => e = .returned (.tuple #[]) ∧ DiskAt w' p bs bp (countSt s) ∧ Sole [p] w w' ∧ w'.heap.size = w.heap.size := by
  have f5 := h.fr 5
  have c4 := h.c4
  have c5 := h.c5
  obtain ⟨s', hs'⟩ : ∃ s', s' = countSt s := ⟨_, rfl⟩
  rw [← hs']
  cases ho : s.armed
  · rw [ho] at c4
    have hd2 := h.as (s' := s') (by rw [hs', countSt, ho, if_neg (by simp)])
    clear hs' ho hl
    go_enter Tryz.func78, Tryz.ntmps78
    go_wp2_with fail
    go_end0
    exact ⟨rfl, hd2, Sole.refl _ _, rfl⟩
  · rw [ho] at c4
    have l0 := hl ho
    have l1 := h.good.l1
    have hd2 := h.put 5 (.int .i64 (s.left - 1)) (s' := { s with left := s.left - 1 }) (by simp [cellsOf]) rfl rfl ⟨h.good.b0, h.good.b1, h.good.safe, h.good.pend, by show 0 ≤ s.left - 1; omega, by show s.left - 1 ≤ _; omega, h.good.w0, h.good.w1, h.good.mz⟩
    have hd2 := hd2.as (s' := s') (by rw [hs', countSt, ho, if_pos rfl])
    clear hs' ho hl
    go_enter Tryz.func78, Tryz.ntmps78
    go_wp2_with fail
    go_end0
    exact ⟨rfl, hd2, Sole.setCell _ _ (by simp), by simp [World.setCell]⟩

end Go.Proofs.YtckcdmkgmbicfaaGreat
