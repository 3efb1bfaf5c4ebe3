/- The contract of bytes.Clone at what is not nil. -/
import Derived.Test.YtckcdmkgmbicfaaGreatLaws
namespace Go.Proofs.YtckcdmkgmbicfaaGreat
open Go.RowKit
set_option linter.unusedVariables false
set_option maxRecDepth 4000

set_option maxHeartbeats 400000 in
theorem cloneI_any (w : World) (a : Addr) (n cap : Nat) (xs : List Int) (h : Rd w (.slice (some a) n cap) xs) (hy : Byt xs) (hn : xs.length ≤ 140737488355328) : Calls Tryz.prog 105 #[.slice (some a) n cap] w fun e w' => ∃ u, e = .returned u ∧ OwnI w' w.heap.size u xs ∧ Below w.heap.size w w' := by
  have hnil : ∀ W, (binOp .eql 80 (.slice (some a) n cap) (.slice none 0 0)).run Tryz.prog W = .ok (.bool false) W := fun W => Lib.run_eql_slice_nil W 80 5 (some a) n cap 0 0 Tryz.underlying80
  have hb0 : Below w.heap.size w (w.alloc (.cells #[] 5)) := (Below.refl _ _).alloc (Nat.le_refl _) _
  by_cases hne : xs = []
  · have hl := rd_length h
    subst hne
    simp only [List.length_nil] at hl
    subst hl
    clear h
    have hap : (Builtin.append_ #[80, 80] 80 #[.slice (some ⟨w.heap.size, 0, none⟩) 0 0, .slice (some a) 0 cap]).run Tryz.prog (w.alloc (.cells #[] 5)) = .ok (.slice (some ⟨w.heap.size, 0, none⟩) 0 0) (w.alloc (.cells #[] 5)) := by
      obtain ⟨i, hi, hz0, hz1, hz2⟩ := info_parts Tryz.info5
      have := run_append_room (P := Tryz.prog) (w.alloc (.cells #[] 5)) 80 80 5 i Tryz.underlying80 hi w.heap.size 0 0 #[] (heap_alloc_new w _) a 0 cap [] (by simp) (fun j u hj => by simp at hj) (fun u hu => by cases hu) (by omega) (by simp)
      simp only [Nat.add_zero] at this
      rw [this]
      congr 1
      simp only [List.take_nil, List.drop_nil, List.append_nil]
      exact setRow_self _ _ #[] 5 (0, 0) (heap_alloc_new w _)
    go_enter Tryz.func105, Tryz.ntmps105
    go_wp2_with (at_builtin; refine wpList_append_run rfl _ _ rfl rfl _ _ rfl rfl _ _ hap ?_)
    go_ret
    exact ⟨_, rfl, .inr ⟨w.heap.size, [], rfl, Nat.le_refl _, heap_alloc_new w _, by simp, Byt.nil, Nat.le_refl _, rfl⟩, hb0⟩
  · obtain ⟨v', w', hap, ho, hb⟩ := append_empty (w.alloc (.cells #[] 5)) (some ⟨w.heap.size, 0, none⟩) (.inr ⟨_, rfl, heap_alloc_new w _⟩) _ xs (h.below hb0) hy hne hn
    have hz : w.heap.size ≤ (w.alloc (.cells #[] 5)).heap.size := hb0.size
    go_enter Tryz.func105, Tryz.ntmps105
    go_wp2_with (at_builtin; refine wpList_append_run rfl _ _ rfl rfl _ _ rfl rfl _ _ hap ?_)
    go_ret
    exact ⟨_, rfl, ho.mono hz, hb0.trans (hb.mono hz)⟩

theorem clone_any (w : World) (a : Addr) (n cap : Nat) (xs : List Int) (h : Rd w (.slice (some a) n cap) xs) (hy : Byt xs) (hn : xs.length ≤ 140737488355328) : Calls Tryz.prog 105 #[.slice (some a) n cap] w fun e w' => ∃ u, e = .returned u ∧ Own w' w.heap.size u xs ∧ Below w.heap.size w w' :=
  (cloneI_any w a n cap xs h hy hn).mono fun e w' ⟨u, h1, h2, h3⟩ => ⟨u, h1, h2.own, h3⟩

end Go.Proofs.YtckcdmkgmbicfaaGreat
