/- Put of a view, with what it leaves. -/
import Derived.Test.YtjjhfginmamlkaaGreatVwGet
namespace Go.Proofs.YtjjhfginmamlkaaGreat
open Go.RowKit Go.Maps
set_option linter.unusedVariables false
set_option linter.unusedSimpArgs false
set_option maxRecDepth 100000

theorem notQ {w : World} {p b : Nat} {v : Value} {s : Dl} (hd : DlAt w p b v s) {k : Nat} {cs : Array Value} {T : TypeId} {fr : Nat × Nat} (h : w.heap[k]? = some (.cells cs T fr)) (h1 : T ≠ 111) (h2 : T ≠ 170) : k ≠ p ∧ k ≠ b ∧ v.ownBlock ≠ some k := by
  refine ⟨fun e => ?_, fun e => ?_, fun e => ?_⟩
  · rw [e, hd.row] at h; simp only [Option.some.injEq, Obj.cells.injEq] at h; exact h1 h.2.1.symm
  · obtain ⟨e0, cl, hm⟩ := hd.mp.isMap
    rw [e, hm] at h; cases h
  · obtain ⟨cs', e'⟩ := own_row hd.pus e
    rw [e'] at h; simp only [Option.some.injEq, Obj.cells.injEq] at h; exact h2 h.2.1.symm
theorem KeepQ.undrew {p b : Nat} {v v' : Value} {w w' : World} (h : KeepQ p b v w.drew w' v') : KeepQ p b v w w' v' := ⟨h.os, h.tape, h.output, h.size, h.block, h.own⟩
theorem KeepQ.row {w w' : World} {p b : Nat} {v v' : Value} {s : Dl} (k : KeepQ p b v w w' v') (hd : DlAt w p b v s) {i : Nat} {cs : Array Value} {T : TypeId} {fr : Nat × Nat} (h : w.heap[i]? = some (.cells cs T fr)) (h1 : T ≠ 111) (h2 : T ≠ 170) : w'.heap[i]? = some (.cells cs T fr) := by
  obtain ⟨a, b, c⟩ := notQ hd h h1 h2
  exact (k.block i (Array.getElem?_eq_some_iff.1 h).1 a b c).trans h
theorem VwAt.keepQ {w w' : World} {p b v g p' : Nat} {u u' : Value} {s : Dl} (h : VwAt w v g p') (hd : DlAt w p b u s) (k : KeepQ p b u w w' u') : VwAt w' v g p' := ⟨k.row hd h.row (by decide) (by decide)⟩
theorem CgAt.keepQ {w w' : World} {p b g : Nat} {u u' : Value} {s : Dl} {c : Cg} (h : CgAt w g c) (hd : DlAt w p b u s) (k : KeepQ p b u w w' u') : CgAt w' g c := ⟨k.row hd h.row (by decide) (by decide)⟩

set_option maxHeartbeats 4000000 in
theorem vput_q {w : World} {v g p b : Nat} {vd : Value} {s : Dl} (hv : VwAt w v g p) (hd : DlAt w p b vd s) (c : Cg) (hc : CgOk c) (hL : s.L.length ≤ 5000) (hP : s.pus.length ≤ 5000) : Calls Tryz.prog 35 #[.pointer (some ⟨v, 0, none⟩), .agg (cgC c)] w fun e w' =>
    e = .returned (.int .i64 (putX s c).2) ∧ PutOut w p b vd s c w' := by
  have HC : Hid (c.pt.bytes.length = 32) := hc.pt.ch.1
  have hc1 := CgAt.laid w c
  have hb1 : Below w.heap.size w (w.alloc (.cells (cgC c) 94)) := (Below.refl _ w).alloc (Nat.le_refl _) _
  obtain ⟨w1, hw1⟩ : ∃ w1, w.alloc (.cells (cgC c) 94) = w1 := ⟨_, rfl⟩
  rw [hw1] at hc1 hb1
  have hv1 := hv.below hb1
  have hd1 := hd.below hb1
  have hd1' := hd1.drew
  have lC : ∀ W, (VwAt W v g p ∧ CgAt W w.heap.size c) → (Instr.loadAt 94 (.pointer (some ⟨w.heap.size, 0, none⟩))).run Tryz.prog W = .ok (.agg (cgC c)) W := fun W h => h.2.load HC.out
  have q1 : ∀ W, (VwAt W v g p ∧ CgAt W w.heap.size c) → W.cell? ⟨v, 1, none⟩ = some (.pointer (some ⟨p, 0, none⟩)) := fun W h => h.1.c1
  have cp := dput_any hd1' c hc hL hP
  go_enter Tryz.func35, Tryz.ntmps35
  go_wp2_with fail
  refine wp_region_noPanic ?_
  refine wp_region_held_drew (S := fun W => VwAt W v g p ∧ CgAt W w.heap.size c) (by kernel_rfl) ⟨⟨hv1.row⟩, hc1.drew⟩ (fun hHeld => ?_)
  refine wpAnyH_take (i := 0) (v := .pointer (some ⟨v, 0, none⟩)) rfl (by kernel_rfl) (by kernel_rfl) (by kernel_rfl) (fun _ _ _ h => h) (Or.inl ⟨by rfl, fun W hSw => by (try dsimp only at hSw); go_simp⟩) (by assumption) ?_
  try simp only [List.getElem_toArray, List.getElem_cons_zero, List.getElem_cons_succ, Act.put, List.setIfInBounds_toArray, List.set_cons_zero, List.set_cons_succ]
  refine wpAnyH_take (i := 1) (v := .pointer (some ⟨v, 0, none⟩)) rfl (by kernel_rfl) (by kernel_rfl) (by kernel_rfl) (fun _ _ _ h => h) (Or.inl ⟨by rfl, fun W hSw => by (try dsimp only at hSw); go_simp⟩) (by assumption) ?_
  try simp only [List.getElem_toArray, List.getElem_cons_zero, List.getElem_cons_succ, Act.put, List.setIfInBounds_toArray, List.set_cons_zero, List.set_cons_succ]
  refine wpAnyH_take (i := 2) (v := .pointer (some ⟨v, 1, none⟩)) rfl (by kernel_rfl) (by kernel_rfl) (by kernel_rfl) (fun _ _ _ h => h) (Or.inl ⟨by rfl, fun W hSw => by (try dsimp only at hSw); go_simp⟩) (by assumption) ?_
  try simp only [List.getElem_toArray, List.getElem_cons_zero, List.getElem_cons_succ, Act.put, List.setIfInBounds_toArray, List.set_cons_zero, List.set_cons_succ]
  refine wpAnyH_take (i := 3) (v := .pointer (some ⟨p, 0, none⟩)) rfl (by kernel_rfl) (by kernel_rfl) (by kernel_rfl) (fun _ _ _ h => h) (Or.inl ⟨by rfl, fun W hSw => by (try dsimp only at hSw); (have z := q1 W hSw; go_simp)⟩) (by assumption) ?_
  try simp only [List.getElem_toArray, List.getElem_cons_zero, List.getElem_cons_succ, Act.put, List.setIfInBounds_toArray, List.set_cons_zero, List.set_cons_succ]
  refine wpAnyH_take (i := 4) (v := .agg (cgC c)) rfl (by kernel_rfl) (by kernel_rfl) (by kernel_rfl) (fun _ _ _ h => h) (yields_load (by rfl) _ _ rfl _ rfl _ lC) (by assumption) ?_
  try simp only [List.getElem_toArray, List.getElem_cons_zero, List.getElem_cons_succ, Act.put, List.setIfInBounds_toArray, List.set_cons_zero, List.set_cons_succ]
  refine wpAnyH_ready (rs := [5]) (by kernel_rfl) (by simp) ?_
  refine AllReadyH.cons rfl (fun K hK => ?_) AllReadyH.nil
  go_simp
  go_wp2_with (go_at_call 65; refine cp.mono ?_; rintro e w5 ⟨rfl, vd5, hd5, hk5⟩)
  refine hK.out _ _ ⟨hHeld.1.keepQ hd1' hk5, hHeld.2.keepQ hd1' hk5⟩ (fun hHeld2 => ?_)
  clear hK K cp
  try simp only [List.getElem_toArray, List.getElem_cons_zero, List.getElem_cons_succ, Act.put, List.setIfInBounds_toArray, List.set_cons_zero, List.set_cons_succ]
  refine wpAnyH_take (i := 6) (v := .int .i64 (putX s c).2) rfl (by kernel_rfl) (by kernel_rfl) (by kernel_rfl) (fun _ _ _ h => h) (Or.inl ⟨by rfl, fun W hSw => by (try dsimp only at hSw); go_simp⟩) (by assumption) ?_
  try simp only [List.getElem_toArray, List.getElem_cons_zero, List.getElem_cons_succ, Act.put, List.setIfInBounds_toArray, List.set_cons_zero, List.set_cons_succ]
  refine wpAnyH_done (by kernel_rfl) ?_ _
  refine NoPanic.normal ?_
  have HD : Hid (DlAt w5 p b vd5 (putS s c)) := hd5
  have HK : Hid (KeepQ p b vd w w5 vd5) := (KeepQ.of_below (p := p) (b := b) (v := vd) hb1).trans (KeepQ.undrew hk5)
  clear lC q1 hHeld hHeld2 hd5 hk5
  go_wp2
  go_ret
  exact ⟨rfl, vd5, HD.out, HK.out⟩

end Go.Proofs.YtjjhfginmamlkaaGreat
