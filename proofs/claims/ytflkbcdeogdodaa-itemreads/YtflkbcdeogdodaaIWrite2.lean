/- The contract of item.write, whatever the thing. -/
import Derived.Test.YtflkbcdeogdodaaIWrite
namespace Go.Proofs.Ytflkbcdeogdodaa
open Go.RowKit
set_option linter.unusedVariables false

set_option maxHeartbeats 1000000 in
theorem write_2 (w : World) (t : Int) (h0 : 0 ≤ t) (h1 : t ≤ 4294967295) : Calls Try.prog 19 #[.iface 56 (.int .u32 t)] w fun e w' => ∃ v, e = .returned v ∧ Rd w' v (fixB t.toNat 4) ∧ Below w.heap.size w w' := by
  have hee := as_ee
  have her := as_er
  have f1 : ∀ W, Calls Try.prog 25 #[.int .u64 t, .int .i64 4] W fun e w' => ∃ v, e = .returned v ∧ Own w' W.heap.size v (fixB t.toNat 4) ∧ Below W.heap.size W w' := fun W => fixedI_any W t 4 (by omega) (by omega) (by omega) (by omega) (by omega)
  go_enter Try.func19, Try.ntmps19
  go_wp2_with fail
  refine (f1 _).mono ?_
  rintro e w1 ⟨v1, rfl, ho1, hb1⟩
  go_wp2
  go_ret
  exact ⟨_, rfl, ho1.rd, hb1⟩

theorem rd_data (w : World) {b : List Int} (hb : b.length = 32) : Rd (w.alloc (.cells (bytesV b) 57)) (.slice (some ⟨w.heap.size, 0, none⟩) 32 32) b := by
  refine ⟨_, 32, by rw [hb], by rw [hb]; omega, by unfold maxLen; omega, (by intro e; cases e), fun _ => ⟨_, 0, rfl, by simp, fun i hi => ?_⟩⟩
  rw [Nat.zero_add, cell_of_row _ _ i (bytesV b) _ (0, 0) (heap_alloc_new w _)]
  simp [bytesV, List.getElem?_eq_getElem hi]

set_option maxHeartbeats 1000000 in
theorem write_3 (w : World) (b : List Int) (hb : b.length = 32) : Calls Try.prog 19 #[.iface 57 (.agg (bytesV b))] w fun e w' => ∃ v, e = .returned v ∧ Rd w' v b ∧ Below w.heap.size w w' := by
  have hdd := as_dd
  have hde := as_de
  have hdr := as_dr
  have hzd := zeroData
  have HZ : Hid (zeroC.length = 32) := ch_zero.1
  have HX : Hid (b.length = 32) := hb
  clear hb
  go_enter Try.func19, Try.ntmps19
  go_wp2_with (refine wpList_storeD rfl _ _ rfl rfl b zeroC rfl HX.out HZ.out ?_)
  go_ret
  exact ⟨_, rfl, rd_data w HX.out, (Below.refl _ w).alloc (Nat.le_refl _) _⟩

theorem write_any (w : World) (p : Int) (x : It) (hx : ItOk x) (hs : standsB p x = true) : Calls Try.prog 19 #[thV p x] w fun e w' => ∃ v, e = .returned v ∧ Rd w' v (wrL p x) ∧ Below w.heap.size w w' := by
  by_cases h1 : p = 1
  · subst h1; exact write_1 w _ _ _ _ hs
  · by_cases h2 : p = 2
    · subst h2; exact write_2 w _ hx.t0 hx.t1
    · rw [thV_3 h1 h2, wrL_3 h1 h2]
      exact write_3 w _ hx.ch.1

end Go.Proofs.Ytflkbcdeogdodaa
