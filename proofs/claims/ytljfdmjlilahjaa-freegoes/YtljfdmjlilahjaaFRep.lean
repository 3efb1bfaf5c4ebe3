/- The contract of slices.Repeat at one kind. -/
import Derived.Test.YtljfdmjlilahjaaFMul
import Derived.Test.YtljfdmjlilahjaaFMark
import Derived.Laws.CopyOwn
import Derived.Laws.Tables
import Derived.Deep.RegionHeld3
namespace Go.Proofs.Ytljfdmjlilahjaa
open Go.RowKit
set_option linter.unusedVariables false
set_option linter.unusedSimpArgs false
set_option maxRecDepth 4000

/-- m ones, noughts behind them. -/
def repC (n m : Nat) : List Value := List.replicate m (.int .i64 1) ++ List.replicate (n - m) (.int .i64 0)

theorem repC_len {n m : Nat} (h : m ≤ n) : (repC n m).length = n := by simp [repC]; omega

theorem repC_copy {n m k : Nat} (h : m + k ≤ n) : (repC n m).take m ++ List.replicate k (.int .i64 1) ++ (repC n m).drop (m + k) = repC n (m + k) := by
  unfold repC
  rw [List.take_left' (by simp), List.drop_append, List.drop_eq_nil_of_le (by simp), List.nil_append, List.length_replicate, List.drop_replicate, List.append_assoc, ← List.append_assoc, List.replicate_append_replicate]
  congr 2
  omega

theorem Try.infoK : (Try.prog.info? 51).map (fun i => (i.zero, i.size, i.bytes)) = some (some (.int .i64 0), 1, 8) := by kernel_rfl

theorem make_kinds (w : World) (L : Int) (n : Nat) (hL : L = (n : Int)) (hn : n ≤ 1024) :
    (Instr.makeSlice 49 (.int .i64 L) (.int .i64 L)).run Try.prog w = .ok (.slice (some ⟨w.heap.size, 0, none⟩) n n) (w.alloc (.cells (repC n 0).toArray 51)) := by
  subst hL
  obtain ⟨i, hi, hz0, hz1, hz2⟩ := info_parts Try.infoK
  have h := run_make (P := Try.prog) w 49 51 i (.int .i64 0) Try.underlying49 hi hz0 .i64 .i64 n n (by omega) (by omega) (by rw [hz2]; omega) (by omega)
  rw [h, hz1, Int.toNat_natCast, Nat.mul_one]
  congr 2
  congr 1
  apply Array.ext'
  refine (toList_madeCells_one (.int .i64 0) n).trans ?_
  simp [repC]

theorem row_at {W : World} {g n m : Nat} (hg : W.heap[g]? = some (.cells (repC n m).toArray 51 (0, 0))) (j : Nat) (hj : j < m) : W.cell? ⟨g, j, none⟩ = some (.int .i64 1) := by
  rw [cell_of_row _ _ j _ _ (0, 0) hg, List.getElem?_toArray]
  unfold repC
  rw [List.getElem?_append_left (by simpa using hj), List.getElem?_replicate, if_pos hj]

theorem copy_rep (W : World) (g n m sl sc : Nat) (ad : Addr) (k : Nat) (hg : W.heap[g]? = some (.cells (repC n m).toArray 51 (0, 0))) (hk : k = Nat.min sl (n - m)) (hmn : m ≤ n) (hsrc : ∀ j, j < k → W.cell? (ad.add j) = some (.int .i64 1)) :
    ∃ W', (Builtin.copy_ #[49, 49] 3 #[.slice (some ⟨g, m, none⟩) (n - m) (n - m), .slice (some ad) sl sc]).run Try.prog W = .ok (.int .i64 k) W' ∧ W'.heap[g]? = some (.cells (repC n (m + k)).toArray 51 (0, 0)) ∧ (∀ B, B ≤ g → Below B W W') := by
  have hle : m + k ≤ n := by
    have : Nat.min sl (n - m) ≤ n - m := Nat.min_le_right _ _
    omega
  have h := run_copy_row (P := Try.prog) W 49 49 3 51 g m (n - m) (n - m) ad sl sc (repC n m).toArray 51 (List.replicate k (.int .i64 1)) Try.underlying49 (by kernel_rfl) hg (by simp [hk]) (fun j v hv => by
    rw [List.getElem?_replicate] at hv
    split at hv
    · rename_i hj; rw [hsrc j hj]; exact hv
    · cases hv) (by simp [repC_len hmn]; omega) (fun v hv => by rw [List.eq_of_mem_replicate hv]; rfl)
  rw [List.length_replicate] at h
  have e : ((repC n m).toArray.toList.take m ++ List.replicate k (.int .i64 1) ++ (repC n m).toArray.toList.drop (m + k)) = repC n (m + k) := repC_copy hle
  rw [e] at h
  exact ⟨_, h, setRow_heap W g _ _ _ _ hg, fun B hB => below_setRow (Below.refl B W) hB _⟩

set_option maxHeartbeats 2000000 in
theorem repeat_any (w : World) (g0 n : Nat) (hn1 : 1 ≤ n) (hn : n ≤ 1024) (hx : w.cell? ⟨g0, 0, none⟩ = some (.int .i64 1)) (hg0 : g0 < w.heap.size) :
    Calls Try.prog 23 #[.slice (some ⟨g0, 0, none⟩) 1 1, .int .i64 n] w fun e w' => e = .returned (.slice (some ⟨w.heap.size, 0, none⟩) n n) ∧ w'.heap[w.heap.size]? = some (.cells (repC n n).toArray 51 (0, 0)) ∧ Below w.heap.size w w' := by
  have hmu := mul_one' w n hn
  have hmk := make_kinds w (n : Int) n rfl hn
  have w2 : IntKind.wrap .u64 (n : Int) = n := by rw [IntKind.wrap_u64]; omega
  have w3 : IntKind.wrap .i64 (n : Int) = n := by simp [IntKind.wrap, IntKind.bits, IntKind.signed]; omega
  have hnI : ¬ (n : Int) < 0 := by omega
  have hnJ : ¬ (9223372036854775807 : Int) < n := by omega
  have hB0 : Below w.heap.size w (w.alloc (.cells (repC n 0).toArray 51)) := (Below.refl _ w).alloc (Nat.le_refl _) _
  have hgA := heap_alloc_new w (.cells (repC n 0).toArray 51)
  obtain ⟨W1, hcp, hg1, hb1⟩ := copy_rep (w.alloc (.cells (repC n 0).toArray 51)) w.heap.size n 0 1 1 ⟨g0, 0, none⟩ 1 hgA (by rw [Nat.sub_zero]; exact (Nat.min_eq_left hn1).symm) (Nat.zero_le _) (fun j hj => by
    obtain rfl : j = 0 := by omega
    exact (hB0.cell (p := ⟨g0, 0, none⟩) hg0).trans hx)
  rw [Nat.sub_zero] at hcp
  have hBW : Below w.heap.size w W1 := hB0.trans (hb1 _ (Nat.le_refl _))
  clear hgA
  go_enter Try.func23, Try.ntmps23
  go_wp2_with fail
  refine hmu.mono ?_
  clear hmu
  rintro e w9 ⟨rfl, hw9⟩
  subst w9
  go_wp2
  clear hmk hcp
  go_loopw [8] (fun t wr => ∃ m : Nat, 1 ≤ m ∧ m ≤ n ∧ t = .int .i64 m ∧ wr.heap[w.heap.size]? = some (.cells (repC n m).toArray 51 (0, 0)) ∧ Below w.heap.size w wr) (fun t _ => n - (intOf t).toNat)
  case atStart => exact ⟨1, by omega, hn1, rfl, hg1, hBW⟩
  case round =>
    clear hg1 hBW hB0
    obtain ⟨m, hm1, hmn, rfl, hg, HB⟩ := hrel
    obtain ⟨wA, hA⟩ : ∃ wA, wA = wr := ⟨_, rfl⟩
    subst hA
    by_cases hlt : m < n
    · have hltI : (m : Int) < n := by omega
      obtain ⟨k, hk⟩ : ∃ k, k = Nat.min m (n - m) := ⟨_, rfl⟩
      have hkm : k ≤ m := by rw [hk]; exact Nat.min_le_left _ _
      have hkn : k ≤ n - m := by rw [hk]; exact Nat.min_le_right _ _
      have hk1 : 1 ≤ k := by rw [hk]; exact Nat.le_min.2 ⟨hm1, by omega⟩
      obtain ⟨W2, hcp, hg2, hb2⟩ := copy_rep wA.drew w.heap.size n m m n ⟨w.heap.size, 0, none⟩ k hg hk hmn (fun j hj => by
        have hadd : (⟨w.heap.size, 0, none⟩ : Addr).add j = ⟨w.heap.size, j, none⟩ := by unfold Addr.add; split <;> simp_all
        rw [hadd]
        exact row_at (W := wA.drew) hg j (by omega))
      have s1 : (m : Int) ≤ n := by omega
      have s2 : m ≤ n := hmn
      have s3 : ¬ n = m := by omega
      have hwk : IntKind.wrap .i64 ((m : Int) + k) = (m : Int) + k := by simp [IntKind.wrap, IntKind.bits, IntKind.signed]; omega
      clear hk
      go_wp2_with fail
      refine wp_region_noPanic ?_
      refine wp_region_held_drew (S := fun _ => True) (by kernel_rfl) trivial (fun hHeld => ?_)
      refine wpAnyH_take (i := 0) (v := .int .i64 m) rfl (by kernel_rfl) (by kernel_rfl) (by kernel_rfl) (fun _ _ _ h => h) (Or.inl ⟨by rfl, fun W hSw => by (try dsimp only at hSw); go_simp⟩) trivial ?_
      simp only [List.getElem_toArray, List.getElem_cons_zero, List.getElem_cons_succ, Act.put, List.setIfInBounds_toArray, List.set_cons_zero, List.set_cons_succ]
      refine wpAnyH_take (i := 1) (v := .slice (some ⟨w.heap.size, 0, none⟩) n n) rfl (by kernel_rfl) (by kernel_rfl) (by kernel_rfl) (fun _ _ _ h => h) (Or.inl ⟨by rfl, fun W hSw => by (try dsimp only at hSw); go_simp⟩) trivial ?_
      simp only [List.getElem_toArray, List.getElem_cons_zero, List.getElem_cons_succ, Act.put, List.setIfInBounds_toArray, List.set_cons_zero, List.set_cons_succ]
      refine wpAnyH_take (i := 2) (v := .int .i64 m) rfl (by kernel_rfl) (by kernel_rfl) (by kernel_rfl) (fun _ _ _ h => h) (Or.inl ⟨by rfl, fun W hSw => by (try dsimp only at hSw); go_simp⟩) trivial ?_
      simp only [List.getElem_toArray, List.getElem_cons_zero, List.getElem_cons_succ, Act.put, List.setIfInBounds_toArray, List.set_cons_zero, List.set_cons_succ]
      refine wpAnyH_take (i := 3) (v := .slice (some ⟨w.heap.size, m, none⟩) (n - m) (n - m)) rfl (by kernel_rfl) (by kernel_rfl) (by kernel_rfl) (fun _ _ _ h => h) (Or.inl ⟨by rfl, fun W hSw => by (try dsimp only at hSw); (go_simp <;> simp [s1, s2, s3])⟩) trivial ?_
      simp only [List.getElem_toArray, List.getElem_cons_zero, List.getElem_cons_succ, Act.put, List.setIfInBounds_toArray, List.set_cons_zero, List.set_cons_succ]
      refine wpAnyH_take (i := 4) (v := .slice (some ⟨w.heap.size, 0, none⟩) n n) rfl (by kernel_rfl) (by kernel_rfl) (by kernel_rfl) (fun _ _ _ h => h) (Or.inl ⟨by rfl, fun W hSw => by (try dsimp only at hSw); go_simp⟩) trivial ?_
      simp only [List.getElem_toArray, List.getElem_cons_zero, List.getElem_cons_succ, Act.put, List.setIfInBounds_toArray, List.set_cons_zero, List.set_cons_succ]
      refine wpAnyH_take (i := 5) (v := .int .i64 m) rfl (by kernel_rfl) (by kernel_rfl) (by kernel_rfl) (fun _ _ _ h => h) (Or.inl ⟨by rfl, fun W hSw => by (try dsimp only at hSw); go_simp⟩) trivial ?_
      simp only [List.getElem_toArray, List.getElem_cons_zero, List.getElem_cons_succ, Act.put, List.setIfInBounds_toArray, List.set_cons_zero, List.set_cons_succ]
      refine wpAnyH_take (i := 6) (v := .slice (some ⟨w.heap.size, 0, none⟩) m n) rfl (by kernel_rfl) (by kernel_rfl) (by kernel_rfl) (fun _ _ _ h => h) (Or.inl ⟨by rfl, fun W hSw => by (try dsimp only at hSw); (go_simp <;> simp [s1, s2, s3])⟩) trivial ?_
      simp only [List.getElem_toArray, List.getElem_cons_zero, List.getElem_cons_succ, Act.put, List.setIfInBounds_toArray, List.set_cons_zero, List.set_cons_succ]
      refine wpAnyH_ready (rs := [7]) (by kernel_rfl) (by simp) ?_
      refine AllReadyH.cons rfl (fun K hK => ?_) AllReadyH.nil
      go_simp
      go_wp2
      refine hK.out _ _ trivial (fun hHeld2 => ?_)
      clear hK K
      refine wpAnyH_take (i := 8) (v := .int .i64 (m + k)) rfl (by kernel_rfl) (by kernel_rfl) (by kernel_rfl) (fun _ _ _ h => h) (Or.inl ⟨by rfl, fun W hSw => by (try dsimp only at hSw); (go_simp <;> rw [hwk])⟩) trivial ?_
      simp only [List.getElem_toArray, List.getElem_cons_zero, List.getElem_cons_succ, Act.put, List.setIfInBounds_toArray, List.set_cons_zero, List.set_cons_succ]
      refine wpAnyH_take (i := 9) (v := .int .i64 (m + k)) rfl (by kernel_rfl) (by kernel_rfl) (by kernel_rfl) (fun _ _ _ h => h) (Or.inl ⟨by rfl, fun W hSw => by (try dsimp only at hSw); go_simp⟩) trivial ?_
      simp only [List.getElem_toArray, List.getElem_cons_zero, List.getElem_cons_succ, Act.put, List.setIfInBounds_toArray, List.set_cons_zero, List.set_cons_succ]
      refine wpAnyH_done (by kernel_rfl) ?_ _
      refine NoPanic.normal ?_
      clear hcp
      go_wp2_with fail
      go_roundw
      case rel => exact ⟨m + k, by omega, by omega, by go_num, hg2, HB.trans ((Below.refl _ wA).drew.trans (hb2 _ (Nat.le_refl _)))⟩
      case measure => simp [intOf]; omega
    · obtain rfl : m = n := by omega
      have hltI : ¬ (m : Int) < m := by omega
      go_wp2
      go_ret
      exact ⟨rfl, hg, HB⟩

end Go.Proofs.Ytljfdmjlilahjaa
