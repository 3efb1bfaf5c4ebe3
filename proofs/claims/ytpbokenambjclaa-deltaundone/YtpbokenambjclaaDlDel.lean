/- slices.Delete of the last ones, at what Puts found. -/
import Derived.Test.YtpbokenambjclaaDlPut2
import Derived.Deep.RegionLaw
import Derived.ArgAppend
import Derived.Deep.DeepAppendRoom
namespace Go.Proofs.Ytpbokenambjclaa
open Go.RowKit
set_option linter.unusedVariables false
set_option linter.unusedSimpArgs false
set_option maxRecDepth 100000

/-- 'clear(s)', s a part of a row, its elements of some cells each. -/
theorem run_clear_row (P : Program) (w : World) (t e ty : TypeId) (z : Value) (ht : P.underlying t = some (.slice e)) (hv : ∀ w, (zeroValue e).run P w = .ok z w) (g o n c : Nat) (cur : Array Value) (hn : 0 < n) (h1 : ∀ u ∈ (Builtin.zeroCells z.cells n).toList, u.oneCell' = true)
    (hg : w.heap[g]? = some (.cells cur e (0, 0))) (hfit : o + (Builtin.zeroCells z.cells n).toList.length ≤ cur.size) :
    (Builtin.clear_ #[t] ty #[.slice (some ⟨g, o, none⟩) n c]).run P w = .ok (.tuple #[]) (w.setRow g (cur.toList.take o ++ (Builtin.zeroCells z.cells n).toList ++ cur.toList.drop (o + (Builtin.zeroCells z.cells n).toList.length)).toArray) := by
  have hst := run_storeCells_at P g o e (Builtin.zeroCells z.cells n).toList 0 cur w hg (by simpa using hfit) h1
  simp only [Nat.add_zero] at hst
  obtain ⟨m, rfl⟩ : ∃ m, n = m + 1 := ⟨n - 1, by omega⟩
  simp [Builtin.clear_, run_underlying ht, hv]
  simp at hst
  rw [hst]
  rfl

theorem zc_one (n : Nat) : ∀ u ∈ (Builtin.zeroCells (Value.agg (puC ⟨pl0, cg0, false⟩)).cells n).toList, u.oneCell' = true := by
  intro u hu
  have hz : ∀ v ∈ (puC ⟨pl0, cg0, false⟩).toList, v.oneCell' = true := fun v hv => puL_one _ v (by simpa [puC] using hv)
  obtain ⟨t, ht, rfl⟩ := List.mem_iff_getElem.1 hu
  have hs : (puC ⟨pl0, cg0, false⟩).size = 51 := puL_len ⟨pl0_ok, cg0_ok, fun e => by cases e⟩
  have hlt : t % 51 < 51 := Nat.mod_lt _ (by decide)
  have e : (Builtin.zeroCells (Value.agg (puC ⟨pl0, cg0, false⟩)).cells n).toList[t] = (puC ⟨pl0, cg0, false⟩)[t % 51]! := by
    simp [Builtin.zeroCells, Value.cells, hs]
  rw [e, getElem!_pos _ _ (by rw [hs]; exact hlt)]
  exact hz _ (by simp)
theorem zc_len (n : Nat) : (Builtin.zeroCells (Value.agg (puC ⟨pl0, cg0, false⟩)).cells n).toList.length = n * 51 := by
  have hs : (puC ⟨pl0, cg0, false⟩).size = 51 := puL_len ⟨pl0_ok, cg0_ok, fun e => by cases e⟩
  simp [Builtin.zeroCells, Value.cells, hs]

set_option maxHeartbeats 4000000 in
theorem delPu_any (w : World) (g n c m : Nat) (cur : Array Value) (hg : w.heap[g]? = some (.cells cur 76 (0, 0))) (hcs : cur.size = c * 51) (hn : n ≤ c) (hcm : c ≤ maxLen) (hm : m < n) :
    Calls Try.prog 38 #[.slice (some ⟨g, 0, none⟩) n c, .int .i64 m, .int .i64 n] w fun e w' => e = .returned (.slice (some ⟨g, 0, none⟩) m c) ∧ ∃ cs, w'.heap[g]? = some (.cells cs 76 (0, 0)) ∧ cs.size = c * 51 ∧ cs.toList.take (m * 51) = cur.toList.take (m * 51) ∧ Sole [g] w w' := by
  unfold maxLen at hcm
  obtain ⟨iE, hiE, hz0, hz1, hz2⟩ := info3 info_pu
  have hzv : ∀ w, (zeroValue 76).run Try.prog w = .ok (Value.agg (puC ⟨pl0, cg0, false⟩)) w := by intro w; simp [zeroValue, typeInfo, hiE, hz0]
  have hj : 0 < n - m := by omega
  have hgd : w.drew.heap[g]? = some (.cells cur 76 (0, 0)) := hg
  obtain ⟨W2, hW2⟩ : ∃ W2, w.drew.setRow g (cur.toList.take (m * 51) ++ (Builtin.zeroCells (Value.agg (puC ⟨pl0, cg0, false⟩)).cells (n - m)).toList ++ cur.toList.drop (m * 51 + (Builtin.zeroCells (Value.agg (puC ⟨pl0, cg0, false⟩)).cells (n - m)).toList.length)).toArray = W2 := ⟨_, rfl⟩
  have hcl : ∀ ty, (Builtin.clear_ #[71] ty #[.slice (some ⟨g, m * 51, none⟩) (n - m) (c - m)]).run Try.prog w.drew = .ok (.tuple #[]) W2 := fun ty => by
    rw [run_clear_row Try.prog w.drew _ _ ty _ Try.underlying71 hzv g (m * 51) (n - m) (c - m) cur (by omega) (zc_one (n - m)) hgd (by rw [zc_len, hcs, ← Nat.add_mul]; exact Nat.mul_le_mul_right 51 (by omega)), hW2]
  have HG2 : Hid (∃ cs, W2.heap[g]? = some (.cells cs 76 (0, 0)) ∧ cs.size = c * 51 ∧ cs.toList.take (m * 51) = cur.toList.take (m * 51)) := by
    have hml : m * 51 ≤ c * 51 := Nat.mul_le_mul_right 51 (by omega)
    have hmj : m * 51 + (n - m) * 51 ≤ c * 51 := by rw [← Nat.add_mul]; exact Nat.mul_le_mul_right 51 (by omega)
    have hzs := zc_len (n - m)
    refine ⟨_, by rw [← hW2]; exact setRow_heap w.drew g cur _ _ _ hgd, ?_, ?_⟩
    · rw [List.size_toArray, List.length_append, List.length_append, hzs, List.length_take, List.length_drop, Array.length_toList, hcs]; omega
    · rw [List.append_assoc, List.take_append_of_le_length (by rw [List.length_take, Array.length_toList, hcs]; omega), List.take_take, Nat.min_self]
  have HS2 : Hid (Sole [g] w W2) := by unfold Hid; rw [← hW2]; exact (Sole.drew w _).trans ⟨rfl, rfl, rfl, by simp [World.setRow], fun k _ hk => setRow_other w.drew g k _ (fun e => hk (by simp [e]))⟩
  obtain ⟨A, hA⟩ : ∃ A : Addr, (if c = n then some (⟨g, 0, none⟩ : Addr) else some ⟨g, n * 51, none⟩) = some A := by
    by_cases h : c = n
    · exact ⟨_, if_pos h⟩
    · exact ⟨_, if_neg h⟩
  have HW : Hid (w.drew.setCells g (0 + m * 51) [] = w.drew) := rfl
  have hcm' : ¬ c = m := by omega
  have hne : ¬ ((m : Int) = (n : Int)) := by omega
  have hmI : (m : Int) ≤ (n : Int) := by omega
  have hnc : (n : Int) ≤ (c : Int) := by omega
  have hm0 : (m : Int) ≤ (c : Int) := by omega
  have hnm : ¬ n = m := by omega
  clear hW2 hgd hg hcs hzv hz0 hz2
  go_enter Try.func38, Try.ntmps38
  go_wp2_with fail
  go_region_law (refine step_append_room rfl (.tmp 22) (.tmp 25) 71 rfl 76 iE 51 Try.underlying71 hiE hz1 g 0 m c (by simp [Act.eval, Act.put]) A 0 (c - n) [] (by simp [Act.eval, Act.put]) rfl (fun t u hu => by simp at hu) (fun u hu => by simp at hu) (by omega) (fun t ht => by simp at ht) ?_; rw [HW.out])
  go_wp2_with fail
  go_ret
  obtain ⟨cs, k1, k2, k3⟩ := HG2.out
  exact ⟨by simp, cs, k1, k2, k3, HS2.out⟩

end Go.Proofs.Ytpbokenambjclaa
