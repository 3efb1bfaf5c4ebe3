/- WDel, WLetI, WDelO: in one text. -/
import Derived.Test.YtckcdmkgmbicfaaGreatMW6
import Derived.Deep.RegionLaw
import Derived.ArgAppend
import Derived.Deep.DeepAppendRoom
import Derived.Test.YtckcdmkgmbicfaaGreatWLog
import Derived.Test.YtckcdmkgmbicfaaGreatWPieces
namespace Go.Proofs.YtckcdmkgmbicfaaGreat
open Go.RowKit
set_option linter.unusedVariables false
set_option linter.unusedSimpArgs false
set_option maxRecDepth 4000

/-- 'clear(s)', s a part of a row, its elements of some cells each. -/
theorem run_clear_row (P : Program) (w : World) (t e ty : TypeId) (z : Value) (ht : P.underlying t = some (.slice e)) (hv : ∀ w, (zeroValue e).run P w = .ok z w) (g o n c : Nat) (cur : Array Value) (hn : 0 < n) (h1 : ∀ u ∈ (Builtin.zeroCells z.cells n).toList, u.oneCell' = true)
    (hg : w.heap[g]? = some (.cells cur e (0, 0))) (hfit : o + (Builtin.zeroCells z.cells n).toList.length ≤ cur.size) :
    (Builtin.clear_ #[t] ty #[.slice (some ⟨g, o, none⟩) n c]).run P w = .ok (.tuple #[]) (w.setRow g (cur.toList.take o ++ (Builtin.zeroCells z.cells n).toList ++ cur.toList.drop (o + (Builtin.zeroCells z.cells n).toList.length)).toArray) := by
  have hst := run_storeCells_at P g o e (Builtin.zeroCells z.cells n).toList 0 cur w hg (by simpa using hfit) h1
  simp only [Nat.add_zero] at hst
  obtain ⟨m, rfl⟩ : ∃ m, n = m + 1 := ⟨n - 1, by omega⟩
  simp [Builtin.clear_, run_underlying ht, hv]
  simp at hst
  rw [hst]
  rfl

/-- Both ways to say that a row's cells were stored are the same. -/
theorem setCells_row (P : Program) (w : World) (g o : Nat) (e : TypeId) (vs : List Value) (cur : Array Value) (hg : w.heap[g]? = some (.cells cur e (0, 0))) (hfit : o + vs.length ≤ cur.size) (h1 : ∀ u ∈ vs, u.oneCell' = true) :
    w.setCells g o vs = w.setRow g (cur.toList.take o ++ vs ++ cur.toList.drop (o + vs.length)).toArray := by
  have a1 := run_storeCells_at P g o e vs 0 cur w hg (by simpa using hfit) h1
  have a2 := run_storeCells_cells (P := P) g o vs 0 w (fun j hj => by rw [cell_of_row _ _ _ _ _ (0, 0) hg, Array.getElem?_eq_getElem (by omega)]; rfl) (fun j hj => frozen_of_row w g _ _ _ hg) h1
  rw [a1] at a2
  simp only [Nat.add_zero, Result.ok.injEq, true_and] at a2
  exact a2.symm

-- GEN

set_option maxHeartbeats 4000000 in
set_option maxRecDepth 100000 in
theorem delSl_any (w : World) (g n c j : Nat) (cur : Array Value) (hg : w.heap[g]? = some (.cells cur 84 (0, 0))) (hcs : cur.size = c * 2) (hn : n ≤ c) (hcm : c ≤ maxLen) (hj : j ≤ n) (h1 : ∀ u ∈ cur.toList.take (n * 2), u.oneCell' = true) :
    Calls Tryz.prog 47 #[.slice (some ⟨g, 0, none⟩) n c, .int .i64 0, .int .i64 j] w fun e w' => e = .returned (.slice (some ⟨g, 0, none⟩) (n - j) c) ∧ ∃ cs, w'.heap[g]? = some (.cells cs 84 (0, 0)) ∧ cs.size = c * 2 ∧ cs.toList.take ((n - j) * 2) = (cur.toList.take (n * 2)).drop (j * 2) ∧ Sole [g] w w' := by
  unfold maxLen at hcm
  obtain ⟨iE, hiE, hz0, hz1, hz2⟩ := info_parts Tryz.infoSl
  by_cases hj0 : j = 0
  · subst hj0
    have h0 : Calls Tryz.prog 47 #[.slice (some ⟨g, 0, none⟩) n c, .int .i64 0, .int .i64 ((0 : Nat) : Int)] w fun e w' => e = .returned (.slice (some ⟨g, 0, none⟩) n c) ∧ w' = w := by
      clear hg hcs h1
      go_enter Tryz.func47, Tryz.ntmps47
      go_wp2
      all_goals (go_ret; exact ⟨rfl, rfl⟩)
    refine h0.mono ?_
    rintro e w' ⟨rfl, rfl⟩
    exact ⟨rfl, cur, hg, hcs, by simp, Sole.refl _ _⟩
  · obtain ⟨m, rfl⟩ : ∃ m, n = m + j := ⟨n - j, by omega⟩
    obtain ⟨news, hnews⟩ : ∃ news, news = (cur.toList.take ((m + j) * 2)).drop (j * 2) := ⟨_, rfl⟩
    have hlen : news.length = m * 2 := by rw [hnews]; simp [hcs]; omega
    have hone : ∀ u ∈ news, u.oneCell' = true := fun u hu => h1 u (by rw [hnews] at hu; exact List.mem_of_mem_drop hu)
    have hget : ∀ t u, news[t]? = some u → cur[j * 2 + t]? = some u := by
      intro t u hu
      have ht := (List.getElem?_eq_some_iff.1 hu).1
      rw [hnews, List.getElem?_drop, List.getElem?_take, if_pos (by omega), Array.getElem?_toList] at hu
      exact hu
    have hgd : w.drew.heap[g]? = some (.cells cur 84 (0, 0)) := hg
    obtain ⟨A, hA, hsrc⟩ : ∃ A : Addr, (if c = j then some (⟨g, 0, none⟩ : Addr) else some ⟨g, j * 2, none⟩) = some A ∧ Hid (∀ t u, news[t]? = some u → w.drew.cell? (A.add t) = some u) := by
      by_cases h : c = j
      · refine ⟨⟨g, 0, none⟩, by simp [h], fun t u hu => ?_⟩
        have h0 : news.length = 0 := by rw [hlen]; omega
        rw [List.length_eq_zero_iff.1 h0] at hu
        simp at hu
      · refine ⟨⟨g, j * 2, none⟩, by simp [h], fun t u hu => ?_⟩
        rw [Addr.add_lit, cell_of_row _ _ _ _ _ (0, 0) hgd]
        exact hget t u hu
    have s1 : Hid (news.length = m * 2) := hlen
    have s2 : Hid (∀ u ∈ news, u.oneCell' = true) := hone
    have s3 : Hid (∀ t, t < news.length → (w.drew.cell? ⟨g, 0 + 0 * 2 + t, none⟩).isSome = true ∧ w.drew.frozen? ⟨g, 0 + 0 * 2 + t, none⟩ = false) := by
      intro t ht
      refine ⟨?_, frozen_of_row _ g _ _ _ hgd⟩
      rw [cell_of_row _ _ _ _ _ (0, 0) hgd, Array.getElem?_eq_getElem (by omega)]
      rfl
    obtain ⟨W1, hW1⟩ : ∃ W1, W1 = w.drew.setCells g (0 + 0 * 2) news := ⟨_, rfl⟩
    have hW1' : W1 = w.drew.setRow g (news ++ cur.toList.drop (m * 2)).toArray := by
      rw [hW1, setCells_row Tryz.prog w.drew g (0 + 0 * 2) _ news cur hgd (by omega) hone, hlen]
      simp
    obtain ⟨cu1, hcu1⟩ : ∃ cu1, (news ++ cur.toList.drop (m * 2)).toArray = cu1 := ⟨_, rfl⟩
    have hcz1 : cu1.size = c * 2 := by rw [← hcu1]; simp [hlen, hcs]; omega
    have hct1 : cu1.toList.take (m * 2) = news := by rw [← hcu1]; simp [← hlen]
    rw [hcu1] at hW1'
    have hg1 : W1.heap[g]? = some (.cells cu1 84 (0, 0)) := by rw [hW1']; exact setRow_heap w.drew g cur _ _ _ hgd
    have hS1 : Sole [g] w W1 := by rw [hW1']; exact ⟨rfl, rfl, rfl, by simp, fun k _ hk => setRow_other w.drew g k _ (fun e => hk (by simp [e]))⟩
    have hzv : ∀ w, (zeroValue 84).run Tryz.prog w = .ok (Value.agg #[.int .i64 0, .int .u64 0]) w := by intro w; simp [zeroValue, typeInfo, hiE, hz0]
    have hzl : (Builtin.zeroCells (Value.agg #[.int .i64 0, .int .u64 0]).cells j).toList.length = j * 2 := by simp [Builtin.zeroCells, Value.cells]
    have hzo : ∀ u ∈ (Builtin.zeroCells (Value.agg #[.int .i64 0, .int .u64 0]).cells j).toList, u.oneCell' = true := by
      intro u hu
      obtain ⟨t, ht, rfl⟩ := List.mem_iff_getElem.1 hu
      rcases Nat.mod_two_eq_zero_or_one t with h | h <;> simp [Builtin.zeroCells, Value.cells, h, Value.oneCell']
    obtain ⟨W2, hW2⟩ : ∃ W2, W1.setRow g (cu1.toList.take (m * 2) ++ (Builtin.zeroCells (Value.agg #[.int .i64 0, .int .u64 0]).cells j).toList ++ cu1.toList.drop (m * 2 + (Builtin.zeroCells (Value.agg #[.int .i64 0, .int .u64 0]).cells j).toList.length)).toArray = W2 := ⟨_, rfl⟩
    have hcl : ∀ ty, (Builtin.clear_ #[75] ty #[.slice (some ⟨g, m * 2, none⟩) j (c - m)]).run Tryz.prog W1 = .ok (.tuple #[]) W2 := fun ty => by
      rw [run_clear_row Tryz.prog W1 _ _ ty _ Tryz.underlying75 hzv g (m * 2) j (c - m) cu1 (by omega) hzo hg1 (by rw [hzl, hcz1]; omega), hW2]
    have hg2 : ∃ cs, W2.heap[g]? = some (.cells cs 84 (0, 0)) ∧ cs.size = c * 2 ∧ cs.toList.take (m * 2) = news := by
      refine ⟨_, by rw [← hW2]; exact setRow_heap W1 g cu1 _ _ _ hg1, ?_, ?_⟩
      · simp only [List.size_toArray, List.length_append, List.length_take, List.length_drop, Array.length_toList, hzl, hcz1]; omega
      · rw [hct1]; simp [← hlen]
    have hS2 : Sole [g] w W2 := by rw [← hW2]; exact hS1.trans ⟨rfl, rfl, rfl, by simp, fun k _ hk => setRow_other W1 g k _ (fun e => hk (by simp [e]))⟩
    have HW : Hid (W1 = w.drew.setCells g (0 + 0 * 2) news) := hW1
    have HG2 : Hid _ := hg2
    have HS2 : Hid _ := hS2
    have HNW : Hid _ := hnews
    have hjc : j ≤ c := by omega
    have hjI : (j : Int) ≤ (m : Int) + (j : Int) := by omega
    have hmI : (m : Int) ≤ (m : Int) + (j : Int) := by omega
    have hmc : (m : Int) + (j : Int) ≤ (c : Int) := by omega
    have hcm' : ¬ c = m := by omega
    clear hW1 hW1' hg1 hg2 hS1 hS2 hnews hlen hget hone hgd hg h1 hcu1 hcz1 hct1 hzl hzo hzv hW2 hcs
    go_enter Tryz.func47, Tryz.ntmps47
    go_wp2_with fail
    go_region_law (refine step_append_room rfl (.tmp 22) (.tmp 25) 75 rfl 84 iE 2 Tryz.underlying75 hiE hz1 g 0 0 c (by simp [Act.eval, Act.put]) A m (c - j) news (by simp [Act.eval, Act.put]) s1.out hsrc.out s2.out (by omega) s3.out ?_; rw [← HW.out])
    go_wp2_with fail
    go_ret
    obtain ⟨cs, k1, k2, k3⟩ := HG2.out
    refine ⟨by simp, cs, k1, k2, ?_, HS2.out⟩
    rw [Nat.add_sub_cancel, k3, HNW.out]

set_option maxHeartbeats 4000000 in
set_option maxRecDepth 100000 in
theorem delTk_any (w : World) (g n c j : Nat) (cur : Array Value) (hg : w.heap[g]? = some (.cells cur 94 (0, 0))) (hcs : cur.size = c * 2) (hn : n ≤ c) (hcm : c ≤ maxLen) (hj : j ≤ n) (h1 : ∀ u ∈ cur.toList.take (n * 2), u.oneCell' = true) :
    Calls Tryz.prog 51 #[.slice (some ⟨g, 0, none⟩) n c, .int .i64 0, .int .i64 j] w fun e w' => e = .returned (.slice (some ⟨g, 0, none⟩) (n - j) c) ∧ ∃ cs, w'.heap[g]? = some (.cells cs 94 (0, 0)) ∧ cs.size = c * 2 ∧ cs.toList.take ((n - j) * 2) = (cur.toList.take (n * 2)).drop (j * 2) ∧ Sole [g] w w' := by
  unfold maxLen at hcm
  obtain ⟨iE, hiE, hz0, hz1, hz2⟩ := info_parts Tryz.infoTk
  by_cases hj0 : j = 0
  · subst hj0
    have h0 : Calls Tryz.prog 51 #[.slice (some ⟨g, 0, none⟩) n c, .int .i64 0, .int .i64 ((0 : Nat) : Int)] w fun e w' => e = .returned (.slice (some ⟨g, 0, none⟩) n c) ∧ w' = w := by
      clear hg hcs h1
      go_enter Tryz.func51, Tryz.ntmps51
      go_wp2
      all_goals (go_ret; exact ⟨rfl, rfl⟩)
    refine h0.mono ?_
    rintro e w' ⟨rfl, rfl⟩
    exact ⟨rfl, cur, hg, hcs, by simp, Sole.refl _ _⟩
  · obtain ⟨m, rfl⟩ : ∃ m, n = m + j := ⟨n - j, by omega⟩
    obtain ⟨news, hnews⟩ : ∃ news, news = (cur.toList.take ((m + j) * 2)).drop (j * 2) := ⟨_, rfl⟩
    have hlen : news.length = m * 2 := by rw [hnews]; simp [hcs]; omega
    have hone : ∀ u ∈ news, u.oneCell' = true := fun u hu => h1 u (by rw [hnews] at hu; exact List.mem_of_mem_drop hu)
    have hget : ∀ t u, news[t]? = some u → cur[j * 2 + t]? = some u := by
      intro t u hu
      have ht := (List.getElem?_eq_some_iff.1 hu).1
      rw [hnews, List.getElem?_drop, List.getElem?_take, if_pos (by omega), Array.getElem?_toList] at hu
      exact hu
    have hgd : w.drew.heap[g]? = some (.cells cur 94 (0, 0)) := hg
    obtain ⟨A, hA, hsrc⟩ : ∃ A : Addr, (if c = j then some (⟨g, 0, none⟩ : Addr) else some ⟨g, j * 2, none⟩) = some A ∧ Hid (∀ t u, news[t]? = some u → w.drew.cell? (A.add t) = some u) := by
      by_cases h : c = j
      · refine ⟨⟨g, 0, none⟩, by simp [h], fun t u hu => ?_⟩
        have h0 : news.length = 0 := by rw [hlen]; omega
        rw [List.length_eq_zero_iff.1 h0] at hu
        simp at hu
      · refine ⟨⟨g, j * 2, none⟩, by simp [h], fun t u hu => ?_⟩
        rw [Addr.add_lit, cell_of_row _ _ _ _ _ (0, 0) hgd]
        exact hget t u hu
    have s1 : Hid (news.length = m * 2) := hlen
    have s2 : Hid (∀ u ∈ news, u.oneCell' = true) := hone
    have s3 : Hid (∀ t, t < news.length → (w.drew.cell? ⟨g, 0 + 0 * 2 + t, none⟩).isSome = true ∧ w.drew.frozen? ⟨g, 0 + 0 * 2 + t, none⟩ = false) := by
      intro t ht
      refine ⟨?_, frozen_of_row _ g _ _ _ hgd⟩
      rw [cell_of_row _ _ _ _ _ (0, 0) hgd, Array.getElem?_eq_getElem (by omega)]
      rfl
    obtain ⟨W1, hW1⟩ : ∃ W1, W1 = w.drew.setCells g (0 + 0 * 2) news := ⟨_, rfl⟩
    have hW1' : W1 = w.drew.setRow g (news ++ cur.toList.drop (m * 2)).toArray := by
      rw [hW1, setCells_row Tryz.prog w.drew g (0 + 0 * 2) _ news cur hgd (by omega) hone, hlen]
      simp
    obtain ⟨cu1, hcu1⟩ : ∃ cu1, (news ++ cur.toList.drop (m * 2)).toArray = cu1 := ⟨_, rfl⟩
    have hcz1 : cu1.size = c * 2 := by rw [← hcu1]; simp [hlen, hcs]; omega
    have hct1 : cu1.toList.take (m * 2) = news := by rw [← hcu1]; simp [← hlen]
    rw [hcu1] at hW1'
    have hg1 : W1.heap[g]? = some (.cells cu1 94 (0, 0)) := by rw [hW1']; exact setRow_heap w.drew g cur _ _ _ hgd
    have hS1 : Sole [g] w W1 := by rw [hW1']; exact ⟨rfl, rfl, rfl, by simp, fun k _ hk => setRow_other w.drew g k _ (fun e => hk (by simp [e]))⟩
    have hzv : ∀ w, (zeroValue 94).run Tryz.prog w = .ok (Value.agg #[.int .u64 0, .slice none 0 0]) w := by intro w; simp [zeroValue, typeInfo, hiE, hz0]
    have hzl : (Builtin.zeroCells (Value.agg #[.int .u64 0, .slice none 0 0]).cells j).toList.length = j * 2 := by simp [Builtin.zeroCells, Value.cells]
    have hzo : ∀ u ∈ (Builtin.zeroCells (Value.agg #[.int .u64 0, .slice none 0 0]).cells j).toList, u.oneCell' = true := by
      intro u hu
      obtain ⟨t, ht, rfl⟩ := List.mem_iff_getElem.1 hu
      rcases Nat.mod_two_eq_zero_or_one t with h | h <;> simp [Builtin.zeroCells, Value.cells, h, Value.oneCell']
    obtain ⟨W2, hW2⟩ : ∃ W2, W1.setRow g (cu1.toList.take (m * 2) ++ (Builtin.zeroCells (Value.agg #[.int .u64 0, .slice none 0 0]).cells j).toList ++ cu1.toList.drop (m * 2 + (Builtin.zeroCells (Value.agg #[.int .u64 0, .slice none 0 0]).cells j).toList.length)).toArray = W2 := ⟨_, rfl⟩
    have hcl : ∀ ty, (Builtin.clear_ #[74] ty #[.slice (some ⟨g, m * 2, none⟩) j (c - m)]).run Tryz.prog W1 = .ok (.tuple #[]) W2 := fun ty => by
      rw [run_clear_row Tryz.prog W1 _ _ ty _ Tryz.underlying74 hzv g (m * 2) j (c - m) cu1 (by omega) hzo hg1 (by rw [hzl, hcz1]; omega), hW2]
    have hg2 : ∃ cs, W2.heap[g]? = some (.cells cs 94 (0, 0)) ∧ cs.size = c * 2 ∧ cs.toList.take (m * 2) = news := by
      refine ⟨_, by rw [← hW2]; exact setRow_heap W1 g cu1 _ _ _ hg1, ?_, ?_⟩
      · simp only [List.size_toArray, List.length_append, List.length_take, List.length_drop, Array.length_toList, hzl, hcz1]; omega
      · rw [hct1]; simp [← hlen]
    have hS2 : Sole [g] w W2 := by rw [← hW2]; exact hS1.trans ⟨rfl, rfl, rfl, by simp, fun k _ hk => setRow_other W1 g k _ (fun e => hk (by simp [e]))⟩
    have HW : Hid (W1 = w.drew.setCells g (0 + 0 * 2) news) := hW1
    have HG2 : Hid _ := hg2
    have HS2 : Hid _ := hS2
    have HNW : Hid _ := hnews
    have hjc : j ≤ c := by omega
    have hjI : (j : Int) ≤ (m : Int) + (j : Int) := by omega
    have hmI : (m : Int) ≤ (m : Int) + (j : Int) := by omega
    have hmc : (m : Int) + (j : Int) ≤ (c : Int) := by omega
    have hcm' : ¬ c = m := by omega
    clear hW1 hW1' hg1 hg2 hS1 hS2 hnews hlen hget hone hgd hg h1 hcu1 hcz1 hct1 hzl hzo hzv hW2 hcs
    go_enter Tryz.func51, Tryz.ntmps51
    go_wp2_with fail
    go_region_law (refine step_append_room rfl (.tmp 22) (.tmp 25) 74 rfl 94 iE 2 Tryz.underlying74 hiE hz1 g 0 0 c (by simp [Act.eval, Act.put]) A m (c - j) news (by simp [Act.eval, Act.put]) s1.out hsrc.out s2.out (by omega) s3.out ?_; rw [← HW.out])
    go_wp2_with fail
    go_ret
    obtain ⟨cs, k1, k2, k3⟩ := HG2.out
    refine ⟨by simp, cs, k1, k2, ?_, HS2.out⟩
    rw [Nat.add_sub_cancel, k3, HNW.out]

/-- The record of a number. -/
def whichT (fr : Nat) : List Tm → Nat
  | [] => 0
  | x :: l => if x.at_ = fr then 0 else whichT fr l + 1
theorem whichT_le (fr : Nat) : ∀ K, whichT fr K ≤ K.length
  | [] => Nat.le_refl _
  | x :: l => by
    unfold whichT
    split
    · exact Nat.zero_le _
    · have := whichT_le fr l; simp; omega
theorem whichT_at (fr : Nat) : ∀ (K : List Tm) (i : Nat) (x : Tm), (∀ j y, j < i → K[j]? = some y → ¬ y.at_ = fr) → K[i]? = some x → x.at_ = fr → whichT fr K = i
  | [], i, x, _, h, _ => by simp at h
  | y :: l, 0, x, _, h, hx => by
    simp only [List.getElem?_cons_zero, Option.some.injEq] at h
    subst h
    unfold whichT
    rw [if_pos hx]
  | y :: l, i + 1, x, hn, h, hx => by
    have h0 := hn 0 y (by omega) rfl
    unfold whichT
    rw [if_neg h0, whichT_at fr l i x (fun j z hj hz => hn (j + 1) z (by omega) (by simpa using hz)) (by simpa using h) hx]
theorem whichT_none (fr : Nat) : ∀ (K : List Tm), (∀ (j : Nat) (y : Tm), K[j]? = some y → ¬ y.at_ = fr) → whichT fr K = K.length
  | [], _ => rfl
  | y :: l, hn => by
    have h0 := hn 0 y rfl
    unfold whichT
    rw [if_neg h0, whichT_none fr l (fun j z hz => hn (j + 1) z (by simpa using hz))]
    rfl

set_option maxHeartbeats 400000 in
theorem let1_any {w : World} {c : Nat} {fr : Nat} (x : Tm) (hc : w.heap[c]? = some (.cells #[.int .u64 fr] 34 (0, 0))) :
    Calls Tryz.prog 49 #[.agg #[.int .u64 x.at_, .slice x.ba x.blocks.length x.bc], .pointer (some ⟨c, 0, none⟩)] w fun e w' => e = .returned (.bool (decide (x.at_ = fr))) ∧ Below w.heap.size w w' := by
  obtain ⟨w1, hw1⟩ : ∃ w1, w.alloc (.cells #[.int .u64 x.at_, .slice x.ba x.blocks.length x.bc] 94) = w1 := ⟨_, rfl⟩
  have hB1 : Below w.heap.size w w1 := by rw [← hw1]; exact (Below.refl _ w).alloc (Nat.le_refl _) _
  have hg1 : w1.heap[w.heap.size]? = some (.cells #[.int .u64 x.at_, .slice x.ba x.blocks.length x.bc] 94 (0, 0)) := by rw [← hw1]; exact heap_alloc_new w _
  have q0 : w1.cell? ⟨w.heap.size, 0, none⟩ = some (.int .u64 x.at_) := by rw [cell_of_row _ _ 0 _ _ (0, 0) hg1]; rfl
  have q1 : w1.cell? ⟨c, 0, none⟩ = some (.int .u64 fr) := by rw [cell_of_row _ _ 0 _ _ (0, 0) ((hB1.block _ (Array.getElem?_eq_some_iff.1 hc).1).trans hc)]; rfl
  clear hg1 hc
  by_cases h : x.at_ = fr
  · rw [decide_eq_true h]
    subst h
    go_enter Tryz.func49, Tryz.ntmps49
    go_wp2
    go_ret
    refine ⟨?_, hB1⟩
    simp
  · have hI : ¬ (x.at_ : Int) = fr := by omega
    rw [decide_eq_false h]
    clear h
    go_enter Tryz.func49, Tryz.ntmps49
    go_wp2
    go_ret
    refine ⟨?_, hB1⟩
    simp [hI]

set_option maxHeartbeats 1000000 in
theorem indexT_any {base : Nat} {w : World} {c fr : Nat} {a : Option Addr} {cp : Nat} {K : List Tm} (hW : w.ownsRow base 94 2 (.slice a K.length cp) K.length (K.flatMap tmC)) (hK : K.length ≤ 2000) (hc : w.heap[c]? = some (.cells #[.int .u64 fr] 34 (0, 0))) :
    Calls Tryz.prog 48 #[.slice a K.length cp, .func (Fn.func 49) #[] #[.pointer (some ⟨c, 0, none⟩)]] w fun e w' => e = .returned (.int .i64 (if whichT fr K = K.length then -1 else (whichT fr K : Int))) ∧ Below w.heap.size w w' := by
  obtain ⟨Z, hZ⟩ : ∃ Z : Int, (if whichT fr K = K.length then -1 else (whichT fr K : Int)) = Z := ⟨_, rfl⟩
  rw [hZ]
  have HZ : Hid ((if whichT fr K = K.length then -1 else (whichT fr K : Int)) = Z) := hZ
  clear hZ
  have HW : Hid (w.ownsRow base 94 2 (.slice a K.length cp) K.length (K.flatMap tmC)) := hW
  have HC : Hid _ := hc
  have hlc := (Array.getElem?_eq_some_iff.1 hc).1
  clear hW hc
  go_enter Tryz.func48, Tryz.ntmps48
  go_wp2
  go_loopw [5, 8] (fun _ t wr => ∃ i : Nat, i ≤ K.length ∧ t = .int .i64 i ∧ Hid (∀ (j : Nat) (y : Tm), j < i → K[j]? = some y → ¬ y.at_ = fr) ∧ Below w.heap.size w wr) (fun _ t _ => K.length - (RowKit.intOf t).toNat)
  case atStart => exact ⟨0, Nat.zero_le _, rfl, fun j y hj => absurd hj (Nat.not_lt_zero _), Below.refl _ _⟩
  case round =>
    obtain ⟨i, hi, rfl, HN, hbr⟩ := hrel
    by_cases hil : i < K.length
    · have hiI : (i : Int) < K.length := by omega
      obtain ⟨g, cap, hv, hcl, hcm, _, hgl, hcell⟩ := own_tms (n := 0) (own_keep HW.out hbr.size (fun j _ hj => hbr.block j hj)) (by omega)
      simp only [Value.slice.injEq, true_and] at hv
      obtain ⟨rfl, rfl⟩ := hv
      obtain ⟨x, hx⟩ : ∃ x, K[i]? = some x := ⟨_, List.getElem?_eq_getElem hil⟩
      have HX : Hid (K[i]? = some x) := hx
      have c0 : wr.cell? ⟨g, i * 2, none⟩ = some (.int .u64 x.at_) := hcell i x hx 0 _ rfl
      have c1 : wr.cell? ⟨g, i * 2 + 1, none⟩ = some (.slice x.ba x.blocks.length x.bc) := hcell i x hx 1 _ rfl
      have cf := let1_any x ((hbr.block _ hlc).trans HC.out)
      clear hcell hx
      by_cases h : x.at_ = fr
      · have HF : Hid (whichT fr K = i) := whichT_at fr K i x HN.out HX.out h
        rw [decide_eq_true h] at cf
        clear h
        go_wp2_with fail
        refine cf.mono ?_
        rintro e1 w1 ⟨rfl, hb1⟩
        clear cf
        go_wp2
        go_ret
        exact ⟨congrArg (fun z => Ending.returned (Value.int .i64 z)) (by rw [← HZ.out, HF.out, if_neg (by omega)]), hbr.trans (hb1.mono hbr.size)⟩
      · have HN2 : Hid (∀ (j : Nat) (y : Tm), j < i + 1 → K[j]? = some y → ¬ y.at_ = fr) := fun j y hj hy => by
          by_cases e : j = i
          · subst e; rw [HX.out] at hy; cases hy; exact h
          · exact HN.out j y (by omega) hy
        rw [decide_eq_false h] at cf
        clear h
        go_wp2_with fail
        refine cf.mono ?_
        rintro e1 w1 ⟨rfl, hb1⟩
        clear cf
        go_wp2
        go_roundw
        case rel => exact ⟨i + 1, by omega, by go_num, HN2, hbr.trans (hb1.mono hbr.size)⟩
        case measure => simp [RowKit.intOf]; omega
    · obtain rfl : i = K.length := by omega
      have HF : Hid (whichT fr K = K.length) := whichT_none fr K (fun j y hy => HN.out j y (List.getElem?_eq_some_iff.1 hy).1 hy)
      go_wp2
      go_ret
      exact ⟨congrArg (fun z => Ending.returned (Value.int .i64 z)) (by rw [← HZ.out, HF.out, if_pos rfl]), hbr⟩

theorem drop_flat2 {α : Type} (enc : α → List Value) (hk : ∀ x, (enc x).length = 2) : ∀ (K : List α) (j : Nat), j ≤ K.length → (K.flatMap enc).drop (j * 2) = (K.drop j).flatMap enc
  | K, 0, _ => by simp
  | [], j + 1, h => by simp at h
  | x :: K, j + 1, h => by
    rw [List.flatMap_cons, show (j + 1) * 2 = (enc x).length + j * 2 by rw [hk]; omega, List.drop_append, List.drop_succ_cons]
    simp [drop_flat2 enc hk K j (by simpa using h)]

theorem row_apart {w : World} {base n k q : Nat} {e e' : TypeId} {fr : Nat × Nat} {cs : Array Value} {v : Value} {xs : List Value} (he : e ≠ e') (hq : w.heap[q]? = some (.cells cs e fr)) (h : w.ownsRow base e' k v n xs) : v.ownBlock ≠ some q := by
  intro hv
  obtain ⟨_, ⟨rfl, _⟩ | ⟨g, c, cur, rfl, _, hg, _⟩⟩ := h
  · cases hv
  · simp only [Value.ownBlock, Option.some.injEq] at hv
    subst hv
    rw [hq] at hg
    simp only [Option.some.injEq, Obj.cells.injEq] at hg
    exact he hg.2.1

set_option maxHeartbeats 1000000 in
theorem delSl_own {base : Nat} {w : World} {a : Option Addr} {c : Nat} {K : List Sl} (h : w.ownsRow base 84 2 (.slice a K.length c) K.length (K.flatMap slC)) (j : Nat) (hj : j ≤ K.length) :
    Calls Tryz.prog 47 #[.slice a K.length c, .int .i64 0, .int .i64 j] w fun e w' => e = .returned (.slice a (K.length - j) c) ∧ w'.ownsRow base 84 2 (.slice a (K.length - j) c) (K.drop j).length ((K.drop j).flatMap slC) ∧ Sole (Value.slice a K.length c).ownBlock.toList w w' := by
  obtain ⟨hx, ⟨e, hn⟩ | ⟨g, cap, cur, e, hb, hg, h5, h6, h7, h8⟩⟩ := id h
  · obtain rfl : K = [] := List.eq_nil_of_length_eq_zero hn
    simp only [Value.slice.injEq] at e
    obtain ⟨rfl, _, rfl⟩ := e
    obtain rfl : j = 0 := by simpa using hj
    have h0 : Calls Tryz.prog 47 #[.slice none 0 0, .int .i64 0, .int .i64 ((0 : Nat) : Int)] w fun e w' => e = .returned (.slice none 0 0) ∧ w' = w := by
      clear h hx
      go_enter Tryz.func47, Tryz.ntmps47
      go_wp2
      all_goals (go_ret; exact ⟨rfl, rfl⟩)
    refine h0.mono ?_
    rintro e w' ⟨rfl, rfl⟩
    exact ⟨rfl, World.ownsRow_nil _ _ _ _, Sole.refl _ _⟩
  · simp only [Value.slice.injEq, true_and] at e
    obtain ⟨rfl, rfl⟩ := e
    refine (delSl_any w g K.length c j cur hg h7 h5 h6 hj (fun u hu => ?_)).mono ?_
    · rw [h8] at hu
      obtain ⟨x, _, hx⟩ := List.mem_flatMap.1 hu
      simp [slC] at hx
      rcases hx with rfl | rfl <;> rfl
    · rintro e w' ⟨rfl, cs, k1, k2, k3, k4⟩
      have hd := drop_flat2 slC (fun _ => rfl) K j hj
      refine ⟨rfl, ⟨?_, .inr ⟨g, c, cs, by rw [List.length_drop], hb, k1, by rw [List.length_drop]; omega, h6, k2, ?_⟩⟩, k4⟩
      · rw [← hd, List.length_drop, List.length_drop, hx]; omega
      · rw [List.length_drop, k3, h8, hd]

set_option maxHeartbeats 1000000 in
theorem delTk_own {base : Nat} {w : World} {a : Option Addr} {c : Nat} {K : List Tm} (h : w.ownsRow base 94 2 (.slice a K.length c) K.length (K.flatMap tmC)) (j : Nat) (hj : j ≤ K.length) :
    Calls Tryz.prog 51 #[.slice a K.length c, .int .i64 0, .int .i64 j] w fun e w' => e = .returned (.slice a (K.length - j) c) ∧ w'.ownsRow base 94 2 (.slice a (K.length - j) c) (K.drop j).length ((K.drop j).flatMap tmC) ∧ Sole (Value.slice a K.length c).ownBlock.toList w w' := by
  obtain ⟨hx, ⟨e, hn⟩ | ⟨g, cap, cur, e, hb, hg, h5, h6, h7, h8⟩⟩ := id h
  · obtain rfl : K = [] := List.eq_nil_of_length_eq_zero hn
    simp only [Value.slice.injEq] at e
    obtain ⟨rfl, _, rfl⟩ := e
    obtain rfl : j = 0 := by simpa using hj
    have h0 : Calls Tryz.prog 51 #[.slice none 0 0, .int .i64 0, .int .i64 ((0 : Nat) : Int)] w fun e w' => e = .returned (.slice none 0 0) ∧ w' = w := by
      clear h hx
      go_enter Tryz.func51, Tryz.ntmps51
      go_wp2
      all_goals (go_ret; exact ⟨rfl, rfl⟩)
    refine h0.mono ?_
    rintro e w' ⟨rfl, rfl⟩
    exact ⟨rfl, World.ownsRow_nil _ _ _ _, Sole.refl _ _⟩
  · simp only [Value.slice.injEq, true_and] at e
    obtain ⟨rfl, rfl⟩ := e
    refine (delTk_any w g K.length c j cur hg h7 h5 h6 hj (fun u hu => ?_)).mono ?_
    · rw [h8] at hu
      obtain ⟨x, _, hx⟩ := List.mem_flatMap.1 hu
      simp [tmC, Tm.bv] at hx
      rcases hx with rfl | rfl <;> rfl
    · rintro e w' ⟨rfl, cs, k1, k2, k3, k4⟩
      have hd := drop_flat2 tmC (fun _ => rfl) K j hj
      refine ⟨rfl, ⟨?_, .inr ⟨g, c, cs, by rw [List.length_drop], hb, k1, by rw [List.length_drop]; omega, h6, k2, ?_⟩⟩, k4⟩
      · rw [← hd, List.length_drop, List.length_drop, hx]; omega
      · rw [List.length_drop, k3, h8, hd]

end Go.Proofs.YtckcdmkgmbicfaaGreat
