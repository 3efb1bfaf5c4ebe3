/- slices.Delete of the first deeds; the contract of the history's Forget. -/
import Derived.Test.YtmncjecbgakmfaaRtMore
namespace Go.Proofs.Ytmncjecbgakmfaa
open Go.RowKit
set_option linter.unusedVariables false
set_option linter.unusedSimpArgs false
set_option maxRecDepth 4000

set_option maxHeartbeats 4000000 in
set_option maxRecDepth 100000 in
theorem delDe_any (w : World) (g n c j : Nat) (cur : Array Value) (hg : w.heap[g]? = some (.cells cur 69 (0, 0))) (hcs : cur.size = c * 2) (hn : n ≤ c) (hcm : c ≤ maxLen) (hj : j ≤ n) (h1 : ∀ u ∈ cur.toList.take (n * 2), u.oneCell' = true) :
    Calls Try.prog 35 #[.slice (some ⟨g, 0, none⟩) n c, .int .i64 0, .int .i64 j] w fun e w' => e = .returned (.slice (some ⟨g, 0, none⟩) (n - j) c) ∧ ∃ cs, w'.heap[g]? = some (.cells cs 69 (0, 0)) ∧ cs.size = c * 2 ∧ cs.toList.take ((n - j) * 2) = (cur.toList.take (n * 2)).drop (j * 2) ∧ Sole [g] w w' := by
  unfold maxLen at hcm
  obtain ⟨iE, hiE, hz0, hz1, hz2⟩ := info_parts info_de
  by_cases hj0 : j = 0
  · subst hj0
    have h0 : Calls Try.prog 35 #[.slice (some ⟨g, 0, none⟩) n c, .int .i64 0, .int .i64 ((0 : Nat) : Int)] w fun e w' => e = .returned (.slice (some ⟨g, 0, none⟩) n c) ∧ w' = w := by
      clear hg hcs h1
      go_enter Try.func35, Try.ntmps35
      go_wp2
      all_goals (go_ret; exact ⟨rfl, rfl⟩)
    refine h0.mono ?_
    rintro e w' ⟨rfl, rfl⟩
    exact ⟨rfl, cur, hg, hcs, by simp, Sole.refl _ _⟩
  · obtain ⟨m, rfl⟩ : ∃ m, n = m + j := ⟨n - j, by omega⟩
    obtain ⟨news, hnews⟩ : ∃ news, news = (cur.toList.take ((m + j) * 2)).drop (j * 2) := ⟨_, rfl⟩
    have hlen : news.length = m * 2 := by rw [hnews]; simp [hcs]; omega
    have hone : ∀ u ∈ news, u.oneCell' = true := fun u hu => h1 u (by rw [hnews] at hu; exact List.mem_of_mem_drop hu)
    have hget : ∀ t u, news[t]? = some u → cur[j * 2 + t]? = some u := by
      intro t u hu
      have ht := (List.getElem?_eq_some_iff.1 hu).1
      rw [hnews, List.getElem?_drop, List.getElem?_take, if_pos (by omega), Array.getElem?_toList] at hu
      exact hu
    have hgd : w.drew.heap[g]? = some (.cells cur 69 (0, 0)) := hg
    obtain ⟨A, hA, hsrc⟩ : ∃ A : Addr, (if c = j then some (⟨g, 0, none⟩ : Addr) else some ⟨g, j * 2, none⟩) = some A ∧ Hid (∀ t u, news[t]? = some u → w.drew.cell? (A.add t) = some u) := by
      by_cases h : c = j
      · refine ⟨⟨g, 0, none⟩, by simp [h], fun t u hu => ?_⟩
        have h0 : news.length = 0 := by rw [hlen]; omega
        rw [List.length_eq_zero_iff.1 h0] at hu
        simp at hu
      · refine ⟨⟨g, j * 2, none⟩, by simp [h], fun t u hu => ?_⟩
        rw [Addr.add_lit, cell_of_row _ _ _ _ _ (0, 0) hgd]
        exact hget t u hu
    have s1 : Hid (news.length = m * 2) := hlen
    have s2 : Hid (∀ u ∈ news, u.oneCell' = true) := hone
    have s3 : Hid (∀ t, t < news.length → (w.drew.cell? ⟨g, 0 + 0 * 2 + t, none⟩).isSome = true ∧ w.drew.frozen? ⟨g, 0 + 0 * 2 + t, none⟩ = false) := by
      intro t ht
      refine ⟨?_, frozen_of_row _ g _ _ _ hgd⟩
      rw [cell_of_row _ _ _ _ _ (0, 0) hgd, Array.getElem?_eq_getElem (by omega)]
      rfl
    obtain ⟨W1, hW1⟩ : ∃ W1, W1 = w.drew.setCells g (0 + 0 * 2) news := ⟨_, rfl⟩
    have hW1' : W1 = w.drew.setRow g (news ++ cur.toList.drop (m * 2)).toArray := by
      rw [hW1, setCells_row Try.prog w.drew g (0 + 0 * 2) _ news cur hgd (by omega) hone, hlen]
      simp
    obtain ⟨cu1, hcu1⟩ : ∃ cu1, (news ++ cur.toList.drop (m * 2)).toArray = cu1 := ⟨_, rfl⟩
    have hcz1 : cu1.size = c * 2 := by rw [← hcu1]; simp [hlen, hcs]; omega
    have hct1 : cu1.toList.take (m * 2) = news := by rw [← hcu1]; simp [← hlen]
    rw [hcu1] at hW1'
    have hg1 : W1.heap[g]? = some (.cells cu1 69 (0, 0)) := by rw [hW1']; exact setRow_heap w.drew g cur _ _ _ hgd
    have hS1 : Sole [g] w W1 := by rw [hW1']; exact ⟨rfl, rfl, rfl, by simp, fun k _ hk => setRow_other w.drew g k _ (fun e => hk (by simp [e]))⟩
    have hzv : ∀ w, (zeroValue 69).run Try.prog w = .ok (Value.agg #[.int .u64 0, .slice none 0 0]) w := by intro w; simp [zeroValue, typeInfo, hiE, hz0]
    have hzl : (Builtin.zeroCells (Value.agg #[.int .u64 0, .slice none 0 0]).cells j).toList.length = j * 2 := by simp [Builtin.zeroCells, Value.cells]
    have hzo : ∀ u ∈ (Builtin.zeroCells (Value.agg #[.int .u64 0, .slice none 0 0]).cells j).toList, u.oneCell' = true := by
      intro u hu
      obtain ⟨t, ht, rfl⟩ := List.mem_iff_getElem.1 hu
      rcases Nat.mod_two_eq_zero_or_one t with h | h <;> simp [Builtin.zeroCells, Value.cells, h, Value.oneCell']
    obtain ⟨W2, hW2⟩ : ∃ W2, W1.setRow g (cu1.toList.take (m * 2) ++ (Builtin.zeroCells (Value.agg #[.int .u64 0, .slice none 0 0]).cells j).toList ++ cu1.toList.drop (m * 2 + (Builtin.zeroCells (Value.agg #[.int .u64 0, .slice none 0 0]).cells j).toList.length)).toArray = W2 := ⟨_, rfl⟩
    have hcl : ∀ ty, (Builtin.clear_ #[65] ty #[.slice (some ⟨g, m * 2, none⟩) j (c - m)]).run Try.prog W1 = .ok (.tuple #[]) W2 := fun ty => by
      rw [run_clear_row Try.prog W1 _ _ ty _ Try.underlying65 hzv g (m * 2) j (c - m) cu1 (by omega) hzo hg1 (by rw [hzl, hcz1]; omega), hW2]
    have hg2 : ∃ cs, W2.heap[g]? = some (.cells cs 69 (0, 0)) ∧ cs.size = c * 2 ∧ cs.toList.take (m * 2) = news := by
      refine ⟨_, by rw [← hW2]; exact setRow_heap W1 g cu1 _ _ _ hg1, ?_, ?_⟩
      · simp only [List.size_toArray, List.length_append, List.length_take, List.length_drop, Array.length_toList, hzl, hcz1]; omega
      · rw [hct1]; simp [← hlen]
    have hS2 : Sole [g] w W2 := by rw [← hW2]; exact hS1.trans ⟨rfl, rfl, rfl, by simp, fun k _ hk => setRow_other W1 g k _ (fun e => hk (by simp [e]))⟩
    have HW : Hid (W1 = w.drew.setCells g (0 + 0 * 2) news) := hW1
    have HG2 : Hid _ := hg2
    have HS2 : Hid _ := hS2
    have HNW : Hid _ := hnews
    have hjc : j ≤ c := by omega
    have hjI : (j : Int) ≤ (m : Int) + (j : Int) := by omega
    have hmI : (m : Int) ≤ (m : Int) + (j : Int) := by omega
    have hmc : (m : Int) + (j : Int) ≤ (c : Int) := by omega
    have hcm' : ¬ c = m := by omega
    clear hW1 hW1' hg1 hg2 hS1 hS2 hnews hlen hget hone hgd hg h1 hcu1 hcz1 hct1 hzl hzo hzv hW2 hcs
    go_enter Try.func35, Try.ntmps35
    go_wp2_with fail
    go_region_law (refine step_append_room rfl (.tmp 22) (.tmp 25) 65 rfl 69 iE 2 Try.underlying65 hiE hz1 g 0 0 c (by simp [Act.eval, Act.put]) A m (c - j) news (by simp [Act.eval, Act.put]) s1.out hsrc.out s2.out (by omega) s3.out ?_; rw [← HW.out])
    go_wp2_with fail
    go_ret
    obtain ⟨cs, k1, k2, k3⟩ := HG2.out
    refine ⟨by simp, cs, k1, k2, ?_, HS2.out⟩
    rw [Nat.add_sub_cancel, k3, HNW.out]

set_option maxHeartbeats 4000000 in
set_option maxRecDepth 100000 in
theorem delDe_none (w : World) (a : Option Addr) (n c : Nat) (hn : n ≤ c) (hcm : c ≤ maxLen) (ha : a = none → n = 0 ∧ c = 0) :
    Calls Try.prog 35 #[.slice a n c, .int .i64 0, .int .i64 0] w fun e w' => e = .returned (.slice a n c) ∧ w = w' := by
  unfold maxLen at hcm
  cases a with
  | none =>
    obtain ⟨rfl, rfl⟩ := ha rfl
    clear ha hn hcm
    go_enter Try.func35, Try.ntmps35
    go_wp2
    go_ret
    exact ⟨rfl, rfl⟩
  | some a =>
    clear ha
    have h1 : (n : Int) ≤ (c : Int) := by omega
    go_enter Try.func35, Try.ntmps35
    go_wp2
    all_goals (go_ret; exact ⟨rfl, rfl⟩)

/-- What is left of a row of deeds behind its first ones. -/
def DelOut (w w' : World) (hv : Value) (K : List De) (j : Nat) (u : Value) : Prop :=
  w'.ownsRow 0 69 2 u (K.length - j) ((K.drop j).flatMap deE) ∧ u.ownBlock = hv.ownBlock ∧ Sole hv.ownBlock.toList w w'

theorem drop_flatDe : ∀ (K : List De) (j : Nat), (K.flatMap deE).drop (j * 2) = (K.drop j).flatMap deE
  | K, 0 => by simp
  | [], j + 1 => by simp
  | x :: K, j + 1 => by
    rw [List.flatMap_cons, show (j + 1) * 2 = (deE x).length + j * 2 by rw [de_len]; omega, List.drop_append, List.drop_succ_cons]
    simp [drop_flatDe K j, de_len]

theorem del_any {w : World} {hv : Value} {K : List De} (h : w.ownsRow 0 69 2 hv K.length (K.flatMap deE)) (h1 : ∀ d ∈ K, ∀ u ∈ deE d, u.oneCell' = true) {j : Nat} (hj : j ≤ K.length) :
    Calls Try.prog 35 #[hv, .int .i64 0, .int .i64 j] w fun e w' => ∃ u, e = .returned u ∧ DelOut w w' hv K j u := by
  obtain ⟨hl, ⟨rfl, h2⟩ | ⟨g, c, cur, rfl, _, hg, hnc, hcm, hcs, htk⟩⟩ := h
  · obtain rfl : j = 0 := by omega
    have hK : K = [] := List.eq_nil_of_length_eq_zero h2
    subst hK
    refine (delDe_none w none 0 0 (Nat.le_refl _) (Nat.zero_le _) (fun _ => ⟨rfl, rfl⟩)).mono ?_
    rintro e w' ⟨rfl, rfl⟩
    exact ⟨_, rfl, World.ownsRow_nil _ _ _ _, rfl, Sole.refl _ _⟩
  · refine (delDe_any w g K.length c j cur hg hcs hnc hcm hj (fun u hu => ?_)).mono ?_
    · rw [htk] at hu
      obtain ⟨d, hd, hu⟩ := List.mem_flatMap.1 hu
      exact h1 d hd u hu
    · rintro e w' ⟨rfl, cs, k1, k2, k3, k4⟩
      refine ⟨_, rfl, ⟨?_, .inr ⟨g, c, cs, rfl, Nat.zero_le _, k1, by omega, hcm, k2, ?_⟩⟩, rfl, k4⟩
      · rw [flat_len de_len, List.length_drop]
      · rw [k3, htk, drop_flatDe]

end Go.Proofs.Ytmncjecbgakmfaa
