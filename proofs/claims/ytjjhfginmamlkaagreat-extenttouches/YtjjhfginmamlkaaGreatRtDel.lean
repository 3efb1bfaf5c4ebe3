/- slices.Delete of the last touches; a touch that is read out of a row. -/
import Derived.Test.YtjjhfginmamlkaaGreatR2
namespace Go.Proofs.YtjjhfginmamlkaaGreat
open Go.RowKit Go.Maps
set_option linter.unusedVariables false
set_option linter.unusedSimpArgs false
set_option maxRecDepth 100000

/-- One of a row of touches. -/
theorem tc_load {w : World} {b off n cap : Nat} {l : List Tc} (h : RdZ 5 tcE w (.slice (some ⟨b, off, none⟩) n cap) l) {i : Nat} {x : Tc} (hx : l[i]? = some x) :
    (Instr.loadAt 61 (.pointer (some ⟨b, off + i * 5, none⟩))).run Tryz.prog w = .ok (.agg #[.int .i64 x.kind, .int .u32 x.ino, .string x.name, .int .i64 x.lo, .int .i64 x.hi]) w := by
  obtain ⟨⟨a, c, e, h1, h2, h3⟩, _⟩ := h
  simp only [Value.slice.injEq] at e
  obtain ⟨rfl, rfl, rfl⟩ := e
  obtain ⟨b', off', e', hlt, hc⟩ := h3 (by intro e; subst e; simp at hx)
  simp only [Option.some.injEq, Addr.mk.injEq] at e'
  obtain ⟨rfl, rfl, _⟩ := e'
  have hr : w.rangeAt b (off + i * 5) (tcE x) := fun j u hu => hc i x j u hx hu
  exact run_loadAt_mid (P := Tryz.prog) w b (off + i * 5) 61 _ _ hr Tryz.underlying61 rfl (by kernel_rfl)

theorem tc_cells {w : World} {a : Option Addr} {n cap : Nat} {l : List Tc} (h : RdZ 5 tcE w (.slice a n cap) l) {i : Nat} {x : Tc} (hx : l[i]? = some x) :
    ∃ b off, a = some ⟨b, off, none⟩ ∧ w.cell? ⟨b, off + i * 5, none⟩ = some (.int .i64 x.kind) ∧ w.cell? ⟨b, off + i * 5 + 1, none⟩ = some (.int .u32 x.ino) ∧ w.cell? ⟨b, off + i * 5 + 2, none⟩ = some (.string x.name) ∧ w.cell? ⟨b, off + i * 5 + 3, none⟩ = some (.int .i64 x.lo) ∧ w.cell? ⟨b, off + i * 5 + 4, none⟩ = some (.int .i64 x.hi) := by
  obtain ⟨⟨a', c, e, h1, h2, h3⟩, _⟩ := h
  simp only [Value.slice.injEq] at e
  obtain ⟨rfl, rfl, rfl⟩ := e
  obtain ⟨b, off, rfl, hlt, hc⟩ := h3 (by intro e; subst e; simp at hx)
  exact ⟨b, off, rfl, hc i x 0 _ hx rfl, hc i x 1 _ hx rfl, hc i x 2 _ hx rfl, hc i x 3 _ hx rfl, hc i x 4 _ hx rfl⟩

theorem zc_one (n : Nat) : ∀ u ∈ (Builtin.zeroCells (Value.agg (tcC tc0)).cells n).toList, u.oneCell' = true := by
  intro u hu
  have hz : ∀ v ∈ (tcC tc0).toList, v.oneCell' = true := fun v hv => tc_one tc0 v (by simpa [tcC, tcE] using hv)
  obtain ⟨t, ht, rfl⟩ := List.mem_iff_getElem.1 hu
  have hs : (tcC tc0).size = 5 := rfl
  have hlt : t % 5 < 5 := Nat.mod_lt _ (by decide)
  have e : (Builtin.zeroCells (Value.agg (tcC tc0)).cells n).toList[t] = (tcC tc0)[t % 5]! := by
    simp [Builtin.zeroCells, Value.cells, hs]
  rw [e, getElem!_pos _ _ (by rw [hs]; exact hlt)]
  exact hz _ (by simp)
theorem zc_len (n : Nat) : (Builtin.zeroCells (Value.agg (tcC tc0)).cells n).toList.length = n * 5 := by
  have hs : (tcC tc0).size = 5 := rfl
  simp [Builtin.zeroCells, Value.cells, hs]

set_option maxHeartbeats 4000000 in
theorem del_some (w : World) (g n c m : Nat) (cur : Array Value) (hg : w.heap[g]? = some (.cells cur 61 (0, 0))) (hcs : cur.size = c * 5) (hn : n ≤ c) (hcm : c ≤ maxLen) (hm : m < n) :
    Calls Tryz.prog 45 #[.slice (some ⟨g, 0, none⟩) n c, .int .i64 m, .int .i64 n] w fun e w' => e = .returned (.slice (some ⟨g, 0, none⟩) m c) ∧ ∃ cs, w'.heap[g]? = some (.cells cs 61 (0, 0)) ∧ cs.size = c * 5 ∧ cs.toList.take (m * 5) = cur.toList.take (m * 5) ∧ Sole [g] w w' := by
  unfold maxLen at hcm
  obtain ⟨iE, hiE, hz0, hz1, hz2⟩ := info_parts info_tc
  have hzv : ∀ w, (zeroValue 61).run Tryz.prog w = .ok (Value.agg (tcC tc0)) w := by intro w; simp [zeroValue, typeInfo, hiE, hz0]
  have hj : 0 < n - m := by omega
  have hgd : w.drew.heap[g]? = some (.cells cur 61 (0, 0)) := hg
  obtain ⟨W2, hW2⟩ : ∃ W2, w.drew.setRow g (cur.toList.take (m * 5) ++ (Builtin.zeroCells (Value.agg (tcC tc0)).cells (n - m)).toList ++ cur.toList.drop (m * 5 + (Builtin.zeroCells (Value.agg (tcC tc0)).cells (n - m)).toList.length)).toArray = W2 := ⟨_, rfl⟩
  have hcl : ∀ ty, (Builtin.clear_ #[58] ty #[.slice (some ⟨g, m * 5, none⟩) (n - m) (c - m)]).run Tryz.prog w.drew = .ok (.tuple #[]) W2 := fun ty => by
    rw [run_clear_row Tryz.prog w.drew _ _ ty _ Tryz.underlying58 hzv g (m * 5) (n - m) (c - m) cur (by omega) (zc_one (n - m)) hgd (by rw [zc_len, hcs, ← Nat.add_mul]; exact Nat.mul_le_mul_right 5 (by omega)), hW2]
  have HG2 : Hid (∃ cs, W2.heap[g]? = some (.cells cs 61 (0, 0)) ∧ cs.size = c * 5 ∧ cs.toList.take (m * 5) = cur.toList.take (m * 5)) := by
    have hml : m * 5 ≤ c * 5 := Nat.mul_le_mul_right 5 (by omega)
    have hmj : m * 5 + (n - m) * 5 ≤ c * 5 := by rw [← Nat.add_mul]; exact Nat.mul_le_mul_right 5 (by omega)
    have hzs := zc_len (n - m)
    refine ⟨_, by rw [← hW2]; exact setRow_heap w.drew g cur _ _ _ hgd, ?_, ?_⟩
    · rw [List.size_toArray, List.length_append, List.length_append, hzs, List.length_take, List.length_drop, Array.length_toList, hcs]; omega
    · rw [List.append_assoc, List.take_append_of_le_length (by rw [List.length_take, Array.length_toList, hcs]; omega), List.take_take, Nat.min_self]
  have HS2 : Hid (Sole [g] w W2) := by unfold Hid; rw [← hW2]; exact (Sole.drew w _).trans ⟨rfl, rfl, rfl, by simp [World.setRow], fun k _ hk => setRow_other w.drew g k _ (fun e => hk (by simp [e]))⟩
  obtain ⟨A, hA⟩ : ∃ A : Addr, (if c = n then some (⟨g, 0, none⟩ : Addr) else some ⟨g, n * 5, none⟩) = some A := by
    by_cases h : c = n
    · exact ⟨_, if_pos h⟩
    · exact ⟨_, if_neg h⟩
  have HW : Hid (w.drew.setCells g (0 + m * 5) [] = w.drew) := rfl
  have hcm' : ¬ c = m := by omega
  have hne : ¬ ((m : Int) = (n : Int)) := by omega
  have hmI : (m : Int) ≤ (n : Int) := by omega
  have hnc : (n : Int) ≤ (c : Int) := by omega
  have hm0 : (m : Int) ≤ (c : Int) := by omega
  have hnm : ¬ n = m := by omega
  clear hW2 hgd hg hcs hzv hz0 hz2
  go_enter Tryz.func45, Tryz.ntmps45
  go_wp2_with fail
  go_region_law (refine step_append_room rfl (.tmp 22) (.tmp 25) 58 rfl 61 iE 5 Tryz.underlying58 hiE hz1 g 0 m c (by simp [Act.eval, Act.put]) A 0 (c - n) [] (by simp [Act.eval, Act.put]) rfl (fun t u hu => by simp at hu) (fun u hu => by simp at hu) (by omega) (fun t ht => by simp at ht) ?_; rw [HW.out])
  go_wp2_with fail
  go_ret
  obtain ⟨cs, k1, k2, k3⟩ := HG2.out
  exact ⟨by simp, cs, k1, k2, k3, HS2.out⟩

set_option maxHeartbeats 4000000 in
theorem del_none (w : World) (a : Option Addr) (n c : Nat) (hn : n ≤ c) (hcm : c ≤ maxLen) (ha : a = none → n = 0 ∧ c = 0) :
    Calls Tryz.prog 45 #[.slice a n c, .int .i64 n, .int .i64 n] w fun e w' => e = .returned (.slice a n c) ∧ w = w' := by
  unfold maxLen at hcm
  cases a with
  | none =>
    obtain ⟨rfl, rfl⟩ := ha rfl
    clear ha hn hcm
    go_enter Tryz.func45, Tryz.ntmps45
    go_wp2
    go_ret
    exact ⟨rfl, rfl⟩
  | some a =>
    clear ha
    have h1 : (n : Int) ≤ (c : Int) := by omega
    go_enter Tryz.func45, Tryz.ntmps45
    go_wp2
    all_goals (go_ret; exact ⟨rfl, rfl⟩)

end Go.Proofs.YtjjhfginmamlkaaGreat
