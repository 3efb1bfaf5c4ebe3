/- IConcat, IWrite, IWrite2: in one text. -/
import Derived.Test.YtjlglnhmkheidaaGreatM1
import Derived.Lib.AppendZeros
import Derived.Test.YtjlglnhmkheidaaGreatIGive
import Derived.Deep.RegionHeld3
namespace Go.Proofs.YtjlglnhmkheidaaGreat
open Go.RowKit
set_option linter.unusedVariables false
set_option linter.unusedSimpArgs false
set_option maxRecDepth 4000

theorem wpList_append_runZ {w : World} {ops : Array Oper} {rest : List Oper} {o : Oper} {a : Act} {Q : Exit → Act → World → Prop} (hgd : o.guard = none) (s x : Operand)
    (ho : o.op = .call { callee := .builtin .append, args := #[s, x], argTypes := #[136, 3] }) (v u : Value) (hs : a.eval s = v) (hx : a.eval x = u) (v' : Value) (w' : World)
    (hrun : ∀ ty, (Builtin.append_ #[136, 3] ty #[v, u]).run Tryz.prog w = .ok v' w') (h : wpList Tryz.prog ops Q rest (a.put o.dst v') w') : wpList Tryz.prog ops Q (o :: rest) a w := by
  refine wpList_plain hgd fun K hK => ?_
  unfold Oper.wp
  simp [execOp, ho, resolve, invoke, builtin, hs, hx, hrun, Result.andThen]
  exact hK _ _ h

set_option maxHeartbeats 1000000 in
theorem grow_nil (w : World) (N : Nat) (hN : N ≤ 140737488355328) : Calls Tryz.prog 159 #[.slice none 0 0, .int .i64 N] w fun e w' => ∃ v, e = .returned v ∧ Own w' w.heap.size v [] ∧ Below w.heap.size w w' := by
  rcases Nat.eq_zero_or_pos N with h0 | hp
  · subst h0
    go_enter Tryz.func159, Tryz.ntmps159
    go_wp2
    go_ret
    exact ⟨_, rfl, Own.nil _ _, Below.refl _ _⟩
  · obtain ⟨i, hi, hz0, hz1, hz2⟩ := info_parts Tryz.info5
    have hap : ∀ ty, (Builtin.append_ #[136, 3] ty #[.slice none 0 0, .int .i64 N]).run Tryz.prog w = _ := fun ty =>
      Lib.run_append_nil_zeros w 136 3 ty 5 i (.int .u8 0) .i64 .i64 Tryz.underlying136 Tryz.underlying3 hi hz0 N hp (by omega) (by omega) (by rw [hz2]; omega)
    obtain ⟨c, hge, hcl, hce⟩ : ∃ c, N ≤ c ∧ c ≤ maxLen ∧ c = grownCap w N 0 5 := ⟨_, grownCap_ge w N 0 5, grownCap_le_maxLen w N 0 5 (by unfold maxLen; omega), rfl⟩
    rw [← hce] at hap
    have hcells : (Builtin.zeroCells (Value.int .u8 0).cells N ++ Builtin.zeroCells (Value.int .u8 0).cells (c - N)).size = c := by
      simp [Builtin.zeroCells, Value.cells]; omega
    generalize Builtin.zeroCells (Value.int .u8 0).cells N ++ Builtin.zeroCells (Value.int .u8 0).cells (c - N) = cs at hap hcells
    obtain ⟨w1, hw1⟩ : ∃ w1, w.drew.alloc (.cells cs 5) = w1 := ⟨_, rfl⟩
    have hg1 : w1.heap[w.heap.size]? = some (.cells cs 5 (0, 0)) := by rw [← hw1]; exact heap_alloc_new w.drew _
    have hB : Below w.heap.size w w1 := by rw [← hw1]; exact (Below.refl _ w).drew.alloc (Nat.le_refl _) _
    rw [hw1] at hap
    have HG : Hid (w1.heap[w.heap.size]? = some (.cells cs 5 (0, 0))) := hg1
    clear hw1 hg1 hi hz0 hz1 hz2 hce
    have hpI : 0 < (N : Int) := by omega
    go_enter Tryz.func159, Tryz.ntmps159
    go_wp2_with (at_builtin; refine wpList_append_runZ rfl _ _ rfl _ _ rfl rfl _ _ hap ?_)
    go_ret
    exact ⟨_, rfl, ⟨by simp, .inr ⟨w.heap.size, c, cs, rfl, Nat.le_refl _, HG.out, by simp, hcl, by omega, by simp⟩⟩, hB⟩

theorem iflat_take (L : List (List Int)) (i : Nat) (hi : i < L.length) : (L.take (i + 1)).flatten = (L.take i).flatten ++ L.getD i [] := by
  rw [List.take_succ_eq_append_getElem hi, List.flatten_append, List.getD_eq_getElem?_getD, List.getElem?_eq_getElem hi]
  simp

theorem flat_le (L : List (List Int)) (i : Nat) : (L.take i).flatten.length ≤ L.flatten.length := by
  have h : (L.take i ++ L.drop i).flatten.length = L.flatten.length := by rw [List.take_append_drop]
  rw [List.flatten_append, List.length_append] at h
  omega

set_option maxHeartbeats 2000000 in
theorem concat_any (w : World) (g n : Nat) (V : Nat → Value) (L : List (List Int)) (hL : L.length = n) (hn : n ≤ maxLen) (hg : g < w.heap.size)
    (hc : ∀ i, i < n → w.cell? ⟨g, i, none⟩ = some (V i)) (hr : ∀ i, i < n → Rd w (V i) (L.getD i [])) (hs : L.flatten.length ≤ 140737488355328) :
    Calls Tryz.prog 134 #[.slice (some ⟨g, 0, none⟩) n n] w fun e w' => ∃ v, e = .returned v ∧ Own w' w.heap.size v L.flatten ∧ Below w.heap.size w w' := by
  unfold maxLen at hn
  have hfl := flat_le L
  have hft := iflat_take L
  rw [hL] at hft
  obtain ⟨T, hT⟩ : ∃ T : Nat → Nat, ∀ i, (L.take i).flatten.length = T i := ⟨_, fun _ => rfl⟩
  have hT0 : T 0 = 0 := by rw [← hT]; rfl
  have hTs : ∀ i, i < n → T (i + 1) = T i + (L.getD i []).length := fun i hi => by rw [← hT, ← hT, hft i hi, List.length_append]
  have hTn : T n = L.flatten.length := by rw [← hT, ← hL, List.take_length]
  have hTl : ∀ i, T i ≤ 140737488355328 := fun i => by rw [← hT]; exact Nat.le_trans (hfl i) hs
  have hgr := fun W => grow_nil W (T n) (hTl n)
  go_enter Tryz.func134, Tryz.ntmps134
  go_wp2
  go_loop [3, 5, 11] (fun s v t => ∃ i : Nat, i ≤ n ∧ t = .int .i64 i ∧ s = .int .i64 (T i)) (fun _ _ t => n - (intOf t).toNat)
  case atStart => exact ⟨0, Nat.zero_le _, rfl, by rw [hT0]; rfl⟩
  case round =>
    obtain ⟨i, hi, rfl, rfl⟩ := hrel
    by_cases hlt : i < n
    · have hci := hc i hlt
      have hli := (hr i hlt).len
      have HN : Hid (T (i + 1) = T i + (L.getD i []).length) := hTs i hlt
      have hle := hTl (i + 1)
      rw [hTs i hlt] at hle
      generalize hA : T i = A at *
      generalize (L.getD i []).length = B at *
      generalize V i = v at *
      clear hc hr hfl hft hT hT0 hTs hTn hTl hgr hA
      have hpos : ¬ ((A : Int) + (B : Int) < 0) := by omega
      go_wp2
      go_round
      case rel => exact ⟨i + 1, by omega, by go_num, by rw [HN.out]; go_num⟩
      case measure => simp [intOf]; omega
    · obtain rfl : i = n := by omega
      have HT : Hid ((L.take i).flatten = L.flatten) := by unfold Hid; rw [← hL, List.take_length]
      clear hT hT0 hTs hTn hTl
      generalize T i = S at *
      go_wp2_with fail
      refine (hgr _).mono ?_
      rintro e w1 ⟨v1, rfl, ho1, hb1⟩
      have hsz1 := hb1.size
      go_wp2
      go_loopw [6, 8, 27] (fun v u t wr => ∃ j : Nat, j ≤ i ∧ t = .int .i64 j ∧ Own wr w.heap.size v (L.take j).flatten ∧ Below w.heap.size w wr ∧ w.heap.size ≤ wr.heap.size) (fun _ _ t _ => i - (intOf t).toNat)
      case atStart => exact ⟨0, Nat.zero_le _, rfl, by simpa using ho1, hb1, hsz1⟩
      case round =>
        obtain ⟨j, hj, rfl, ho, hb, hsz⟩ := hrel
        by_cases hlt2 : j < i
        · have hcj : wr.cell? ⟨g, j, none⟩ = some (V j) := (hb.cell (p := ⟨g, j, none⟩) hg).trans (hc j hlt2)
          have hrj : Rd wr (V j) (L.getD j []) := (hr j hlt2).below hb
          have hf1 := hft j hlt2
          have hf2 := hfl (j + 1)
          have HF : Hid ((L.take (j + 1)).flatten = (L.take j).flatten ++ L.getD j []) := hf1
          rw [hf1, List.length_append] at hf2
          have HR : Hid (Rd wr (V j) (L.getD j [])) := hrj
          have HO := ho
          generalize V j = v at *
          generalize L.getD j [] = y at *
          clear hc hr hf1 hfl hft hrj hlt
          go_wp2_with (at_builtin; refine wpList_append_rd rfl _ _ rfl w.heap.size _ _ rfl HO _ _ rfl HR.out ?c1 ?c2 ?_)
          case c1 => omega
          case c2 => exact hsz
          intro v3 w3 ho3 hg3
          have hb3 : Below w.heap.size w w3 := below_grown hb hsz HO hg3
          go_wp2
          go_roundw
          case rel => exact ⟨j + 1, by omega, by go_num, by rw [HF.out]; exact ho3, hb3, hb3.size⟩
          case measure => simp [intOf]; omega
        · obtain rfl : j = i := by omega
          rw [HT.out] at ho
          go_wp2
          go_ret
          exact ⟨_, rfl, ho, hb⟩

/-- The value's bytes. -/
def recL (k m l s : Int) : List Int := fixB k.toNat 1 ++ fixB m.toNat 2 ++ fixB l.toNat 1 ++ fixB s.toNat 2
def wrL (p : Int) (x : It) : List Int := if p = 1 then recL x.kind x.mode x.links x.size else if p = 2 then fixB x.lead.toNat 4 else x.bytes

theorem wrL_1 (x : It) : wrL 1 x = recL x.kind x.mode x.links x.size := rfl
theorem wrL_2 (x : It) : wrL 2 x = fixB x.lead.toNat 4 := rfl
theorem wrL_3 {p : Int} (h1 : p ≠ 1) (h2 : p ≠ 2) (x : It) : wrL p x = x.bytes := by unfold wrL; rw [if_neg h1, if_neg h2]

theorem keepA {w1 W : World} (h : Below w1.heap.size w1 W) (o : Obj) : Below w1.heap.size w1 (W.alloc o) := h.alloc h.size o

theorem concat4 (w : World) (v0 v1 v2 v3 : Value) (x0 x1 x2 x3 : List Int) (h0 : Rd w v0 x0) (h1 : Rd w v1 x1) (h2 : Rd w v2 x2) (h3 : Rd w v3 x3) (hs : x0.length + x1.length + x2.length + x3.length ≤ 1000) :
    Calls Tryz.prog 134 #[.slice (some ⟨w.heap.size, 0, none⟩) 4 4] (w.alloc (.cells #[v0, v1, v2, v3] 136)) fun e w' => ∃ v, e = .returned v ∧ Own w' w.heap.size v (x0 ++ x1 ++ x2 ++ x3) ∧ Below w.heap.size w w' := by
  have hb : Below w.heap.size w (w.alloc (.cells #[v0, v1, v2, v3] 136)) := (Below.refl _ _).alloc (Nat.le_refl _) _
  have hc := concat_any (w.alloc (.cells #[v0, v1, v2, v3] 136)) w.heap.size 4 (fun i => #[v0, v1, v2, v3].getD i undef) [x0, x1, x2, x3] rfl (by unfold maxLen; omega) (by simp)
    (fun i hi => by
      rw [cell_of_row _ _ i _ _ (0, 0) (heap_alloc_new w _)]
      match i, hi with
      | 0, _ => rfl
      | 1, _ => rfl
      | 2, _ => rfl
      | 3, _ => rfl)
    (fun i hi => by
      match i, hi with
      | 0, _ => exact h0.below hb
      | 1, _ => exact h1.below hb
      | 2, _ => exact h2.below hb
      | 3, _ => exact h3.below hb)
    (by simp; omega)
  refine hc.mono ?_
  rintro e w' ⟨v, rfl, ho, hb'⟩
  refine ⟨v, rfl, ?_, thenB hb hb'⟩
  have := ho.mono hb.size
  simpa [List.append_assoc] using this

theorem inB_iff {n a b : Int} : inB n a b = true ↔ a ≤ n ∧ n ≤ b := by simp [inB]

/-- What an inode's fields are that may be. -/
theorem inoOk_bounds {k m l s : Int} (h : inoOk k m l s = true) : (1 ≤ k ∧ k ≤ 2) ∧ (0 ≤ m ∧ m ≤ 511) ∧ (1 ≤ l ∧ l ≤ 15) ∧ (0 ≤ s ∧ s ≤ 512) := by
  unfold inoOk at h
  rw [Bool.and_eq_true, inB_iff] at h
  obtain ⟨hm, h⟩ := h
  split at h
  · rw [Bool.and_eq_true, inB_iff, inB_iff] at h
    omega
  · split at h
    · simp only [Bool.and_eq_true, beq_iff_eq] at h
      omega
    · cases h

set_option maxRecDepth 100000 in
set_option maxHeartbeats 4000000 in
theorem write_1 (w : World) (k m l s : Int) (h : inoOk k m l s = true) : Calls Tryz.prog 109 #[.iface 204 (.agg #[.int .i64 k, .int .i64 m, .int .i64 l, .int .i64 s])] w fun e w' => ∃ v, e = .returned v ∧ Rd w' v (recL k m l s) ∧ Below w.heap.size w w' := by
  obtain ⟨⟨k0, k1⟩, ⟨m0, m1⟩, ⟨l0, l1⟩, s0, s1⟩ := inoOk_bounds h
  have hrr := as_rr
  obtain ⟨w1, hw1⟩ : ∃ w1, w.alloc (.cells #[.int .i64 k, .int .i64 m, .int .i64 l, .int .i64 s] 204) = w1 := ⟨_, rfl⟩
  have hB : Below w.heap.size w w1 := by rw [← hw1]; exact (Below.refl _ w).alloc (Nat.le_refl _) _
  have hg1 : w1.heap[w.heap.size]? = some (.cells #[.int .i64 k, .int .i64 m, .int .i64 l, .int .i64 s] 204 (0, 0)) := by rw [← hw1]; exact heap_alloc_new w _
  have hlt : w.heap.size < w1.heap.size := (Array.getElem?_eq_some_iff.1 hg1).1
  have hC : ∀ j v, #[Value.int .i64 k, .int .i64 m, .int .i64 l, .int .i64 s][j]? = some v → ∀ W, Below w1.heap.size w1 W → W.cell? ⟨w.heap.size, j, none⟩ = some v := fun j v hv W hW => by
    rw [cell_of_row W _ j _ _ (0, 0) ((hW.block _ hlt).trans hg1)]; exact hv
  have hC0 := hC 0 _ rfl
  have hC1 := hC 1 _ rfl
  have hC2 := hC 2 _ rfl
  have hC3 := hC 3 _ rfl
  have f1 : ∀ W, Calls Tryz.prog 135 #[.int .u64 k, .int .i64 1] W fun e w' => ∃ v, e = .returned v ∧ Own w' W.heap.size v (fixB k.toNat 1) ∧ Below W.heap.size W w' := fun W => fixedI_any W k 1 (by omega) (by omega) (by omega) (by omega) (by omega)
  have f2 : ∀ W, Calls Tryz.prog 135 #[.int .u64 m, .int .i64 2] W fun e w' => ∃ v, e = .returned v ∧ Own w' W.heap.size v (fixB m.toNat 2) ∧ Below W.heap.size W w' := fun W => fixedI_any W m 2 (by omega) (by omega) (by omega) (by omega) (by omega)
  have f3 : ∀ W, Calls Tryz.prog 135 #[.int .u64 l, .int .i64 1] W fun e w' => ∃ v, e = .returned v ∧ Own w' W.heap.size v (fixB l.toNat 1) ∧ Below W.heap.size W w' := fun W => fixedI_any W l 1 (by omega) (by omega) (by omega) (by omega) (by omega)
  have f4 : ∀ W, Calls Tryz.prog 135 #[.int .u64 s, .int .i64 2] W fun e w' => ∃ v, e = .returned v ∧ Own w' W.heap.size v (fixB s.toNat 2) ∧ Below W.heap.size W w' := fun W => fixedI_any W s 2 (by omega) (by omega) (by omega) (by omega) (by omega)
  clear h hC hg1 hlt
  go_enter Tryz.func109, Tryz.ntmps109
  go_wp2_with fail
  refine wp_region_noPanic ?_
  refine wp_region_held_drew (S := fun W => Below w1.heap.size w1 W) (by kernel_rfl) (Below.refl _ _).drew (fun hHeld => ?_)
  refine wpAnyH_take (i := 0) (v := .pointer (some ⟨w.heap.size, 0, none⟩)) rfl (by kernel_rfl) (by kernel_rfl) (by kernel_rfl) (fun _ _ _ h => h) (Or.inl ⟨by rfl, fun W hSw => by (try dsimp only at hSw); go_simp⟩) (by assumption) ?_
  simp only [List.getElem_toArray, List.getElem_cons_zero, List.getElem_cons_succ, Act.put, List.setIfInBounds_toArray, List.set_cons_zero, List.set_cons_succ]
  refine wpAnyH_take (i := 1) (v := .int .i64 k) rfl (by kernel_rfl) (by kernel_rfl) (by kernel_rfl) (fun _ _ _ h => h) (Or.inl ⟨by rfl, fun W hSw => by (try dsimp only at hSw); go_simp⟩) (by assumption) ?_
  simp only [List.getElem_toArray, List.getElem_cons_zero, List.getElem_cons_succ, Act.put, List.setIfInBounds_toArray, List.set_cons_zero, List.set_cons_succ]
  refine wpAnyH_take (i := 2) (v := .int .u64 k) rfl (by kernel_rfl) (by kernel_rfl) (by kernel_rfl) (fun _ _ _ h => h) (Or.inl ⟨by rfl, fun W hSw => by (try dsimp only at hSw); (go_simp; rw [IntKind.wrap_u64]; omega)⟩) (by assumption) ?_
  simp only [List.getElem_toArray, List.getElem_cons_zero, List.getElem_cons_succ, Act.put, List.setIfInBounds_toArray, List.set_cons_zero, List.set_cons_succ]
  refine wpAnyH_take (i := 4) (v := .pointer (some ⟨w.heap.size, 1, none⟩)) rfl (by kernel_rfl) (by kernel_rfl) (by kernel_rfl) (fun _ _ _ h => h) (Or.inl ⟨by rfl, fun W hSw => by (try dsimp only at hSw); go_simp⟩) (by assumption) ?_
  simp only [List.getElem_toArray, List.getElem_cons_zero, List.getElem_cons_succ, Act.put, List.setIfInBounds_toArray, List.set_cons_zero, List.set_cons_succ]
  refine wpAnyH_take (i := 5) (v := .int .i64 m) rfl (by kernel_rfl) (by kernel_rfl) (by kernel_rfl) (fun _ _ _ h => h) (Or.inl ⟨by rfl, fun W hSw => by (try dsimp only at hSw); go_simp⟩) (by assumption) ?_
  simp only [List.getElem_toArray, List.getElem_cons_zero, List.getElem_cons_succ, Act.put, List.setIfInBounds_toArray, List.set_cons_zero, List.set_cons_succ]
  refine wpAnyH_take (i := 6) (v := .int .u64 m) rfl (by kernel_rfl) (by kernel_rfl) (by kernel_rfl) (fun _ _ _ h => h) (Or.inl ⟨by rfl, fun W hSw => by (try dsimp only at hSw); (go_simp; rw [IntKind.wrap_u64]; omega)⟩) (by assumption) ?_
  simp only [List.getElem_toArray, List.getElem_cons_zero, List.getElem_cons_succ, Act.put, List.setIfInBounds_toArray, List.set_cons_zero, List.set_cons_succ]
  refine wpAnyH_take (i := 8) (v := .pointer (some ⟨w.heap.size, 2, none⟩)) rfl (by kernel_rfl) (by kernel_rfl) (by kernel_rfl) (fun _ _ _ h => h) (Or.inl ⟨by rfl, fun W hSw => by (try dsimp only at hSw); go_simp⟩) (by assumption) ?_
  simp only [List.getElem_toArray, List.getElem_cons_zero, List.getElem_cons_succ, Act.put, List.setIfInBounds_toArray, List.set_cons_zero, List.set_cons_succ]
  refine wpAnyH_take (i := 9) (v := .int .i64 l) rfl (by kernel_rfl) (by kernel_rfl) (by kernel_rfl) (fun _ _ _ h => h) (Or.inl ⟨by rfl, fun W hSw => by (try dsimp only at hSw); go_simp⟩) (by assumption) ?_
  simp only [List.getElem_toArray, List.getElem_cons_zero, List.getElem_cons_succ, Act.put, List.setIfInBounds_toArray, List.set_cons_zero, List.set_cons_succ]
  refine wpAnyH_take (i := 10) (v := .int .u64 l) rfl (by kernel_rfl) (by kernel_rfl) (by kernel_rfl) (fun _ _ _ h => h) (Or.inl ⟨by rfl, fun W hSw => by (try dsimp only at hSw); (go_simp; rw [IntKind.wrap_u64]; omega)⟩) (by assumption) ?_
  simp only [List.getElem_toArray, List.getElem_cons_zero, List.getElem_cons_succ, Act.put, List.setIfInBounds_toArray, List.set_cons_zero, List.set_cons_succ]
  refine wpAnyH_take (i := 12) (v := .pointer (some ⟨w.heap.size, 3, none⟩)) rfl (by kernel_rfl) (by kernel_rfl) (by kernel_rfl) (fun _ _ _ h => h) (Or.inl ⟨by rfl, fun W hSw => by (try dsimp only at hSw); go_simp⟩) (by assumption) ?_
  simp only [List.getElem_toArray, List.getElem_cons_zero, List.getElem_cons_succ, Act.put, List.setIfInBounds_toArray, List.set_cons_zero, List.set_cons_succ]
  refine wpAnyH_take (i := 13) (v := .int .i64 s) rfl (by kernel_rfl) (by kernel_rfl) (by kernel_rfl) (fun _ _ _ h => h) (Or.inl ⟨by rfl, fun W hSw => by (try dsimp only at hSw); go_simp⟩) (by assumption) ?_
  simp only [List.getElem_toArray, List.getElem_cons_zero, List.getElem_cons_succ, Act.put, List.setIfInBounds_toArray, List.set_cons_zero, List.set_cons_succ]
  refine wpAnyH_take (i := 14) (v := .int .u64 s) rfl (by kernel_rfl) (by kernel_rfl) (by kernel_rfl) (fun _ _ _ h => h) (Or.inl ⟨by rfl, fun W hSw => by (try dsimp only at hSw); (go_simp; rw [IntKind.wrap_u64]; omega)⟩) (by assumption) ?_
  simp only [List.getElem_toArray, List.getElem_cons_zero, List.getElem_cons_succ, Act.put, List.setIfInBounds_toArray, List.set_cons_zero, List.set_cons_succ]
  refine wpAnyH_ready (rs := [3]) (by kernel_rfl) (by simp) ?_
  refine AllReadyH.cons rfl (fun K hK => ?_) AllReadyH.nil
  go_simp
  go_wp2_with (go_at_call 135; refine (f1 _).mono ?_; rintro e w6 ⟨v6, rfl, ho6, hb6⟩; obtain ⟨a6, c6, rfl, -⟩ := id ho6.rd)
  refine hK.out _ _ (keep2 (by assumption) (by assumption)) (fun hHeld2 => ?_)
  clear hK K
  refine wpAnyH_ready (rs := [7]) (by kernel_rfl) (by simp) ?_
  refine AllReadyH.cons rfl (fun K hK => ?_) AllReadyH.nil
  go_simp
  go_wp2_with (go_at_call 135; refine (f2 _).mono ?_; rintro e w7 ⟨v7, rfl, ho7, hb7⟩; obtain ⟨a7, c7, rfl, -⟩ := id ho7.rd)
  refine hK.out _ _ (keep2 (by assumption) (by assumption)) (fun hHeld2 => ?_)
  clear hK K
  refine wpAnyH_ready (rs := [11]) (by kernel_rfl) (by simp) ?_
  refine AllReadyH.cons rfl (fun K hK => ?_) AllReadyH.nil
  go_simp
  go_wp2_with (go_at_call 135; refine (f3 _).mono ?_; rintro e w8 ⟨v8, rfl, ho8, hb8⟩; obtain ⟨a8, c8, rfl, -⟩ := id ho8.rd)
  refine hK.out _ _ (keep2 (by assumption) (by assumption)) (fun hHeld2 => ?_)
  clear hK K
  refine wpAnyH_ready (rs := [15]) (by kernel_rfl) (by simp) ?_
  refine AllReadyH.cons rfl (fun K hK => ?_) AllReadyH.nil
  go_simp
  go_wp2_with (go_at_call 135; refine (f4 _).mono ?_; rintro e w9 ⟨v9, rfl, ho9, hb9⟩; obtain ⟨a9, c9, rfl, -⟩ := id ho9.rd)
  refine hK.out _ _ (keep2 (by assumption) (by assumption)) (fun hHeld2 => ?_)
  clear hK K
  refine wpAnyH_ready (rs := [16]) (by kernel_rfl) (by simp) ?_
  refine AllReadyH.cons rfl (fun K hK => ?_) AllReadyH.nil
  go_simp
  go_wp2
  refine hK.out _ _ (keepA (by assumption) _) (fun hHeld2 => ?_)
  clear hK K
  refine wpAnyH_ready (rs := [17]) (by kernel_rfl) (by simp) ?_
  refine AllReadyH.cons rfl (fun K hK => ?_) AllReadyH.nil
  go_simp
  go_wp2_with (go_at_call 134; refine (concat4 w9 _ _ _ _ _ _ _ _ (((ho6.below hb7).below hb8).below hb9).rd ((ho7.below hb8).below hb9).rd (ho8.below hb9).rd ho9.rd (by simp only [fixB_length]; omega)).mono ?_; rintro e wa ⟨va, rfl, hoa, hba⟩)
  refine hK.out _ _ (keep2 (by assumption) (by assumption)) (fun hHeld2 => ?_)
  clear hK K
  refine wpAnyH_take (i := 18) (v := va) rfl (by kernel_rfl) (by kernel_rfl) (by kernel_rfl) (fun _ _ _ h => h) (Or.inl ⟨by rfl, fun W hSw => by (try dsimp only at hSw); go_simp⟩) (by assumption) ?_
  simp only [List.getElem_toArray, List.getElem_cons_zero, List.getElem_cons_succ, Act.put, List.setIfInBounds_toArray, List.set_cons_zero, List.set_cons_succ]
  refine wpAnyH_done (by kernel_rfl) ?_ _
  refine NoPanic.normal ?_
  clear hC0 hC1 hC2 hC3 f1 f2 f3 f4
  go_wp2
  go_ret
  exact ⟨_, rfl, hoa.rd, thenB hB hHeld2⟩

set_option maxHeartbeats 1000000 in
theorem write_2 (w : World) (t : Int) (h0 : 0 ≤ t) (h1 : t ≤ 4294967295) : Calls Tryz.prog 109 #[.iface 205 (.int .u32 t)] w fun e w' => ∃ v, e = .returned v ∧ Rd w' v (fixB t.toNat 4) ∧ Below w.heap.size w w' := by
  have hee := as_ee
  have her := as_er
  have f1 : ∀ W, Calls Tryz.prog 135 #[.int .u64 t, .int .i64 4] W fun e w' => ∃ v, e = .returned v ∧ Own w' W.heap.size v (fixB t.toNat 4) ∧ Below W.heap.size W w' := fun W => fixedI_any W t 4 (by omega) (by omega) (by omega) (by omega) (by omega)
  go_enter Tryz.func109, Tryz.ntmps109
  go_wp2_with fail
  refine (f1 _).mono ?_
  rintro e w1 ⟨v1, rfl, ho1, hb1⟩
  go_wp2
  go_ret
  exact ⟨_, rfl, ho1.rd, hb1⟩

theorem rd_data (w : World) {b : List Int} (hb : b.length = 32) : Rd (w.alloc (.cells (bytesV b) 206)) (.slice (some ⟨w.heap.size, 0, none⟩) 32 32) b := by
  refine ⟨_, 32, by rw [hb], by rw [hb]; omega, by unfold maxLen; omega, (by intro e; cases e), fun _ => ⟨_, 0, rfl, by simp, fun i hi => ?_⟩⟩
  rw [Nat.zero_add, cell_of_row _ _ i (bytesV b) _ (0, 0) (heap_alloc_new w _)]
  simp [bytesV, List.getElem?_eq_getElem hi]

set_option maxHeartbeats 1000000 in
theorem write_3 (w : World) (b : List Int) (hb : b.length = 32) : Calls Tryz.prog 109 #[.iface 206 (.agg (bytesV b))] w fun e w' => ∃ v, e = .returned v ∧ Rd w' v b ∧ Below w.heap.size w w' := by
  have hdd := as_dd
  have hde := as_de
  have hdr := as_dr
  have hzd := zeroData
  have HZ : Hid (zeroC.length = 32) := ch_zero.1
  have HX : Hid (b.length = 32) := hb
  clear hb
  go_enter Tryz.func109, Tryz.ntmps109
  go_wp2_with (refine wpList_storeD rfl _ _ rfl rfl b zeroC rfl HX.out HZ.out ?_)
  go_ret
  exact ⟨_, rfl, rd_data w HX.out, (Below.refl _ w).alloc (Nat.le_refl _) _⟩

theorem write_any (w : World) (p : Int) (x : It) (hx : ItOk x) (hs : standsB p x = true) : Calls Tryz.prog 109 #[thV p x] w fun e w' => ∃ v, e = .returned v ∧ Rd w' v (wrL p x) ∧ Below w.heap.size w w' := by
  by_cases h1 : p = 1
  · subst h1; exact write_1 w _ _ _ _ hs
  · by_cases h2 : p = 2
    · subst h2; exact write_2 w _ hx.t0 hx.t1
    · rw [thV_3 h1 h2, wrL_3 h1 h2]
      exact write_3 w _ hx.ch.1

end Go.Proofs.YtjlglnhmkheidaaGreat
