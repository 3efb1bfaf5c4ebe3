/- The contracts of slices.Grow (of nil) and slices.Concat, at byte slices. -/
import Derived.Test.YtckcdmkgmbicfaaGreatLaws
import Derived.Lib.AppendZeros
namespace Go.Proofs.YtckcdmkgmbicfaaGreat
open Go.RowKit
set_option linter.unusedVariables false
set_option maxRecDepth 4000

theorem wpList_append_runZ {w : World} {ops : Array Oper} {rest : List Oper} {o : Oper} {a : Act} {Q : Exit → Act → World → Prop} (hgd : o.guard = none) (s x : Operand)
    (ho : o.op = .call { callee := .builtin .append, args := #[s, x], argTypes := #[80, 3] }) (v u : Value) (hs : a.eval s = v) (hx : a.eval x = u) (v' : Value) (w' : World)
    (hrun : ∀ ty, (Builtin.append_ #[80, 3] ty #[v, u]).run Tryz.prog w = .ok v' w') (h : wpList Tryz.prog ops Q rest (a.put o.dst v') w') : wpList Tryz.prog ops Q (o :: rest) a w := by
  refine wpList_plain hgd fun K hK => ?_
  unfold Oper.wp
  simp [execOp, ho, resolve, invoke, builtin, hs, hx, hrun, Result.andThen]
  exact hK _ _ h

set_option maxHeartbeats 1000000 in
theorem grow_nil (w : World) (N : Nat) (hN : N ≤ 140737488355328) : Calls Tryz.prog 102 #[.slice none 0 0, .int .i64 N] w fun e w' => ∃ v, e = .returned v ∧ Own w' w.heap.size v [] ∧ Below w.heap.size w w' := by
  rcases Nat.eq_zero_or_pos N with h0 | hp
  · subst h0
    go_enter Tryz.func102, Tryz.ntmps102
    go_wp2
    go_ret
    exact ⟨_, rfl, Own.nil _ _, Below.refl _ _⟩
  · obtain ⟨i, hi, hz0, hz1, hz2⟩ := info_parts Tryz.info5
    have hap : ∀ ty, (Builtin.append_ #[80, 3] ty #[.slice none 0 0, .int .i64 N]).run Tryz.prog w = _ := fun ty =>
      Lib.run_append_nil_zeros w 80 3 ty 5 i (.int .u8 0) .i64 .i64 Tryz.underlying80 Tryz.underlying3 hi hz0 N hp (by omega) (by omega) (by rw [hz2]; omega)
    obtain ⟨c, hge, hcl, hce⟩ : ∃ c, N ≤ c ∧ c ≤ maxLen ∧ c = grownCap w N 0 5 := ⟨_, grownCap_ge w N 0 5, grownCap_le_maxLen w N 0 5 (by unfold maxLen; omega), rfl⟩
    rw [← hce] at hap
    have hcells : (Builtin.zeroCells (Value.int .u8 0).cells N ++ Builtin.zeroCells (Value.int .u8 0).cells (c - N)).size = c := by
      simp [Builtin.zeroCells, Value.cells]; omega
    generalize Builtin.zeroCells (Value.int .u8 0).cells N ++ Builtin.zeroCells (Value.int .u8 0).cells (c - N) = cs at hap hcells
    obtain ⟨w1, hw1⟩ : ∃ w1, w.drew.alloc (.cells cs 5) = w1 := ⟨_, rfl⟩
    have hg1 : w1.heap[w.heap.size]? = some (.cells cs 5 (0, 0)) := by rw [← hw1]; exact heap_alloc_new w.drew _
    have hB : Below w.heap.size w w1 := by rw [← hw1]; exact (Below.refl _ w).drew.alloc (Nat.le_refl _) _
    rw [hw1] at hap
    have HG : Hid (w1.heap[w.heap.size]? = some (.cells cs 5 (0, 0))) := hg1
    clear hw1 hg1 hi hz0 hz1 hz2 hce
    have hpI : 0 < (N : Int) := by omega
    go_enter Tryz.func102, Tryz.ntmps102
    go_wp2_with (at_builtin; refine wpList_append_runZ rfl _ _ rfl _ _ rfl rfl _ _ hap ?_)
    go_ret
    exact ⟨_, rfl, ⟨by simp, .inr ⟨w.heap.size, c, cs, rfl, Nat.le_refl _, HG.out, by simp, hcl, by omega, by simp⟩⟩, hB⟩

theorem flat_take (L : List (List Int)) (i : Nat) (hi : i < L.length) : (L.take (i + 1)).flatten = (L.take i).flatten ++ L.getD i [] := by
  rw [List.take_succ_eq_append_getElem hi, List.flatten_append, List.getD_eq_getElem?_getD, List.getElem?_eq_getElem hi]
  simp

theorem flat_le (L : List (List Int)) (i : Nat) : (L.take i).flatten.length ≤ L.flatten.length := by
  have h : (L.take i ++ L.drop i).flatten.length = L.flatten.length := by rw [List.take_append_drop]
  rw [List.flatten_append, List.length_append] at h
  omega

set_option maxHeartbeats 2000000 in
theorem concat_any (w : World) (g n : Nat) (V : Nat → Value) (L : List (List Int)) (hL : L.length = n) (hn : n ≤ maxLen) (hg : g < w.heap.size)
    (hc : ∀ i, i < n → w.cell? ⟨g, i, none⟩ = some (V i)) (hr : ∀ i, i < n → Rd w (V i) (L.getD i [])) (hs : L.flatten.length ≤ 140737488355328) :
    Calls Tryz.prog 79 #[.slice (some ⟨g, 0, none⟩) n n] w fun e w' => ∃ v, e = .returned v ∧ Own w' w.heap.size v L.flatten ∧ Below w.heap.size w w' := by
  unfold maxLen at hn
  have hfl := flat_le L
  have hft := flat_take L
  rw [hL] at hft
  obtain ⟨T, hT⟩ : ∃ T : Nat → Nat, ∀ i, (L.take i).flatten.length = T i := ⟨_, fun _ => rfl⟩
  have hT0 : T 0 = 0 := by rw [← hT]; rfl
  have hTs : ∀ i, i < n → T (i + 1) = T i + (L.getD i []).length := fun i hi => by rw [← hT, ← hT, hft i hi, List.length_append]
  have hTn : T n = L.flatten.length := by rw [← hT, ← hL, List.take_length]
  have hTl : ∀ i, T i ≤ 140737488355328 := fun i => by rw [← hT]; exact Nat.le_trans (hfl i) hs
  have hgr := fun W => grow_nil W (T n) (hTl n)
  go_enter Tryz.func79, Tryz.ntmps79
  go_wp2
  go_loop [3, 5, 11] (fun s v t => ∃ i : Nat, i ≤ n ∧ t = .int .i64 i ∧ s = .int .i64 (T i)) (fun _ _ t => n - (intOf t).toNat)
  case atStart => exact ⟨0, Nat.zero_le _, rfl, by rw [hT0]; rfl⟩
  case round =>
    obtain ⟨i, hi, rfl, rfl⟩ := hrel
    by_cases hlt : i < n
    · have hci := hc i hlt
      have hli := (hr i hlt).len
      have HN : Hid (T (i + 1) = T i + (L.getD i []).length) := hTs i hlt
      have hle := hTl (i + 1)
      rw [hTs i hlt] at hle
      generalize hA : T i = A at *
      generalize (L.getD i []).length = B at *
      generalize V i = v at *
      clear hc hr hfl hft hT hT0 hTs hTn hTl hgr hA
      have hpos : ¬ ((A : Int) + (B : Int) < 0) := by omega
      go_wp2
      go_round
      case rel => exact ⟨i + 1, by omega, by go_num, by rw [HN.out]; go_num⟩
      case measure => simp [intOf]; omega
    · obtain rfl : i = n := by omega
      have HT : Hid ((L.take i).flatten = L.flatten) := by unfold Hid; rw [← hL, List.take_length]
      clear hT hT0 hTs hTn hTl
      generalize T i = S at *
      go_wp2_with fail
      refine (hgr _).mono ?_
      rintro e w1 ⟨v1, rfl, ho1, hb1⟩
      have hsz1 := hb1.size
      go_wp2
      go_loopw [6, 8, 27] (fun v u t wr => ∃ j : Nat, j ≤ i ∧ t = .int .i64 j ∧ Own wr w.heap.size v (L.take j).flatten ∧ Below w.heap.size w wr ∧ w.heap.size ≤ wr.heap.size) (fun _ _ t _ => i - (intOf t).toNat)
      case atStart => exact ⟨0, Nat.zero_le _, rfl, by simpa using ho1, hb1, hsz1⟩
      case round =>
        obtain ⟨j, hj, rfl, ho, hb, hsz⟩ := hrel
        by_cases hlt2 : j < i
        · have hcj : wr.cell? ⟨g, j, none⟩ = some (V j) := (hb.cell (p := ⟨g, j, none⟩) hg).trans (hc j hlt2)
          have hrj : Rd wr (V j) (L.getD j []) := (hr j hlt2).below hb
          have hf1 := hft j hlt2
          have hf2 := hfl (j + 1)
          have HF : Hid ((L.take (j + 1)).flatten = (L.take j).flatten ++ L.getD j []) := hf1
          rw [hf1, List.length_append] at hf2
          have HR : Hid (Rd wr (V j) (L.getD j [])) := hrj
          have HO := ho
          generalize V j = v at *
          generalize L.getD j [] = y at *
          clear hc hr hf1 hfl hft hrj hlt
          go_wp2_with (at_builtin; refine wpList_append_rd rfl _ _ rfl w.heap.size _ _ rfl HO _ _ rfl HR.out ?c1 ?c2 ?_)
          case c1 => omega
          case c2 => exact hsz
          intro v3 w3 ho3 hg3
          have hb3 : Below w.heap.size w w3 := below_grown hb hsz HO hg3
          go_wp2
          go_roundw
          case rel => exact ⟨j + 1, by omega, by go_num, by rw [HF.out]; exact ho3, hb3, hb3.size⟩
          case measure => simp [intOf]; omega
        · obtain rfl : j = i := by omega
          rw [HT.out] at ho
          go_wp2
          go_ret
          exact ⟨_, rfl, ho, hb⟩

end Go.Proofs.YtckcdmkgmbicfaaGreat
