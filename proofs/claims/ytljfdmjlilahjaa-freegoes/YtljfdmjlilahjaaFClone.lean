/- The contracts of slices.Clone and of free's Clone. -/
import Derived.Test.YtljfdmjlilahjaaFRep
import Derived.Laws.Append
import Derived.Lib.SliceRun
import Derived.Deep.RegionHeld3
namespace Go.Proofs.Ytljfdmjlilahjaa
open Go.RowKit
set_option linter.unusedVariables false
set_option linter.unusedSimpArgs false
set_option maxRecDepth 4000

theorem wpList_appendK {w : World} {ops : Array Oper} {rest : List Oper} {o : Oper} {a : Act} {Q : Exit → Act → World → Prop} (hgd : o.guard = none) (s x : Operand)
    (ho : o.op = .call { callee := .builtin .append, args := #[s, x], argTypes := #[49, 49] }) (hty : o.type = 49) (v u : Value) (hs : a.eval s = v) (hx : a.eval x = u) (v' : Value) (w' : World)
    (hrun : (Builtin.append_ #[49, 49] 49 #[v, u]).run Try.prog w = .ok v' w') (h : wpList Try.prog ops Q rest (a.put o.dst v') w') : wpList Try.prog ops Q (o :: rest) a w := by
  refine wpList_plain hgd fun K hK => ?_
  unfold Oper.wp
  simp [execOp, ho, resolve, invoke, builtin, hs, hx, hty, hrun, Result.andThen]
  exact hK _ _ h

def kindsC (ks : List Nat) : List Value := ks.map (fun (k : Nat) => Value.int .i64 (k : Int))

set_option maxHeartbeats 1000000 in
theorem cloneK_any {w : World} {p h : Nat} {lo : Nat} {ks : List Nat} (H : PAt w p h ⟨lo, ks⟩) (hk : FrOk ⟨lo, ks⟩) (cap : Nat) :
    Calls Try.prog 34 #[.slice (some ⟨h, 0, none⟩) ks.length cap] w fun e w' => ∃ g c cur, e = .returned (.slice (some ⟨g, 0, none⟩) ks.length c) ∧ w.heap.size ≤ g ∧ w'.heap[g]? = some (.cells cur 51 (0, 0)) ∧ ks.length ≤ c ∧ c ≤ maxLen ∧ (∀ (i k : Nat), ks[i]? = some k → cur[i]? = some (.int .i64 (k : Int))) ∧ Below w.heap.size w w' := by
  obtain ⟨cap0, c0, c1, k1, k2, hp, hh, hne, hc⟩ := FrAt.opened H
  dsimp only at c0 c1 k1 hc
  have hm := hk.most
  have ha := hk.any
  dsimp only at hm ha
  obtain ⟨iK, hi, hz0, hz1, hz2⟩ := info_parts Try.infoK
  have hnil : ∀ W, (binOp .eql 49 (.slice (some ⟨h, 0, none⟩) ks.length cap) (.slice none 0 0)).run Try.prog W = .ok (.bool false) W := fun W => Lib.run_eql_slice_nil W 49 51 (some ⟨h, 0, none⟩) ks.length cap 0 0 Try.underlying49
  have hB0 : Below w.heap.size w (w.alloc (.cells #[] 51)) := (Below.refl _ w).alloc (Nat.le_refl _) _
  have hnews : ∀ j v, (kindsC ks)[j]? = some v → (w.alloc (.cells #[] 51)).cell? ((⟨h, 0, none⟩ : Addr).add j) = some v := fun j v hv => by
    have hadd : (⟨h, 0, none⟩ : Addr).add j = ⟨h, j, none⟩ := by unfold Addr.add; split <;> simp_all
    unfold kindsC at hv
    rw [List.getElem?_map] at hv
    cases hq : ks[j]? with
    | none => rw [hq] at hv; cases hv
    | some k =>
      rw [hq] at hv
      rw [hadd]
      exact (hB0.cell (p := ⟨h, j, none⟩) hh).trans ((hc j k hq).1.trans hv)
  have hkl : (kindsC ks).length = ks.length := by simp [kindsC]
  have hap := run_append_grow (P := Try.prog) (w.alloc (.cells #[] 51)) 49 49 51 iK (.int .i64 0) Try.underlying49 hi hz0 ⟨w.heap.size, 0, none⟩ 0 0 [] (by simp) (fun j v hv => by simp at hv) ⟨h, 0, none⟩ ks.length cap (kindsC ks) (by rw [hz1, hkl]; omega) hnews (by omega) (by omega) (by rw [hz2]; exact growslice_fits (by omega) (by omega))
  have hge := grownCap_ge (w.alloc (.cells #[] 51)) (0 + ks.length) 0 51
  have hle := grownCap_le_maxLen (w.alloc (.cells #[] 51)) (0 + ks.length) 0 51 (by unfold maxLen; omega)
  generalize grownCap (w.alloc (.cells #[] 51)) (0 + ks.length) 0 51 = C at *
  have hbA : Below w.heap.size w ((w.alloc (.cells #[] 51)).drew.alloc (.cells (([] : List Value).toArray ++ (kindsC ks).toArray ++ Builtin.zeroCells (Value.int .i64 0).cells (C - (0 + ks.length))) 51)) := hB0.drew.alloc (by simp) _
  have hgA := heap_alloc_new (w.alloc (.cells #[] 51)).drew (.cells (([] : List Value).toArray ++ (kindsC ks).toArray ++ Builtin.zeroCells (Value.int .i64 0).cells (C - (0 + ks.length))) 51)
  have hcur : ∀ (i k : Nat), ks[i]? = some k → (([] : List Value).toArray ++ (kindsC ks).toArray ++ Builtin.zeroCells (Value.int .i64 0).cells (C - (0 + ks.length)))[i]? = some (.int .i64 (k : Int)) := fun i k hq => by
    have hlt : i < ks.length := (List.getElem?_eq_some_iff.1 hq).1
    rw [Array.getElem?_append_left (by simp; omega), Array.getElem?_append_right (by simp)]
    simp only [List.size_toArray, List.length_nil, Nat.sub_zero, List.getElem?_toArray]
    unfold kindsC
    rw [List.getElem?_map, hq]
    rfl
  generalize (([] : List Value).toArray ++ (kindsC ks).toArray ++ Builtin.zeroCells (Value.int .i64 0).cells (C - (0 + ks.length))) = CU at *
  generalize (w.alloc (.cells #[] 51)).drew.alloc (.cells CU 51) = W2 at *
  rw [Nat.zero_add] at hap hge
  have hsz : (w.alloc (.cells #[] 51)).heap.size = w.heap.size + 1 := by simp
  rw [hsz] at hap
  have hgB : W2.heap[w.heap.size + 1]? = some (.cells CU 51 (0, 0)) := by have := hgA; simp at this; exact this
  clear hnews hc c0 c1 H hk hgA
  generalize ks.length = n at *
  go_enter Try.func34, Try.ntmps34
  go_wp2_with (at_builtin; refine wpList_appendK rfl _ _ rfl rfl _ _ rfl rfl _ _ hap ?_)
  go_ret
  exact ⟨_, _, CU, rfl, by omega, hgB, hge, hle, hcur, hbA⟩

set_option maxHeartbeats 2000000 in
theorem clone_any {w : World} {p h : Nat} {lo : Nat} {ks : List Nat} (H : PAt w p h ⟨lo, ks⟩) (hk : FrOk ⟨lo, ks⟩) :
    Calls Try.prog 19 #[ptr p] w fun e w' => ∃ p' h', e = .returned (ptr p') ∧ PAt w' p' h' ⟨lo, ks⟩ ∧ w.heap.size ≤ p' ∧ w.heap.size ≤ h' ∧ Below w.heap.size w w' := by
  obtain ⟨cap, c0, c1, k1, k2, hp, hh, hne, hc⟩ := FrAt.opened H
  dsimp only at c0 c1 k1 hc
  have hck := fun W (hW : Below w.heap.size w W) => cloneK_any (FrAt.below H hW) hk cap
  have q0 : ∀ W, Below w.heap.size w W → W.cell? ⟨p, 0, none⟩ = some (.int .i64 lo) := fun W hW => (hW.cell (p := ⟨p, 0, none⟩) hp).trans c0
  have q1 : ∀ W, Below w.heap.size w W → W.cell? ⟨p, 1, none⟩ = some (.slice (some ⟨h, 0, none⟩) ks.length cap) := fun W hW => (hW.cell (p := ⟨p, 1, none⟩) hp).trans c1
  unfold ptr
  clear hc c0 c1 H hk
  go_enter Try.func19, Try.ntmps19
  go_wp2_with fail
  refine wp_region_noPanic ?_
  refine wp_region_held_drew (S := fun W => Below w.heap.size w W) (by kernel_rfl) (Below.refl _ w).drew (fun hHeld => ?_)
  refine wpAnyH_take (i := 0) (v := .pointer (some ⟨p, 0, none⟩)) rfl (by kernel_rfl) (by kernel_rfl) (by kernel_rfl) (fun _ _ _ h => h) (Or.inl ⟨by rfl, fun W hSw => by (try dsimp only at hSw); go_simp⟩) (by assumption) ?_
  simp only [List.getElem_toArray, List.getElem_cons_zero, List.getElem_cons_succ, Act.put, List.setIfInBounds_toArray, List.set_cons_zero, List.set_cons_succ]
  refine wpAnyH_take (i := 1) (v := .pointer (some ⟨p, 0, none⟩)) rfl (by kernel_rfl) (by kernel_rfl) (by kernel_rfl) (fun _ _ _ h => h) (Or.inl ⟨by rfl, fun W hSw => by (try dsimp only at hSw); go_simp⟩) (by assumption) ?_
  simp only [List.getElem_toArray, List.getElem_cons_zero, List.getElem_cons_succ, Act.put, List.setIfInBounds_toArray, List.set_cons_zero, List.set_cons_succ]
  refine wpAnyH_take (i := 2) (v := .pointer (some ⟨p, 0, none⟩)) rfl (by kernel_rfl) (by kernel_rfl) (by kernel_rfl) (fun _ _ _ h => h) (Or.inl ⟨by rfl, fun W hSw => by (try dsimp only at hSw); go_simp⟩) (by assumption) ?_
  simp only [List.getElem_toArray, List.getElem_cons_zero, List.getElem_cons_succ, Act.put, List.setIfInBounds_toArray, List.set_cons_zero, List.set_cons_succ]
  refine wpAnyH_take (i := 3) (v := .int .i64 lo) rfl (by kernel_rfl) (by kernel_rfl) (by kernel_rfl) (fun _ _ _ h => h) (Or.inl ⟨by rfl, fun W hSw => by (try dsimp only at hSw); go_simp⟩) (by assumption) ?_
  simp only [List.getElem_toArray, List.getElem_cons_zero, List.getElem_cons_succ, Act.put, List.setIfInBounds_toArray, List.set_cons_zero, List.set_cons_succ]
  refine wpAnyH_take (i := 4) (v := .pointer (some ⟨p, 0, none⟩)) rfl (by kernel_rfl) (by kernel_rfl) (by kernel_rfl) (fun _ _ _ h => h) (Or.inl ⟨by rfl, fun W hSw => by (try dsimp only at hSw); go_simp⟩) (by assumption) ?_
  simp only [List.getElem_toArray, List.getElem_cons_zero, List.getElem_cons_succ, Act.put, List.setIfInBounds_toArray, List.set_cons_zero, List.set_cons_succ]
  refine wpAnyH_take (i := 5) (v := .pointer (some ⟨p, 0, none⟩)) rfl (by kernel_rfl) (by kernel_rfl) (by kernel_rfl) (fun _ _ _ h => h) (Or.inl ⟨by rfl, fun W hSw => by (try dsimp only at hSw); go_simp⟩) (by assumption) ?_
  simp only [List.getElem_toArray, List.getElem_cons_zero, List.getElem_cons_succ, Act.put, List.setIfInBounds_toArray, List.set_cons_zero, List.set_cons_succ]
  refine wpAnyH_take (i := 6) (v := .pointer (some ⟨p, 1, none⟩)) rfl (by kernel_rfl) (by kernel_rfl) (by kernel_rfl) (fun _ _ _ h => h) (Or.inl ⟨by rfl, fun W hSw => by (try dsimp only at hSw); go_simp⟩) (by assumption) ?_
  simp only [List.getElem_toArray, List.getElem_cons_zero, List.getElem_cons_succ, Act.put, List.setIfInBounds_toArray, List.set_cons_zero, List.set_cons_succ]
  refine wpAnyH_take (i := 7) (v := .slice (some ⟨h, 0, none⟩) ks.length cap) rfl (by kernel_rfl) (by kernel_rfl) (by kernel_rfl) (fun _ _ _ h => h) (Or.inl ⟨by rfl, fun W hSw => by (try dsimp only at hSw); go_simp⟩) (by assumption) ?_
  simp only [List.getElem_toArray, List.getElem_cons_zero, List.getElem_cons_succ, Act.put, List.setIfInBounds_toArray, List.set_cons_zero, List.set_cons_succ]
  refine wpAnyH_ready (rs := [8]) (by kernel_rfl) (by simp) ?_
  refine AllReadyH.cons rfl (fun K hK => ?_) AllReadyH.nil
  go_simp
  go_wp2_with (go_at_call 34; refine (hck _ hHeld).mono ?_; rintro e w5 ⟨g, c, cur, rfl, hg1, hg2, hg3, hg4, hg5, hb5⟩)
  have hS5 : Below w.heap.size w w5 := hHeld.trans (hb5.mono (by simp))
  have hgw : w.heap.size ≤ g := by simpa using hg1
  refine hK.out _ _ hS5 (fun hHeld2 => ?_)
  clear hK K
  refine wpAnyH_take (i := 9) (v := .agg #[.int .i64 lo, .slice (some ⟨g, 0, none⟩) ks.length c]) rfl (by kernel_rfl) (by kernel_rfl) (by kernel_rfl) (fun _ _ _ h => h) (Or.inl ⟨by rfl, fun W hSw => by (try dsimp only at hSw); go_simp⟩) (by assumption) ?_
  simp only [List.getElem_toArray, List.getElem_cons_zero, List.getElem_cons_succ, Act.put, List.setIfInBounds_toArray, List.set_cons_zero, List.set_cons_succ]
  refine wpAnyH_ready (rs := [10]) (by kernel_rfl) (by simp) ?_
  refine AllReadyH.cons rfl (fun K hK => ?_) AllReadyH.nil
  go_simp
  go_wp2
  have hg6 := heap_alloc_new w5 (.cells #[.int .i64 lo, .slice (some ⟨g, 0, none⟩) ks.length c] 53)
  have hb6 := (Below.refl w5.heap.size w5).alloc (Nat.le_refl _) (.cells #[.int .i64 lo, .slice (some ⟨g, 0, none⟩) ks.length c] 53)
  have hS6 : Below w.heap.size w _ := hS5.trans (hb6.mono hS5.size)
  have hglt : g < w5.heap.size := (Array.getElem?_eq_some_iff.1 hg2).1
  have HP : Hid (PAt (w5.alloc (.cells #[.int .i64 lo, .slice (some ⟨g, 0, none⟩) ks.length c] 53)) w5.heap.size g ⟨lo, ks⟩) := ⟨c, cur, hg6, (hb6.block _ hglt).trans hg2, hg3, hg4, by omega, hg5⟩
  have hz5 := hS5.size
  refine hK.out _ _ hS6 (fun hHeld3 => ?_)
  clear hK K
  refine wpAnyH_take (i := 11) (v := .pointer (some ⟨w5.heap.size, 0, none⟩)) rfl (by kernel_rfl) (by kernel_rfl) (by kernel_rfl) (fun _ _ _ h => h) (Or.inl ⟨by rfl, fun W hSw => by (try dsimp only at hSw); go_simp⟩) (by assumption) ?_
  simp only [List.getElem_toArray, List.getElem_cons_zero, List.getElem_cons_succ, Act.put, List.setIfInBounds_toArray, List.set_cons_zero, List.set_cons_succ]
  refine wpAnyH_done (by kernel_rfl) ?_ _
  refine NoPanic.normal ?_
  clear q0 q1 hck
  go_wp2
  go_ret
  exact ⟨_, _, rfl, HP.out, hz5, hgw, hS6⟩

end Go.Proofs.Ytljfdmjlilahjaa
