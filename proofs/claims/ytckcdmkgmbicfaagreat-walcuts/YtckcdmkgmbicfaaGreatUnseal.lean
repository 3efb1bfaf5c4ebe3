/- The contract of codec.Unseal. -/
import Derived.Test.YtckcdmkgmbicfaaGreatSumBytes
import Derived.Test.YtckcdmkgmbicfaaGreatClone
import Derived.Deep.RegionWith
namespace Go.Proofs.YtckcdmkgmbicfaaGreat
open Go.RowKit
set_option linter.unusedVariables false
set_option maxRecDepth 4000

theorem eq_four (W : World) (a b : List Int) (ha : Byt a) (hb : Byt b) (la : a.length = 4) (lb : b.length = 4) :
    (Op.equalIn 10000 169 (.agg (a.map (Value.int .u8)).toArray) (.agg (b.map (Value.int .u8)).toArray)).run Tryz.prog W = .ok (decide (a = b)) W := by
  have hsz : ∀ w, (sizeOf 5).run Tryz.prog w = .ok 1 w := by
    intro w
    obtain ⟨i, hi, _, h1, _⟩ := info_parts Tryz.info5
    simp [sizeOf, typeInfo, hi, h1]
  have := run_equalIn_bytes (P := Tryz.prog) W 9998 169 5 4 Tryz.underlying169 Tryz.underlying5 hsz (toU a) (toU b) (by simp [toU, la]) (by simp [toU, lb])
  rw [toU_cell a ha, toU_cell b hb] at this
  rw [this]
  congr 1
  rw [Bool.eq_iff_iff, beq_iff_eq, decide_eq_true_iff]
  exact ⟨toU_inj a b ha hb, fun e => by rw [e]⟩

set_option maxHeartbeats 400000 in
theorem unseal_short (w : World) (a : Option Addr) (n cap : Nat) (hn : n < 4) : Calls Tryz.prog 84 #[.slice a n cap] w fun e w' => e = .returned (.tuple #[.slice none 0 0, .int .i64 10]) ∧ w = w' := by
  have hn' : (n : Int) - 4 < 0 := by omega
  go_enter Tryz.func84, Tryz.ntmps84
  go_wp2
  go_ret2
  exact ⟨rfl, rfl⟩

set_option maxHeartbeats 1000000 in
theorem unseal_no (w : World) (b off n cap : Nat) (body : List Int) (t0 t1 t2 t3 : Int) (hcap : n + 4 ≤ cap) (hm : cap ≤ maxLen) (hy : Byt body) (ht : Byt [t0, t1, t2, t3])
    (hr : Rd w (.slice (some ⟨b, off, none⟩) n cap) body) (hbl : b < w.heap.size) (hle : n ≤ 140737488355328)
    (c0 : w.cell? ⟨b, off + n, none⟩ = some (.int .u8 t0)) (c1 : w.cell? ⟨b, off + n + 1, none⟩ = some (.int .u8 t1)) (c2 : w.cell? ⟨b, off + n + 2, none⟩ = some (.int .u8 t2)) (c3 : w.cell? ⟨b, off + n + 3, none⟩ = some (.int .u8 t3)) (hq : ¬ [t0, t1, t2, t3] = sealB body) :
    Calls Tryz.prog 84 #[.slice (some ⟨b, off, none⟩) (n + 4) cap] w fun e w' => e = .returned (.tuple #[.slice none 0 0, .int .i64 12]) ∧ Below w.heap.size w w' := by
  unfold maxLen at hm
  have he := fun W => eq_four W [t0, t1, t2, t3] (sealB body) ht (sealB_byt body) rfl (sealB_length body)
  rw [decide_eq_false hq] at he
  clear hq ht
  go_enter Tryz.func84, Tryz.ntmps84
  go_wp2
  have hle4 : (n : Int) ≤ (n : Int) + 4 := by omega
  generalize hMe : ((sealB body).map (Value.int .u8)).toArray = M at *
  have HM : Hid _ := hMe
  have he' : ∀ W, (Op.equalIn 10000 169 (.agg #[.int .u8 t0, .int .u8 t1, .int .u8 t2, .int .u8 t3]) (.agg M)).run Tryz.prog W = .ok false W := he
  clear hMe he
  have hat : ∀ W, (Instr.arrayAt 169 (.slice (some ⟨b, off + n, none⟩) 4 (cap - n))).run Tryz.prog W = .ok (.pointer (some ⟨b, off + n, none⟩)) W := fun W => by
    simp [Instr.arrayAt, run_underlying Tryz.underlying169]
  have hrd : Rd w.drew (.slice (some ⟨b, off, none⟩) n cap) body := hr
  go_region_with (go_at_call 104; refine (sumBytes_any _ _ body hrd hy).mono ?_; rintro e w1 ⟨rfl, hb1⟩; have k0 := (hb1.cell (p := ⟨b, off + n, none⟩) hbl).trans c0; have k1 := (hb1.cell (p := ⟨b, off + n + 1, none⟩) hbl).trans c1; have k2 := (hb1.cell (p := ⟨b, off + n + 2, none⟩) hbl).trans c2; have k3 := (hb1.cell (p := ⟨b, off + n + 3, none⟩) hbl).trans c3; rw [HM.out])
  all_goals
    go_wp2
    go_ret2
    exact ⟨rfl, (Below.refl _ w).drew.trans hb1⟩

set_option maxHeartbeats 1000000 in
theorem unseal_yes (w : World) (b off n cap : Nat) (body : List Int) (t0 t1 t2 t3 : Int) (hcap : n + 4 ≤ cap) (hm : cap ≤ maxLen) (hy : Byt body) (ht : Byt [t0, t1, t2, t3])
    (hr : Rd w (.slice (some ⟨b, off, none⟩) n cap) body) (hbl : b < w.heap.size) (hle : n ≤ 140737488355328)
    (c0 : w.cell? ⟨b, off + n, none⟩ = some (.int .u8 t0)) (c1 : w.cell? ⟨b, off + n + 1, none⟩ = some (.int .u8 t1)) (c2 : w.cell? ⟨b, off + n + 2, none⟩ = some (.int .u8 t2)) (c3 : w.cell? ⟨b, off + n + 3, none⟩ = some (.int .u8 t3)) (hq : [t0, t1, t2, t3] = sealB body) :
    Calls Tryz.prog 84 #[.slice (some ⟨b, off, none⟩) (n + 4) cap] w fun e w' => ∃ u, e = .returned (.tuple #[u, .int .i64 0]) ∧ OwnI w' w.heap.size u body ∧ Below w.heap.size w w' := by
  unfold maxLen at hm
  have he := fun W => eq_four W [t0, t1, t2, t3] (sealB body) ht (sealB_byt body) rfl (sealB_length body)
  rw [decide_eq_true hq] at he
  clear hq ht
  go_enter Tryz.func84, Tryz.ntmps84
  go_wp2
  have hle4 : (n : Int) ≤ (n : Int) + 4 := by omega
  generalize hMe : ((sealB body).map (Value.int .u8)).toArray = M at *
  have HM : Hid _ := hMe
  have he' : ∀ W, (Op.equalIn 10000 169 (.agg #[.int .u8 t0, .int .u8 t1, .int .u8 t2, .int .u8 t3]) (.agg M)).run Tryz.prog W = .ok true W := he
  clear hMe he
  have hat : ∀ W, (Instr.arrayAt 169 (.slice (some ⟨b, off + n, none⟩) 4 (cap - n))).run Tryz.prog W = .ok (.pointer (some ⟨b, off + n, none⟩)) W := fun W => by
    simp [Instr.arrayAt, run_underlying Tryz.underlying169]
  have hrd : Rd w.drew (.slice (some ⟨b, off, none⟩) n cap) body := hr
  go_region_with (go_at_call 104; refine (sumBytes_any _ _ body hrd hy).mono ?_; rintro e w1 ⟨rfl, hb1⟩; have k0 := (hb1.cell (p := ⟨b, off + n, none⟩) hbl).trans c0; have k1 := (hb1.cell (p := ⟨b, off + n + 1, none⟩) hbl).trans c1; have k2 := (hb1.cell (p := ⟨b, off + n + 2, none⟩) hbl).trans c2; have k3 := (hb1.cell (p := ⟨b, off + n + 3, none⟩) hbl).trans c3; rw [HM.out])
  all_goals
    have hb2 : Below w.heap.size w w1 := (Below.refl _ w).drew.trans hb1
    have hz2 := hb2.size
    have hr2 := hr.below hb2
    clear k0 k1 k2 k3 hb1 c0 c1 c2 c3 he' hat hrd
    go_wp2_with (go_at_call 105; refine (cloneI_any _ _ _ _ body hr2 hy (by rw [rd_length hr2]; exact hle)).mono ?_; rintro e w2 ⟨u, rfl, ho2, hb3⟩)
    go_ret2
    exact ⟨u, rfl, ho2.mono hz2, hb2.trans (hb3.mono hz2)⟩

theorem unsealI_any (w : World) (v : Value) (xs : List Int) (h : Rd w v xs) (hy : Byt xs) (hl : xs.length ≤ 140737488355328) :
    Calls Tryz.prog 84 #[v] w fun e w' => ∃ u, e = .returned (.tuple #[u, .int .i64 (unE xs)]) ∧ OwnI w' w.heap.size u (unB xs) ∧ Below w.heap.size w w' := by
  obtain ⟨a, cap, rfl, hcap, hm, hnn, hne⟩ := h
  by_cases h4 : xs.length < 4
  · have e1 : unE xs = 10 := if_pos h4
    have e2 : unB xs = [] := by unfold unB; rw [e1]; rfl
    rw [e1, e2]
    refine (unseal_short w a _ cap h4).mono ?_
    rintro e w' ⟨rfl, rfl⟩
    exact ⟨_, rfl, OwnI.nil _ _, Below.refl _ _⟩
  · obtain ⟨b, off, rfl, hbl, hc⟩ := hne (by intro e; subst e; simp at h4)
    have hbody : (bodyB xs).length = xs.length - 4 := by unfold bodyB; simp
    have htail : (tailB xs).length = 4 := by unfold tailB; simp; omega
    obtain ⟨t0, t1, t2, t3, ht⟩ := four_of _ htail
    have hn : xs.length = (xs.length - 4) + 4 := by omega
    generalize hm4 : xs.length - 4 = n at *
    have hr : Rd w (.slice (some ⟨b, off, none⟩) n cap) (bodyB xs) := by
      refine ⟨_, cap, by rw [hbody], by omega, hm, (by intro e; cases e), fun _ => ⟨b, off, rfl, hbl, fun i hi => ?_⟩⟩
      rw [hc i (by omega)]
      unfold bodyB
      rw [hm4]
      simp [show i < n from by omega]
    have hyb : Byt (bodyB xs) := hy.take _
    have hyt : Byt [t0, t1, t2, t3] := by rw [← ht]; exact hy.drop _
    have hct : ∀ j u, j < 4 → [t0, t1, t2, t3].getD j 0 = u → w.cell? ⟨b, off + (n + j), none⟩ = some (.int .u8 u) := by
      intro j u hj hu
      rw [hc (n + j) (by omega), ← hu, ← ht]
      unfold tailB
      rw [hm4]
      simp
    have c0 := hct 0 t0 (by omega) rfl
    have c1 := hct 1 t1 (by omega) rfl
    have c2 := hct 2 t2 (by omega) rfl
    have c3 := hct 3 t3 (by omega) rfl
    rw [hn]
    by_cases hq : tailB xs = sealB (bodyB xs)
    · have e1 : unE xs = 0 := by unfold unE; rw [if_neg h4, if_pos hq]
      have e2 : unB xs = bodyB xs := by unfold unB; rw [e1]; rfl
      rw [e1, e2]
      exact unseal_yes w b off n cap (bodyB xs) t0 t1 t2 t3 (by omega) hm hyb hyt hr hbl (by omega) c0 c1 c2 c3 (by rw [← ht]; exact hq)
    · have e1 : unE xs = 12 := by unfold unE; rw [if_neg h4, if_neg hq]
      have e2 : unB xs = [] := by unfold unB; rw [e1]; rfl
      rw [e1, e2]
      refine (unseal_no w b off n cap (bodyB xs) t0 t1 t2 t3 (by omega) hm hyb hyt hr hbl (by omega) c0 c1 c2 c3 (by rw [← ht]; exact hq)).mono ?_
      rintro e w' ⟨rfl, hb⟩
      exact ⟨_, rfl, OwnI.nil _ _, hb⟩

theorem unseal_any (w : World) (v : Value) (xs : List Int) (h : Rd w v xs) (hy : Byt xs) (hl : xs.length ≤ 140737488355328) :
    Calls Tryz.prog 84 #[v] w fun e w' => ∃ u, e = .returned (.tuple #[u, .int .i64 (unE xs)]) ∧ Own w' w.heap.size u (unB xs) ∧ Below w.heap.size w w' :=
  (unsealI_any w v xs h hy hl).mono fun e w' ⟨u, h1, h2, h3⟩ => ⟨u, h1, h2.own, h3⟩

end Go.Proofs.YtckcdmkgmbicfaaGreat
