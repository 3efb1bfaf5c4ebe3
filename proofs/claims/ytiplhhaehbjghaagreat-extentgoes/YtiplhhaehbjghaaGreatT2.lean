/- PtRuns, PtRound: in one text. -/
import Derived.Test.YtiplhhaehbjghaaGreatT1
import Derived.RangeFuncNested
import Derived.RangeFuncBound
import Derived.RangeFuncCalls
import Derived.RangeFuncLeaves
import Derived.Shelf.Abstract
import Derived.OwnWalkIn
import Derived.TacticsInMore
import Derived.LoopNIn
import Derived.LoopIn
namespace Go.Proofs.YtiplhhaehbjghaaGreat
open Go.RowKit
set_option linter.unusedVariables false
set_option maxHeartbeats 32000000
set_option maxRecDepth 100000
set_option linter.unusedSimpArgs false
open Go.RowKit Go.Shelf
attribute [local go_sem] Oper.semAt_some
theorem bitsFrom_any (w : World) (o : Nat) (h : o ≤ 32) : Calls Tryz.prog 187 #[.int .i64 (o : Int)] w fun e w' => e = .returned (.int .u32 (runM o (32 - o) : Nat)) ∧ w = w' := by
 have hf := from_shift h
 have HF : Hid ((4294967295 * (2 : Int) ^ o) % 4294967296 = ((runM o (32 - o) : Nat) : Int)) := by
  unfold Hid
  rw [← hf]
  simp
 clear hf
 go_enter Tryz.func187, Tryz.ntmps187
 go_wp2
 go_ret
 exact ⟨by rw [← HF.out]; simp [IntKind.wrap_u32'], rfl⟩
theorem runEnd_any (w : World) (m o : Nat) (hm : m < 4294967296) (h : o ≤ 32) : Calls Tryz.prog 272 #[.int .u32 (m : Int), .int .i64 (o : Int)] w fun e w' => ∃ j : Nat, e = .returned (.int .i64 (j : Int)) ∧ o ≤ j ∧ j ≤ 32 ∧ (∀ i, o ≤ i → i < j → m.testBit i = true) ∧ (j < 32 → m.testBit j = false) ∧ w = w' := by
 have hbit := bit_and hm
 go_enter Tryz.func272, Tryz.ntmps272
 go_wp2
 go_loop [1] (fun t => ∃ j : Nat, o ≤ j ∧ j ≤ 32 ∧ t = .int .i64 (j : Int) ∧ ∀ i, o ≤ i → i < j → m.testBit i = true) (fun t => 32 - (intOf t).toNat)
 case atStart => exact ⟨o, Nat.le_refl _, h, rfl, fun i h1 h2 => absurd h1 (by omega)⟩
 case round =>
  obtain ⟨j, h1, h2, rfl, h3⟩ := hrel
  by_cases hlt : j < 32
  ·have hb := hbit j
   clear hbit
   cases hq : m.testBit j
   ·rw [hq] at hb
    go_wp2
    go_ret
    exact ⟨j, rfl, h1, h2, h3, fun _ => hq, rfl⟩
   ·rw [hq] at hb
    go_wp2
    go_round
    case rel => exact ⟨j + 1, by omega, by omega, by go_num, fun i hi hj => by rcases Nat.lt_or_ge i j with hl | hg; exact h3 i hi hl; rw [show i = j from by omega]; exact hq⟩
    case measure => simp [intOf]; omega
  ·obtain rfl : j = 32 := by omega
   clear hbit
   go_wp2
   go_ret
   exact ⟨32, rfl, h1, h2, h3, fun h => absurd h (by omega), rfl⟩
theorem runs_any (w : World) (m : Nat) : Calls Tryz.prog 257 #[.int .u32 (m : Int)] w fun e w' => e = .returned (.func (.func 271) #[] #[.pointer (some ⟨w.heap.size, 0, none⟩)]) ∧ w' = w.alloc (.cells #[.int .u32 (m : Int)] 23) := by
 go_enter Tryz.func257, Tryz.ntmps257
 go_wp2
 go_ret
 exact ⟨rfl, rfl⟩
abbrev Run := { r : Nat × Nat // r.1 < r.2 ∧ r.2 ≤ 32 }
def runV (r : Run) : Array Value := #[.int .i64 (r.1.1 : Int), .int .i64 (r.1.2 : Int)]
def inRun (i : Nat) (r : Run) : Bool := decide (r.1.1 ≤ i) && decide (i < r.1.2)
def inRuns (i : Nat) (l : List Run) : Bool := l.any (inRun i)
theorem inRuns_snoc (i : Nat) (l : List Run) (r : Run) : inRuns i (l ++ [r]) = (inRuns i l || inRun i r) := by simp [inRuns]
def SameBlock (g : Nat) (A B : World) : Prop := B.heap[g]? = A.heap[g]?
theorem runs_stops (n : Nat) (hn : 1 ≤ n) (g m : Nat) (hm : m < 4294967296) (w : World) (hg : w.heap[g]? = some (.cells #[.int .u32 (m : Int)] 23 (0, 0))) :
  SeqStopsK Fence.wide n Tryz.prog 271 #[.pointer (some ⟨g, 0, none⟩)] runV (SameBlock g) (fun ys => ∀ i, i < 32 → inRuns i ys = m.testBit i) (fun _ => True) 32 w := fun l J Jx W hW hJ hJx hY h0 => by
 have hgl : g < w.heap.size := (Array.getElem?_eq_some_iff.1 hg).1
 have hgW : W.heap[g]? = some (.cells #[.int .u32 (m : Int)] 23 (0, 0)) := (hW.block g hgl).trans hg
 refine callsIn_of_wp Tryz.func271 rfl trivial ?_ rfl
 simp only [Tryz.ntmps271, List.size_toArray, List.length_cons, List.length_nil, Nat.reduceAdd, Nat.reduceSub, Array.replicate_succ, Array.replicate_zero, List.push_toArray, List.append_toArray, List.nil_append, List.cons_append]
 gi_wp2
 gi_loopw [3, 4] (fun p u wr => ∃ (k : Nat) (pre : List Run), k ≤ 33 ∧ pre.length ≤ k ∧ p = .int .i64 (k : Int) ∧ (∀ i, i < 32 → inRuns i pre = (decide (i < k) && m.testBit i)) ∧ J pre wr ∧ wr.heap[g]? = some (.cells #[.int .u32 (m : Int)] 23 (0, 0)))
  (fun p _ _ => 33 - (intOf p).toNat)
 case atStart => exact ⟨0, [], by omega, Nat.le_refl _, rfl, fun i _ => by simp [inRuns], h0, hgW⟩
 case round =>
  obtain ⟨k, pre, hk, hpl, rfl, hin, hJs, hgr⟩ := hrel
  by_cases hlt : k < 32
  ·have hcm : wr.cell? ⟨g, 0, none⟩ = some (.int .u32 (m : Int)) := by rw [cell_of_row wr g 0 _ _ (0, 0) hgr]; rfl
   have hre := runEnd_any wr m k hm (by omega)
   gi_wp2
   refine ⟨trivial, ?_⟩
   refine (callsIn_wide.2 hre).mono ?_
   rintro e w5 ⟨j, rfl, h1, h2, h3, h4, rfl⟩
   by_cases hkj : k < j
   ·obtain ⟨fn, tmps, assign, body, hyi, hR⟩ := hY pre ⟨(k, j), hkj, h2⟩ wr hJs (by omega)
    unfold runV at hyi
    dsimp only at hyi
    have HP : Hid (∀ i, i < 32 → inRuns i (pre ++ [⟨(k, j), hkj, h2⟩]) = (decide (i < j + 1) && m.testBit i)) := fun i hi => by
     rw [inRuns_snoc, hin i hi]
     unfold inRun
     dsimp only
     by_cases c1 : i < k
     ·simp [c1, show i < j + 1 by omega, show ¬ k ≤ i by omega]
     ·by_cases c2 : i < j
      ·rw [h3 i (by omega) c2]; simp [c2, show k ≤ i by omega, show i < j + 1 by omega]
      ·by_cases c3 : i = j
       ·subst c3; rw [h4 hi]; simp
       ·simp [c1, c2, show ¬ i < j + 1 by omega]
    have hkj' : (k : Int) < (j : Int) := by omega
    clear hin h3 h4
    gi_wp2
    refine hR.mono ?_
    rintro e W3 (⟨rfl, hJ3, hk3⟩ | ⟨rfl, hJx3⟩)
    ·gi_wp2
     go_roundw
     case rel => exact ⟨j + 1, _, by omega, by rw [List.length_append]; simp; omega, by go_num, HP.out, hJ3, hk3.trans hgr⟩
     case measure => simp [intOf]; omega
    ·gi_wp2
     refine bodyPost_ret (results_none rfl _ _ _) rfl ?_
     exact ⟨⟨_, rfl⟩, .inr ⟨_, trivial, hJx3⟩⟩
   ·obtain rfl : k = j := by omega
    have HP : Hid (∀ i, i < 32 → inRuns i pre = (decide (i < k + 1) && m.testBit i)) := fun i hi => by
     rw [hin i hi]
     by_cases c1 : i < k
     ·simp [c1, show i < k + 1 by omega]
     ·by_cases c3 : i = k
      ·subst c3; rw [h4 hi]; simp
      ·simp [c1, show ¬ i < k + 1 by omega]
    clear hin h3 h4
    gi_wp2
    refine ⟨fun _ h => (by cases h), ?_⟩
    gi_wp2
    go_roundw
    case rel => exact ⟨k + 1, pre, by omega, by omega, by go_num, HP.out, hJs, hgr⟩
    case measure => simp [intOf]; omega
  ·have hlt' : ¬ (k : Int) < 32 := by omega
   gi_wp2
   go_end0
   exact ⟨⟨_, rfl⟩, .inl ⟨_, fun i hi => by rw [hin i hi]; simp [show i < k by omega], hJs⟩⟩
theorem upon_inRound {F : Fence} {n : Nat} {P : Program} {l : Nat} {o : Oper} {a : Act} {next : Act → World → Prop} {Q : Exit → Act → World → Prop} {r : Result Next} (h : o.uponIn F n P a next Q r) : o.uponIn (F.inRound l) n P a next Q r := by
 cases r with
 | ok x w => cases x <;> first | exact h | exact ⟨h.1, CallsIn.inRound l h.2⟩ | exact ⟨h.1, h.2⟩
 | halt s w => cases s <;> exact h
def plainOp (o : Oper) : Bool := match o.op with | .defer _ => false | _ => true
theorem plainOp_ne {o : Oper} (h : plainOp o = true) (c : Call) : o.op ≠ .defer c := fun e => by unfold plainOp at h; rw [e] at h; cases h
theorem wpOp_inRound {F : Fence} {n : Nat} {P : Program} {l : Nat} {ops : Array Oper} {Q : Exit → Act → World → Prop} {K : Act → World → Prop} {i : Nat} {a : Act} {w : World} (hF : F.round = none) (hd : ops.all plainOp = true) (h : wpOpIn F n P ops Q i K a w) : wpOpIn (F.inRound l) n P ops Q i K a w := by
 unfold wpOpIn at h ⊢
 cases ho : ops[i]? with
 | none => rw [ho] at h; exact h
 | some o =>
  have hp : ∀ c, o.op ≠ .defer c := plainOp_ne (Array.all_eq_true_iff_forall_mem.1 hd o (Array.mem_of_getElem? ho))
  rw [ho] at h
  dsimp only at h ⊢
  split at h
  ·rename_i hw
   rw [if_pos hw]
   refine ⟨h.1, ?_⟩
   have h2 := h.2
   rw [hF, Oper.semAt_eq none _ _ hp] at h2
   rw [Oper.semAt_eq _ _ _ hp]
   exact upon_inRound h2
  ·rename_i hw
   rw [if_neg hw]
   exact h
theorem wpAny_inRound {F : Fence} {n : Nat} {P : Program} {l : Nat} {md : Region.Mode} {ops : Array Oper} {Q : Exit → Act → World → Prop} (hF : F.round = none) (hd : ops.all plainOp = true) : ∀ (fuel : Nat) (listed : Array Bool) (a : Act) (w : World), wpAnyIn F n P md ops Q fuel listed a w → wpAnyIn (F.inRound l) n P md ops Q fuel listed a w := by
 intro fuel
 induction fuel with
 | zero => intro listed a w h; exact h
 | succ fuel ih =>
  intro listed a w h
  exact ⟨h.1, fun i hi => wpOpIn_mono (fun a w k => ih _ a w k) (wpOp_inRound hF hd (h.2 i hi))⟩
end Go.Proofs.YtiplhhaehbjghaaGreat
