/- A region that draws its order, in the body of a range over a function: operations may be taken first there as anywhere. -/
import Derived.Test.YtmifpeocgikbeabPtRuns
namespace Go.Proofs.Ytmifpeocgikbeab
open Go.RowKit
set_option maxRecDepth 4000
set_option linter.unusedVariables false

theorem upon_inRound {F : Fence} {n : Nat} {P : Program} {l : Nat} {o : Oper} {a : Act} {next : Act → World → Prop} {Q : Exit → Act → World → Prop} {r : Result Next} (h : o.uponIn F n P a next Q r) : o.uponIn (F.inRound l) n P a next Q r := by
  cases r with
  | ok x w => cases x <;> first | exact h | exact ⟨h.1, CallsIn.inRound l h.2⟩ | exact ⟨h.1, h.2⟩
  | halt s w => cases s <;> exact h

/-- No 'defer'. -/
def plainOp (o : Oper) : Bool := match o.op with | .defer _ => false | _ => true
theorem plainOp_ne {o : Oper} (h : plainOp o = true) (c : Call) : o.op ≠ .defer c := fun e => by unfold plainOp at h; rw [e] at h; cases h

theorem wpOp_inRound {F : Fence} {n : Nat} {P : Program} {l : Nat} {ops : Array Oper} {Q : Exit → Act → World → Prop} {K : Act → World → Prop} {i : Nat} {a : Act} {w : World} (hF : F.round = none) (hd : ops.all plainOp = true) (h : wpOpIn F n P ops Q i K a w) : wpOpIn (F.inRound l) n P ops Q i K a w := by
  unfold wpOpIn at h ⊢
  cases ho : ops[i]? with
  | none => rw [ho] at h; exact h
  | some o =>
    have hp : ∀ c, o.op ≠ .defer c := plainOp_ne (Array.all_eq_true_iff_forall_mem.1 hd o (Array.mem_of_getElem? ho))
    rw [ho] at h
    dsimp only at h ⊢
    split at h
    · rename_i hw
      rw [if_pos hw]
      refine ⟨h.1, ?_⟩
      have h2 := h.2
      rw [hF, Oper.semAt_eq none _ _ hp] at h2
      rw [Oper.semAt_eq _ _ _ hp]
      exact upon_inRound h2
    · rename_i hw
      rw [if_neg hw]
      exact h

theorem wpAny_inRound {F : Fence} {n : Nat} {P : Program} {l : Nat} {md : Region.Mode} {ops : Array Oper} {Q : Exit → Act → World → Prop} (hF : F.round = none) (hd : ops.all plainOp = true) : ∀ (fuel : Nat) (listed : Array Bool) (a : Act) (w : World), wpAnyIn F n P md ops Q fuel listed a w → wpAnyIn (F.inRound l) n P md ops Q fuel listed a w := by
  intro fuel
  induction fuel with
  | zero => intro listed a w h; exact h
  | succ fuel ih =>
    intro listed a w h
    exact ⟨h.1, fun i hi => wpOpIn_mono (fun a w k => ih _ a w k) (wpOp_inRound hF hd (h.2 i hi))⟩

end Go.Proofs.Ytmifpeocgikbeab
