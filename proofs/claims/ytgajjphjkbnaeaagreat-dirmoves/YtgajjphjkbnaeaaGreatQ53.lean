/- DrX, DrW: in one text. -/
import Derived.Test.YtgajjphjkbnaeaaGreatQ52
namespace Go.Proofs.YtgajjphjkbnaeaaGreat
open Go.RowKit
set_option linter.unusedVariables false
set_option maxHeartbeats 32000000
set_option maxRecDepth 100000
set_option linter.unusedSimpArgs false
def dnK (s : Sg) (t : Int) : Int:=(drKind DgP s t 1 192).2
def dnL (s : Sg) (t : Int) (x : ByteArray) : Sg × Int × Int:=drLook DgP s t x
def dnS (s : Sg) (t : Int) (x : ByteArray) : Sg × Int × Int:=drStep DgP (drLook DgP s t x)
def dnD (ns : List ByteArray) (s : Sg) (t : Int) : Sg × Int × Int:=drDown DgP ns s t
theorem dnK_eq (s : Sg) (t : Int) : dnK s t = if (fdR s t).2 ≠ 0 then (fdR s t).2 else if (fdR s t).1.k = 1 then 192 else 0:=rfl
theorem dnL_eq (s : Sg) (t : Int) (x : ByteArray) : dnL s t x = if dnK s t ≠ 0 then (s,0,dnK s t) else ({ s with R:=addL s.R (tcN t x) },(vgR s.l s.d (entP t x)).1.lead,(vgR s.l s.d (entP t x)).2.2):=rfl
theorem dnS_eq (s : Sg) (t : Int) (x : ByteArray) : dnS s t x = if (dnL s t x).2.2 = 0 ∧ (dnL s t x).2.1 = 0 then ((dnL s t x).1,0,190) else dnL s t x:=rfl
theorem dnD_eq (x : ByteArray) (ns : List ByteArray) (s : Sg) (t : Int) : dnD (x :: ns) s t = if (dnS s t x).2.2 ≠ 0 then ((dnS s t x).1,0,(dnS s t x).2.2) else dnD ns (dnS s t x).1 (dnS s t x).2.1:=rfl
theorem kind_vs {s s' : Sg} (h : Vs s s') (t : Int) : dnK s' t = dnK s t:=by rw [dnK_eq,dnK_eq,h.f]
theorem look_vs2 {s s' : Sg} (h : Vs s s') (t : Int) (x : ByteArray) : (dnL s' t x).2 = (dnL s t x).2:=by
 rw [dnL_eq,dnL_eq,kind_vs h,h.l,h.d]
 by_cases hc : dnK s t ≠ 0
 ·rw [if_pos hc,if_pos hc]
 ·rw [if_neg hc,if_neg hc]
theorem step_vs {s s' : Sg} (h : Vs s s') (t : Int) (x : ByteArray) : (dnS s' t x).2 = (dnS s t x).2:=by
 have e:=look_vs2 h t x
 rw [dnS_eq,dnS_eq,e]
 by_cases hc : (dnL s t x).2.2 = 0 ∧ (dnL s t x).2.1 = 0
 ·rw [if_pos hc,if_pos hc]
 ·rw [if_neg hc,if_neg hc]; exact e
theorem stepS (s : Sg) (t : Int) (x : ByteArray) : (dnS s t x).1 = if dnK s t ≠ 0 then s else { s with R:=addL s.R (tcN t x) }:=by
 have e : (dnS s t x).1 = (dnL s t x).1:=drStep_st DgP _
 rw [e,dnL_eq]
 by_cases hc : dnK s t ≠ 0
 ·rw [if_pos hc,if_pos hc]
 ·rw [if_neg hc,if_neg hc]
theorem step_bad {s : Sg} {t : Int} {x : ByteArray} (hc : dnK s t ≠ 0) : (dnS s t x).2.2 ≠ 0:=by
 have e : dnL s t x = (s,0,dnK s t):=by rw [dnL_eq,if_pos hc]
 rw [dnS_eq,e,if_neg (fun h => hc h.1)]
 exact hc
theorem step_good {s : Sg} {t : Int} {x : ByteArray} (h : (dnS s t x).2.2 = 0) : dnK s t = 0 ∧ (dnS s t x).2.1 = dE s t x ∧ dE s t x ≠ 0 ∧ dD s t:=by
 obtain ⟨q1,q2,q3⟩:=drStep_0 (D:=DgP) h
 obtain ⟨q4,q5⟩:=drLook_E q1
 have e : dnS s t x = drLook DgP s t x:=q3
 refine ⟨Decidable.by_contra fun hc => step_bad hc h,by rw [e]; exact q4,by rw [← q4]; exact q2,q5⟩
theorem path_names {p : ByteArray} (h : pathE p = 0) : ∀ x ∈ pathL p,nameOk x = true:=by
 unfold pathL
 rw [if_pos h]
 split
 ·intro x hx; exact absurd hx List.not_mem_nil
 ·rename_i h2
  unfold pathE at h
  rw [if_neg h2] at h
  split at h
  ·split at h
   ·split at h
    ·rename_i q; exact fun x hx => List.all_eq_true.1 q x hx
    ·exact absurd h (by decide)
   ·exact absurd h (by decide)
  ·exact absurd h (by decide)
open Go.RowKit Go.Maps
theorem kp_of {s : Sg} (j : Jv s) {n : Nat} (k : Sk s n) : DgP.Kp s s n:=⟨k,Jr_refl j⟩
end Go.Proofs.YtgajjphjkbnaeaaGreat
