/- DrU: in one text. -/
import Derived.Test.YtgajjphjkbnaeaaGreatQ43
import Derived.Test.YtgajjphjkbnaeaaGreatQ44
namespace Go.Proofs.YtgajjphjkbnaeaaGreat
open Go.RowKit
set_option linter.unusedVariables false
set_option maxHeartbeats 32000000
set_option maxRecDepth 100000
set_option linter.unusedSimpArgs false
open Go.RowKit Go.Maps
theorem SgIn.undoD {B : Nat} {w : World} {a : Sa} {X : List Nat} {s : Sg} (h : SgIn B w a X s) (m : Nat) (hm : m ≤ s.d.pus.length) (hbd : s.d.L.length + s.d.pus.length ≤ 20000) : Calls Tryz.prog 23 #[.pointer (some ⟨a.p,0,none⟩),.int .i64 m] w fun e w' => e = .returned (.int .i64 0) ∧ SgOut B w a X { s with d:=undoS s.d m } w':=by
 obtain ⟨vd,vr,vu,h,rfl⟩:=h
 refine (dundo_any h.d m hm hbd).mono ?_
 rintro e w' ⟨rfl,v',h1,k⟩
 exact ⟨rfl,h.put h1 k⟩
theorem SgIn.undoRm {B : Nat} {w : World} {a : Sa} {X : List Nat} {s : Sg} (h : SgIn B w a X s) (m : Nat) (hm : m ≤ s.R.length) : Calls Tryz.prog 24 #[.pointer (some ⟨a.r,0,none⟩),.int .i64 m] w fun e w' => e = .returned (.int .i64 0) ∧ SgOut B w a X { s with R:=s.R.take m } w':=by
 obtain ⟨vd,vr,vu,h,rfl⟩:=h
 refine (undo_any h.r m hm).mono ?_
 rintro e w' ⟨rfl,vr',h1,k⟩
 exact ⟨rfl,h.read h1 k⟩
theorem SgIn.markD {B : Nat} {w : World} {a : Sa} {X : List Nat} {s : Sg} (h : SgIn B w a X s) : Calls Tryz.prog 20 #[.pointer (some ⟨a.p,0,none⟩)] w fun e w' => e = .returned (.int .i64 s.d.pus.length) ∧ w' = w:=by
 obtain ⟨vd,vr,vu,h,rfl⟩:=h
 exact (dmark_any h.d).mono (by rintro e w' ⟨h1,h2⟩; exact ⟨h1,h2.symm⟩)
theorem SgIn.markRm {B : Nat} {w : World} {a : Sa} {X : List Nat} {s : Sg} (h : SgIn B w a X s) : Calls Tryz.prog 21 #[.pointer (some ⟨a.r,0,none⟩)] w fun e w' => e = .returned (.int .i64 s.R.length) ∧ w = w':=by
 obtain ⟨vd,vr,vu,h,rfl⟩:=h
 exact mark_any h.r
end Go.Proofs.YtgajjphjkbnaeaaGreat
