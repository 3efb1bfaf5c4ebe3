/- IConcat, IWrite, IWrite2, IEncode: in one text. -/
import Derived.Test.YtgajjphjkbnaeaaGreatQ1
import Derived.Lib.AppendZeros
import Derived.Test.YtgajjphjkbnaeaaGreatQ19
import Derived.Deep.RegionHeld3
namespace Go.Proofs.YtgajjphjkbnaeaaGreat
open Go.RowKit
set_option linter.unusedVariables false
set_option maxHeartbeats 32000000
set_option maxRecDepth 100000
set_option linter.unusedSimpArgs false
def recL (k m l s : Int) : List Int:=fixB k.toNat 1 ++ fixB m.toNat 2 ++ fixB l.toNat 1 ++ fixB s.toNat 2
def wrL (p : Int) (x : It) : List Int:=if p = 1 then recL x.kind x.mode x.links x.size else if p = 2 then fixB x.lead.toNat 4 else x.bytes
theorem wrL_1 (x : It) : wrL 1 x = recL x.kind x.mode x.links x.size:=rfl
theorem inB_iff {n a b : Int} : inB n a b = true ↔ a ≤ n ∧ n ≤ b:=by simp [inB]
theorem inoOk_bounds {k m l s : Int} (h : inoOk k m l s = true) : (1 ≤ k ∧ k ≤ 2) ∧ (0 ≤ m ∧ m ≤ 511) ∧ (1 ≤ l ∧ l ≤ 15) ∧ (0 ≤ s ∧ s ≤ 512):=by
 unfold inoOk at h
 rw [Bool.and_eq_true,inB_iff] at h
 obtain ⟨hm,h⟩:=h
 split at h
 ·rw [Bool.and_eq_true,inB_iff,inB_iff] at h
  omega
 ·split at h
  ·simp only [Bool.and_eq_true,beq_iff_eq] at h
   omega
  ·cases h
theorem ItAt.load {w : World} {g : Nat} {x : It} (h : ItAt 128 w g x) (hx : x.bytes.length = 32) : (Instr.loadAt 128 (.pointer (some ⟨g,0,none⟩))).run Tryz.prog w = .ok (.agg (itC x)) w:=by
 have hl:=run_loadVar_row (P:=Tryz.prog) w g _ 128 (itC x) _ _ h.row Tryz.underlying128 rfl (by rw [itC_size hx]; exact size_item)
 simp only [Instr.loadAt,Instr.sureAddr,Sem.run_bind,Sem.run_pure,Result.andThen_ok,hl]
end Go.Proofs.YtgajjphjkbnaeaaGreat
