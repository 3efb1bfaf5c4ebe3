/- IConcat, IWrite, IWrite2, IEncode: in one text. -/
import Derived.Test.YtiplhhaehbjghaaGreatM1
import Derived.Lib.AppendZeros
import Derived.Test.YtiplhhaehbjghaaGreatIGive
import Derived.Deep.RegionHeld3
namespace Go.Proofs.YtiplhhaehbjghaaGreat
open Go.RowKit
set_option linter.unusedVariables false
set_option maxHeartbeats 32000000
set_option maxRecDepth 100000
set_option linter.unusedSimpArgs false
def recL (k m l s : Int) : List Int := fixB k.toNat 1 ++ fixB m.toNat 2 ++ fixB l.toNat 1 ++ fixB s.toNat 2
def wrL (p : Int) (x : It) : List Int := if p = 1 then recL x.kind x.mode x.links x.size else if p = 2 then fixB x.lead.toNat 4 else x.bytes
theorem wrL_1 (x : It) : wrL 1 x = recL x.kind x.mode x.links x.size := rfl
theorem wrL_2 (x : It) : wrL 2 x = fixB x.lead.toNat 4 := rfl
theorem wrL_3 {p : Int} (h1 : p ≠ 1) (h2 : p ≠ 2) (x : It) : wrL p x = x.bytes := by unfold wrL; rw [if_neg h1, if_neg h2]
theorem inB_iff {n a b : Int} : inB n a b = true ↔ a ≤ n ∧ n ≤ b := by simp [inB]
theorem inoOk_bounds {k m l s : Int} (h : inoOk k m l s = true) : (1 ≤ k ∧ k ≤ 2) ∧ (0 ≤ m ∧ m ≤ 511) ∧ (1 ≤ l ∧ l ≤ 15) ∧ (0 ≤ s ∧ s ≤ 512) := by
 unfold inoOk at h
 rw [Bool.and_eq_true, inB_iff] at h
 obtain ⟨hm, h⟩ := h
 split at h
 ·rw [Bool.and_eq_true, inB_iff, inB_iff] at h
  omega
 ·split at h
  ·simp only [Bool.and_eq_true, beq_iff_eq] at h
   omega
  ·cases h
def encOk (p : Int) (x : It) : Bool := itEq (giveI p x) x && standsB p x
def encE (p : Int) (x : It) : Int := if wid p = 0 then 1 else if encOk p x then 0 else 11
def encS (p : Int) (x : It) : ByteArray := if encE p x = 0 then strOfNums (wrL p x) else ⟨#[]⟩
theorem enc_arg {p : Int} (h : wid p = 0) (x : It) : encE p x = 1 ∧ encS p x = ⟨#[]⟩ := by
 have : encE p x = 1 := by unfold encE; rw [if_pos h]
 exact ⟨this, by unfold encS; rw [this]; rfl⟩
theorem enc_no {p : Int} (h : wid p ≠ 0) {x : It} (ho : encOk p x = false) : encE p x = 11 ∧ encS p x = ⟨#[]⟩ := by
 have : encE p x = 11 := by unfold encE; rw [if_neg h, ho]; rfl
 exact ⟨this, by unfold encS; rw [this]; rfl⟩
theorem enc_yes {p : Int} (h : wid p ≠ 0) {x : It} (ho : encOk p x = true) : encE p x = 0 ∧ encS p x = strOfNums (wrL p x) := by
 have : encE p x = 0 := by unfold encE; rw [if_neg h, ho]; rfl
 exact ⟨this, by unfold encS; rw [this]; rfl⟩
theorem ItAt.load {w : World} {g : Nat} {x : It} (h : ItAt 223 w g x) (hx : x.bytes.length = 32) : (Instr.loadAt 223 (.pointer (some ⟨g, 0, none⟩))).run Tryz.prog w = .ok (.agg (itC x)) w := by
 have hl := run_loadVar_row (P := Tryz.prog) w g _ 223 (itC x) _ _ h.row Tryz.underlying223 rfl (by rw [itC_size hx]; exact size_item)
 simp only [Instr.loadAt, Instr.sureAddr, Sem.run_bind, Sem.run_pure, Result.andThen_ok, hl]
end Go.Proofs.YtiplhhaehbjghaaGreat
