/- settle, and what the loops of Barrier and cutPower do with it. -/
import Derived.Test.YtckcdmkgmbicfaaGreatDSafe
import Derived.Test.YtckcdmkgmbicfaaGreatDPend
import Derived.Test.YtckcdmkgmbicfaaGreatDNew
namespace Go.Proofs.YtckcdmkgmbicfaaGreat
open Go.RowKit Go.Maps
set_option linter.unusedVariables false

theorem wpList_look {w : World} {ops : Array Oper} {rest : List Oper} {o : Oper} {a : Act} {Q : Exit → Act → World → Prop} (hg : o.guard = none) (m x : Operand)
    (hop : o.op = Op.lookup 65 m x false) (b : Nat) (M : Int → Option (List Int)) (hm : a.eval m = .map (some b)) (hM : MapAt w b M) (i : Int) (hx : a.eval x = .int .i64 i) (h0 : -9223372036854775808 ≤ i) (h1 : i ≤ 9223372036854775807)
    (hK : wpList Tryz.prog ops Q rest (a.put o.dst (.agg (bytesV ((M i).getD zeroB)))) w) :
    wpList Tryz.prog ops Q (o :: rest) a w := by
  refine wpList_plain hg fun K' hK' => ?_
  have hrun := hM.read h0 h1
  unfold Oper.wp
  simp [execOp, hop, hm, hx, hrun, Result.andThen]
  exact hK' _ _ hK

theorem wpList_lookOk {w : World} {ops : Array Oper} {rest : List Oper} {o : Oper} {a : Act} {Q : Exit → Act → World → Prop} (hg : o.guard = none) (m x : Operand)
    (hop : o.op = Op.lookup 65 m x true) (b : Nat) (M : Int → Option (List Int)) (hm : a.eval m = .map (some b)) (hM : MapAt w b M) (i : Int) (hx : a.eval x = .int .i64 i) (h0 : -9223372036854775808 ≤ i) (h1 : i ≤ 9223372036854775807)
    (hK : wpList Tryz.prog ops Q rest (a.put o.dst (.tuple #[.agg (bytesV ((M i).getD zeroB)), .bool (M i).isSome])) w) :
    wpList Tryz.prog ops Q (o :: rest) a w := by
  refine wpList_plain hg fun K' hK' => ?_
  have hrun := hM.readOk h0 h1
  unfold Oper.wp
  simp [execOp, hop, hm, hx, hrun, Result.andThen]
  exact hK' _ _ hK

/-- What was pending for a block is no longer: it is safe, or lost. -/
def settleSt (s : St) (i : Int) (b : Bool) : St := { (if b then safeSt s i ((s.pend i).getD zeroB) else s) with pend := upd s.pend i none }

theorem pend_blk {s : St} (h : Good s) (i : Int) : Blk ((s.pend i).getD zeroB) := by
  cases hp : s.pend i with
  | none => exact blk_zero
  | some c => exact (h.pend i c hp).2.2

theorem pend_upd {s : St} (h : Good s) (i : Int) : ∀ j c, upd s.pend i none j = some c → 0 ≤ j ∧ j < s.blocks ∧ Blk c := by
  intro j c hj
  by_cases e : j = i
  · subst e; rw [upd_same] at hj; cases hj
  · rw [upd_other _ _ _ e] at hj; exact h.pend j c hj

set_option maxHeartbeats 2000000 in
theorem disk_settle {w : World} {p bs bp : Nat} {s : St} (h : DiskAt w p bs bp s) (i : Int) (h0 : 0 ≤ i) (h1 : i < s.blocks) (b : Bool) :
    Calls Tryz.prog 53 #[ptr p, .int .i64 i, .bool b] w fun e w' => e = .returned (.tuple #[]) ∧ DiskAt w' p bs bp (settleSt s i b) ∧ Sole [bs, bp] w w' := by
  have hi2 : i < 1024 := by have := h.good.b1; omega
  have c2 := h.c2
  have HP : Hid (MapAt w bp s.pend) := h.pend
  have hlt := h.lt
  obtain ⟨s', hs'⟩ : ∃ s', s' = settleSt s i b := ⟨_, rfl⟩
  rw [← hs']
  have HS : Hid (s' = settleSt s i b) := hs'
  clear hs' hlt
  have hc := pend_blk h.good i
  unfold ptr
  cases b
  · go_enter Tryz.func53, Tryz.ntmps53
    go_wp2_with (refine wpList_drop rfl _ _ rfl bp s.pend rfl HP.out i rfl h0 hi2 ?_; intro w2 hM2 hgr2 hsz2)
    go_end0
    exact ⟨rfl, (h.pendTurn hM2 hgr2 (pend_upd h.good i)).as (HS.out.trans (by simp [settleSt])), Sole.of_grown hgr2 (by simp)⟩
  · go_enter Tryz.func53, Tryz.ntmps53
    go_wp2_with (refine wpList_look rfl _ _ rfl bp s.pend rfl HP.out i rfl (by omega) (by omega) ?_)
    refine (disk_makeSafe h i h0 h1 _ hc).mono ?_
    rintro e w1 ⟨rfl, hd1, hs1⟩
    have c2' := hd1.c2
    go_wp2_with (refine wpList_drop rfl _ _ rfl bp s.pend rfl hd1.pend i rfl h0 hi2 ?_; intro w2 hM2 hgr2 hsz2)
    go_end0
    exact ⟨rfl, (hd1.pendTurn hM2 hgr2 (pend_upd h.good i)).as (HS.out.trans (by simp [settleSt])), (hs1.mono (by simp)).trans (Sole.of_grown hgr2 (by simp))⟩

end Go.Proofs.YtckcdmkgmbicfaaGreat
