/- Proved: for every part and every text the law ItemReads answers true: no conditions. -/
import Derived.Test.YtflkbcdeogdodaaJDecode
import Derived.Test.YtflkbcdeogdodaaIArg
import Derived.Deep.RegionHeld3
import Derived.BigQuiet
import Derived.Deep.QuietTactic
import Derived.WalkSmall
import Derived.ProofKit
import Derived.OpenShut
import Derived.ShutString
import Derived.ChangeOld
import Derived.Below
import Derived.Carry
namespace Go.Proofs.Ytflkbcdeogdodaa.itemReads
open Go.ChangeShapes Go.WideShapes Go.ChangeAt Go.RowKit
open Go.ChangeMaps (open_string shut_string)
set_option linter.unusedVariables false

theorem own : ownKnob Try.prog.godebug = none := by kernel_rfl
theorem laidOut : laidOutB Try.prog = true := by kernel_rfl

set_option maxRecDepth 100000 in
set_option maxHeartbeats 8000000 in
theorem walk (p : Int) (v : ByteArray) (w : World) (hp : (Lit.int .i64 p).wf = true) (hv : v.size ≤ maxLen) :
    Calls Try.prog 4 #[.int .i64 p, .string v] w fun e w' => e = .returned (.bool true) ∧ Below w.heap.size w w' := by
  have hd1 := fun W => decode_any W p v
  have hd2 := fun W => refDec_any W p v
  have hok := decI_ok p v
  clear hp hv
  generalize decI p v = y at *
  generalize decE p v = E at *
  obtain ⟨k, m, l, s, t, b⟩ := y
  have HX : Hid (b.length = 32) := hok.ch.1
  have hq1 : ∀ W, (binOp .eql 23 (.agg #[.int .i64 k, .int .i64 m, .int .i64 l, .int .i64 s]) (.agg #[.int .i64 k, .int .i64 m, .int .i64 l, .int .i64 s])).run Try.prog W = .ok (.bool true) W := fun W => by rw [eq_inodes]; simp [inoEq]
  have hq2 : ∀ W, (binOp .eql 25 (.agg (bytesV b)) (.agg (bytesV b))).run Try.prog W = .ok (.bool true) W := fun W => by rw [eq_chunks W HX.out HX.out]; simp
  have hz := zeroItem
  have hzR := zeroItemR
  go_enter Try.func4, Try.ntmps4
  go_wp2_with fail
  refine (live_any _).mono ?_
  rintro e w1 ⟨rfl, hb1⟩
  go_wp2_with fail
  refine (hd1 _).mono ?_
  rintro e w2 ⟨rfl, hb2⟩
  obtain ⟨w3, hw3⟩ : ∃ w3, w2.alloc (.cells (itC it0) 31) = w3 := ⟨_, rfl⟩
  have hb3 : Below w2.heap.size w2 w3 := by rw [← hw3]; exact (Below.refl _ w2).alloc (Nat.le_refl _) _
  have hat3 : ItAt 31 w3 w2.heap.size it0 := by rw [← hw3]; exact ItAt.laid _ w2 it0
  obtain ⟨w4, hw4⟩ : ∃ w4, w3.setRow w2.heap.size (itC ⟨k, m, l, s, t, b⟩) = w4 := ⟨_, rfl⟩
  have hat4 : ItAt 31 w4 w2.heap.size ⟨k, m, l, s, t, b⟩ := by rw [← hw4]; exact hat3.setRow _
  have hb4 : Below w2.heap.size w2 w4 := by rw [← hw4]; exact below_setRow hb3 (Nat.le_refl _) _
  have hB4 : Below w.heap.size w w4 := thenB hb1 (thenB hb2 hb4)
  clear hd1 hb1 hb2 hb4
  go_wp2_with (refine wpList_storeI rfl _ _ rfl w2.heap.size ⟨k, m, l, s, t, b⟩ it0 rfl rfl HX.out ch_zero.1 hat3 ?_)
  clear hat3 hw3 hw4 hb3
  refine (hd2 _).mono ?_
  rintro e w5 ⟨rfl, hb5⟩
  obtain ⟨w6, hw6⟩ : ∃ w6, w5.alloc (.cells (itC it0) 33) = w6 := ⟨_, rfl⟩
  have hb6 : Below w5.heap.size w5 w6 := by rw [← hw6]; exact (Below.refl _ w5).alloc (Nat.le_refl _) _
  have hat6 : ItAt 33 w6 w5.heap.size it0 := by rw [← hw6]; exact ItAt.laid _ w5 it0
  obtain ⟨w7, hw7⟩ : ∃ w7, w6.setRow w5.heap.size (itC ⟨k, m, l, s, t, b⟩) = w7 := ⟨_, rfl⟩
  have hat7 : ItAt 33 w7 w5.heap.size ⟨k, m, l, s, t, b⟩ := by rw [← hw7]; exact hat6.setRow _
  have hb7 : Below w5.heap.size w5 w7 := by rw [← hw7]; exact below_setRow hb6 (Nat.le_refl _) _
  have hB7 : Below w.heap.size w w7 := thenB hB4 (thenB hb5 hb7)
  have hatx := hat4.below (thenB hb5 hb7)
  have L1 : Hid _ := hatx.loadI
  have L2 : Hid _ := hat7.loadI
  have L3 : Hid _ := hatx.loadC HX.out
  have L4 : Hid _ := hat7.loadC HX.out
  have c1 : w7.cell? ⟨w2.heap.size, 4, none⟩ = some (.int .u32 t) := hatx.c4
  have c2 : w7.cell? ⟨w5.heap.size, 4, none⟩ = some (.int .u32 t) := hat7.c4
  clear hd2 hat4 hb5 hb7 hb6 hB4 hatx hat7 hok
  go_wp2_with (first
    | (refine wpList_storeR rfl _ _ rfl w5.heap.size ⟨k, m, l, s, t, b⟩ it0 rfl rfl HX.out ch_zero.1 hat6 ?_)
    | (refine wpList_loadG rfl 23 _ rfl _ rfl _ L1.out ?_)
    | (refine wpList_loadG rfl 23 _ rfl _ rfl _ L2.out ?_)
    | (refine wpList_loadG rfl 25 _ rfl _ rfl _ L3.out ?_)
    | (refine wpList_loadG rfl 25 _ rfl _ rfl _ L4.out ?_))
  go_ret
  exact ⟨by simp, hB7⟩

/-! ### The row -/
set_option maxRecDepth 100000 in
theorem lifted (os : Os) (started : os.Started) (H : Type) (enc : TypeId × Value → H) :
    ReturnsInHanded {} Try.checked os 4 .any (Rows.itemReadsSpec.pre6 enc Try.prog Try.f4 Rows.itemReadsRow.domain false) (Rows.itemReadsSpec.post enc Try.prog Try.f4 false true false false) := by
  refine returnsInHanded_of_change (C := Try.checked) own started (by kernel_rfl) Try.func4
    (ChangeSpec.witness6 (enc := enc) (C := Try.checked) false ⟨#[], #[.int .i64 0, .string ByteArray.empty], []⟩ 8 (by kernel_rfl) (by kernel_rfl) (by kernel_rfl) (by kernel_rfl)) ?_
  intro W base args ds gs before hval0 hW hcnd _
  have hval : ∀ (j : Nat) t v, Try.f4.params[j]? = some t → args[j]? = some v → Value.okWide Try.prog W .any base t v := hval0
  have hW' := hW
  obtain ⟨p, q, hA0, hV, rfl, hfz, hnd⟩ := hW
  have hA : DataW.TrodAll enc Try.prog W 0 (fun _ => true) true Try.f4.params.toList args.toList ds p := hA0
  rw [Try.params4] at hA hval
  obtain ⟨v0, vs0, d0, ds0, p0, q0, hargs, rfl, rfl, h0, r0⟩ := trodAll_cons hA
  obtain ⟨v1, vs1, d1, ds1, p1, q1, rfl, rfl, rfl, h1, r1⟩ := trodAll_cons r0
  obtain ⟨rfl, rfl, rfl⟩ := trodAll_nil r1
  obtain rfl : args = #[v0, v1] := by cases args; simp_all
  obtain ⟨rfl, rfl⟩ := trodVars_none hV
  obtain ⟨a0, rfl, rfl, rfl, w0⟩ := open_int Try.underlying3 (hval 0 3 v0 rfl rfl) h0
  obtain ⟨a1, rfl, rfl, rfl, w1⟩ := open_string Try.underlying9 (hval 1 9 v1 rfl rfl) h1
  clear hA0 hval0
  refine (walk a0 a1 W w0 w1).mono fun e W' ⟨he, bel⟩ => ?_
  subst he
  exact ⟨_, rfl, _, _, _, [], _, [], hW', trodAll_mk1 (shut_bool Try.underlying4 _), (trodAll_cons_mk (shut_int Try.underlying3 w0) (trodAll_cons_mk (shut_string Try.underlying9 w1) trodAll_mk0)), rfl, bel.frame _, fun h => by cases h⟩

theorem over : Rows.itemReadsRow.holds Try.pinned (OpenSpec.ofChange Rows.itemReadsSpec) :=
  OpenClaim.holds_of_wide 4 Try.f4 rfl rfl rfl rfl rfl rfl rfl ⟨rfl, rfl, rfl, rfl, rfl⟩ rfl rfl rfl rfl rfl (by kernel_rfl) Try.func4 (by kernel_rfl)
    (of_decide_eq_true (by kernel_rfl)) (by unfold Func.isWrapper; first | (rw [if_pos (by decide +kernel)]; kernel_rfl) | (rw [if_neg (by decide +kernel)]; exact ⟨rfl, rfl⟩))
    (fun os started H enc _ => lifted os started H enc)

end Go.Proofs.Ytflkbcdeogdodaa.itemReads

namespace Go.Proofs.Ytflkbcdeogdodaa
/-- The statement. -/
theorem itemReads_proved : Rows.ItemReadsSaid := itemReads.over
#print axioms itemReads_proved
end Go.Proofs.Ytflkbcdeogdodaa
