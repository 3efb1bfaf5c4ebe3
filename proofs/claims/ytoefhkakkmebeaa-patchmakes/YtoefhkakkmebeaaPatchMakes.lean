/- Proved: for every number and every text the law PatchMakes answers true: Of and Zero answer as the document says: no conditions. -/
import Derived.Test.YtoefhkakkmebeaaPtLive
import Derived.Test.YtoefhkakkmebeaaPtRef3
import Derived.Test.YtoefhkakkmebeaaPtArg
import Derived.Deep.RegionHeld3
import Derived.BigQuiet
import Derived.Deep.QuietTactic
import Derived.WalkSmall
import Derived.ProofKit
import Derived.OpenShut
import Derived.ShutString
import Derived.ChangeOld
import Derived.Below
import Derived.Carry
namespace Go.Proofs.Ytoefhkakkmebeaa.patchMakes
open Go.ChangeShapes Go.WideShapes Go.ChangeAt Go.RowKit
open Go.ChangeMaps (open_string shut_string)
set_option linter.unusedVariables false
set_option linter.unusedSimpArgs false

theorem own : ownKnob Try.prog.godebug = none := by kernel_rfl
theorem laidOut : laidOutB Try.prog = true := by kernel_rfl

set_option maxRecDepth 100000 in
set_option maxHeartbeats 4000000 in
theorem walk (o : Int) (s : ByteArray) (w : World) (ho : (Lit.int .i64 o).wf = true) (hs : s.size ≤ maxLen) :
    Calls Try.prog 3 #[.int .i64 o, .string s] w fun e w' => e = .returned (.bool true) ∧ Below w.heap.size w w' := by
  have hz := zeroPt
  have HZ : Hid (zeroC.length = 32) := ch_zero.1
  have c1 := fun W => of_any W o s ho hs
  have c2 := fun W => rof_any W o s ho hs
  have c3 := fun W => zero_any W o
  have c4 := fun W => rzero_any W o
  have okP := ofR_ok o s
  have okZ := zeroP_ok o
  have HP : Hid ((ofR o s).bytes.length = 32) := okP.ch.1
  have HQ : Hid ((zeroP o).bytes.length = 32) := okZ.ch.1
  have q1 := fun W => eq_pts W okP.ch.1 okP.ch.1
  have q2 := fun W => eq_pts W okZ.ch.1 okZ.ch.1
  rw [ptEq_self] at q1 q2
  generalize ofR o s = P at *
  generalize ofE o s = E at *
  generalize zeroP o = Z at *
  generalize zeroE o = F at *
  go_enter Try.func3, Try.ntmps3
  go_wp2_with fail
  refine (live_any _).mono ?_
  rintro e w0 ⟨rfl, hb0⟩
  go_wp2_with fail
  refine (c1 _).mono ?_
  rintro e w1 ⟨rfl, hb1⟩
  go_wp2_with (refine wpList_newP rfl _ _ rfl rfl P pt0 rfl HP.out HZ.out ?_)
  refine (c2 _).mono ?_
  rintro e w2 ⟨rfl, hb2⟩
  go_wp2_with (refine wpList_newP rfl _ _ rfl rfl P pt0 rfl HP.out HZ.out ?_)
  refine (c3 _).mono ?_
  rintro e w3 ⟨rfl, hb3⟩
  go_wp2_with (refine wpList_newP rfl _ _ rfl rfl Z pt0 rfl HQ.out HZ.out ?_)
  refine (c4 _).mono ?_
  rintro e w4 ⟨rfl, hb4⟩
  have al : ∀ (A : World) (o : Obj), Below A.heap.size A (A.alloc o) := fun A o => (Below.refl _ A).alloc (Nat.le_refl _) o
  have b2 : Below w1.heap.size w1 w2 := thenB (al _ _) hb2
  have b3 : Below w2.heap.size w2 w3 := thenB (al _ _) hb3
  have b4 : Below w3.heap.size w3 w4 := thenB (al _ _) hb4
  obtain ⟨w5, hw5⟩ : ∃ w5, w4.alloc (.cells (ptC pt0) 26) = w5 := ⟨_, rfl⟩
  have q5 : PtAt w5 w4.heap.size pt0 := by rw [← hw5]; exact PtAt.laid w4 pt0
  have b5 : Below w4.heap.size w4 w5 := by rw [← hw5]; exact al _ _
  obtain ⟨w6, hw6⟩ : ∃ w6, w5.setRow w4.heap.size (ptC Z) = w6 := ⟨_, rfl⟩
  have b6 : Below w4.heap.size w4 w6 := by rw [← hw6]; exact below_setRow b5 (Nat.le_refl _) _
  have l1 : Hid _ := (((((PtAt.laid w1 P).below hb2).below b3).below b4).below b6).load HP.out
  have l2 : Hid _ := ((((PtAt.laid w2 P).below hb3).below b4).below b6).load HP.out
  have l3 : Hid _ := (((PtAt.laid w3 Z).below hb4).below b6).load HQ.out
  have q6 : PtAt w6 w4.heap.size Z := by rw [← hw6]; exact q5.setRow _
  have l4 : Hid _ := q6.load HQ.out
  have HB : Hid (Below w.heap.size w w6) := thenB hb0 (thenB hb1 (thenB b2 (thenB b3 (thenB b4 b6))))
  clear c1 c2 c3 c4 b2 b3 b4 b5 b6 hb0 hb1 hb2 hb3 hb4 al q6
  go_wp2_with (first
    | (refine wpList_storeP rfl _ _ rfl w4.heap.size Z pt0 rfl rfl HQ.out HZ.out q5 ?_; rw [hw6])
    | (refine wpList_loadG rfl 26 _ rfl _ rfl _ l1.out ?_)
    | (refine wpList_loadG rfl 26 _ rfl _ rfl _ l2.out ?_)
    | (refine wpList_loadG rfl 26 _ rfl _ rfl _ l3.out ?_)
    | (refine wpList_loadG rfl 26 _ rfl _ rfl _ l4.out ?_))
  go_ret
  exact ⟨rfl, HB.out⟩

/-! ### The row -/
set_option maxRecDepth 100000 in
theorem lifted (os : Os) (started : os.Started) (H : Type) (enc : TypeId × Value → H) :
    ReturnsInHanded {} Try.checked os 3 .any (Rows.patchMakesSpec.pre6 enc Try.prog Try.f3 Rows.patchMakesRow.domain false) (Rows.patchMakesSpec.post enc Try.prog Try.f3 false true false false) := by
  refine returnsInHanded_of_change (C := Try.checked) own started (by kernel_rfl) Try.func3
    (ChangeSpec.witness6 (enc := enc) (C := Try.checked) false ⟨#[], #[.int .i64 0, .string ByteArray.empty], []⟩ 8 (by kernel_rfl) (by kernel_rfl) (by kernel_rfl) (by kernel_rfl)) ?_
  intro W base args ds gs before hval0 hW hcnd _
  have hval : ∀ (j : Nat) t v, Try.f3.params[j]? = some t → args[j]? = some v → Value.okWide Try.prog W .any base t v := hval0
  have hW' := hW
  obtain ⟨p, q, hA0, hV, rfl, hfz, hnd⟩ := hW
  have hA : DataW.TrodAll enc Try.prog W 0 (fun _ => true) true Try.f3.params.toList args.toList ds p := hA0
  rw [Try.params3] at hA hval
  obtain ⟨v0, vs0, d0, ds0, p0, q0, hargs, rfl, rfl, h0, r0⟩ := trodAll_cons hA
  obtain ⟨v1, vs1, d1, ds1, p1, q1, rfl, rfl, rfl, h1, r1⟩ := trodAll_cons r0
  obtain ⟨rfl, rfl, rfl⟩ := trodAll_nil r1
  obtain rfl : args = #[v0, v1] := by cases args; simp_all
  obtain ⟨rfl, rfl⟩ := trodVars_none hV
  obtain ⟨a0, rfl, rfl, rfl, w0⟩ := open_int Try.underlying3 (hval 0 3 v0 rfl rfl) h0
  obtain ⟨a1, rfl, rfl, rfl, w1⟩ := open_string Try.underlying9 (hval 1 9 v1 rfl rfl) h1
  clear hA0 hval0
  refine (walk a0 a1 W w0 w1).mono fun e W' ⟨he, bel⟩ => ?_
  subst he
  exact ⟨_, rfl, _, _, _, [], _, [], hW', trodAll_mk1 (shut_bool Try.underlying4 _), (trodAll_cons_mk (shut_int Try.underlying3 w0) (trodAll_cons_mk (shut_string Try.underlying9 w1) trodAll_mk0)), rfl, bel.frame _, fun h => by cases h⟩

theorem over : Rows.patchMakesRow.holds Try.pinned (OpenSpec.ofChange Rows.patchMakesSpec) :=
  OpenClaim.holds_of_wide 3 Try.f3 rfl rfl rfl rfl rfl rfl rfl ⟨rfl, rfl, rfl, rfl, rfl⟩ rfl rfl rfl rfl rfl (by kernel_rfl) Try.func3 (by kernel_rfl)
    (of_decide_eq_true (by kernel_rfl)) (by unfold Func.isWrapper; first | (rw [if_pos (by decide +kernel)]; kernel_rfl) | (rw [if_neg (by decide +kernel)]; exact ⟨rfl, rfl⟩))
    (fun os started H enc _ => lifted os started H enc)

end Go.Proofs.Ytoefhkakkmebeaa.patchMakes

namespace Go.Proofs.Ytoefhkakkmebeaa
/-- The statement. -/
theorem patchMakes_proved : Rows.PatchMakesSaid := patchMakes.over
#print axioms patchMakes_proved
end Go.Proofs.Ytoefhkakkmebeaa
