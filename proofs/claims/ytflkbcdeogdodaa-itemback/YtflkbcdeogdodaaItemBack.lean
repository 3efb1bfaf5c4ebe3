/- Proved: for every part, inode, number, 32 bytes and text the law ItemBack answers true: no conditions. -/
import Derived.Test.YtflkbcdeogdodaaIMath
import Derived.Test.YtflkbcdeogdodaaIArg
import Derived.Deep.RegionHeld3
import Derived.BigQuiet
import Derived.Deep.QuietTactic
import Derived.WalkSmall
import Derived.ProofKit
import Derived.OpenShut
import Derived.ShutString
import Derived.ChangeOld
import Derived.Below
import Derived.Carry
namespace Go.Proofs.Ytflkbcdeogdodaa.itemBack
open Go.ChangeShapes Go.WideShapes Go.ChangeAt Go.RowKit
open Go.ChangeMaps (open_string shut_string)
set_option linter.unusedVariables false

theorem own : ownKnob Try.prog.godebug = none := by kernel_rfl
theorem laidOut : laidOutB Try.prog = true := by kernel_rfl

set_option maxRecDepth 100000 in
set_option maxHeartbeats 8000000 in
theorem walk (p k m l s t : Int) (b : List Int) (v : ByteArray) (w : World) (hp : (Lit.int .i64 p).wf = true) (hi : InoOk k m l s) (ht : (Lit.int .u32 t).wf = true) (hb : Ch b) (hv : v.size ≤ maxLen) :
    Calls Try.prog 5 #[.int .i64 p, .agg (inoV k m l s), .int .u32 t, .agg (bytesV b), .string v] w fun e w' => e = .returned (.bool true) ∧ Below w.heap.size w w' := by
  have hok : ItOk ⟨k, m, l, s, t, b⟩ := ItOk.mk' hi ht hb
  have HX : Hid (b.length = 32) := hb.1
  unfold inoV
  obtain ⟨w0, hw0⟩ : ∃ w0, (w.alloc (.cells #[.int .i64 k, .int .i64 m, .int .i64 l, .int .i64 s] 23)).alloc (.cells (bytesV b) 25) = w0 := ⟨_, rfl⟩
  have hB0 : Below w.heap.size w w0 := by rw [← hw0]; exact ((Below.refl _ w).alloc (Nat.le_refl _) _).alloc ((Below.refl _ w).alloc (Nat.le_refl _) _).size _
  have hin : InAt w0 w.heap.size k m l s := ⟨by rw [← hw0]; exact heap_alloc2_old w _ _⟩
  have hch : ChAt w0 (w.heap.size + 1) b := ⟨by rw [← hw0]; exact heap_alloc2_new w _ _⟩
  have henX := fun W => encode_any W p ⟨k, m, l, s, t, b⟩ hok
  go_enter Try.func5, Try.ntmps5
  go_wp2_with fail
  refine (live_any _).mono ?_
  rintro e w1 ⟨rfl, hb1⟩
  have hz := zeroItem
  have H1 : Hid _ := (hin.below hb1).load
  have H2 : Hid _ := (hch.below hb1).load hb.1
  obtain ⟨w2, hw2⟩ : ∃ w2, w1.alloc (.cells (itC it0) 31) = w2 := ⟨_, rfl⟩
  have hb2 : Below w1.heap.size w1 w2 := by rw [← hw2]; exact (Below.refl _ w1).alloc (Nat.le_refl _) _
  have hat : ItAt 31 w2 w1.heap.size it0 := by rw [← hw2]; exact ItAt.laid _ w1 it0
  obtain ⟨w3, hw3⟩ : ∃ w3, w2.setRow w1.heap.size (itC ⟨k, m, l, s, t, b⟩) = w3 := ⟨_, rfl⟩
  have hat3 : ItAt 31 w3 w1.heap.size ⟨k, m, l, s, t, b⟩ := by rw [← hw3]; exact hat.setRow _
  have hb3 : Below w1.heap.size w1 w3 := by rw [← hw3]; exact below_setRow hb2 (Nat.le_refl _) _
  have hB3 : Below w.heap.size w w3 := thenB hB0 (thenB hb1 hb3)
  have H3 : Hid _ := hat3.load hb.1
  clear hw0 hin hch hi ht hb hp hv
  go_wp2_with (first
    | (refine wpList_loadG rfl 23 _ rfl _ rfl _ H1.out ?_)
    | (refine wpList_loadG rfl 25 _ rfl _ rfl _ H2.out ?_)
    | (refine wpList_buildBy rfl 31 _ rfl _ rfl [(0, .agg #[.int .i64 k, .int .i64 m, .int .i64 l, .int .i64 s]), (1, .int .u32 t), (2, .agg (bytesV b))] (by kernel_rfl) (itC ⟨k, m, l, s, t, b⟩) (built_all _ _ _ _ _ HX.out) ?_)
    | (refine wpList_storeI rfl _ _ rfl w1.heap.size ⟨k, m, l, s, t, b⟩ it0 rfl rfl HX.out ch_zero.1 hat ?_)
    | (refine wpList_loadG rfl 31 _ rfl _ rfl _ H3.out ?_))
  clear hw2 hw3 hat H1 H2 H3 hb2 hb1 hb3 hB0
  generalize It.mk k m l s t b = x at *
  refine (henX _).mono ?_
  rintro e w4 ⟨rfl, hb4⟩
  have hat4 := hat3.below hb4
  have hB4 := thenB hB3 hb4
  clear henX hat3 hB3 hb4
  -- the second half, whatever has been walked
  have hdv := fun W => decode_any W p v
  by_cases he : encE p x = 0
  · obtain ⟨d1, d2, d3⟩ := back_1 hok he
    have hdS : ∀ W, Calls Try.prog 13 #[.int .i64 p, .string (encS p x)] W fun e w' => e = .returned (.tuple #[.agg (itC x), .int .i64 0]) ∧ Below W.heap.size W w' := fun W => by
      have := decode_any W p (encS p x)
      rwa [d1, d2] at this
    have hne : ∀ W, (binOp .neq 31 (.agg (itC x)) (.agg (itC x))).run Try.prog W = .ok (.bool false) W := fun W => by rw [neq_items W hok.ch.1 hok.ch.1, itEq_iff.2 rfl]; rfl
    have h34 : ¬ (34 : Int) < (encS p x).size := by omega
    rw [he]
    clear d1 d2 d3 he
    generalize encS p x = S at *
    go_wp2_with fail
    refine (hdS _).mono ?_
    rintro e w5 ⟨rfl, hb5⟩
    obtain ⟨w6, hw6⟩ : ∃ w6, w5.alloc (.cells (itC it0) 31) = w6 := ⟨_, rfl⟩
    have hb6 : Below w5.heap.size w5 w6 := by rw [← hw6]; exact (Below.refl _ w5).alloc (Nat.le_refl _) _
    have hat6 : ItAt 31 w6 w5.heap.size it0 := by rw [← hw6]; exact ItAt.laid _ w5 it0
    obtain ⟨w7, hw7⟩ : ∃ w7, w6.setRow w5.heap.size (itC x) = w7 := ⟨_, rfl⟩
    have hat7 : ItAt 31 w7 w5.heap.size x := by rw [← hw7]; exact hat6.setRow _
    have hb7 : Below w5.heap.size w5 w7 := by rw [← hw7]; exact below_setRow hb6 (Nat.le_refl _) _
    have hB7 := thenB hB4 (thenB hb5 hb7)
    have L1 : Hid _ := hat7.load hok.ch.1
    have L2 : Hid _ := (hat4.below (thenB hb5 hb7)).load hok.ch.1
    have HX2 : Hid (x.bytes.length = 32) := hok.ch.1
    clear hdS hat4 hB4
    go_wp2_with (first
      | (refine wpList_storeI rfl _ _ rfl w5.heap.size x it0 rfl rfl HX2.out ch_zero.1 hat6 ?_)
      | (refine wpList_loadG rfl 31 _ rfl _ rfl _ L1.out ?_)
      | (refine wpList_loadG rfl 31 _ rfl _ rfl _ L2.out ?_))
    clear hw6 hw7 hat6 hat7 L1 L2 hne hb5 hb6 hb7
    refine (hdv _).mono ?_
    rintro e w8 ⟨rfl, hb8⟩
    have hB8 := thenB hB7 hb8
    clear hdv hB7 hb8
    obtain ⟨wa, hwa⟩ : ∃ wa, w8.alloc (.cells (itC it0) 31) = wa := ⟨_, rfl⟩
    have hba : Below w8.heap.size w8 wa := by rw [← hwa]; exact (Below.refl _ w8).alloc (Nat.le_refl _) _
    have hata : ItAt 31 wa w8.heap.size it0 := by rw [← hwa]; exact ItAt.laid _ w8 it0
    by_cases hd : decE p v = 0
    · obtain ⟨g1, g2⟩ := back_3 hd
      have hoky := decI_ok p v
      have hen : ∀ W, Calls Try.prog 9 #[.int .i64 p, .agg (itC (decI p v))] W fun e w' => e = .returned (.tuple #[.string v, .int .i64 0]) ∧ Below W.heap.size W w' := fun W => by
        have := encode_any W p (decI p v) hoky
        rwa [g1, g2] at this
      rw [hd]
      clear g1 g2 hd
      generalize decI p v = y at *
      have HY : Hid (y.bytes.length = 32) := hoky.ch.1
      obtain ⟨wb, hwb⟩ : ∃ wb, wa.setRow w8.heap.size (itC y) = wb := ⟨_, rfl⟩
      have hatb : ItAt 31 wb w8.heap.size y := by rw [← hwb]; exact hata.setRow _
      have hbb : Below w8.heap.size w8 wb := by rw [← hwb]; exact below_setRow hba (Nat.le_refl _) _
      have L3 : Hid _ := hatb.load HY.out
      go_wp2_with (first
        | (refine wpList_storeI rfl _ _ rfl w8.heap.size y it0 rfl rfl HY.out ch_zero.1 hata ?_)
        | (refine wpList_loadG rfl 31 _ rfl _ rfl _ L3.out ?_))
      refine (hen _).mono ?_
      rintro e wc ⟨rfl, hbc⟩
      go_wp2
      go_ret
      exact ⟨rfl, thenB hB8 (thenB hbb hbc)⟩
    · rw [back_2 hd]
      have hdI : (decE p v != 0) = true := by rw [bne_iff_ne]; exact hd
      generalize decE p v = d at *
      obtain ⟨wb, hwb⟩ : ∃ wb, wa.setRow w8.heap.size (itC it0) = wb := ⟨_, rfl⟩
      have hatb : ItAt 31 wb w8.heap.size it0 := by rw [← hwb]; exact hata.setRow _
      have hbb : Below w8.heap.size w8 wb := by rw [← hwb]; exact below_setRow hba (Nat.le_refl _) _
      have L3 : Hid _ := hatb.load ch_zero.1
      have heq : ∀ W, (binOp .eql 31 (.agg (itC it0)) (.agg (itC it0))).run Try.prog W = .ok (.bool true) W := fun W => by rw [eq_items W ch_zero.1 ch_zero.1, itEq_iff.2 rfl]
      go_wp2_with (first
        | (refine wpList_storeI rfl _ _ rfl w8.heap.size it0 it0 rfl rfl ch_zero.1 ch_zero.1 hata ?_)
        | (refine wpList_loadG rfl 31 _ rfl _ rfl _ L3.out ?_))
      go_ret
      exact ⟨rfl, thenB hB8 hbb⟩
  · have heI : (encE p x == 0) = false := by rw [beq_eq_false_iff_ne]; exact he
    generalize encE p x = ee at *
    generalize encS p x = S at *
    clear he hat4
    go_wp2_with fail
    refine (hdv _).mono ?_
    rintro e w8 ⟨rfl, hb8⟩
    have hB8 := thenB hB4 hb8
    clear hdv hB4 hb8 heI
    obtain ⟨wa, hwa⟩ : ∃ wa, w8.alloc (.cells (itC it0) 31) = wa := ⟨_, rfl⟩
    have hba : Below w8.heap.size w8 wa := by rw [← hwa]; exact (Below.refl _ w8).alloc (Nat.le_refl _) _
    have hata : ItAt 31 wa w8.heap.size it0 := by rw [← hwa]; exact ItAt.laid _ w8 it0
    by_cases hd : decE p v = 0
    · obtain ⟨g1, g2⟩ := back_3 hd
      have hoky := decI_ok p v
      have hen : ∀ W, Calls Try.prog 9 #[.int .i64 p, .agg (itC (decI p v))] W fun e w' => e = .returned (.tuple #[.string v, .int .i64 0]) ∧ Below W.heap.size W w' := fun W => by
        have := encode_any W p (decI p v) hoky
        rwa [g1, g2] at this
      rw [hd]
      clear g1 g2 hd
      generalize decI p v = y at *
      have HY : Hid (y.bytes.length = 32) := hoky.ch.1
      obtain ⟨wb, hwb⟩ : ∃ wb, wa.setRow w8.heap.size (itC y) = wb := ⟨_, rfl⟩
      have hatb : ItAt 31 wb w8.heap.size y := by rw [← hwb]; exact hata.setRow _
      have hbb : Below w8.heap.size w8 wb := by rw [← hwb]; exact below_setRow hba (Nat.le_refl _) _
      have L3 : Hid _ := hatb.load HY.out
      go_wp2_with (first
        | (refine wpList_storeI rfl _ _ rfl w8.heap.size y it0 rfl rfl HY.out ch_zero.1 hata ?_)
        | (refine wpList_loadG rfl 31 _ rfl _ rfl _ L3.out ?_))
      refine (hen _).mono ?_
      rintro e wc ⟨rfl, hbc⟩
      go_wp2
      go_ret
      exact ⟨rfl, thenB hB8 (thenB hbb hbc)⟩
    · rw [back_2 hd]
      have hdI : (decE p v != 0) = true := by rw [bne_iff_ne]; exact hd
      generalize decE p v = d at *
      obtain ⟨wb, hwb⟩ : ∃ wb, wa.setRow w8.heap.size (itC it0) = wb := ⟨_, rfl⟩
      have hatb : ItAt 31 wb w8.heap.size it0 := by rw [← hwb]; exact hata.setRow _
      have hbb : Below w8.heap.size w8 wb := by rw [← hwb]; exact below_setRow hba (Nat.le_refl _) _
      have L3 : Hid _ := hatb.load ch_zero.1
      have heq : ∀ W, (binOp .eql 31 (.agg (itC it0)) (.agg (itC it0))).run Try.prog W = .ok (.bool true) W := fun W => by rw [eq_items W ch_zero.1 ch_zero.1, itEq_iff.2 rfl]
      go_wp2_with (first
        | (refine wpList_storeI rfl _ _ rfl w8.heap.size it0 it0 rfl rfl ch_zero.1 ch_zero.1 hata ?_)
        | (refine wpList_loadG rfl 31 _ rfl _ rfl _ L3.out ?_))
      go_ret
      exact ⟨rfl, thenB hB8 hbb⟩

/-! ### The row -/
set_option maxRecDepth 100000 in
theorem lifted (os : Os) (started : os.Started) (H : Type) (enc : TypeId × Value → H) :
    ReturnsInHanded {} Try.checked os 5 .any (Rows.itemBackSpec.pre6 enc Try.prog Try.f5 Rows.itemBackRow.domain false) (Rows.itemBackSpec.post enc Try.prog Try.f5 false true false false) := by
  refine returnsInHanded_of_change (C := Try.checked) own started (by kernel_rfl) Try.func5
    (ChangeSpec.witness6 (enc := enc) (C := Try.checked) false ⟨#[], #[.int .i64 0, .agg #[.int .i64 0, .int .i64 0, .int .i64 0, .int .i64 0], .int .u32 0, .agg (bytesV zeroC), .string ByteArray.empty], []⟩ 8 (by kernel_rfl) (by kernel_rfl) (by kernel_rfl) (by kernel_rfl)) ?_
  intro W base args ds gs before hval0 hW hcnd _
  have hval : ∀ (j : Nat) t v, Try.f5.params[j]? = some t → args[j]? = some v → Value.okWide Try.prog W .any base t v := hval0
  have hW' := hW
  obtain ⟨p, q, hA0, hV, rfl, hfz, hnd⟩ := hW
  have hA : DataW.TrodAll enc Try.prog W 0 (fun _ => true) true Try.f5.params.toList args.toList ds p := hA0
  rw [Try.params5] at hA hval
  obtain ⟨v0, vs0, d0, ds0, p0, q0, hargs, rfl, rfl, h0, r0⟩ := trodAll_cons hA
  obtain ⟨v1, vs1, d1, ds1, p1, q1, rfl, rfl, rfl, h1, r1⟩ := trodAll_cons r0
  obtain ⟨v2, vs2, d2, ds2, p2, q2, rfl, rfl, rfl, h2, r2⟩ := trodAll_cons r1
  obtain ⟨v3, vs3, d3, ds3, p3, q3, rfl, rfl, rfl, h3, r3⟩ := trodAll_cons r2
  obtain ⟨v4, vs4, d4, ds4, p4, q4, rfl, rfl, rfl, h4, r4⟩ := trodAll_cons r3
  obtain ⟨rfl, rfl, rfl⟩ := trodAll_nil r4
  obtain rfl : args = #[v0, v1, v2, v3, v4] := by cases args; simp_all
  obtain ⟨rfl, rfl⟩ := trodVars_none hV
  obtain ⟨a0, rfl, rfl, rfl, w0⟩ := open_int Try.underlying3 (hval 0 3 v0 rfl rfl) h0
  obtain ⟨cs1, rfl, sz1⟩ := okWide_struct Try.underlying23 (hval 1 23 v1 rfl rfl)
  have k1 := h1
  have lt1 : ∀ x ∈ p1, x.block < W.heap.size := by obtain ⟨m, hm⟩ := k1; exact DataW.trod_lt m _ _ _ hm
  obtain ⟨ak1, am1, al1, as1, w1, rfl⟩ : ∃ k m l s : Int, InoOk k m l s ∧ cs1 = inoV k m l s := by
    obtain ⟨fuel, hf⟩ := h1
    exact inode_of sz1 hf
  obtain ⟨a2, rfl, rfl, rfl, w2⟩ := open_int Try.underlying24 (hval 2 24 v2 rfl rfl) h2
  obtain ⟨cs3, rfl, sz3⟩ := okWide_arr Try.underlying25 (hval 3 25 v3 rfl rfl)
  have k3 := h3
  have lt3 : ∀ x ∈ p3, x.block < W.heap.size := by obtain ⟨m, hm⟩ := k3; exact DataW.trod_lt m _ _ _ hm
  obtain ⟨a3, w3, rfl⟩ : ∃ b : List Int, Ch b ∧ cs3 = bytesV b := by
    obtain ⟨fuel, hf⟩ := h3
    exact chunk_of sz3 hf
  obtain ⟨a4, rfl, rfl, rfl, w4⟩ := open_string Try.underlying9 (hval 4 9 v4 rfl rfl) h4
  clear hA0 hval0
  refine (walk a0 ak1 am1 al1 as1 a2 a3 a4 W w0 w1 w2 w3 w4).mono fun e W' ⟨he, bel⟩ => ?_
  subst he
  exact ⟨_, rfl, _, _, _, [], _, [], hW', trodAll_mk1 (shut_bool Try.underlying4 _), (trodAll_cons_mk (shut_int Try.underlying3 w0) (trodAll_cons_mk (Below.trod laidOut (by kernel_rfl) (of_decide_eq_true (by kernel_rfl)) k1 bel lt1) (trodAll_cons_mk (shut_int Try.underlying24 w2) (trodAll_cons_mk (Below.trod laidOut (by kernel_rfl) (of_decide_eq_true (by kernel_rfl)) k3 bel lt3) (trodAll_cons_mk (shut_string Try.underlying9 w4) trodAll_mk0))))), rfl, bel.frame _, fun h => by cases h⟩

theorem over : Rows.itemBackRow.holds Try.pinned (OpenSpec.ofChange Rows.itemBackSpec) :=
  OpenClaim.holds_of_wide 5 Try.f5 rfl rfl rfl rfl rfl rfl rfl ⟨rfl, rfl, rfl, rfl, rfl⟩ rfl rfl rfl rfl rfl (by kernel_rfl) Try.func5 (by kernel_rfl)
    (of_decide_eq_true (by kernel_rfl)) (by unfold Func.isWrapper; first | (rw [if_pos (by decide +kernel)]; kernel_rfl) | (rw [if_neg (by decide +kernel)]; exact ⟨rfl, rfl⟩))
    (fun os started H enc _ => lifted os started H enc)

end Go.Proofs.Ytflkbcdeogdodaa.itemBack

namespace Go.Proofs.Ytflkbcdeogdodaa
/-- The statement. -/
theorem itemBack_proved : Rows.ItemBackSaid := itemBack.over
#print axioms itemBack_proved
end Go.Proofs.Ytflkbcdeogdodaa
