/- Proved: for every inode, number and 32 bytes the law ItemParts answers true: no conditions. -/
import Derived.Test.YtflkbcdeogdodaaILaw
import Derived.Test.YtflkbcdeogdodaaIArg
import Derived.Deep.RegionHeld3
import Derived.BigQuiet
import Derived.Deep.QuietTactic
import Derived.WalkSmall
import Derived.ProofKit
import Derived.OpenShut
import Derived.ShutString
import Derived.ChangeOld
import Derived.Below
import Derived.Carry
namespace Go.Proofs.Ytflkbcdeogdodaa.itemParts
open Go.ChangeShapes Go.WideShapes Go.ChangeAt Go.RowKit
open Go.ChangeMaps (open_string shut_string)
set_option linter.unusedVariables false

theorem own : ownKnob Try.prog.godebug = none := by kernel_rfl
theorem laidOut : laidOutB Try.prog = true := by kernel_rfl

/-- How many of the parts 1 .. i - 1 an item is of. -/
def cnt (x : It) (i : Nat) : Nat := (if 1 < i ∧ encE 1 x = 0 then 1 else 0) + (if 2 < i ∧ encE 2 x = 0 then 1 else 0) + (if 3 < i ∧ encE 3 x = 0 then 1 else 0)

theorem cnt_step (x : It) (i : Nat) (h1 : 1 ≤ i) (h3 : i ≤ 3) : cnt x (i + 1) = cnt x i + (if encE i x = 0 then 1 else 0) := by
  have h : i = 1 ∨ i = 2 ∨ i = 3 := by omega
  rcases h with rfl | rfl | rfl
  · simp [cnt]
  · simp [cnt]
  · simp [cnt]

theorem cnt_le (x : It) : cnt x 4 ≤ 1 := by
  have a : ∀ p : Int, encE p x = 0 → giveI p x = x ∧ standsB p x = true := fun p h => encOk_iff.1 (encE_0.1 h).2
  have h12 : ¬ (encE 1 x = 0 ∧ encE 2 x = 0) := fun ⟨h1, h2⟩ => by
    have b := inoOk_bounds (show inoOk x.kind x.mode x.links x.size = true from (a 1 h1).2)
    have e : x.kind = 0 := by rw [← (a 2 h2).1]; rfl
    omega
  have h13 : ¬ (encE 1 x = 0 ∧ encE 3 x = 0) := fun ⟨h1, h2⟩ => by
    have b := inoOk_bounds (show inoOk x.kind x.mode x.links x.size = true from (a 1 h1).2)
    have e : x.kind = 0 := by rw [← (a 3 h2).1]; rfl
    omega
  have h23 : ¬ (encE 2 x = 0 ∧ encE 3 x = 0) := fun ⟨h1, h2⟩ => by
    have b : (x.lead != 0) = true := (a 2 h1).2
    have e : x.lead = 0 := by rw [← (a 3 h2).1]; rfl
    rw [e] at b
    cases b
  unfold cnt
  by_cases e1 : encE 1 x = 0 <;> by_cases e2 : encE 2 x = 0 <;> by_cases e3 : encE 3 x = 0 <;> simp [e1, e2, e3] <;> first | exact h12 ⟨e1, e2⟩ | exact h13 ⟨e1, e3⟩ | exact h23 ⟨e2, e3⟩

set_option maxRecDepth 100000 in
set_option maxHeartbeats 4000000 in
theorem walk (k m l s t : Int) (b : List Int) (w : World) (hi : InoOk k m l s) (ht : (Lit.int .u32 t).wf = true) (hb : Ch b) : Calls Try.prog 6 #[.agg (inoV k m l s), .int .u32 t, .agg (bytesV b)] w fun e w' => e = .returned (.bool true) ∧ Below w.heap.size w w' := by
  have hok : ItOk ⟨k, m, l, s, t, b⟩ := ItOk.mk' hi ht hb
  have HX : Hid (b.length = 32) := hb.1
  unfold inoV
  obtain ⟨w0, hw0⟩ : ∃ w0, (w.alloc (.cells #[.int .i64 k, .int .i64 m, .int .i64 l, .int .i64 s] 23)).alloc (.cells (bytesV b) 25) = w0 := ⟨_, rfl⟩
  have hB0 : Below w.heap.size w w0 := by rw [← hw0]; exact ((Below.refl _ w).alloc (Nat.le_refl _) _).alloc ((Below.refl _ w).alloc (Nat.le_refl _) _).size _
  have hin : InAt w0 w.heap.size k m l s := ⟨by rw [← hw0]; exact heap_alloc2_old w _ _⟩
  have hch : ChAt w0 (w.heap.size + 1) b := ⟨by rw [← hw0]; exact heap_alloc2_new w _ _⟩
  go_enter Try.func6, Try.ntmps6
  go_wp2_with fail
  refine (live_any _).mono ?_
  rintro e w1 ⟨rfl, hb1⟩
  have hz := zeroItem
  have H1 : Hid _ := (hin.below hb1).load
  have H2 : Hid _ := (hch.below hb1).load hb.1
  obtain ⟨w2, hw2⟩ : ∃ w2, w1.alloc (.cells (itC it0) 31) = w2 := ⟨_, rfl⟩
  have hb2 : Below w1.heap.size w1 w2 := by rw [← hw2]; exact (Below.refl _ w1).alloc (Nat.le_refl _) _
  have hat : ItAt 31 w2 w1.heap.size it0 := by rw [← hw2]; exact ItAt.laid _ w1 it0
  obtain ⟨w3, hw3⟩ : ∃ w3, w2.setRow w1.heap.size (itC ⟨k, m, l, s, t, b⟩) = w3 := ⟨_, rfl⟩
  have hat3 : ItAt 31 w3 w1.heap.size ⟨k, m, l, s, t, b⟩ := by rw [← hw3]; exact hat.setRow _
  have hb3 : Below w1.heap.size w1 w3 := by rw [← hw3]; exact below_setRow hb2 (Nat.le_refl _) _
  have hB3 : Below w.heap.size w w3 := thenB hB0 (thenB hb1 hb3)
  clear hw0 hin hch hi ht hb
  go_wp2_with (first
    | (refine wpList_loadG rfl 23 _ rfl _ rfl _ H1.out ?_)
    | (refine wpList_loadG rfl 25 _ rfl _ rfl _ H2.out ?_)
    | (refine wpList_buildBy rfl 31 _ rfl _ rfl [(0, .agg #[.int .i64 k, .int .i64 m, .int .i64 l, .int .i64 s]), (1, .int .u32 t), (2, .agg (bytesV b))] (by kernel_rfl) (itC ⟨k, m, l, s, t, b⟩) (built_all _ _ _ _ _ HX.out) ?_)
    | (refine wpList_storeI rfl _ _ rfl w1.heap.size ⟨k, m, l, s, t, b⟩ it0 rfl rfl HX.out ch_zero.1 hat ?_))
  clear hw2 hw3 hz hat H1 H2 hb2 hb1 hb3 hB0
  generalize It.mk k m l s t b = x at *
  have hz0 := fun W => encode_any W 0 x hok
  have hz4 := fun W => encode_any W 4 x hok
  rw [(enc_arg (p := 0) (by decide) x).1] at hz0
  rw [(enc_arg (p := 4) (by decide) x).1] at hz4
  have HL : Hid (x.bytes.length = 32) := hok.ch.1
  go_loopw [9, 10, 11, 12] (fun n p u e wr => ∃ i : Nat, 1 ≤ i ∧ i ≤ 4 ∧ p = .int .i64 i ∧ n = .int .i64 (cnt x i) ∧ Below w3.heap.size w3 wr) (fun _ p _ _ _ => 4 - (intOf p).toNat)
  case atStart => exact ⟨1, Nat.le_refl _, by omega, rfl, by simp [cnt], Below.refl _ _⟩
  case round =>
    obtain ⟨i, h1, h4, rfl, rfl, hbr⟩ := hrel
    have hatr := hat3.below hbr
    have hld : Hid _ := hatr.load HL.out
    by_cases hlt : i ≤ 3
    · clear hz0 hz4
      have hwp : wid i ≠ 0 := by rcases wid_cases i with ⟨_, hw⟩ | ⟨_, hw⟩ | ⟨_, hw⟩ | ⟨_, _, _, hw⟩ <;> omega
      have hen := fun W => encode_any W i x hok
      have HC : Hid _ := cnt_step x i h1 hlt
      have hcl : cnt x i ≤ 3 := by unfold cnt; split <;> split <;> split <;> omega
      rcases encE_or hwp x with he | he
      · rw [he] at hen
        have HN : Hid (cnt x (i + 1) = cnt x i + 1) := by unfold Hid; rw [HC.out, if_pos he]
        clear he HC hwp
        generalize encS i x = S at *
        generalize cnt x i = c at *
        go_wp2_with (first
          | (refine wpList_loadG rfl 31 _ rfl _ rfl _ hld.out ?_)
          | (go_at_call 9; refine (hen _).mono ?_; rintro e w5 ⟨rfl, hb5⟩))
        go_roundw
        case rel => exact ⟨i + 1, by omega, by omega, by go_num, by rw [HN.out]; go_num, thenB hbr hb5⟩
        case measure => simp [intOf]; omega
      · rw [he] at hen
        have HN : Hid (cnt x (i + 1) = cnt x i) := by unfold Hid; rw [HC.out, if_neg (by rw [he]; decide)]; rfl
        clear he HC hwp
        generalize encS i x = S at *
        generalize cnt x i = c at *
        go_wp2_with (first
          | (refine wpList_loadG rfl 31 _ rfl _ rfl _ hld.out ?_)
          | (go_at_call 9; refine (hen _).mono ?_; rintro e w5 ⟨rfl, hb5⟩))
        go_roundw
        case rel => exact ⟨i + 1, by omega, by omega, by go_num, by rw [HN.out], thenB hbr hb5⟩
        case measure => simp [intOf]; omega
    · obtain rfl : i = 4 := by omega
      have hcl := cnt_le x
      have hcI : ((cnt x 4 : Nat) : Int) ≤ 1 := by omega
      generalize cnt x 4 = c at *
      generalize encS 0 x = S0 at *
      generalize encS 4 x = S4 at *
      go_wp2_with (refine wpList_loadG rfl 31 _ rfl _ rfl _ hld.out ?_)
      refine (hz0 _).mono ?_
      rintro e w5 ⟨rfl, hb5⟩
      have hld5 : Hid _ := (hatr.below hb5).load HL.out
      go_wp2_with (refine wpList_loadG rfl 31 _ rfl _ rfl _ hld5.out ?_)
      refine (hz4 _).mono ?_
      rintro e w6 ⟨rfl, hb6⟩
      clear hz0 hz4
      go_wp2
      go_ret
      exact ⟨rfl, thenB hB3 (thenB hbr (thenB hb5 hb6))⟩

/-! ### The row -/
set_option maxRecDepth 100000 in
theorem lifted (os : Os) (started : os.Started) (H : Type) (enc : TypeId × Value → H) :
    ReturnsInHanded {} Try.checked os 6 .any (Rows.itemPartsSpec.pre6 enc Try.prog Try.f6 Rows.itemPartsRow.domain false) (Rows.itemPartsSpec.post enc Try.prog Try.f6 false true false false) := by
  refine returnsInHanded_of_change (C := Try.checked) own started (by kernel_rfl) Try.func6
    (ChangeSpec.witness6 (enc := enc) (C := Try.checked) false ⟨#[], #[.agg #[.int .i64 0, .int .i64 0, .int .i64 0, .int .i64 0], .int .u32 0, .agg (bytesV zeroC)], []⟩ 8 (by kernel_rfl) (by kernel_rfl) (by kernel_rfl) (by kernel_rfl)) ?_
  intro W base args ds gs before hval0 hW hcnd _
  have hval : ∀ (j : Nat) t v, Try.f6.params[j]? = some t → args[j]? = some v → Value.okWide Try.prog W .any base t v := hval0
  have hW' := hW
  obtain ⟨p, q, hA0, hV, rfl, hfz, hnd⟩ := hW
  have hA : DataW.TrodAll enc Try.prog W 0 (fun _ => true) true Try.f6.params.toList args.toList ds p := hA0
  rw [Try.params6] at hA hval
  obtain ⟨v0, vs0, d0, ds0, p0, q0, hargs, rfl, rfl, h0, r0⟩ := trodAll_cons hA
  obtain ⟨v1, vs1, d1, ds1, p1, q1, rfl, rfl, rfl, h1, r1⟩ := trodAll_cons r0
  obtain ⟨v2, vs2, d2, ds2, p2, q2, rfl, rfl, rfl, h2, r2⟩ := trodAll_cons r1
  obtain ⟨rfl, rfl, rfl⟩ := trodAll_nil r2
  obtain rfl : args = #[v0, v1, v2] := by cases args; simp_all
  obtain ⟨rfl, rfl⟩ := trodVars_none hV
  obtain ⟨cs0, rfl, sz0⟩ := okWide_struct Try.underlying23 (hval 0 23 v0 rfl rfl)
  have k0 := h0
  have lt0 : ∀ x ∈ p0, x.block < W.heap.size := by obtain ⟨m, hm⟩ := k0; exact DataW.trod_lt m _ _ _ hm
  obtain ⟨ak0, am0, al0, as0, w0, rfl⟩ : ∃ k m l s : Int, InoOk k m l s ∧ cs0 = inoV k m l s := by
    obtain ⟨fuel, hf⟩ := h0
    exact inode_of sz0 hf
  obtain ⟨a1, rfl, rfl, rfl, w1⟩ := open_int Try.underlying24 (hval 1 24 v1 rfl rfl) h1
  obtain ⟨cs2, rfl, sz2⟩ := okWide_arr Try.underlying25 (hval 2 25 v2 rfl rfl)
  have k2 := h2
  have lt2 : ∀ x ∈ p2, x.block < W.heap.size := by obtain ⟨m, hm⟩ := k2; exact DataW.trod_lt m _ _ _ hm
  obtain ⟨a2, w2, rfl⟩ : ∃ b : List Int, Ch b ∧ cs2 = bytesV b := by
    obtain ⟨fuel, hf⟩ := h2
    exact chunk_of sz2 hf
  clear hA0 hval0
  refine (walk ak0 am0 al0 as0 a1 a2 W w0 w1 w2).mono fun e W' ⟨he, bel⟩ => ?_
  subst he
  exact ⟨_, rfl, _, _, _, [], _, [], hW', trodAll_mk1 (shut_bool Try.underlying4 _), (trodAll_cons_mk (Below.trod laidOut (by kernel_rfl) (of_decide_eq_true (by kernel_rfl)) k0 bel lt0) (trodAll_cons_mk (shut_int Try.underlying24 w1) (trodAll_cons_mk (Below.trod laidOut (by kernel_rfl) (of_decide_eq_true (by kernel_rfl)) k2 bel lt2) trodAll_mk0))), rfl, bel.frame _, fun h => by cases h⟩

theorem over : Rows.itemPartsRow.holds Try.pinned (OpenSpec.ofChange Rows.itemPartsSpec) :=
  OpenClaim.holds_of_wide 6 Try.f6 rfl rfl rfl rfl rfl rfl rfl ⟨rfl, rfl, rfl, rfl, rfl⟩ rfl rfl rfl rfl rfl (by kernel_rfl) Try.func6 (by kernel_rfl)
    (of_decide_eq_true (by kernel_rfl)) (by unfold Func.isWrapper; first | (rw [if_pos (by decide +kernel)]; kernel_rfl) | (rw [if_neg (by decide +kernel)]; exact ⟨rfl, rfl⟩))
    (fun os started H enc _ => lifted os started H enc)

end Go.Proofs.Ytflkbcdeogdodaa.itemParts

namespace Go.Proofs.Ytflkbcdeogdodaa
/-- The statement. -/
theorem itemParts_proved : Rows.ItemPartsSaid := itemParts.over
#print axioms itemParts_proved
end Go.Proofs.Ytflkbcdeogdodaa
