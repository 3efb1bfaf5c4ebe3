/- Proved: for every part, two inodes, two numbers and 32 bytes the law ItemApart answers true: no conditions. -/
import Derived.Test.YtflkbcdeogdodaaIMath
import Derived.Test.YtflkbcdeogdodaaIArg
import Derived.Deep.RegionHeld3
import Derived.BigQuiet
import Derived.Deep.QuietTactic
import Derived.WalkSmall
import Derived.ProofKit
import Derived.OpenShut
import Derived.ShutString
import Derived.ChangeOld
import Derived.Below
import Derived.Carry
namespace Go.Proofs.Ytflkbcdeogdodaa.itemApart
open Go.ChangeShapes Go.WideShapes Go.ChangeAt Go.RowKit
open Go.ChangeMaps (open_string shut_string)
set_option linter.unusedVariables false

theorem own : ownKnob Try.prog.godebug = none := by kernel_rfl
theorem laidOut : laidOutB Try.prog = true := by kernel_rfl

theorem apart {p : Int} {x y : It} (hx : ItOk x) (hy : ItOk y) (he : encE p x = 0) (hf : encE p y = 0) (h : encS p x = encS p y) : x = y := by
  rw [← (back_1 hx he).2.1, ← (back_1 hy hf).2.1, h]

theorem str_ne {a b : ByteArray} (h : a ≠ b) : (a.toList == b.toList) = false := by
  rw [beq_eq_false_iff_ne]
  intro e
  rw [ByteArray.toList_eq, ByteArray.toList_eq] at e
  obtain ⟨d⟩ := a
  obtain ⟨d'⟩ := b
  exact h (congrArg ByteArray.mk (Array.ext' e))

set_option maxRecDepth 100000 in
set_option maxHeartbeats 8000000 in
theorem walk (p k m l s k' m' l' s' t t' : Int) (b : List Int) (w : World) (hp : (Lit.int .i64 p).wf = true) (hi : InoOk k m l s) (hj : InoOk k' m' l' s') (ht : (Lit.int .u32 t).wf = true) (ht' : (Lit.int .u32 t').wf = true) (hb : Ch b) :
    Calls Try.prog 7 #[.int .i64 p, .agg (inoV k m l s), .agg (inoV k' m' l' s'), .int .u32 t, .int .u32 t', .agg (bytesV b)] w fun e w' => e = .returned (.bool true) ∧ Below w.heap.size w w' := by
  have hok : ItOk ⟨k, m, l, s, t, b⟩ := ItOk.mk' hi ht hb
  have hok' : ItOk ⟨k', m', l', s', t', b⟩ := ItOk.mk' hj ht' hb
  have HX : Hid (b.length = 32) := hb.1
  unfold inoV
  obtain ⟨w0, hw0⟩ : ∃ w0, ((w.alloc (.cells #[.int .i64 k, .int .i64 m, .int .i64 l, .int .i64 s] 23)).alloc (.cells #[.int .i64 k', .int .i64 m', .int .i64 l', .int .i64 s'] 23)).alloc (.cells (bytesV b) 25) = w0 := ⟨_, rfl⟩
  have hB0 : Below w.heap.size w w0 := by rw [← hw0]; exact keepA (keepA (keepA (Below.refl _ w) _) _) _
  have hA : ∀ (W : World) (o : Obj), Below W.heap.size W (W.alloc o) := fun W o => (Below.refl _ W).alloc (Nat.le_refl _) o
  have hin : InAt w0 w.heap.size k m l s := by rw [← hw0]; exact (InAt.below (InAt.below ⟨heap_alloc_new w _⟩ (hA _ _)) (hA _ _))
  have hin' : InAt w0 (w.heap.size + 1) k' m' l' s' := by rw [← hw0]; exact InAt.below ⟨heap_alloc2_new w _ _⟩ (hA _ _)
  have hch : ChAt w0 (w.heap.size + 2) b := ⟨by rw [← hw0]; have h := heap_alloc2_new (w.alloc (.cells #[.int .i64 k, .int .i64 m, .int .i64 l, .int .i64 s] 23)) (.cells #[.int .i64 k', .int .i64 m', .int .i64 l', .int .i64 s'] 23) (.cells (bytesV b) 25); simpa using h⟩
  clear hA
  have henX := fun W => encode_any W p ⟨k, m, l, s, t, b⟩ hok
  have henY := fun W => encode_any W p ⟨k', m', l', s', t', b⟩ hok'
  go_enter Try.func7, Try.ntmps7
  go_wp2_with fail
  refine (live_any _).mono ?_
  rintro e w1 ⟨rfl, hb1⟩
  have H1 : Hid _ := (hin.below hb1).load
  have H2 : Hid _ := (hch.below hb1).load hb.1
  go_wp2_with (first
    | (refine wpList_loadG rfl 23 _ rfl _ rfl _ H1.out ?_)
    | (refine wpList_loadG rfl 25 _ rfl _ rfl _ H2.out ?_)
    | (refine wpList_buildBy rfl 31 _ rfl _ rfl [(0, .agg #[.int .i64 k, .int .i64 m, .int .i64 l, .int .i64 s]), (1, .int .u32 t), (2, .agg (bytesV b))] (by kernel_rfl) (itC ⟨k, m, l, s, t, b⟩) (built_all _ _ _ _ _ HX.out) ?_))
  refine (henX _).mono ?_
  rintro e w2 ⟨rfl, hb2⟩
  have hb12 := thenB hb1 hb2
  have H3 : Hid _ := (hin'.below hb12).load
  have H4 : Hid _ := (hch.below hb12).load hb.1
  clear H1 H2 henX
  go_wp2_with (first
    | (refine wpList_loadG rfl 23 _ rfl _ rfl _ H3.out ?_)
    | (refine wpList_loadG rfl 25 _ rfl _ rfl _ H4.out ?_)
    | (refine wpList_buildBy rfl 31 _ rfl _ rfl [(0, .agg #[.int .i64 k', .int .i64 m', .int .i64 l', .int .i64 s']), (1, .int .u32 t'), (2, .agg (bytesV b))] (by kernel_rfl) (itC ⟨k', m', l', s', t', b⟩) (built_all _ _ _ _ _ HX.out) ?_))
  refine (henY _).mono ?_
  rintro e w3 ⟨rfl, hb3⟩
  have hb13 := thenB hb12 hb3
  have hB3 := thenB hB0 hb13
  have H5 : Hid _ := (hin.below hb13).load
  have H6 : Hid _ := (hin'.below hb13).load
  clear H3 H4 henY hb12 hb1 hb2 hb3 hb13 hB0 hw0 hin hin' hch
  have HA : ∀ (he : encE p ⟨k, m, l, s, t, b⟩ = 0) (hf : encE p ⟨k', m', l', s', t', b⟩ = 0), encS p ⟨k, m, l, s, t, b⟩ = encS p ⟨k', m', l', s', t', b⟩ → It.mk k m l s t b = It.mk k' m' l' s' t' b := fun he hf h => apart hok hok' he hf h
  by_cases he : encE p ⟨k, m, l, s, t, b⟩ = 0
  · by_cases hf : encE p ⟨k', m', l', s', t', b⟩ = 0
    · have HA' := HA he hf
      have heq := fun W => eq_inodes W k m l s k' m' l' s'
      rw [he, hf]
      clear HA
      by_cases hxy : inoEq k m l s k' m' l' s' = true
      · by_cases htt : t = t'
        · have hxy' := hxy
          simp only [inoEq, Bool.and_eq_true, beq_iff_eq] at hxy'
          obtain ⟨⟨⟨rfl, rfl⟩, rfl⟩, rfl⟩ := hxy'
          subst htt
          rw [hxy] at heq
          clear he hf HA' hxy hok hok' hi hj ht ht' hp hb
          generalize encS p ⟨k, m, l, s, t, b⟩ = S at *
          go_wp2_with (first
            | (refine wpList_loadG rfl 23 _ rfl _ rfl _ H5.out ?_)
            | (refine wpList_loadG rfl 23 _ rfl _ rfl _ H6.out ?_))
          go_ret
          exact ⟨by simp, hB3⟩
        · have hS : ((encS p ⟨k, m, l, s, t, b⟩).toList == (encS p ⟨k', m', l', s', t', b⟩).toList) = false := str_ne fun h => htt (It.mk.inj (HA' h)).2.2.2.2.1
          have htI : (t == t') = false := by rw [beq_eq_false_iff_ne]; exact htt
          rw [hxy] at heq
          clear he hf HA' hxy hok hok' hi hj ht ht' hp hb
          generalize encS p ⟨k, m, l, s, t, b⟩ = S at *
          generalize encS p ⟨k', m', l', s', t', b⟩ = S' at *
          go_wp2_with (first
            | (refine wpList_loadG rfl 23 _ rfl _ rfl _ H5.out ?_)
            | (refine wpList_loadG rfl 23 _ rfl _ rfl _ H6.out ?_))
          go_ret
          exact ⟨by simp, hB3⟩
      · have hxF : inoEq k m l s k' m' l' s' = false := by simpa using hxy
        have hS : ((encS p ⟨k, m, l, s, t, b⟩).toList == (encS p ⟨k', m', l', s', t', b⟩).toList) = false := str_ne fun h => hxy (by
          obtain ⟨e1, e2, e3, e4, _⟩ := It.mk.inj (HA' h)
          subst e1 e2 e3 e4
          simp [inoEq])
        rw [hxF] at heq
        clear he hf HA' hxy hxF hok hok' hi hj ht ht' hp hb
        generalize encS p ⟨k, m, l, s, t, b⟩ = S at *
        generalize encS p ⟨k', m', l', s', t', b⟩ = S' at *
        go_wp2_with (first
          | (refine wpList_loadG rfl 23 _ rfl _ rfl _ H5.out ?_)
          | (refine wpList_loadG rfl 23 _ rfl _ rfl _ H6.out ?_))
        go_ret
        exact ⟨by simp, hB3⟩
    · have hfI : (encE p ⟨k', m', l', s', t', b⟩ != 0) = true := by rw [bne_iff_ne]; exact hf
      rw [he]
      generalize encE p ⟨k', m', l', s', t', b⟩ = f at *
      clear HA H5 H6 he hf hok hok' hi hj ht ht' hp hb
      go_wp2
      go_ret
      exact ⟨rfl, hB3⟩
  · have heI : (encE p ⟨k, m, l, s, t, b⟩ != 0) = true := by rw [bne_iff_ne]; exact he
    clear HA H5 H6 he hok hok' hi hj ht ht' hp hb
    generalize encE p ⟨k, m, l, s, t, b⟩ = e at *
    go_wp2
    go_ret
    exact ⟨rfl, hB3⟩

/-! ### The row -/
set_option maxRecDepth 100000 in
theorem lifted (os : Os) (started : os.Started) (H : Type) (enc : TypeId × Value → H) :
    ReturnsInHanded {} Try.checked os 7 .any (Rows.itemApartSpec.pre6 enc Try.prog Try.f7 Rows.itemApartRow.domain false) (Rows.itemApartSpec.post enc Try.prog Try.f7 false true false false) := by
  refine returnsInHanded_of_change (C := Try.checked) own started (by kernel_rfl) Try.func7
    (ChangeSpec.witness6 (enc := enc) (C := Try.checked) false ⟨#[], #[.int .i64 0, .agg #[.int .i64 0, .int .i64 0, .int .i64 0, .int .i64 0], .agg #[.int .i64 0, .int .i64 0, .int .i64 0, .int .i64 0], .int .u32 0, .int .u32 0, .agg (bytesV zeroC)], []⟩ 8 (by kernel_rfl) (by kernel_rfl) (by kernel_rfl) (by kernel_rfl)) ?_
  intro W base args ds gs before hval0 hW hcnd _
  have hval : ∀ (j : Nat) t v, Try.f7.params[j]? = some t → args[j]? = some v → Value.okWide Try.prog W .any base t v := hval0
  have hW' := hW
  obtain ⟨p, q, hA0, hV, rfl, hfz, hnd⟩ := hW
  have hA : DataW.TrodAll enc Try.prog W 0 (fun _ => true) true Try.f7.params.toList args.toList ds p := hA0
  rw [Try.params7] at hA hval
  obtain ⟨v0, vs0, d0, ds0, p0, q0, hargs, rfl, rfl, h0, r0⟩ := trodAll_cons hA
  obtain ⟨v1, vs1, d1, ds1, p1, q1, rfl, rfl, rfl, h1, r1⟩ := trodAll_cons r0
  obtain ⟨v2, vs2, d2, ds2, p2, q2, rfl, rfl, rfl, h2, r2⟩ := trodAll_cons r1
  obtain ⟨v3, vs3, d3, ds3, p3, q3, rfl, rfl, rfl, h3, r3⟩ := trodAll_cons r2
  obtain ⟨v4, vs4, d4, ds4, p4, q4, rfl, rfl, rfl, h4, r4⟩ := trodAll_cons r3
  obtain ⟨v5, vs5, d5, ds5, p5, q5, rfl, rfl, rfl, h5, r5⟩ := trodAll_cons r4
  obtain ⟨rfl, rfl, rfl⟩ := trodAll_nil r5
  obtain rfl : args = #[v0, v1, v2, v3, v4, v5] := by cases args; simp_all
  obtain ⟨rfl, rfl⟩ := trodVars_none hV
  obtain ⟨a0, rfl, rfl, rfl, w0⟩ := open_int Try.underlying3 (hval 0 3 v0 rfl rfl) h0
  obtain ⟨cs1, rfl, sz1⟩ := okWide_struct Try.underlying23 (hval 1 23 v1 rfl rfl)
  have k1 := h1
  have lt1 : ∀ x ∈ p1, x.block < W.heap.size := by obtain ⟨m, hm⟩ := k1; exact DataW.trod_lt m _ _ _ hm
  obtain ⟨ak1, am1, al1, as1, w1, rfl⟩ : ∃ k m l s : Int, InoOk k m l s ∧ cs1 = inoV k m l s := by
    obtain ⟨fuel, hf⟩ := h1
    exact inode_of sz1 hf
  obtain ⟨cs2, rfl, sz2⟩ := okWide_struct Try.underlying23 (hval 2 23 v2 rfl rfl)
  have k2 := h2
  have lt2 : ∀ x ∈ p2, x.block < W.heap.size := by obtain ⟨m, hm⟩ := k2; exact DataW.trod_lt m _ _ _ hm
  obtain ⟨ak2, am2, al2, as2, w2, rfl⟩ : ∃ k m l s : Int, InoOk k m l s ∧ cs2 = inoV k m l s := by
    obtain ⟨fuel, hf⟩ := h2
    exact inode_of sz2 hf
  obtain ⟨a3, rfl, rfl, rfl, w3⟩ := open_int Try.underlying24 (hval 3 24 v3 rfl rfl) h3
  obtain ⟨a4, rfl, rfl, rfl, w4⟩ := open_int Try.underlying24 (hval 4 24 v4 rfl rfl) h4
  obtain ⟨cs5, rfl, sz5⟩ := okWide_arr Try.underlying25 (hval 5 25 v5 rfl rfl)
  have k5 := h5
  have lt5 : ∀ x ∈ p5, x.block < W.heap.size := by obtain ⟨m, hm⟩ := k5; exact DataW.trod_lt m _ _ _ hm
  obtain ⟨a5, w5, rfl⟩ : ∃ b : List Int, Ch b ∧ cs5 = bytesV b := by
    obtain ⟨fuel, hf⟩ := h5
    exact chunk_of sz5 hf
  clear hA0 hval0
  refine (walk a0 ak1 am1 al1 as1 ak2 am2 al2 as2 a3 a4 a5 W w0 w1 w2 w3 w4 w5).mono fun e W' ⟨he, bel⟩ => ?_
  subst he
  exact ⟨_, rfl, _, _, _, [], _, [], hW', trodAll_mk1 (shut_bool Try.underlying4 _), (trodAll_cons_mk (shut_int Try.underlying3 w0) (trodAll_cons_mk (Below.trod laidOut (by kernel_rfl) (of_decide_eq_true (by kernel_rfl)) k1 bel lt1) (trodAll_cons_mk (Below.trod laidOut (by kernel_rfl) (of_decide_eq_true (by kernel_rfl)) k2 bel lt2) (trodAll_cons_mk (shut_int Try.underlying24 w3) (trodAll_cons_mk (shut_int Try.underlying24 w4) (trodAll_cons_mk (Below.trod laidOut (by kernel_rfl) (of_decide_eq_true (by kernel_rfl)) k5 bel lt5) trodAll_mk0)))))), rfl, bel.frame _, fun h => by cases h⟩

theorem over : Rows.itemApartRow.holds Try.pinned (OpenSpec.ofChange Rows.itemApartSpec) :=
  OpenClaim.holds_of_wide 7 Try.f7 rfl rfl rfl rfl rfl rfl rfl ⟨rfl, rfl, rfl, rfl, rfl⟩ rfl rfl rfl rfl rfl (by kernel_rfl) Try.func7 (by kernel_rfl)
    (of_decide_eq_true (by kernel_rfl)) (by unfold Func.isWrapper; first | (rw [if_pos (by decide +kernel)]; kernel_rfl) | (rw [if_neg (by decide +kernel)]; exact ⟨rfl, rfl⟩))
    (fun os started H enc _ => lifted os started H enc)

end Go.Proofs.Ytflkbcdeogdodaa.itemApart

namespace Go.Proofs.Ytflkbcdeogdodaa
/-- The statement. -/
theorem itemApart_proved : Rows.ItemApartSaid := itemApart.over
#print axioms itemApart_proved
end Go.Proofs.Ytflkbcdeogdodaa
