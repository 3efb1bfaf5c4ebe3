/- Proved: for every chunk, number and text the law PatchWrites answers true: what was laid is there, and nothing else has changed: no conditions. -/
import Derived.Test.YtoefhkakkmebeaaPtLive
import Derived.Test.YtoefhkakkmebeaaPtArg
import Derived.Deep.RegionHeld3
import Derived.BigQuiet
import Derived.Deep.QuietTactic
import Derived.WalkSmall
import Derived.ProofKit
import Derived.OpenShut
import Derived.ShutString
import Derived.ChangeOld
import Derived.Below
import Derived.Carry
namespace Go.Proofs.Ytoefhkakkmebeaa.patchWrites
open Go.ChangeShapes Go.WideShapes Go.ChangeAt Go.RowKit
open Go.ChangeMaps (open_string shut_string)
set_option linter.unusedVariables false
set_option linter.unusedSimpArgs false

theorem own : ownKnob Try.prog.godebug = none := by kernel_rfl
theorem laidOut : laidOutB Try.prog = true := by kernel_rfl

/-- What stands in the boxes. -/
structure BoxS (w1 : World) (g gp gb : Nat) (x : List Int) (p : Pt) (y : List Int) (W : World) : Prop where
  ch : ChAt W g x
  p : PtAt W gp p
  y : ChAt W gb y
  bel : Below w1.heap.size w1 W
theorem BoxS.below {w1 : World} {g gp gb : Nat} {x : List Int} {p : Pt} {y : List Int} {W W' : World} (h : BoxS w1 g gp gb x p y W) (hb : Below W.heap.size W W') : BoxS w1 g gp gb x p y W' :=
  ⟨h.ch.below hb, h.p.below hb, h.y.below hb, thenB h.bel hb⟩

set_option maxRecDepth 100000 in
set_option maxHeartbeats 8000000 in
theorem walk (x : List Int) (o : Int) (s : ByteArray) (w : World) (hx : Ch x) (ho : (Lit.int .i64 o).wf = true) (hs : s.size ≤ maxLen) :
    Calls Try.prog 7 #[.agg (bytesV x), .int .i64 o, .string s] w fun e w' => e = .returned (.bool true) ∧ Below w.heap.size w w' := by
  have hz := zeroPt
  have hzc := zeroCh
  have HX : Hid (x.length = 32) := hx.1
  have HZ : Hid (zeroC.length = 32) := ch_zero.1
  have al : ∀ (A : World) (o : Obj), Below A.heap.size A (A.alloc o) := fun A o => (Below.refl _ A).alloc (Nat.le_refl _) o
  obtain ⟨w0, hw0⟩ : ∃ w0, w.alloc (.cells (bytesV x) 24) = w0 := ⟨_, rfl⟩
  have hB0 : Below w.heap.size w w0 := by rw [← hw0]; exact al _ _
  have hx0 : ChAt w0 w.heap.size x := by rw [← hw0]; exact ChAt.laid w x
  have c1 := fun W => of_any W o s ho hs
  have okP := ofR_ok o s
  have HP : Hid ((ofR o s).bytes.length = 32) := okP.ch.1
  obtain ⟨ho1, ho2⟩ := bounds_i64 ho
  unfold maxLen at hs
  by_cases hno : o < 0 ∨ 32 - (s.size : Int) < o
  · have e1 : ofE o s = 1 := if_pos hno
    have e2 : ofR o s = pt0 := if_pos hno
    rw [e1, e2] at c1
    clear e1 e2 HP okP hno
    have q := fun W => eq_pts W ch_zero.1 (x := pt0) (y := pt0) ch_zero.1
    rw [ptEq_self] at q
    go_enter Try.func7, Try.ntmps7
    go_wp2_with fail
    refine (live_any _).mono ?_
    rintro e w1 ⟨rfl, hb1⟩
    go_wp2_with fail
    refine (c1 _).mono ?_
    rintro e w2 ⟨rfl, hb2⟩
    obtain ⟨w5, hw5⟩ : ∃ w5, w2.alloc (.cells (ptC pt0) 26) = w5 := ⟨_, rfl⟩
    have q5 : PtAt w5 w2.heap.size pt0 := by rw [← hw5]; exact PtAt.laid w2 pt0
    have b5 : Below w2.heap.size w2 w5 := by rw [← hw5]; exact al _ _
    obtain ⟨w6, hw6⟩ : ∃ w6, w5.setRow w2.heap.size (ptC pt0) = w6 := ⟨_, rfl⟩
    have b6 : Below w2.heap.size w2 w6 := by rw [← hw6]; exact below_setRow b5 (Nat.le_refl _) _
    have q6 : PtAt w6 w2.heap.size pt0 := by rw [← hw6]; exact q5.setRow _
    have l1 : Hid _ := q6.load HZ.out
    have HB : Hid (Below w.heap.size w w6) := thenB hB0 (thenB hb1 (thenB hb2 b6))
    clear c1 b5 b6 hb1 hb2 hB0 al q6
    go_wp2_with (first
      | (refine wpList_storeP rfl _ _ rfl w2.heap.size pt0 pt0 rfl rfl HZ.out HZ.out q5 ?_; rw [hw6])
      | (refine wpList_loadG rfl 26 _ rfl _ rfl _ l1.out ?_)
      | (refine wpList_buildG rfl 26 _ rfl [] (by kernel_rfl) (ptC pt0) built_pt0 ?_))
    go_ret
    exact ⟨rfl, HB.out⟩
  · have e1 : ofE o s = 0 := if_neg hno
    have e2 : ofR o s = ofP o.toNat (strB s) := if_neg hno
    rw [e1, e2] at c1
    rw [e2] at HP okP
    clear e1 e2
    obtain ⟨n, rfl⟩ : ∃ n : Nat, o = n := ⟨o.toNat, by omega⟩
    have hns : n + s.size ≤ 32 := by omega
    rw [Int.toNat_natCast] at c1 HP okP
    have hLc := layB_ch hx okP
    have c2 := fun W => lay_any W x (ofP n (strB s)) hx okP
    have c3 := fun W => lay_any W (layB x (ofP n (strB s))) (ofP n (strB s)) hLc okP
    have c4 := fun W => trim_any W (ofP n (strB s)) okP
    rw [of_again] at c3
    rw [of_trim] at c4
    have HY : Hid (∀ i, i < 32 → (layB x (ofP n (strB s))).getD i 0 = if n ≤ i ∧ i < n + (strB s).length then (strB s).getD (i - n) 0 else x.getD i 0) := fun i hi => lay_of x n (strB s) hi
    have HL : Hid ((layB x (ofP n (strB s))).length = 32) := layB_len _ _
    have q1 := fun W => eq_chunks W (layB_len x (ofP n (strB s))) (layB_len x (ofP n (strB s)))
    rw [decide_eq_true rfl] at q1
    have q2 := fun W => eq_pts W okP.ch.1 okP.ch.1
    rw [ptEq_self] at q2
    have HSL : Hid ((strB s).length = s.size) := strB_length s
    clear hno
    generalize layB x (ofP n (strB s)) = Y at *
    generalize ofP n (strB s) = P at *
    go_enter Try.func7, Try.ntmps7
    go_wp2_with fail
    refine (live_any _).mono ?_
    rintro e w1 ⟨rfl, hb1⟩
    go_wp2_with fail
    refine (c1 _).mono ?_
    rintro e w2 ⟨rfl, hb2⟩
    obtain ⟨w3, hw3⟩ : ∃ w3, w2.alloc (.cells (ptC P) 26) = w3 := ⟨_, rfl⟩
    have b3 : Below w2.heap.size w2 w3 := by rw [← hw3]; exact al _ _
    have p3 : PtAt w3 w2.heap.size P := by rw [← hw3]; exact PtAt.laid w2 P
    have x3 := ((hx0.below hb1).below hb2).below b3
    have l1 : Hid _ := x3.load HX.out
    have l2 : Hid _ := p3.load HP.out
    have HB3 : Hid (Below w.heap.size w w3) := thenB hB0 (thenB hb1 (thenB hb2 b3))
    go_wp2_with (first
      | (refine wpList_newP rfl _ _ rfl rfl P pt0 rfl HP.out HZ.out ?_; rw [hw3])
      | (refine wpList_loadG rfl 24 _ rfl _ rfl _ l1.out ?_)
      | (refine wpList_loadG rfl 26 _ rfl _ rfl _ l2.out ?_))
    refine (c2 _).mono ?_
    rintro e w4 ⟨rfl, hb4⟩
    obtain ⟨w5, hw5⟩ : ∃ w5, w4.alloc (.cells (bytesV Y) 24) = w5 := ⟨_, rfl⟩
    have b5 : Below w4.heap.size w4 w5 := by rw [← hw5]; exact al _ _
    have y5 : ChAt w5 w4.heap.size Y := by rw [← hw5]; exact ChAt.laid w4 Y
    have p5 := (p3.below hb4).below b5
    have x5 := (x3.below hb4).below b5
    have HB5 : Hid (Below w.heap.size w w5) := thenB HB3.out (thenB hb4 b5)
    clear c1 c2 hw0 hw3 hB0 hx0 hb1 hb2 hb4 b3 b5 p3 x3 l1 l2 HB3
    go_wp2_with (refine wpList_newC rfl _ _ rfl rfl Y zeroC rfl HL.out HZ.out ?_; rw [hw5])
    clear hw5
    generalize w4.heap.size = gb at *
    generalize w2.heap.size = gp at *
    go_loopw [11, 12, 31] (fun _ _ t wr => ∃ i : Nat, i ≤ 32 ∧ t = .int .i64 (i : Int) ∧ wr = w5) (fun _ _ t _ => 32 - (intOf t).toNat)
    case atStart => exact ⟨0, by omega, rfl, rfl⟩
    case round =>
      obtain ⟨i, hi, rfl, rfl⟩ := hrel
      by_cases hlt : i < 32
      · have hlI : (i : Int) < 32 := by omega
        have k1 := x5.byte HX.out hlt
        have k2 := y5.byte HL.out hlt
        rw [HY.out i hlt, HSL.out] at k2
        by_cases hc : n ≤ i ∧ i < n + s.size
        · rw [if_pos hc] at k2
          have hj : i - n < s.size := by omega
          have hv : ((s[i - n]'hj).toNat : Int) = (strB s).getD (i - n) 0 := by
            unfold strB
            rw [List.getD_eq_getElem?_getD, List.getElem?_map, List.getElem?_eq_getElem (by simpa using hj)]
            rfl
          rw [← hv] at k2
          have d1 : (n : Int) ≤ (i : Int) := by omega
          have d2 : (i : Int) - (n : Int) < (s.size : Int) := by omega
          clear hv hc
          generalize x.getD i 0 = V0 at *
          go_wp2
          exact ⟨⟨i + 1, by omega, by go_num, trivial⟩, by simp [intOf]; omega⟩
        · rw [if_neg hc] at k2
          generalize x.getD i 0 = V0 at *
          by_cases d1 : (n : Int) ≤ (i : Int)
          · have d2 : ¬ (i : Int) - (n : Int) < (s.size : Int) := by omega
            clear hc
            go_wp2
            exact ⟨⟨i + 1, by omega, by go_num, trivial⟩, by simp [intOf]; omega⟩
          · clear hc
            go_wp2
            exact ⟨⟨i + 1, by omega, by go_num, trivial⟩, by simp [intOf]; omega⟩
      · have hlI : ¬ (i : Int) < 32 := by omega
        have hS : BoxS wr w.heap.size gp gb x P Y wr := ⟨x5, p5, y5, Below.refl _ _⟩
        clear x5 p5 y5 HY hx okP hLc
        go_wp2_with fail
        refine wp_region_noPanic ?_
        refine wp_region_held_drew (S := fun W => BoxS wr w.heap.size gp gb x P Y W) (by kernel_rfl) ⟨⟨hS.ch.row⟩, ⟨hS.p.row⟩, ⟨hS.y.row⟩, hS.bel.drew⟩ (fun hHeld => ?_)
        refine wpAnyH_take (i := 0) (v := .bool true) rfl (by kernel_rfl) (by kernel_rfl) (by kernel_rfl) (fun _ _ _ h => h) (Or.inl ⟨by rfl, fun W hSw => by (try dsimp only at hSw); go_simp⟩) (by assumption) ?_
        simp only [List.getElem_toArray, List.getElem_cons_zero, List.getElem_cons_succ, Act.put, List.setIfInBounds_toArray, List.set_cons_zero, List.set_cons_succ]
        refine wpAnyH_take (i := 1) (v := .bool true) rfl (by kernel_rfl) (by kernel_rfl) (by kernel_rfl) (fun _ _ _ h => h) (Or.inl ⟨by rfl, fun W hSw => by (try dsimp only at hSw); go_simp⟩) (by assumption) ?_
        simp only [List.getElem_toArray, List.getElem_cons_zero, List.getElem_cons_succ, Act.put, List.setIfInBounds_toArray, List.set_cons_zero, List.set_cons_succ]
        refine wpAnyH_take (i := 2) (v := .agg (bytesV Y)) rfl (by kernel_rfl) (by kernel_rfl) (by kernel_rfl) (fun _ _ _ h => h) (yields_load (by rfl) _ _ rfl _ rfl _ (fun W h => h.y.load HL.out)) (by assumption) ?_
        simp only [List.getElem_toArray, List.getElem_cons_zero, List.getElem_cons_succ, Act.put, List.setIfInBounds_toArray, List.set_cons_zero, List.set_cons_succ]
        refine wpAnyH_take (i := 3) (v := .agg (ptC P)) rfl (by kernel_rfl) (by kernel_rfl) (by kernel_rfl) (fun _ _ _ h => h) (yields_load (by rfl) _ _ rfl _ rfl _ (fun W h => h.p.load HP.out)) (by assumption) ?_
        simp only [List.getElem_toArray, List.getElem_cons_zero, List.getElem_cons_succ, Act.put, List.setIfInBounds_toArray, List.set_cons_zero, List.set_cons_succ]
        refine wpAnyH_take (i := 5) (v := .agg (bytesV Y)) rfl (by kernel_rfl) (by kernel_rfl) (by kernel_rfl) (fun _ _ _ h => h) (yields_load (by rfl) _ _ rfl _ rfl _ (fun W h => h.y.load HL.out)) (by assumption) ?_
        simp only [List.getElem_toArray, List.getElem_cons_zero, List.getElem_cons_succ, Act.put, List.setIfInBounds_toArray, List.set_cons_zero, List.set_cons_succ]
        refine wpAnyH_ready (rs := [4]) (by kernel_rfl) (by simp) ?_
        refine AllReadyH.cons rfl (fun K hK => ?_) AllReadyH.nil
        go_simp
        go_wp2_with (go_at_call 13; refine (c3 _).mono ?_; rintro e w6 ⟨rfl, hb6⟩)
        refine hK.out _ _ (hHeld.below hb6) (fun hHeld => ?_)
        clear hK K
        refine wpAnyH_take (i := 6) (v := .bool true) rfl (by kernel_rfl) (by kernel_rfl) (by kernel_rfl) (fun _ _ _ h => h) (Or.inl ⟨by rfl, fun W hSw => by (try dsimp only at hSw); go_simp⟩) (by assumption) ?_
        simp only [List.getElem_toArray, List.getElem_cons_zero, List.getElem_cons_succ, Act.put, List.setIfInBounds_toArray, List.set_cons_zero, List.set_cons_succ]
        refine wpAnyH_take (i := 7) (v := .bool true) rfl (by kernel_rfl) (by kernel_rfl) (by kernel_rfl) (fun _ _ _ h => h) (Or.inl ⟨by rfl, fun W hSw => by (try dsimp only at hSw); go_simp⟩) (by assumption) ?_
        simp only [List.getElem_toArray, List.getElem_cons_zero, List.getElem_cons_succ, Act.put, List.setIfInBounds_toArray, List.set_cons_zero, List.set_cons_succ]
        refine wpAnyH_take (i := 8) (v := .bool true) rfl (by kernel_rfl) (by kernel_rfl) (by kernel_rfl) (fun _ _ _ h => h) (Or.inl ⟨by rfl, fun W hSw => by (try dsimp only at hSw); go_simp⟩) (by assumption) ?_
        simp only [List.getElem_toArray, List.getElem_cons_zero, List.getElem_cons_succ, Act.put, List.setIfInBounds_toArray, List.set_cons_zero, List.set_cons_succ]
        refine wpAnyH_take (i := 9) (v := .agg (ptC P)) rfl (by kernel_rfl) (by kernel_rfl) (by kernel_rfl) (fun _ _ _ h => h) (yields_load (by rfl) _ _ rfl _ rfl _ (fun W h => h.p.load HP.out)) (by assumption) ?_
        simp only [List.getElem_toArray, List.getElem_cons_zero, List.getElem_cons_succ, Act.put, List.setIfInBounds_toArray, List.set_cons_zero, List.set_cons_succ]
        refine wpAnyH_take (i := 11) (v := .agg (ptC P)) rfl (by kernel_rfl) (by kernel_rfl) (by kernel_rfl) (fun _ _ _ h => h) (yields_load (by rfl) _ _ rfl _ rfl _ (fun W h => h.p.load HP.out)) (by assumption) ?_
        simp only [List.getElem_toArray, List.getElem_cons_zero, List.getElem_cons_succ, Act.put, List.setIfInBounds_toArray, List.set_cons_zero, List.set_cons_succ]
        refine wpAnyH_ready (rs := [10]) (by kernel_rfl) (by simp) ?_
        refine AllReadyH.cons rfl (fun K hK => ?_) AllReadyH.nil
        go_simp
        go_wp2_with (go_at_call 17; refine (c4 _).mono ?_; rintro e w7 ⟨rfl, hb7⟩)
        refine hK.out _ _ (hHeld.below hb7) (fun hHeld => ?_)
        clear hK K
        refine wpAnyH_take (i := 12) (v := .bool true) rfl (by kernel_rfl) (by kernel_rfl) (by kernel_rfl) (fun _ _ _ h => h) (Or.inl ⟨by rfl, fun W hSw => by (try dsimp only at hSw); go_simp⟩) (by assumption) ?_
        simp only [List.getElem_toArray, List.getElem_cons_zero, List.getElem_cons_succ, Act.put, List.setIfInBounds_toArray, List.set_cons_zero, List.set_cons_succ]
        refine wpAnyH_take (i := 13) (v := .bool true) rfl (by kernel_rfl) (by kernel_rfl) (by kernel_rfl) (fun _ _ _ h => h) (Or.inl ⟨by rfl, fun W hSw => by (try dsimp only at hSw); go_simp⟩) (by assumption) ?_
        simp only [List.getElem_toArray, List.getElem_cons_zero, List.getElem_cons_succ, Act.put, List.setIfInBounds_toArray, List.set_cons_zero, List.set_cons_succ]
        refine wpAnyH_take (i := 14) (v := .bool true) rfl (by kernel_rfl) (by kernel_rfl) (by kernel_rfl) (fun _ _ _ h => h) (Or.inl ⟨by rfl, fun W hSw => by (try dsimp only at hSw); go_simp⟩) (by assumption) ?_
        simp only [List.getElem_toArray, List.getElem_cons_zero, List.getElem_cons_succ, Act.put, List.setIfInBounds_toArray, List.set_cons_zero, List.set_cons_succ]
        refine wpAnyH_done (by kernel_rfl) ?_ _
        refine NoPanic.normal ?_
        go_wp2_with fail
        go_ret
        exact ⟨rfl, thenB HB5.out hHeld.bel⟩

/-! ### The row -/
set_option maxRecDepth 100000 in
theorem lifted (os : Os) (started : os.Started) (H : Type) (enc : TypeId × Value → H) :
    ReturnsInHanded {} Try.checked os 7 .any (Rows.patchWritesSpec.pre6 enc Try.prog Try.f7 Rows.patchWritesRow.domain false) (Rows.patchWritesSpec.post enc Try.prog Try.f7 false true false false) := by
  refine returnsInHanded_of_change (C := Try.checked) own started (by kernel_rfl) Try.func7
    (ChangeSpec.witness6 (enc := enc) (C := Try.checked) false ⟨#[], #[.agg (bytesV zeroC), .int .i64 0, .string ByteArray.empty], []⟩ 8 (by kernel_rfl) (by kernel_rfl) (by kernel_rfl) (by kernel_rfl)) ?_
  intro W base args ds gs before hval0 hW hcnd _
  have hval : ∀ (j : Nat) t v, Try.f7.params[j]? = some t → args[j]? = some v → Value.okWide Try.prog W .any base t v := hval0
  have hW' := hW
  obtain ⟨p, q, hA0, hV, rfl, hfz, hnd⟩ := hW
  have hA : DataW.TrodAll enc Try.prog W 0 (fun _ => true) true Try.f7.params.toList args.toList ds p := hA0
  rw [Try.params7] at hA hval
  obtain ⟨v0, vs0, d0, ds0, p0, q0, hargs, rfl, rfl, h0, r0⟩ := trodAll_cons hA
  obtain ⟨v1, vs1, d1, ds1, p1, q1, rfl, rfl, rfl, h1, r1⟩ := trodAll_cons r0
  obtain ⟨v2, vs2, d2, ds2, p2, q2, rfl, rfl, rfl, h2, r2⟩ := trodAll_cons r1
  obtain ⟨rfl, rfl, rfl⟩ := trodAll_nil r2
  obtain rfl : args = #[v0, v1, v2] := by cases args; simp_all
  obtain ⟨rfl, rfl⟩ := trodVars_none hV
  obtain ⟨cs0, rfl, sz0⟩ := okWide_arr Try.underlying24 (hval 0 24 v0 rfl rfl)
  have k0 := h0
  have lt0 : ∀ x ∈ p0, x.block < W.heap.size := by obtain ⟨m, hm⟩ := k0; exact DataW.trod_lt m _ _ _ hm
  obtain ⟨a0, w0, rfl⟩ : ∃ b : List Int, Ch b ∧ cs0 = bytesV b := by
    obtain ⟨fuel, hf⟩ := h0
    exact chunk_of sz0 hf
  obtain ⟨a1, rfl, rfl, rfl, w1⟩ := open_int Try.underlying3 (hval 1 3 v1 rfl rfl) h1
  obtain ⟨a2, rfl, rfl, rfl, w2⟩ := open_string Try.underlying9 (hval 2 9 v2 rfl rfl) h2
  clear hA0 hval0
  refine (walk a0 a1 a2 W w0 w1 w2).mono fun e W' ⟨he, bel⟩ => ?_
  subst he
  exact ⟨_, rfl, _, _, _, [], _, [], hW', trodAll_mk1 (shut_bool Try.underlying4 _), (trodAll_cons_mk (Below.trod laidOut (by kernel_rfl) (of_decide_eq_true (by kernel_rfl)) k0 bel lt0) (trodAll_cons_mk (shut_int Try.underlying3 w1) (trodAll_cons_mk (shut_string Try.underlying9 w2) trodAll_mk0))), rfl, bel.frame _, fun h => by cases h⟩

theorem over : Rows.patchWritesRow.holds Try.pinned (OpenSpec.ofChange Rows.patchWritesSpec) :=
  OpenClaim.holds_of_wide 7 Try.f7 rfl rfl rfl rfl rfl rfl rfl ⟨rfl, rfl, rfl, rfl, rfl⟩ rfl rfl rfl rfl rfl (by kernel_rfl) Try.func7 (by kernel_rfl)
    (of_decide_eq_true (by kernel_rfl)) (by unfold Func.isWrapper; first | (rw [if_pos (by decide +kernel)]; kernel_rfl) | (rw [if_neg (by decide +kernel)]; exact ⟨rfl, rfl⟩))
    (fun os started H enc _ => lifted os started H enc)

end Go.Proofs.Ytoefhkakkmebeaa.patchWrites

namespace Go.Proofs.Ytoefhkakkmebeaa
/-- The statement. -/
theorem patchWrites_proved : Rows.PatchWritesSaid := patchWrites.over
#print axioms patchWrites_proved
end Go.Proofs.Ytoefhkakkmebeaa
