/- Proved: for every node and every key PageNodes returns true, and the node reads afterwards as it did. -/
import Derived.Test.YtanbjdcffcnfgaaQLive
import Derived.Test.YtanbjdcffcnfgaaKEnc
import Derived.Test.YtanbjdcffcnfgaaQArgS
import Derived.Deep.RegionHeld3
import Derived.BigQuiet
import Derived.Deep.QuietTactic
import Derived.WalkSmall
import Derived.ProofKit
import Derived.OpenShut
import Derived.ShutString
import Derived.ChangeOld
import Derived.Below
import Derived.Carry
namespace Go.Proofs.Ytanbjdcffcnfgaa.pageNodes
open Go.ChangeShapes Go.WideShapes Go.ChangeAt Go.RowKit
open Go.ChangeMaps (open_string shut_string)
set_option linter.unusedVariables false

theorem own : ownKnob Try.prog.godebug = none := by kernel_rfl
theorem laidOut : laidOutB Try.prog = true := by kernel_rfl

theorem own_put {w : World} {base g n c j : Nat} {xs : List Int} (h : Own w base (.slice (some ⟨g, 0, none⟩) n c) xs) (hj : j < n) (z : Int) :
    w.cell? ⟨g, j, none⟩ = some (.int .u8 (xs.getD j 0)) ∧ w.frozen? ⟨g, j, none⟩ = false ∧ base ≤ g ∧ Own (w.setCell ⟨g, j, none⟩ (.int .u8 z)) base (.slice (some ⟨g, 0, none⟩) n c) (xs.set j z) := by
  obtain ⟨h1, h2⟩ := h
  rcases h2 with ⟨e, _⟩ | ⟨g', cap, cur, e, hb, hg, hn, hm, hs, ht⟩
  · cases e
  · simp only [Value.slice.injEq, Option.some.injEq, Addr.mk.injEq] at e
    obtain ⟨⟨rfl, _, _⟩, rfl, rfl⟩ := e
    have hjc : j < cur.size := by omega
    have hat : cur[j]? = some (.int .u8 (xs.getD j 0)) := by
      have : (cur.toList.take (xs.length * 1))[j]? = (xs.map (Value.int .u8))[j]? := by rw [ht]
      rw [List.getElem?_take, if_pos (by omega), Array.getElem?_toList, List.getElem?_map, List.getElem?_eq_getElem hj] at this
      rw [this, List.getD_eq_getElem?_getD, List.getElem?_eq_getElem hj]
      rfl
    refine ⟨by rw [cell_of_row _ _ j _ _ (0, 0) hg]; exact hat, frozen_of_row _ g j _ 5 hg, hb, ?_⟩
    unfold Own
    rw [List.length_set]
    refine ⟨by simp, .inr ⟨g, c, cur.setIfInBounds j (.int .u8 z), rfl, hb, heap_setCell_same w g j _ 5 _ hg, hn, hm, by simpa using hs, ?_⟩⟩
    rw [Array.toList_setIfInBounds, List.map_set, ← ht, List.take_set]

set_option maxHeartbeats 8000000 in
theorem walk (v : Value) (n : Nd) (k : ByteArray) (w : World) (h : NdAt w v n) (hk : NdOk n) (hbig : n.pairs.length ≤ 4398046511104) (hsz : k.size ≤ maxLen) :
    Calls Try.prog 3 #[v, .string k] w fun e w' => e = .returned (.bool true) ∧ Below w.heap.size w w' := by
  have h' := h
  obtain ⟨a1, c1, a2, c2, a3, c3, rfl, _, _, _, _⟩ := h
  have hB0 := (Below.refl w.heap.size w).alloc (Nat.le_refl _) (.cells #[.bool n.leaf, .slice a1 n.pairs.length c1, .slice a2 n.keys.length c2, .slice a3 n.kids.length c3] 26)
  have h0 := h'.below hB0
  have hg := heap_alloc_new w (.cells #[.bool n.leaf, .slice a1 n.pairs.length c1, .slice a2 n.keys.length c2, .slice a3 n.kids.length c3] 26)
  clear h' hsz
  have hen := fun W hW => encode_any W _ n (h0.below hW) hk
  have hek := fun W hW => kencode_any W _ n (h0.below hW) hk hbig
  have hck := fun W hW => check_any W _ n (h0.below hW)
  have hkk := fun W hW => kcheck_any W _ n (h0.below hW) hbig
  have hch := fun W hW => childP_any W _ n k (h0.below hW)
  have hkc := fun W hW => kchild_any W _ n k (h0.below hW)
  have hll : (encL n).length ≤ 512 := by
    unfold encL
    cases hok : nodeOk n with
    | true => rw [if_pos rfl, blockL_length hok]; omega
    | false => rw [if_neg (by decide)]; simp
  clear h0 hk hbig
  generalize nodeE n = E at *
  generalize encL n = EL at *
  generalize childN n k = CN at *
  generalize n.leaf = lf at *
  generalize n.pairs.length = n1 at *
  generalize n.keys.length = n2 at *
  generalize n.kids.length = n3 at *
  generalize hW0 : w.alloc (.cells #[.bool lf, .slice a1 n1 c1, .slice a2 n2 c2, .slice a3 n3 c3] 26) = W0 at *
  have z0 : w.heap.size < W0.heap.size := (Array.getElem?_eq_some_iff.1 hg).1
  obtain ⟨X0, X1, X2, X3, _⟩ := box4' hg
  have hX0 : ∀ W, Below W0.heap.size W0 W → W.cell? ⟨w.heap.size, 0, none⟩ = some (.bool lf) := fun W hW => (hW.cell (p := ⟨_, _, none⟩) z0).trans X0
  have hX1 : ∀ W, Below W0.heap.size W0 W → W.cell? ⟨w.heap.size, 1, none⟩ = some (.slice a1 n1 c1) := fun W hW => (hW.cell (p := ⟨_, _, none⟩) z0).trans X1
  have hX2 : ∀ W, Below W0.heap.size W0 W → W.cell? ⟨w.heap.size, 2, none⟩ = some (.slice a2 n2 c2) := fun W hW => (hW.cell (p := ⟨_, _, none⟩) z0).trans X2
  have hX3 : ∀ W, Below W0.heap.size W0 W → W.cell? ⟨w.heap.size, 3, none⟩ = some (.slice a3 n3 c3) := fun W hW => (hW.cell (p := ⟨_, _, none⟩) z0).trans X3
  clear hg X0 X1 X2 X3
  go_enter Try.func3, Try.ntmps3
  go_wp2_with fail
  refine (live_any _).mono ?_
  clear hW0
  rintro e w1 ⟨rfl, hb1⟩
  go_wp2_with fail
  go_loopw [6, 7, 8, 9, 10, 12] (fun q1 q2 q3 q4 q5 t wr => ∃ i : Nat, i ≤ 2 ∧ t = .int .i64 i ∧ Below W0.heap.size W0 wr) (fun _ _ _ _ _ t _ => 2 - (intOf t).toNat)
  case atStart => exact ⟨0, Nat.zero_le _, rfl, hb1⟩
  case round =>
    clear hb1
    obtain ⟨i, hi, rfl, hbr⟩ := hrel
    obtain ⟨wA, hA⟩ : ∃ wA, wA = wr := ⟨_, rfl⟩
    subst hA
    by_cases hlt : i < 2
    · have hltI : (i : Int) < 2 := by omega
      have y0 := hX0 wA hbr
      have y1 := hX1 wA hbr
      have y2 := hX2 wA hbr
      have y3 := hX3 wA hbr
      have hen1 := hen wA hbr
      go_wp2_with fail
      refine hen1.mono ?_
      clear y0 y1 y2 y3 hen1 hen
      rintro e w2 ⟨u2, rfl, ho2, hb2⟩
      have hb02 := hbr.trans (hb2.mono hbr.size)
      have y0 := hX0 w2 hb02
      have y1 := hX1 w2 hb02
      have y2 := hX2 w2 hb02
      have y3 := hX3 w2 hb02
      have hek2 := hek w2 hb02
      go_wp2_with fail
      refine hek2.mono ?_
      clear y0 y1 y2 y3 hek2 hek
      rintro e w3 ⟨u3, rfl, ho3, hb3⟩
      have hb03 := hb02.trans (hb3.mono hb02.size)
      have ho2' := ho2.below hb3
      have q0 : ∀ W, Below w3.heap.size w3 W → W.cell? ⟨w.heap.size, 0, none⟩ = some (.bool lf) := fun W hW => hX0 W (hb03.trans (hW.mono hb03.size))
      have q1 : ∀ W, Below w3.heap.size w3 W → W.cell? ⟨w.heap.size, 1, none⟩ = some (.slice a1 n1 c1) := fun W hW => hX1 W (hb03.trans (hW.mono hb03.size))
      have q2 : ∀ W, Below w3.heap.size w3 W → W.cell? ⟨w.heap.size, 2, none⟩ = some (.slice a2 n2 c2) := fun W hW => hX2 W (hb03.trans (hW.mono hb03.size))
      have q3 : ∀ W, Below w3.heap.size w3 W → W.cell? ⟨w.heap.size, 3, none⟩ = some (.slice a3 n3 c3) := fun W hW => hX3 W (hb03.trans (hW.mono hb03.size))
      have d1 := fun W (hW : Below w3.heap.size w3 W) => hck W (hb03.trans (hW.mono hb03.size))
      have d2 := fun W (hW : Below w3.heap.size w3 W) => hkk W (hb03.trans (hW.mono hb03.size))
      have d3 := fun W (hW : Below w3.heap.size w3 W) => hch W (hb03.trans (hW.mono hb03.size))
      have d4 := fun W (hW : Below w3.heap.size w3 W) => hkc W (hb03.trans (hW.mono hb03.size))
      have cA : ∀ W, Below w3.heap.size w3 W → (convert 28 9 u2).run Try.prog W = .ok (.string (strOfNums EL)) W := fun W hW => (ho2'.below hW).rd.conv
      have cB : ∀ W, Below w3.heap.size w3 W → (convert 28 9 u3).run Try.prog W = .ok (.string (strOfNums EL)) W := fun W hW => (ho3.below hW).rd.conv
      have HO : Hid (Own w3 wA.heap.size u2 EL) := ho2'
      have hsA := hb2.size
      have hsB := hb3.size
      have HB3 : Hid (Below W0.heap.size W0 w3) := hb03
      have HBr : Hid (Below W0.heap.size W0 wA) := hbr
      have HBc : Hid (Below wA.heap.size wA w3) := hb2.trans (hb3.mono hb2.size)
      clear hX0 hX1 hX2 hX3 hck hkk hch hkc ho2 ho2' ho3 hb2 hb3 hb02 hb03 hbr
      go_wp2_with fail
      refine wp_region_noPanic ?_
      go_region_held (fun W => Below w3.heap.size w3 W) (first | assumption | exact (Below.refl _ _).drew | exact keep2 (by assumption) (by assumption))
        (first
          | (go_at_call 12; refine (d1 _ (by assumption)).mono ?_; rintro e wa ⟨rfl, hba⟩)
          | (go_at_call 13; refine (d2 _ (by assumption)).mono ?_; rintro e wb ⟨rfl, hbb⟩)
          | (go_at_call 14; refine (d3 _ (by assumption)).mono ?_; rintro e wc ⟨rfl, hbc⟩)
          | (go_at_call 15; refine (d4 _ (by assumption)).mono ?_; rintro e wd ⟨rfl, hbd⟩))
      refine NoPanic.normal ?_
      have hlast : Below w3.heap.size w3 wd := by assumption
      clear q0 q1 q2 q3 d1 d2 d3 d4 cA cB
      have ho4 := HO.out.below hlast
      have hb4 : Below W0.heap.size W0 wd := HB3.out.trans (hlast.mono HB3.out.size)
      obtain ⟨ua, uc, rfl⟩ : ∃ a c, u2 = .slice a EL.length c := by
        rcases ho4.2 with ⟨e, h0⟩ | ⟨g, cap, cur, e, _⟩
        · exact ⟨none, 0, by rw [e, h0]⟩
        · exact ⟨_, _, e⟩
      have hbA4 : Below wA.heap.size wA wd := HBc.out.trans (hlast.mono HBc.out.size)
      generalize hL : EL.length = L at *
      clear HO HB3 hlast HBc
      go_wp2_with fail
      go_loopw [10, 52] (fun q t wr => ∃ (j : Nat) (ys : List Int), j ≤ L ∧ t = .int .i64 j ∧ ys.length = L ∧ Own wr wA.heap.size (.slice ua L uc) ys ∧ Below wA.heap.size wA wr) (fun _ t _ => L - (intOf t).toNat)
      case atStart => exact ⟨0, EL, Nat.zero_le _, rfl, hL, ho4, hbA4⟩
      case round =>
        obtain ⟨j, ys, hj, rfl, hyl, hox, hbx⟩ := hrel
        clear ho4 hbA4 hb4
        by_cases hjl : j < L
        · obtain ⟨g, cc, e, _, _⟩ := hox.open (by omega)
          simp only [Value.slice.injEq] at e
          obtain ⟨rfl, _, rfl⟩ := e
          have hjI : (j : Int) < L := by omega
          have HP := fun z => own_put hox hjl z
          obtain ⟨hcell, hfz, hgb, _⟩ := HP 0
          have HQ : Hid (∀ z, Own (wr.setCell ⟨g, j, none⟩ (.int .u8 z)) wA.heap.size (.slice (some ⟨g, 0, none⟩) L uc) (ys.set j z)) := fun z => (HP z).2.2.2
          have HL : Hid (ys.length = L) := hyl
          clear HP hox hyl
          generalize ys.getD j 0 = q at *
          go_wp2_with fail
          go_roundw
          case rel => exact ⟨j + 1, _, by omega, by go_num, by rw [List.length_set]; exact HL.out, HQ.out _, hbx.setCell hgb _⟩
          case measure => simp [intOf]; omega
        · have hjI : ¬ (j : Int) < L := by omega
          clear hox
          have hfin : Below W0.heap.size W0 wr := HBr.out.trans (hbx.mono HBr.out.size)
          go_wp2_with fail
          go_roundw
          case rel => exact ⟨i + 1, by omega, by go_num, hfin⟩
          case measure => simp [intOf]; omega
    · have hltI : ¬ (i : Int) < 2 := by omega
      clear hen hek hck hkk hch hkc
      go_wp2
      go_ret
      exact ⟨rfl, hB0.trans (hbr.mono hB0.size)⟩

/-! ### The row -/
set_option maxRecDepth 100000 in
theorem lifted (os : Os) (started : os.Started) (H : Type) (enc : TypeId × Value → H) :
    ReturnsInHanded {} Try.checked os 3 .any (Rows.pageNodesSpec.pre6 enc Try.prog Try.f3 Rows.pageNodesRow.domain false) (Rows.pageNodesSpec.post enc Try.prog Try.f3 false true false false) := by
  refine returnsInHanded_of_change_sized (C := Try.checked) own started (by kernel_rfl) Try.func3
    (ChangeSpec.witness6 (enc := enc) (C := Try.checked) false ⟨#[], #[.agg #[.bool false, .slice none 0 0, .slice none 0 0, .slice none 0 0], .string ByteArray.empty], []⟩ 8 (by kernel_rfl) (by kernel_rfl) (by kernel_rfl) (by kernel_rfl)) ?_
  intro W base args ds gs before hval0 hW hcnd hsz0 _
  have hsz : (DataW.weightsEach Try.prog (Try.f3.params.toList ++ Rows.pageNodesSpec.plain.varTypes Try.prog) (ds ++ gs)).all (· ≤ reachBytes) = true := hsz0
  clear hsz0
  have hval : ∀ (j : Nat) t v, Try.f3.params[j]? = some t → args[j]? = some v → Value.okWide Try.prog W .any base t v := hval0
  have hW' := hW
  obtain ⟨p, q, hA0, hV, rfl, hfz, hnd⟩ := hW
  have hA : DataW.TrodAll enc Try.prog W 0 (fun _ => true) true Try.f3.params.toList args.toList ds p := hA0
  rw [Try.params3] at hA hval hsz
  obtain ⟨v0, vs0, d0, ds0, p0, q0, hargs, rfl, rfl, h0, r0⟩ := trodAll_cons hA
  obtain ⟨v1, vs1, d1, ds1, p1, q1, rfl, rfl, rfl, h1, r1⟩ := trodAll_cons r0
  obtain ⟨rfl, rfl, rfl⟩ := trodAll_nil r1
  obtain rfl : args = #[v0, v1] := by cases args; simp_all
  obtain ⟨rfl, rfl⟩ := trodVars_none hV
  obtain ⟨cs0, rfl, sz0⟩ := okWide_struct Try.underlying26 (hval 0 26 v0 rfl rfl)
  have k0 := h0
  have lt0 : ∀ x ∈ p0, x.block < W.heap.size := by obtain ⟨m, hm⟩ := k0; exact DataW.trod_lt m _ _ _ hm
  obtain ⟨a0, w0, wk0, ws0⟩ : ∃ n : Nd, NdAt W (.agg cs0) n ∧ NdOk n ∧ n.pairs.length ≤ 4398046511104 := by
    obtain ⟨fuel, hf⟩ := h0
    obtain ⟨n, a1, c1, a2, c2, a3, c3, hk, e, h1, h2, h3⟩ := node_of sz0 hf
    have hs := node_sized sz0 hf hsz (j := 0) rfl rfl _ _ _ _ _ _ e
    subst e
    exact ⟨n, ⟨a1, c1, a2, c2, a3, c3, rfl, h1, h2, h3, trivial⟩, hk, hs⟩
  obtain ⟨a1, rfl, rfl, rfl, w1⟩ := open_string Try.underlying9 (hval 1 9 v1 rfl rfl) h1
  clear hA0 hval0
  refine (walk (.agg cs0) a0 a1 W w0 wk0 ws0 w1).mono fun e W' ⟨he, bel⟩ => ?_
  subst he
  exact ⟨_, rfl, _, _, _, [], _, [], hW', trodAll_mk1 (shut_bool Try.underlying4 _), (trodAll_cons_mk (Below.trod laidOut (by kernel_rfl) (of_decide_eq_true (by kernel_rfl)) k0 bel lt0) (trodAll_cons_mk (shut_string Try.underlying9 w1) trodAll_mk0)), rfl, bel.frame _, fun h => by cases h⟩

theorem over : Rows.pageNodesRow.holds Try.pinned (OpenSpec.ofChange Rows.pageNodesSpec) :=
  OpenClaim.holds_of_wide 3 Try.f3 rfl rfl rfl rfl rfl rfl rfl ⟨rfl, rfl, rfl, rfl, rfl⟩ rfl rfl rfl rfl rfl (by kernel_rfl) Try.func3 (by kernel_rfl)
    (of_decide_eq_true (by kernel_rfl)) (by unfold Func.isWrapper; first | (rw [if_pos (by decide +kernel)]; kernel_rfl) | (rw [if_neg (by decide +kernel)]; exact ⟨rfl, rfl⟩))
    (fun os started H enc _ => lifted os started H enc)

end Go.Proofs.Ytanbjdcffcnfgaa.pageNodes

namespace Go.Proofs.Ytanbjdcffcnfgaa
/-- The statement. -/
theorem pageNodes_proved : Rows.PageNodesSaid := pageNodes.over
#print axioms pageNodes_proved
end Go.Proofs.Ytanbjdcffcnfgaa
