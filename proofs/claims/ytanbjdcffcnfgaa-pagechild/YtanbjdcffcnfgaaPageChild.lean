/- Proved: for every node and every key PageChild returns true, and the node reads afterwards as it did. -/
import Derived.Test.YtanbjdcffcnfgaaQLive
import Derived.Test.YtanbjdcffcnfgaaQArg
import Derived.Deep.RegionHeld3
import Derived.BigQuiet
import Derived.Deep.QuietTactic
import Derived.WalkSmall
import Derived.ProofKit
import Derived.OpenShut
import Derived.ShutString
import Derived.ChangeOld
import Derived.Below
import Derived.Carry
namespace Go.Proofs.Ytanbjdcffcnfgaa.pageChild
open Go.ChangeShapes Go.WideShapes Go.ChangeAt Go.RowKit
open Go.ChangeMaps (open_string shut_string)
set_option linter.unusedVariables false

theorem own : ownKnob Try.prog.godebug = none := by kernel_rfl
theorem laidOut : laidOutB Try.prog = true := by kernel_rfl

set_option maxHeartbeats 4000000 in
theorem walk (v : Value) (n : Nd) (k : ByteArray) (w : World) (h : NdAt w v n) (hk : NdOk n) (hsz : k.size ≤ maxLen) :
    Calls Try.prog 8 #[v, .string k] w fun e w' => e = .returned (.bool true) ∧ Below w.heap.size w w' := by
  have h' := h
  obtain ⟨a1, c1, a2, c2, a3, c3, rfl, _, _, _, _⟩ := h
  have hB0 := (Below.refl w.heap.size w).alloc (Nat.le_refl _) (.cells #[.bool n.leaf, .slice a1 n.pairs.length c1, .slice a2 n.keys.length c2, .slice a3 n.kids.length c3] 26)
  have h0 := h'.below hB0
  have hg := heap_alloc_new w (.cells #[.bool n.leaf, .slice a1 n.pairs.length c1, .slice a2 n.keys.length c2, .slice a3 n.kids.length c3] 26)
  have hcb := fun hl hr => child_between (n := n) hl hr k
  have hin := fun ho hl => nodeOk_inner (n := n) ho hl
  have hck := fun W hW => check_any W _ n (h0.below hW)
  have hch := fun W hW => childP_any W _ n k (h0.below hW)
  obtain ⟨_, hnc, hm, hI⟩ := (show RdS _ _ _ from (by obtain ⟨_, _, _, _, _, _, e, _, q, _⟩ := h0; simp only [Value.agg.injEq, Array.mk.injEq, List.cons.injEq, Value.slice.injEq] at e; obtain ⟨_, _, ⟨rfl, _, rfl⟩, _⟩ := e; exact q : RdS _ (.slice a2 n.keys.length c2) n.keys)).open
  unfold maxLen at hm
  have ho : nodeE n = (if nodeOk n then 0 else 50) := rfl
  rw [ho] at hck
  clear ho h0 h' hsz hk
  generalize childN n k = C at *
  generalize nodeOk n = ok at *
  have hlk : ∀ i, i < n.keys.length → n.keys[i]? = some (n.keys.getD i ⟨#[]⟩) := fun i hi => by rw [List.getElem?_eq_getElem hi, List.getD_eq_getElem?_getD, List.getElem?_eq_getElem hi]; rfl
  obtain ⟨lf, ps, ks, cs⟩ := n
  dsimp only at *
  generalize ps.length = n1 at *
  generalize ks.length = n2 at *
  generalize cs.length = n3 at *
  generalize hW0 : w.alloc (.cells #[.bool lf, .slice a1 n1 c1, .slice a2 n2 c2, .slice a3 n3 c3] 26) = W0 at *
  have z0 : w.heap.size < W0.heap.size := (Array.getElem?_eq_some_iff.1 hg).1
  obtain ⟨X0, X1, X2, X3, _⟩ := box4' hg
  have hX : ∀ W, Below W0.heap.size W0 W → W.cell? ⟨w.heap.size, 0, none⟩ = some (.bool lf) ∧ W.cell? ⟨w.heap.size, 1, none⟩ = some (.slice a1 n1 c1) ∧ W.cell? ⟨w.heap.size, 2, none⟩ = some (.slice a2 n2 c2) ∧ W.cell? ⟨w.heap.size, 3, none⟩ = some (.slice a3 n3 c3) := fun W hW =>
    ⟨(hW.cell (p := ⟨_, _, none⟩) z0).trans X0, (hW.cell (p := ⟨_, _, none⟩) z0).trans X1, (hW.cell (p := ⟨_, _, none⟩) z0).trans X2, (hW.cell (p := ⟨_, _, none⟩) z0).trans X3⟩
  clear hg X0 X1 X2 X3
  cases lf with
  | true =>
    clear hck hch hin hcb hI hlk
    go_enter Try.func8, Try.ntmps8
    go_wp2_with fail
    refine (live_any _).mono ?_
    rintro e w1 ⟨rfl, hb1⟩
    obtain ⟨Y0, Y1, Y2, Y3⟩ := hX w1 hb1
    clear hX
    go_wp2
    go_ret
    exact ⟨rfl, hB0.trans (hb1.mono hB0.size)⟩
  | false =>
    cases ok with
    | false =>
      clear hch hin hcb hI hlk
      go_enter Try.func8, Try.ntmps8
      go_wp2_with fail
      refine (live_any _).mono ?_
      rintro e w1 ⟨rfl, hb1⟩
      obtain ⟨Y0, Y1, Y2, Y3⟩ := hX w1 hb1
      have hc1 := hck w1 hb1
      clear hX hck
      go_wp2_with fail
      refine hc1.mono ?_
      rintro e w2 ⟨rfl, hb2⟩
      go_wp2
      go_ret
      exact ⟨rfl, hB0.trans ((hb1.trans (hb2.mono hb1.size)).mono hB0.size)⟩
    | true =>
      obtain ⟨⟨i1, i2⟩, i3, i4, i5⟩ := hin rfl rfl
      obtain ⟨k1, k2, k3⟩ := hcb rfl i4
      clear hin hcb i4 i5
      have hI' : ∀ i, i < n2 → ∃ b off, a2 = some ⟨b, off, none⟩ ∧ b < W0.heap.size ∧ W0.cell? ⟨b, off + i, none⟩ = some (.string (ks.getD i ⟨#[]⟩)) := fun i hi => by
        obtain ⟨b, off, e, hb, hc⟩ := hI (by omega)
        exact ⟨b, off, e, hb, hc i _ (hlk i hi)⟩
      clear hI hlk
      go_enter Try.func8, Try.ntmps8
      go_wp2_with fail
      refine (live_any _).mono ?_
      rintro e w1 ⟨rfl, hb1⟩
      obtain ⟨Y0, Y1, Y2, Y3⟩ := hX w1 hb1
      have hc1 := hck w1 hb1
      clear hck
      go_wp2_with fail
      refine hc1.mono ?_
      rintro e w2 ⟨rfl, hb2⟩
      have hb12 := hb1.trans (hb2.mono hb1.size)
      clear Y0 Y1 Y2 Y3 hc1
      obtain ⟨Y0, Y1, Y2, Y3⟩ := hX w2 hb12
      have hc2 := hch w2 hb12
      clear hch
      go_wp2_with fail
      refine hc2.mono ?_
      rintro e w3 ⟨rfl, hb3⟩
      have hb13 := hb12.trans (hb3.mono hb12.size)
      clear Y0 Y1 Y2 Y3 hc2
      obtain ⟨Y0, Y1, Y2, Y3⟩ := hX w3 hb13
      clear hX hW0
      have hfin := hB0.trans (hb13.mono hB0.size)
      have hL : C = 0 ∨ ∃ b off s, C ≠ 0 ∧ a2 = some ⟨b, off, none⟩ ∧ w3.cell? ⟨b, off + (C - 1), none⟩ = some (.string s) ∧ upTo k s = true := by
        rcases Nat.eq_zero_or_pos C with e | e
        · exact .inl e
        · obtain ⟨b, off, e1, e2, e3⟩ := hI' (C - 1) (by omega)
          exact .inr ⟨b, off, _, by omega, e1, (hb13.cell (p := ⟨_, _, none⟩) e2).trans e3, k2.resolve_left (by omega)⟩
      have hR : C = n2 ∨ ∃ b off s, C ≠ n2 ∧ a2 = some ⟨b, off, none⟩ ∧ w3.cell? ⟨b, off + C, none⟩ = some (.string s) ∧ lessS k s = true := by
        by_cases e : C = n2
        · exact .inl e
        · obtain ⟨b, off, e1, e2, e3⟩ := hI' C (by omega)
          exact .inr ⟨b, off, _, e, e1, (hb13.cell (p := ⟨_, _, none⟩) e2).trans e3, k3.resolve_left e⟩
      clear hI' k2 k3
      unfold lessS at hR
      rcases hL with rfl | ⟨b, off, s, hC, rfl, hc, hu⟩
      · rcases hR with rfl | ⟨b', off', s', hC', rfl, hc', hu'⟩
        · omega
        · rw [Nat.add_zero] at hc'
          go_wp2
          go_ret
          exact ⟨rfl, hfin⟩
      · have hm1 : ((C : Int) - 1) = ((C - 1 : Nat) : Int) := by omega
        generalize C - 1 = D at *
        rcases hR with rfl | ⟨b', off', s', hC', e', hc', hu'⟩
        · rcases le_three s k with ⟨q1, _⟩ | ⟨rfl, q1, _⟩ | ⟨_, _, q⟩
          · go_wp2
            go_ret
            exact ⟨rfl, hfin⟩
          · go_wp2
            go_ret
            exact ⟨rfl, hfin⟩
          · rw [q] at hu; cases hu
        · simp only [Option.some.injEq, Addr.mk.injEq] at e'
          obtain ⟨rfl, rfl, _⟩ := e'
          rcases le_three s k with ⟨q1, _⟩ | ⟨rfl, q1, _⟩ | ⟨_, _, q⟩
          · go_wp2
            go_ret
            exact ⟨rfl, hfin⟩
          · go_wp2
            go_ret
            exact ⟨rfl, hfin⟩
          · rw [q] at hu; cases hu

/-! ### The row -/
set_option maxRecDepth 100000 in
theorem lifted (os : Os) (started : os.Started) (H : Type) (enc : TypeId × Value → H) :
    ReturnsInHanded {} Try.checked os 8 .any (Rows.pageChildSpec.pre6 enc Try.prog Try.f8 Rows.pageChildRow.domain false) (Rows.pageChildSpec.post enc Try.prog Try.f8 false true false false) := by
  refine returnsInHanded_of_change (C := Try.checked) own started (by kernel_rfl) Try.func8
    (ChangeSpec.witness6 (enc := enc) (C := Try.checked) false ⟨#[], #[.agg #[.bool false, .slice none 0 0, .slice none 0 0, .slice none 0 0], .string ByteArray.empty], []⟩ 8 (by kernel_rfl) (by kernel_rfl) (by kernel_rfl) (by kernel_rfl)) ?_
  intro W base args ds gs before hval0 hW hcnd _
  have hval : ∀ (j : Nat) t v, Try.f8.params[j]? = some t → args[j]? = some v → Value.okWide Try.prog W .any base t v := hval0
  have hW' := hW
  obtain ⟨p, q, hA0, hV, rfl, hfz, hnd⟩ := hW
  have hA : DataW.TrodAll enc Try.prog W 0 (fun _ => true) true Try.f8.params.toList args.toList ds p := hA0
  rw [Try.params8] at hA hval
  obtain ⟨v0, vs0, d0, ds0, p0, q0, hargs, rfl, rfl, h0, r0⟩ := trodAll_cons hA
  obtain ⟨v1, vs1, d1, ds1, p1, q1, rfl, rfl, rfl, h1, r1⟩ := trodAll_cons r0
  obtain ⟨rfl, rfl, rfl⟩ := trodAll_nil r1
  obtain rfl : args = #[v0, v1] := by cases args; simp_all
  obtain ⟨rfl, rfl⟩ := trodVars_none hV
  obtain ⟨cs0, rfl, sz0⟩ := okWide_struct Try.underlying26 (hval 0 26 v0 rfl rfl)
  have k0 := h0
  have lt0 : ∀ x ∈ p0, x.block < W.heap.size := by obtain ⟨m, hm⟩ := k0; exact DataW.trod_lt m _ _ _ hm
  obtain ⟨a0, w0, wk0⟩ : ∃ n : Nd, NdAt W (.agg cs0) n ∧ NdOk n := by
    obtain ⟨fuel, hf⟩ := h0
    obtain ⟨n, a1, c1, a2, c2, a3, c3, hk, rfl, h1, h2, h3⟩ := node_of sz0 hf
    exact ⟨n, ⟨a1, c1, a2, c2, a3, c3, rfl, h1, h2, h3, trivial⟩, hk⟩
  obtain ⟨a1, rfl, rfl, rfl, w1⟩ := open_string Try.underlying9 (hval 1 9 v1 rfl rfl) h1
  clear hA0 hval0
  refine (walk (.agg cs0) a0 a1 W w0 wk0 w1).mono fun e W' ⟨he, bel⟩ => ?_
  subst he
  exact ⟨_, rfl, _, _, _, [], _, [], hW', trodAll_mk1 (shut_bool Try.underlying4 _), (trodAll_cons_mk (Below.trod laidOut (by kernel_rfl) (of_decide_eq_true (by kernel_rfl)) k0 bel lt0) (trodAll_cons_mk (shut_string Try.underlying9 w1) trodAll_mk0)), rfl, bel.frame _, fun h => by cases h⟩

theorem over : Rows.pageChildRow.holds Try.pinned (OpenSpec.ofChange Rows.pageChildSpec) :=
  OpenClaim.holds_of_wide 8 Try.f8 rfl rfl rfl rfl rfl rfl rfl ⟨rfl, rfl, rfl, rfl, rfl⟩ rfl rfl rfl rfl rfl (by kernel_rfl) Try.func8 (by kernel_rfl)
    (of_decide_eq_true (by kernel_rfl)) (by unfold Func.isWrapper; first | (rw [if_pos (by decide +kernel)]; kernel_rfl) | (rw [if_neg (by decide +kernel)]; exact ⟨rfl, rfl⟩))
    (fun os started H enc _ => lifted os started H enc)

end Go.Proofs.Ytanbjdcffcnfgaa.pageChild

namespace Go.Proofs.Ytanbjdcffcnfgaa
/-- The statement. -/
theorem pageChild_proved : Rows.PageChildSaid := pageChild.over
#print axioms pageChild_proved
end Go.Proofs.Ytanbjdcffcnfgaa
