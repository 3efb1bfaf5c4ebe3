/- Proved: for every head PageHeads returns true, and the head reads afterwards as it did. -/
import Derived.Test.YtanbjdcffcnfgaaQLive
import Derived.Test.YtanbjdcffcnfgaaKHead
import Derived.Test.YtanbjdcffcnfgaaQArgH
import Derived.Deep.RegionHeld3
import Derived.BigQuiet
import Derived.Deep.QuietTactic
import Derived.WalkSmall
import Derived.ProofKit
import Derived.OpenShut
import Derived.ShutString
import Derived.ChangeOld
import Derived.Below
import Derived.Carry
namespace Go.Proofs.Ytanbjdcffcnfgaa.pageHeads
open Go.ChangeShapes Go.WideShapes Go.ChangeAt Go.RowKit
open Go.ChangeMaps (open_string shut_string)
set_option linter.unusedVariables false

theorem own : ownKnob Try.prog.godebug = none := by kernel_rfl
theorem laidOut : laidOutB Try.prog = true := by kernel_rfl

theorem eql_head (W : World) (s v l r n i : Int) : (binOp .eql 40 (.agg #[.int .u64 s, .int .u64 v, .int .u64 l, .int .u32 r, .int .u32 n, .int .u32 i]) (.agg #[.int .u64 s, .int .u64 v, .int .u64 l, .int .u32 r, .int .u32 n, .int .u32 i])).run Try.prog W = .ok (.bool true) W := by
  have u9 := Try.underlying37
  have u8 := Try.underlying38
  have hS : Try.prog.underlying 40 = some (.struct (Try.prog.fieldsOf 40)) := by kernel_rfl
  have hp : Try.prog.stoodInHeld 40 = false := by kernel_rfl
  rw [run_eql_struct, show (10000 : Nat) = 9999 + 1 from rfl, run_equalIn_agg W 9999 _ _ _ hS hp]
  simp only [Program.fieldsOf, Try.underlying40]
  go_simp

theorem cells6 {W0 : World} {g : Nat} {t : TypeId} {x0 x1 x2 x3 x4 x5 : Value} (hg : W0.heap[g]? = some (.cells #[x0, x1, x2, x3, x4, x5] t (0, 0))) (W : World) (hW : Below W0.heap.size W0 W) (j : Nat) (u : Value) (hu : #[x0, x1, x2, x3, x4, x5][j]? = some u) : W.cell? ⟨g, j, none⟩ = some u := by
  rw [hW.cell (p := ⟨g, j, none⟩) (Array.getElem?_eq_some_iff.1 hg).1, cell_of_row _ _ j _ _ (0, 0) hg]; exact hu

set_option maxHeartbeats 8000000 in
theorem walk (vh : Value) (h : Hd) (w : World) (he : vh = hdV h) (hk : HdOk h) :
    Calls Try.prog 5 #[vh] w fun e w' => e = .returned (.bool true) ∧ Below w.heap.size w w' := by
  subst he
  have hen := fun W => encodeHead_any W h hk
  have hek := fun W => kencodeHead_any W h hk
  have hde := fun W u hr => decodeHead_any W u (headBlock h) hr (headBlock_byt h)
  rw [(head_back hk).1, (head_back hk).2] at hde
  have hbl := headBlock_length h
  generalize headBlock h = BL at *
  unfold hdV at *
  clear hk
  generalize h.seq = s at *
  generalize h.version = v at *
  generalize h.log = l at *
  generalize h.root = r at *
  generalize h.next = n at *
  generalize h.items = i at *
  have heq := fun W => eql_head W s v l r n i
  have hB0 := (Below.refl w.heap.size w).alloc (Nat.le_refl _) (.cells #[.int .u64 s, .int .u64 v, .int .u64 l, .int .u32 r, .int .u32 n, .int .u32 i] 40)
  have hg0 := heap_alloc_new w (.cells #[.int .u64 s, .int .u64 v, .int .u64 l, .int .u32 r, .int .u32 n, .int .u32 i] 40)
  obtain ⟨W0, hW0⟩ : ∃ W0, W0 = w.alloc (.cells #[.int .u64 s, .int .u64 v, .int .u64 l, .int .u32 r, .int .u32 n, .int .u32 i] 40) := ⟨_, rfl⟩
  rw [← hW0] at hB0 hg0
  have hX := cells6 hg0
  go_enter Try.func5, Try.ntmps5
  go_wp2_with fail
  rw [← hW0]
  clear hW0
  refine (live_any _).mono ?_
  rintro e w1 ⟨rfl, hb1⟩
  have y0 := hX w1 hb1 0 _ rfl
  have y1 := hX w1 hb1 1 _ rfl
  have y2 := hX w1 hb1 2 _ rfl
  have y3 := hX w1 hb1 3 _ rfl
  have y4 := hX w1 hb1 4 _ rfl
  have y5 := hX w1 hb1 5 _ rfl
  have hen1 := hen w1
  clear hen
  go_wp2_with fail
  refine hen1.mono ?_
  clear y0 y1 y2 y3 y4 y5 hen1
  rintro e w2 ⟨u2, rfl, ho2, hb2⟩
  have hb02 := hb1.trans (hb2.mono hb1.size)
  have hr2 := ho2.rd
  have hd2 := hde w2 u2 hr2
  obtain ⟨g2, q2, rfl, _, _⟩ := ho2.open (by omega)
  rw [hbl] at hd2 hr2 ⊢
  clear hde ho2 hb1 hb2
  go_wp2_with fail
  refine hd2.mono ?_
  clear hd2
  rintro e w3 ⟨rfl, hb3⟩
  have hb03 := hb02.trans (hb3.mono hb02.size)
  have hr3 := hr2.below hb3
  have hbA := (Below.refl w3.heap.size w3).alloc (Nat.le_refl _) (.cells #[.int .u64 s, .int .u64 v, .int .u64 l, .int .u32 r, .int .u32 n, .int .u32 i] 40)
  have hgA := heap_alloc_new w3 (.cells #[.int .u64 s, .int .u64 v, .int .u64 l, .int .u32 r, .int .u32 n, .int .u32 i] 40)
  have hb04 := hb03.trans (hbA.mono hb03.size)
  have hr4 := hr3.below hbA
  clear hr2 hr3 hb02 hb03 hb3 hbA
  go_wp2_with fail
  generalize w3.alloc (.cells #[.int .u64 s, .int .u64 v, .int .u64 l, .int .u32 r, .int .u32 n, .int .u32 i] 40) = W4 at *
  have hq := cells6 hgA
  have hp : ∀ W, Below W4.heap.size W4 W → ∀ j u, #[Value.int .u64 s, .int .u64 v, .int .u64 l, .int .u32 r, .int .u32 n, .int .u32 i][j]? = some u → W.cell? ⟨w.heap.size, j, none⟩ = some u := fun W hW j u hu => hX W (hb04.trans (hW.mono hb04.size)) j u hu
  have q0 := fun W hW => hq W hW 0 _ rfl
  have q1 := fun W hW => hq W hW 1 _ rfl
  have q2' := fun W hW => hq W hW 2 _ rfl
  have q3 := fun W hW => hq W hW 3 _ rfl
  have q4 := fun W hW => hq W hW 4 _ rfl
  have q5 := fun W hW => hq W hW 5 _ rfl
  have p0 := fun W hW => hp W hW 0 _ rfl
  have p1 := fun W hW => hp W hW 1 _ rfl
  have p2 := fun W hW => hp W hW 2 _ rfl
  have p3 := fun W hW => hp W hW 3 _ rfl
  have p4 := fun W hW => hp W hW 4 _ rfl
  have p5 := fun W hW => hp W hW 5 _ rfl
  have cB : ∀ W, Below W4.heap.size W4 W → (convert 28 9 (.slice (some ⟨g2, 0, none⟩) 512 q2)).run Try.prog W = .ok (.string (strOfNums BL)) W := fun W hW => (hr4.below hW).conv
  clear hq hp hX hgA hr4 hg0 hbl
  refine wp_region_noPanic ?_
  go_region_held (fun W => Below W4.heap.size W4 W) (first | assumption | exact (Below.refl _ _).drew | exact keep2 (by assumption) (by assumption))
    (first
      | (go_at_call 23; refine (hek _).mono ?_; rintro e w8 ⟨u8, rfl, ho8, hb8⟩; have k8 := ho8.rd.conv))
  refine NoPanic.normal ?_
  have hlast : Below W4.heap.size W4 w8 := by assumption
  clear q0 q1 q2' q3 q4 q5 p0 p1 p2 p3 p4 p5 cB k8 hek heq
  go_wp2
  go_ret
  exact ⟨rfl, hB0.trans ((hb04.trans (hlast.mono hb04.size)).mono hB0.size)⟩

/-! ### The row -/
set_option maxRecDepth 100000 in
theorem lifted (os : Os) (started : os.Started) (H : Type) (enc : TypeId × Value → H) :
    ReturnsInHanded {} Try.checked os 5 .any (Rows.pageHeadsSpec.pre6 enc Try.prog Try.f5 Rows.pageHeadsRow.domain false) (Rows.pageHeadsSpec.post enc Try.prog Try.f5 false true false false) := by
  refine returnsInHanded_of_change (C := Try.checked) own started (by kernel_rfl) Try.func5
    (ChangeSpec.witness6 (enc := enc) (C := Try.checked) false ⟨#[], #[.agg #[.int .u64 0, .int .u64 0, .int .u64 0, .int .u32 0, .int .u32 0, .int .u32 0]], []⟩ 8 (by kernel_rfl) (by kernel_rfl) (by kernel_rfl) (by kernel_rfl)) ?_
  intro W base args ds gs before hval0 hW hcnd _
  have hval : ∀ (j : Nat) t v, Try.f5.params[j]? = some t → args[j]? = some v → Value.okWide Try.prog W .any base t v := hval0
  have hW' := hW
  obtain ⟨p, q, hA0, hV, rfl, hfz, hnd⟩ := hW
  have hA : DataW.TrodAll enc Try.prog W 0 (fun _ => true) true Try.f5.params.toList args.toList ds p := hA0
  rw [Try.params5] at hA hval
  obtain ⟨v0, vs0, d0, ds0, p0, q0, hargs, rfl, rfl, h0, r0⟩ := trodAll_cons hA
  obtain ⟨rfl, rfl, rfl⟩ := trodAll_nil r0
  obtain rfl : args = #[v0] := by cases args; simp_all
  obtain ⟨rfl, rfl⟩ := trodVars_none hV
  obtain ⟨cs0, rfl, sz0⟩ := okWide_struct Try.underlying40 (hval 0 40 v0 rfl rfl)
  have k0 := h0
  have lt0 : ∀ x ∈ p0, x.block < W.heap.size := by obtain ⟨m, hm⟩ := k0; exact DataW.trod_lt m _ _ _ hm
  obtain ⟨a0, w0, e0⟩ : ∃ h : Hd, HdOk h ∧ Value.agg cs0 = hdV h := by
    obtain ⟨fuel, hf⟩ := h0
    exact head_of sz0 hf
  clear hA0 hval0
  refine (walk (.agg cs0) a0 W e0 w0).mono fun e W' ⟨he, bel⟩ => ?_
  subst he
  exact ⟨_, rfl, _, _, _, [], _, [], hW', trodAll_mk1 (shut_bool Try.underlying4 _), (trodAll_cons_mk (Below.trod laidOut (by kernel_rfl) (of_decide_eq_true (by kernel_rfl)) k0 bel lt0) trodAll_mk0), rfl, bel.frame _, fun h => by cases h⟩

theorem over : Rows.pageHeadsRow.holds Try.pinned (OpenSpec.ofChange Rows.pageHeadsSpec) :=
  OpenClaim.holds_of_wide 5 Try.f5 rfl rfl rfl rfl rfl rfl rfl ⟨rfl, rfl, rfl, rfl, rfl⟩ rfl rfl rfl rfl rfl (by kernel_rfl) Try.func5 (by kernel_rfl)
    (of_decide_eq_true (by kernel_rfl)) (by unfold Func.isWrapper; first | (rw [if_pos (by decide +kernel)]; kernel_rfl) | (rw [if_neg (by decide +kernel)]; exact ⟨rfl, rfl⟩))
    (fun os started H enc _ => lifted os started H enc)

end Go.Proofs.Ytanbjdcffcnfgaa.pageHeads

namespace Go.Proofs.Ytanbjdcffcnfgaa
/-- The statement. -/
theorem pageHeads_proved : Rows.PageHeadsSaid := pageHeads.over
#print axioms pageHeads_proved
end Go.Proofs.Ytanbjdcffcnfgaa
