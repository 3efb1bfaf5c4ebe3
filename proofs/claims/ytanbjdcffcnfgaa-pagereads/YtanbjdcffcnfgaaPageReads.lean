/- Proved: for every bytes PageReads returns true, and they read afterwards as they did. -/
import Derived.Test.YtanbjdcffcnfgaaQLive
import Derived.Test.YtanbjdcffcnfgaaKReads
import Derived.Test.YtanbjdcffcnfgaaQArg
import Derived.Deep.RegionHeld3
import Derived.BigQuiet
import Derived.Deep.QuietTactic
import Derived.WalkSmall
import Derived.ProofKit
import Derived.OpenShut
import Derived.ShutString
import Derived.ChangeOld
import Derived.Below
import Derived.Carry
namespace Go.Proofs.Ytanbjdcffcnfgaa.pageReads
open Go.ChangeShapes Go.WideShapes Go.ChangeAt Go.RowKit
open Go.ChangeMaps (open_string shut_string)
set_option linter.unusedVariables false

theorem own : ownKnob Try.prog.godebug = none := by kernel_rfl
theorem laidOut : laidOutB Try.prog = true := by kernel_rfl

theorem neq_head (W : World) (s v l r n i : Int) : (binOp .neq 40 (.agg #[.int .u64 s, .int .u64 v, .int .u64 l, .int .u32 r, .int .u32 n, .int .u32 i]) (.agg #[.int .u64 s, .int .u64 v, .int .u64 l, .int .u32 r, .int .u32 n, .int .u32 i])).run Try.prog W = .ok (.bool false) W := by
  have u9 := Try.underlying37
  have u8 := Try.underlying38
  have hS : Try.prog.underlying 40 = some (.struct (Try.prog.fieldsOf 40)) := by kernel_rfl
  have hp : Try.prog.stoodInHeld 40 = false := by kernel_rfl
  rw [run_neq_struct, show (10000 : Nat) = 9999 + 1 from rfl, run_equalIn_agg W 9999 _ _ _ hS hp]
  simp only [Program.fieldsOf, Try.underlying40]
  go_simp

theorem cells6 {W0 : World} {g : Nat} {t : TypeId} {x0 x1 x2 x3 x4 x5 : Value} (hg : W0.heap[g]? = some (.cells #[x0, x1, x2, x3, x4, x5] t (0, 0))) (W : World) (hW : Below W0.heap.size W0 W) (j : Nat) (u : Value) (hu : #[x0, x1, x2, x3, x4, x5][j]? = some u) : W.cell? ⟨g, j, none⟩ = some u := by
  rw [hW.cell (p := ⟨g, j, none⟩) (Array.getElem?_eq_some_iff.1 hg).1, cell_of_row _ _ j _ _ (0, 0) hg]; exact hu

theorem cells4 {W0 : World} {g : Nat} {t : TypeId} {x0 x1 x2 x3 : Value} (hg : W0.heap[g]? = some (.cells #[x0, x1, x2, x3] t (0, 0))) (W : World) (hW : Below W0.heap.size W0 W) (j : Nat) (u : Value) (hu : #[x0, x1, x2, x3][j]? = some u) : W.cell? ⟨g, j, none⟩ = some u := by
  rw [hW.cell (p := ⟨g, j, none⟩) (Array.getElem?_eq_some_iff.1 hg).1, cell_of_row _ _ j _ _ (0, 0) hg]; exact hu

theorem over2 {a b c : World} (h : Below a.heap.size a b) (k : Below b.heap.size b c) : Below a.heap.size a c := h.trans (k.mono h.size)

set_option maxHeartbeats 8000000 in
theorem walk (v : Value) (xs : List Int) (w : World) (hr : Rd w v xs) (hy : Byt xs) :
    Calls Try.prog 4 #[v] w fun e w' => e = .returned (.bool true) ∧ Below w.heap.size w w' := by
  obtain ⟨a, cap, rfl, hcap, hm, hnn, hne⟩ := id hr
  clear hnn hne
  unfold maxLen at hm
  by_cases hbig : 100000 < xs.length
  · have hbig' : (100000 : Int) < xs.length := by omega
    generalize xs.length = n at *
    go_enter Try.func4, Try.ntmps4
    go_wp2_with fail
    refine (live_any _).mono ?_
    rintro e w1 ⟨rfl, hb1⟩
    go_wp2
    go_ret
    exact ⟨rfl, hb1⟩
  · have hbig' : ¬ (100000 : Int) < xs.length := by omega
    have dn := fun W u (h : Rd W u xs) => decode_any W u xs h hy
    have kn := fun W u (h : Rd W u xs) => kdecode_any W u xs h hy
    have dh := fun W u (h : Rd W u xs) => decodeHead_any W u xs h hy
    have kh := fun W u (h : Rd W u xs) => kdecodeHead_any W u xs h hy
    unfold hdV at dh kh
    generalize ndN xs = ND at *
    generalize ndE xs = N at *
    generalize hdE xs = H at *
    generalize (hdH xs).seq = y0 at *
    generalize (hdH xs).version = y1 at *
    generalize (hdH xs).log = y2 at *
    generalize (hdH xs).root = y3 at *
    generalize (hdH xs).next = y4 at *
    generalize (hdH xs).items = y5 at *
    have hneq := fun W => neq_head W y0 y1 y2 y3 y4 y5
    go_enter Try.func4, Try.ntmps4
    go_wp2_with fail
    refine (live_any _).mono ?_
    rintro e w1 ⟨rfl, hb1⟩
    have hr1 := hr.below hb1
    have hz1 := hb1.size
    go_wp2_with (at_builtin; refine wpList_append_rd rfl _ _ rfl w1.heap.size _ [] rfl (Own.nil _ _) _ _ rfl hr1 ?c1 ?c2 ?_)
    case c1 => simp; omega
    case c2 => exact Nat.le_refl _
    intro own w2 hown hg2
    have hb2 : Below w1.heap.size w1 w2 := below_grown (Below.refl _ _) (Nat.le_refl _) (Own.nil w1 w1.heap.size) hg2
    have hb12 := over2 hb1 hb2
    have hrv : ∀ W, Below w2.heap.size w2 W → Rd W (.slice a xs.length cap) xs := fun W hW => (hr.below hb12).below hW
    have hro : ∀ W, Below w2.heap.size w2 W → Rd W own xs := fun W hW => (hown.below hW).rd
    clear hg2 hown hr hr1 hb1 hb2
    go_wp2_with fail
    go_loopw [5, 6, 7, 8, 9, 10, 11, 12, 20] (fun q1 q2 q3 q4 q5 q6 q7 q8 t wr => ∃ i : Nat, i ≤ 2 ∧ t = .int .i64 i ∧ Below w2.heap.size w2 wr) (fun _ _ _ _ _ _ _ _ t _ => 2 - (intOf t).toNat)
    case atStart => exact ⟨0, Nat.zero_le _, rfl, Below.refl _ _⟩
    case round =>
      obtain ⟨i, hi, rfl, hbr⟩ := hrel
      obtain ⟨wA, hA⟩ : ∃ wA, wA = wr := ⟨_, rfl⟩
      subst hA
      by_cases hlt : i < 2
      · have hltI : (i : Int) < 2 := by omega
        have c1 := dn wA own (hro wA hbr)
        clear dn
        go_wp2_with fail
        refine c1.mono ?_
        clear c1
        rintro e w3 ⟨u3, rfl, ho3, hb3⟩
        have hat3 := ndAt_own' ho3
        obtain ⟨p1, r1, p2, r2, p3, r3, rfl, _, _, _, _⟩ := id hat3
        have hg3 := heap_alloc_new w3 (.cells #[.bool ND.leaf, .slice p1 ND.pairs.length r1, .slice p2 ND.keys.length r2, .slice p3 ND.kids.length r3] 26)
        have hb3a := (Below.refl w3.heap.size w3).alloc (Nat.le_refl _) (.cells #[.bool ND.leaf, .slice p1 ND.pairs.length r1, .slice p2 ND.keys.length r2, .slice p3 ND.kids.length r3] 26)
        have hb03 := over2 hbr (over2 hb3 hb3a)
        have c2 := kn _ _ (hrv _ hb03)
        clear kn
        go_wp2_with fail
        refine c2.mono ?_
        clear c2
        generalize w3.alloc (.cells #[.bool ND.leaf, .slice p1 ND.pairs.length r1, .slice p2 ND.keys.length r2, .slice p3 ND.kids.length r3] 26) = W3 at *
        rintro e w4 ⟨u4, rfl, ho4, hb4⟩
        have hat4 := ndAt_own' ho4
        obtain ⟨s1, t1, s2, t2, s3, t3, rfl, _, _, _, _⟩ := id hat4
        have hg4 := heap_alloc_new w4 (.cells #[.bool ND.leaf, .slice s1 ND.pairs.length t1, .slice s2 ND.keys.length t2, .slice s3 ND.kids.length t3] 26)
        have hb4a := (Below.refl w4.heap.size w4).alloc (Nat.le_refl _) (.cells #[.bool ND.leaf, .slice s1 ND.pairs.length t1, .slice s2 ND.keys.length t2, .slice s3 ND.kids.length t3] 26)
        have hb34 := over2 hb4 hb4a
        have hb04 := over2 hb03 hb34
        have c3 := dh _ _ (hro _ hb04)
        clear dh ho4
        go_wp2_with fail
        refine c3.mono ?_
        clear c3
        generalize w4.alloc (.cells #[.bool ND.leaf, .slice s1 ND.pairs.length t1, .slice s2 ND.keys.length t2, .slice s3 ND.kids.length t3] 26) = W4 at *
        rintro e w5 ⟨rfl, hb5⟩
        have hg5 := heap_alloc_new w5 (.cells #[.int .u64 y0, .int .u64 y1, .int .u64 y2, .int .u32 y3, .int .u32 y4, .int .u32 y5] 40)
        have hb5a := (Below.refl w5.heap.size w5).alloc (Nat.le_refl _) (.cells #[.int .u64 y0, .int .u64 y1, .int .u64 y2, .int .u32 y3, .int .u32 y4, .int .u32 y5] 40)
        have hb45 := over2 hb5 hb5a
        have hb05 := over2 hb04 hb45
        have c4 := kh _ _ (hrv _ hb05)
        clear kh
        go_wp2_with fail
        refine c4.mono ?_
        clear c4
        generalize w5.alloc (.cells #[.int .u64 y0, .int .u64 y1, .int .u64 y2, .int .u32 y3, .int .u32 y4, .int .u32 y5] 40) = W5 at *
        rintro e w6 ⟨rfl, hb6⟩
        have hg6 := heap_alloc_new w6 (.cells #[.int .u64 y0, .int .u64 y1, .int .u64 y2, .int .u32 y3, .int .u32 y4, .int .u32 y5] 40)
        have hb6a := (Below.refl w6.heap.size w6).alloc (Nat.le_refl _) (.cells #[.int .u64 y0, .int .u64 y1, .int .u64 y2, .int .u32 y3, .int .u32 y4, .int .u32 y5] 40)
        have hb56 := over2 hb6 hb6a
        have hb46 := over2 hb45 hb56
        have hb36 := over2 hb34 hb46
        have hb06 := over2 hb05 hb56
        have F3 := cells4 hg3 _ hb36
        have F4 := cells4 hg4 _ hb46
        have f30 := F3 0 _ rfl
        have f31 := F3 1 _ rfl
        have f32 := F3 2 _ rfl
        have f33 := F3 3 _ rfl
        have f40 := F4 0 _ rfl
        have f41 := F4 1 _ rfl
        have f42 := F4 2 _ rfl
        have f43 := F4 3 _ rfl
        have c5 := same_any _ _ _ ND ((hat3.below hb3a).below hb36) ((hat4.below hb4a).below hb46)
        have ho3' := ho3.below (over2 hb3a hb36)
        clear F3 F4 hat3 hat4 ho3
        go_wp2_with fail
        refine c5.mono ?_
        clear c5 f30 f31 f32 f33 f40 f41 f42 f43
        generalize w6.alloc (.cells #[.int .u64 y0, .int .u64 y1, .int .u64 y2, .int .u32 y3, .int .u32 y4, .int .u32 y5] 40) = W6 at *
        rintro e w7 ⟨rfl, hb7⟩
        have F3 := cells4 hg3 w7 (over2 hb36 hb7)
        have F5 := cells6 hg5 w7 (over2 hb56 hb7)
        have F6 := cells6 hg6 w7 hb7
        have f30 := F3 0 _ rfl
        have f31 := F3 1 _ rfl
        have f32 := F3 2 _ rfl
        have f33 := F3 3 _ rfl
        have f50 := F5 0 _ rfl
        have f51 := F5 1 _ rfl
        have f52 := F5 2 _ rfl
        have f53 := F5 3 _ rfl
        have f54 := F5 4 _ rfl
        have f55 := F5 5 _ rfl
        have f60 := F6 0 _ rfl
        have f61 := F6 1 _ rfl
        have f62 := F6 2 _ rfl
        have f63 := F6 3 _ rfl
        have f64 := F6 4 _ rfl
        have f65 := F6 5 _ rfl
        have hb07 := over2 hb06 hb7
        have co := (hro w7 hb07).conv
        have cv := (hrv w7 hb07).conv
        have hA7 : Below wA.heap.size wA w7 := over2 (over2 hb3 hb3a) (over2 hb36 hb7)
        have c6 := spoil_any w7 wA.heap.size _ ND (ho3'.below hb7) hA7.size
        clear F3 F5 F6 ho3' hro hrv hg3 hg4 hg5 hg6
        go_wp2_with fail
        refine c6.mono ?_
        clear c6 f30 f31 f32 f33 f50 f51 f52 f53 f54 f55 f60 f61 f62 f63 f64 f65 co cv
        rintro e w8 ⟨rfl, hb8⟩
        have hfin : Below w2.heap.size w2 w8 := hbr.trans ((hA7.trans hb8).mono hbr.size)
        go_wp2_with fail
        go_roundw
        case rel => exact ⟨i + 1, by omega, by go_num, hfin⟩
        case measure => simp [intOf]; omega
      · have hltI : ¬ (i : Int) < 2 := by omega
        clear dn kn dh kh hro hrv
        go_wp2
        go_ret
        exact ⟨rfl, over2 hb12 hbr⟩

/-! ### The row -/
set_option maxRecDepth 100000 in
theorem lifted (os : Os) (started : os.Started) (H : Type) (enc : TypeId × Value → H) :
    ReturnsInHanded {} Try.checked os 4 .any (Rows.pageReadsSpec.pre6 enc Try.prog Try.f4 Rows.pageReadsRow.domain false) (Rows.pageReadsSpec.post enc Try.prog Try.f4 false true false false) := by
  refine returnsInHanded_of_change (C := Try.checked) own started (by kernel_rfl) Try.func4
    (ChangeSpec.witness6 (enc := enc) (C := Try.checked) false ⟨#[], #[.slice none 0 0], []⟩ 8 (by kernel_rfl) (by kernel_rfl) (by kernel_rfl) (by kernel_rfl)) ?_
  intro W base args ds gs before hval0 hW hcnd _
  have hval : ∀ (j : Nat) t v, Try.f4.params[j]? = some t → args[j]? = some v → Value.okWide Try.prog W .any base t v := hval0
  have hW' := hW
  obtain ⟨p, q, hA0, hV, rfl, hfz, hnd⟩ := hW
  have hA : DataW.TrodAll enc Try.prog W 0 (fun _ => true) true Try.f4.params.toList args.toList ds p := hA0
  rw [Try.params4] at hA hval
  obtain ⟨v0, vs0, d0, ds0, p0, q0, hargs, rfl, rfl, h0, r0⟩ := trodAll_cons hA
  obtain ⟨rfl, rfl, rfl⟩ := trodAll_nil r0
  obtain rfl : args = #[v0] := by cases args; simp_all
  obtain ⟨rfl, rfl⟩ := trodVars_none hV
  obtain ⟨a0, len0, cap0, rfl⟩ := okWide_slice Try.underlying28 (hval 0 28 v0 rfl rfl)
  have k0 := h0
  have lt0 : ∀ x ∈ p0, x.block < W.heap.size := by obtain ⟨m, hm⟩ := k0; exact DataW.trod_lt m _ _ _ hm
  obtain ⟨z0, w0⟩ : ∃ zs, IsRow .u8 W a0 len0 cap0 zs := by
    obtain ⟨fuel, hf⟩ := h0
    rcases open_ints Try.underlying28 Try.underlying5 (by kernel_rfl) hf with ⟨hcs, _⟩ | ⟨x, l, c, zs, hcs, _, hl, hm, hz, _, hcell, hwz⟩
    · simp [Value.cells] at hcs
      obtain ⟨rfl, rfl, rfl⟩ := hcs
      exact ⟨[], .inl ⟨rfl, rfl, rfl, rfl⟩⟩
    · simp [Value.cells] at hcs
      obtain ⟨rfl, rfl, rfl⟩ := hcs
      exact ⟨zs, .inr ⟨_, rfl, hl, hm, by simpa using hz, hcell, hwz⟩⟩
  clear hA0 hval0
  refine (walk (.slice a0 len0 cap0) (z0.take len0) W (rd_row w0) (byt_row w0)).mono fun e W' ⟨he, bel⟩ => ?_
  subst he
  exact ⟨_, rfl, _, _, _, [], _, [], hW', trodAll_mk1 (shut_bool Try.underlying4 _), (trodAll_cons_mk (Below.trod laidOut (by kernel_rfl) (of_decide_eq_true (by kernel_rfl)) k0 bel lt0) trodAll_mk0), rfl, bel.frame _, fun h => by cases h⟩

theorem over : Rows.pageReadsRow.holds Try.pinned (OpenSpec.ofChange Rows.pageReadsSpec) :=
  OpenClaim.holds_of_wide 4 Try.f4 rfl rfl rfl rfl rfl rfl rfl ⟨rfl, rfl, rfl, rfl, rfl⟩ rfl rfl rfl rfl rfl (by kernel_rfl) Try.func4 (by kernel_rfl)
    (of_decide_eq_true (by kernel_rfl)) (by unfold Func.isWrapper; first | (rw [if_pos (by decide +kernel)]; kernel_rfl) | (rw [if_neg (by decide +kernel)]; exact ⟨rfl, rfl⟩))
    (fun os started H enc _ => lifted os started H enc)

end Go.Proofs.Ytanbjdcffcnfgaa.pageReads

namespace Go.Proofs.Ytanbjdcffcnfgaa
/-- The statement. -/
theorem pageReads_proved : Rows.PageReadsSaid := pageReads.over
#print axioms pageReads_proved
end Go.Proofs.Ytanbjdcffcnfgaa
