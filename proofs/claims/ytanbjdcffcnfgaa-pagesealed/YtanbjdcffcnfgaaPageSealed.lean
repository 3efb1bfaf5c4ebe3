/- Proved: PageSealed, for every body: a block of any body whose sum is right is a node, a head, or of a wrong form; never both. No condition. -/
import Derived.Test.YtanbjdcffcnfgaaQLive
import Derived.Test.YtanbjdcffcnfgaaSeal
import Derived.Test.YtanbjdcffcnfgaaQLive
import Derived.Deep.RegionHeld3
import Derived.BigQuiet
import Derived.Deep.QuietTactic
import Derived.WalkSmall
import Derived.ProofKit
import Derived.OpenShut
import Derived.ShutString
import Derived.ChangeOld
import Derived.Below
import Derived.Carry
namespace Go.Proofs.Ytanbjdcffcnfgaa.pageSealed
open Go.ChangeShapes Go.WideShapes Go.ChangeAt Go.RowKit
open Go.ChangeMaps (open_string shut_string)
set_option linter.unusedVariables false

theorem own : ownKnob Try.prog.godebug = none := by kernel_rfl
theorem laidOut : laidOutB Try.prog = true := by kernel_rfl

set_option maxHeartbeats 4000000 in
theorem walk (v : Value) (xs : List Int) (w : World) (hr : Rd w v xs) (hy : Byt xs) :
    Calls Try.prog 7 #[v] w fun e w' => e = .returned (.bool true) ∧ Below w.heap.size w w' := by
  obtain ⟨a, cap, rfl, hcap, hm, hnn, hne⟩ := id hr
  clear hnn hne
  unfold maxLen at hm
  by_cases hbig : 100000 < xs.length
  · have hbig' : (100000 : Int) < xs.length := by omega
    generalize xs.length = n at *
    go_enter Try.func7, Try.ntmps7
    go_wp2_with fail
    refine (live_any _).mono ?_
    rintro e w1 ⟨rfl, hb1⟩
    go_wp2
    go_ret
    exact ⟨rfl, hb1⟩
  · have hbig' : ¬ (100000 : Int) < xs.length := by omega
    go_enter Try.func7, Try.ntmps7
    go_wp2_with fail
    refine (live_any _).mono ?_
    rintro e w1 ⟨rfl, hb1⟩
    have hr1 := hr.below hb1
    go_wp2_with fail
    refine (seal_any w1 _ xs hr1 hy (by omega)).mono ?_
    rintro e w2 ⟨u2, rfl, ho2, hb2⟩
    have hy2 : Byt (xs ++ sealB xs) := hy.append (sealB_byt xs)
    have hsl : (xs ++ sealB xs).length = xs.length + 4 := by rw [List.length_append, sealB_length]
    have hrd2 : Rd w2 u2 (xs ++ sealB xs) := ho2.rd
    have hd2 := decode_any w2 u2 _ hrd2 hy2
    obtain ⟨g2, c2, rfl, _, _⟩ := ho2.open (by omega)
    rw [hsl] at hd2 hrd2 ⊢
    clear ho2
    go_wp2_with fail
    refine hd2.mono ?_
    rintro e w3 ⟨u3, rfl, ho3, hb3⟩
    obtain ⟨v1, v2, v3, rfl, k1, k2, k3⟩ := ho3
    obtain ⟨r1, i1, rfl⟩ := row_slice k1
    obtain ⟨r2, i2, rfl⟩ := row_slice k2
    obtain ⟨r3, i3, rfl⟩ := row_slice k3
    clear k1 k2 k3 hd2
    have s1 := hb1.size
    have s2 := hb2.size
    have s3 := hb3.size
    have hbA := (Below.refl w3.heap.size w3).alloc (Nat.le_refl _) (.cells #[.bool (ndN (xs ++ sealB xs)).leaf, .slice r1 (ndN (xs ++ sealB xs)).pairs.length i1, .slice r2 (ndN (xs ++ sealB xs)).keys.length i2, .slice r3 (ndN (xs ++ sealB xs)).kids.length i3] 26)
    have hd3 := decodeHead_any _ _ _ ((hrd2.below hb3).below hbA) hy2
    unfold hdV at hd3
    generalize (ndN (xs ++ sealB xs)).leaf = lf9 at *
    generalize (ndN (xs ++ sealB xs)).pairs.length = ln1 at *
    generalize (ndN (xs ++ sealB xs)).keys.length = ln2 at *
    generalize (ndN (xs ++ sealB xs)).kids.length = ln3 at *
    go_wp2_with fail
    refine hd3.mono ?_
    rintro e w4 ⟨rfl, hb4⟩
    have hBB : Below w.heap.size w w4 := hb1.trans ((hb2.trans ((hb3.trans ((hbA.trans (hb4.mono hbA.size)).mono s3)).mono s2)).mono s1)
    have hB : ∀ o, Below w.heap.size w (w4.alloc o) := fun o => hBB.alloc hBB.size o
    generalize (hdH (xs ++ sealB xs)).seq = y0 at *
    generalize (hdH (xs ++ sealB xs)).version = y1 at *
    generalize (hdH (xs ++ sealB xs)).log = y2 at *
    generalize (hdH (xs ++ sealB xs)).root = y3 at *
    generalize (hdH (xs ++ sealB xs)).next = y4 at *
    generalize (hdH (xs ++ sealB xs)).items = y5 at *
    clear hd3 hbA hrd2 hr hr1
    by_cases h508 : xs.length = 508
    · have ho : opE (xs ++ sealB xs) = 0 := opE_sealed h508
      have hnb := fun h1 h2 => not_both (xs := xs ++ sealB xs) h1 h2
      have hn := ndE_cases ho
      have hh := hdE_cases ho
      generalize ndE (xs ++ sealB xs) = N at *
      generalize hdE (xs ++ sealB xs) = H at *
      rw [h508] at *
      rcases hn with rfl | rfl
      · rcases hh with rfl | rfl
        · exact (hnb rfl rfl).elim
        · clear hnb
          go_wp2
          go_ret
          exact ⟨rfl, hB _⟩
      · rcases hh with rfl | rfl
        · clear hnb
          go_wp2
          go_ret
          exact ⟨rfl, hB _⟩
        · clear hnb
          go_wp2
          go_ret
          exact ⟨rfl, hB _⟩
    · have ho : opE (xs ++ sealB xs) = 10 := by unfold opE; rw [if_neg (by rw [hsl]; omega)]
      have hn : ndE (xs ++ sealB xs) = 10 := by unfold ndE; rw [ho]; rfl
      have hh : hdE (xs ++ sealB xs) = 10 := by unfold hdE; rw [ho]; rfl
      rw [hn, hh]
      have h508' : ¬ (xs.length : Int) = 508 := by omega
      generalize xs.length = n at *
      go_wp2
      go_ret
      exact ⟨rfl, hB _⟩

/-! ### The row -/
set_option maxRecDepth 100000 in
theorem lifted (os : Os) (started : os.Started) (H : Type) (enc : TypeId × Value → H) :
    ReturnsInHanded {} Try.checked os 7 .any (Rows.pageSealedSpec.pre6 enc Try.prog Try.f7 Rows.pageSealedRow.domain false) (Rows.pageSealedSpec.post enc Try.prog Try.f7 false true false false) := by
  refine returnsInHanded_of_change (C := Try.checked) own started (by kernel_rfl) Try.func7
    (ChangeSpec.witness6 (enc := enc) (C := Try.checked) false ⟨#[], #[.slice none 0 0], []⟩ 8 (by kernel_rfl) (by kernel_rfl) (by kernel_rfl) (by kernel_rfl)) ?_
  intro W base args ds gs before hval0 hW hcnd _
  have hval : ∀ (j : Nat) t v, Try.f7.params[j]? = some t → args[j]? = some v → Value.okWide Try.prog W .any base t v := hval0
  have hW' := hW
  obtain ⟨p, q, hA0, hV, rfl, hfz, hnd⟩ := hW
  have hA : DataW.TrodAll enc Try.prog W 0 (fun _ => true) true Try.f7.params.toList args.toList ds p := hA0
  rw [Try.params7] at hA hval
  obtain ⟨v0, vs0, d0, ds0, p0, q0, hargs, rfl, rfl, h0, r0⟩ := trodAll_cons hA
  obtain ⟨rfl, rfl, rfl⟩ := trodAll_nil r0
  obtain rfl : args = #[v0] := by cases args; simp_all
  obtain ⟨rfl, rfl⟩ := trodVars_none hV
  obtain ⟨a0, len0, cap0, rfl⟩ := okWide_slice Try.underlying28 (hval 0 28 v0 rfl rfl)
  have k0 := h0
  have lt0 : ∀ x ∈ p0, x.block < W.heap.size := by obtain ⟨m, hm⟩ := k0; exact DataW.trod_lt m _ _ _ hm
  obtain ⟨z0, w0⟩ : ∃ zs, IsRow .u8 W a0 len0 cap0 zs := by
    obtain ⟨fuel, hf⟩ := h0
    rcases open_ints Try.underlying28 Try.underlying5 (by kernel_rfl) hf with ⟨hcs, _⟩ | ⟨x, l, c, zs, hcs, _, hl, hm, hz, _, hcell, hwz⟩
    · simp [Value.cells] at hcs
      obtain ⟨rfl, rfl, rfl⟩ := hcs
      exact ⟨[], .inl ⟨rfl, rfl, rfl, rfl⟩⟩
    · simp [Value.cells] at hcs
      obtain ⟨rfl, rfl, rfl⟩ := hcs
      exact ⟨zs, .inr ⟨_, rfl, hl, hm, by simpa using hz, hcell, hwz⟩⟩
  clear hA0 hval0
  refine (walk (.slice a0 len0 cap0) (z0.take len0) W (rd_row w0) (byt_row w0)).mono fun e W' ⟨he, bel⟩ => ?_
  subst he
  exact ⟨_, rfl, _, _, _, [], _, [], hW', trodAll_mk1 (shut_bool Try.underlying4 _), (trodAll_cons_mk (Below.trod laidOut (by kernel_rfl) (of_decide_eq_true (by kernel_rfl)) k0 bel lt0) trodAll_mk0), rfl, bel.frame _, fun h => by cases h⟩

theorem over : Rows.pageSealedRow.holds Try.pinned (OpenSpec.ofChange Rows.pageSealedSpec) :=
  OpenClaim.holds_of_wide 7 Try.f7 rfl rfl rfl rfl rfl rfl rfl ⟨rfl, rfl, rfl, rfl, rfl⟩ rfl rfl rfl rfl rfl (by kernel_rfl) Try.func7 (by kernel_rfl)
    (of_decide_eq_true (by kernel_rfl)) (by unfold Func.isWrapper; first | (rw [if_pos (by decide +kernel)]; kernel_rfl) | (rw [if_neg (by decide +kernel)]; exact ⟨rfl, rfl⟩))
    (fun os started H enc _ => lifted os started H enc)

end Go.Proofs.Ytanbjdcffcnfgaa.pageSealed

namespace Go.Proofs.Ytanbjdcffcnfgaa
/-- The statement. -/
theorem pageSealed_proved : Rows.PageSealedSaid := pageSealed.over
#print axioms pageSealed_proved
end Go.Proofs.Ytanbjdcffcnfgaa
