/- Proved: of every text that is a path and not the root, the parent's names and the last one joined are the path; else Parent tells ErrPath; no condition. -/
import Derived.Test.YtfnoppnmilmglaaPhLive
import Derived.Test.YtfnoppnmilmglaaPhArg
import Derived.Deep.RegionHeld3
import Derived.BigQuiet
import Derived.Deep.QuietTactic
import Derived.WalkSmall
import Derived.ProofKit
import Derived.OpenShut
import Derived.ShutString
import Derived.ChangeOld
import Derived.Below
import Derived.Carry
import Derived.Deep.CutRange
import Derived.Deep.CutBlock
import Derived.Deep.LoopGhost
namespace Go.Proofs.Ytfnoppnmilmglaa.pathParents
open Go.ChangeShapes Go.WideShapes Go.ChangeAt Go.RowKit
open Go.ChangeMaps (open_string shut_string)
set_option linter.unusedVariables false
set_option linter.unusedSimpArgs false

theorem own : ownKnob Try.prog.godebug = none := by kernel_rfl
theorem laidOut : laidOutB Try.prog = true := by kernel_rfl

set_option maxRecDepth 100000 in
set_option maxHeartbeats 8000000 in
theorem walk (s : ByteArray) (w : World) (hs : s.size ≤ maxLen) :
    Calls Try.prog 7 #[.string s] w fun e w' => e = .returned (.bool true) ∧ Below w.heap.size w w' := by
  have HL : Hid (s.size ≤ maxLen) := hs
  unfold maxLen at hs
  go_enter Try.func7, Try.ntmps7
  go_wp2_with fail
  refine (live_any _).mono ?_
  rintro e w1 ⟨rfl, hb1⟩
  have B1 : Hid (Below w.heap.size w w1) := hb1
  clear hb1
  by_cases hbig : (s.size : Int) > 100000
  · go_wp2
    go_ret
    exact ⟨rfl, B1.out⟩
  have c1 := psplit_any w1 s HL.out
  unfold SpOut at c1
  go_wp2_with fail
  refine c1.mono ?_
  rintro e w2 ⟨a2, n2, c2, rfl, hf2, hb2⟩
  clear c1
  have B2 : Hid (Below w.heap.size w w2) := thenB B1.out hb2
  have F2 : Hid (FrR w1.heap.size w2 a2 n2 c2 (pathL s)) := hf2
  clear hf2 hb2
  have c2' := pparent_any w2 s HL.out
  unfold ParOut at c2'
  go_wp2_with fail
  refine c2'.mono ?_
  rintro e w3 ⟨a3, n3, c3, rfl, hf3, hb3⟩
  clear c2'
  have B3 : Hid (Below w.heap.size w w3) := thenB B2.out hb3
  have G3 : Hid (RdZ 1 strE w3 (.slice a2 n2 c2) (pathL s)) := F2.out.1.below hb3
  have F3 : Hid (RdZ 1 strE w3 (.slice a3 n3 c3) (parL s)) := hf3.1
  clear hf3 hb3 F2
  by_cases hpar : pathE s = 0 ∧ pathL s ≠ []
  · have hE0 : parE s = 0 := by unfold parE; rw [if_pos hpar]
    obtain ⟨_, hcat⟩ := par_split hE0
    obtain ⟨hp, hq⟩ := join_split hpar.1
    obtain ⟨hl6, hnm⟩ := path_all hpar.1
    have HC : Hid (parL s ++ [parN s] = pathL s ∧ joinE (pathL s) = 0 ∧ joinS (pathL s) = s ∧ (pathL s).length ≤ 6 ∧ (pathL s).all nameOk = true) := ⟨hcat, hp, hq, hl6, hnm⟩
    rw [hE0, hpar.1]
    have h2 := G3.out.len.1
    have h3 := F3.out.len.1
    have h23 : n2 = n3 + 1 := by rw [← h2, ← h3, ← hcat]; simp
    subst h23
    have hz : ¬ ((n3 + 1 : Nat) : Int) = 0 := by omega
    have hn6 : n3 ≤ 6 := by omega
    have hn6I : (n3 : Int) + 1 ≤ 1000 := by omega
    obtain ⟨nm, hnm'⟩ : ∃ nm, parN s = nm := ⟨_, rfl⟩
    rw [hnm']
    have HN : Hid (parN s = nm ∧ (parL s).length = n3) := ⟨hnm', h3⟩
    clear hcat hp hq hl6 hnm hE0 hpar hnm' h2 h3
    obtain ⟨iE, hiE, hz0, hz1, hz2⟩ := info_parts info_str
    have hon : OwnL w3.heap.size 9 1 strE w3 (.slice none 0 0) ([] : List ByteArray) := OwnL.nil _ _ _ _ _
    have hr3 := F3.out
    go_wp2_with (first
      | (refine wpList_append_E str_len str_one Try.underlying23 hiE hz0 hz1 hz2 rfl (by decide) (by decide) rfl _ _ rfl w3.heap.size _ _ rfl hon _ (parL s) rfl hr3 (by have := HN.out.2; simp only [List.length_nil]; omega) (Nat.le_refl _) ?_
         rintro v4 w4 ho4 hg4
         have hb4 : Below w3.heap.size w3 w4 := grown_below (Below.refl _ _) hg4 (fun g hg => by cases hg) (Nat.le_refl _)
         have hbl := bel1 w4 (.cells #[.string nm] 9)
         have hrow : (w4.alloc (.cells #[.string nm] 9)).heap[w4.heap.size]? = some (.cells #[.string nm] 9 (0, 0)) := heap_alloc_new w4 _
         have hr5 := s_rd hrow
         have ho5 := OwnL.below ho4 hbl
         have hs5 : w3.heap.size ≤ (w4.alloc (.cells #[.string nm] 9)).heap.size := Nat.le_trans hb4.size hbl.size
         clear hrow)
      | (refine wpList_append_E str_len str_one Try.underlying23 hiE hz0 hz1 hz2 rfl (by decide) (by decide) rfl _ _ rfl w3.heap.size _ _ rfl ho5 _ [nm] rfl hr5 (by have := HN.out.2; simp only [List.length_append, List.length_nil, List.length_singleton]; omega) hs5 ?_
         rintro v6 w6 ho6 hg6))
    have hb6 : Below w3.heap.size w3 w6 := grown_below (thenB hb4 hbl) hg6 (fun g hg => by
      obtain ⟨_, ⟨e, _⟩ | ⟨g', cap, cur, e, h3, _⟩⟩ := ho5
      · rw [e] at hg; cases hg
      · rw [e] at hg; cases hg; exact h3) hs5
    obtain ⟨a6, c6, e6⟩ := row_slice ho6
    subst e6
    have hlist : ([] : List ByteArray) ++ parL s ++ [nm] = pathL s := by rw [List.nil_append, ← HN.out.1]; exact HC.out.1
    have hrd6 := rdZ_own str_len ho6
    have c4 := pjoin_any a6 _ c6 _ hrd6 (fun x hx => by
      rw [hlist] at hx
      have := nameOk_size (List.all_eq_true.1 HC.out.2.2.2.2 x hx)
      rw [← size_list] at this
      unfold maxLen; omega)
    rw [hlist, HC.out.2.1, HC.out.2.2.1] at c4
    have B6 : Hid (Below w.heap.size w w6) := thenB B3.out hb6
    have G6 : Hid (RdZ 1 strE w6 (.slice a2 (n3 + 1) c2) (pathL s) ∧ RdZ 1 strE w6 (.slice a3 n3 c3) (parL s)) := ⟨G3.out.below hb6, F3.out.below hb6⟩
    rw [hlist]
    clear hb6 ho6 hg6 hrd6 ho5 hr5 hs5 hbl hb4 ho4 hg4 hon hr3
    refine c4.mono ?_
    rintro e w7 ⟨rfl, hb7⟩
    clear c4
    have B7 : Hid (Below w.heap.size w w7) := thenB B6.out hb7
    have c5 := punder_any a3 n3 c3 (parL s) (G6.out.2.below hb7) a2 (n3 + 1) c2 (pathL s) (G6.out.1.below hb7) (by omega)
    rw [← HC.out.1, under_snoc] at c5
    clear hb7 hlist
    go_wp2_with fail
    refine c5.mono ?_
    rintro e w8 ⟨rfl, hb8⟩
    have B8 : Hid (Below w.heap.size w w8) := thenB B7.out hb8
    clear hb8 c5
    go_wp2
    go_ret
    exact ⟨rfl, B8.out⟩
  · have hE0 : parE s = 160 := by unfold parE; rw [if_neg hpar]
    have hN0 : parN s = ⟨#[]⟩ := by unfold parN; rw [hE0]; rfl
    have hL0 : parL s = [] := by unfold parL; rw [hE0]; rfl
    have h3 := F3.out.len.1
    rw [hL0] at h3
    obtain rfl : 0 = n3 := h3
    rw [hE0, hN0]
    rcases pathE_or s with h0 | h0
    · have hz : pathL s = [] := Classical.byContradiction fun h => hpar ⟨h0, h⟩
      have h2 := G3.out.len.1
      rw [hz] at h2
      obtain rfl : 0 = n2 := h2
      rw [h0]
      clear h0 hz hpar hE0 hN0 hL0
      go_wp2
      go_ret
      exact ⟨rfl, B3.out⟩
    · rw [h0]
      clear h0 hpar hE0 hN0 hL0
      go_wp2
      go_ret
      exact ⟨rfl, B3.out⟩

/-! ### The row -/
set_option maxRecDepth 100000 in
theorem lifted (os : Os) (started : os.Started) (H : Type) (enc : TypeId × Value → H) :
    ReturnsInHanded {} Try.checked os 7 .any (Rows.pathParentsSpec.pre6 enc Try.prog Try.f7 Rows.pathParentsRow.domain false) (Rows.pathParentsSpec.post enc Try.prog Try.f7 false true false false) := by
  refine returnsInHanded_of_change (C := Try.checked) own started (by kernel_rfl) Try.func7
    (ChangeSpec.witness6 (enc := enc) (C := Try.checked) false ⟨#[], #[.string ByteArray.empty], []⟩ 8 (by kernel_rfl) (by kernel_rfl) (by kernel_rfl) (by kernel_rfl)) ?_
  intro W base args ds gs before hval0 hW hcnd _
  have hval : ∀ (j : Nat) t v, Try.f7.params[j]? = some t → args[j]? = some v → Value.okWide Try.prog W .any base t v := hval0
  have hW' := hW
  obtain ⟨p, q, hA0, hV, rfl, hfz, hnd⟩ := hW
  have hA : DataW.TrodAll enc Try.prog W 0 (fun _ => true) true Try.f7.params.toList args.toList ds p := hA0
  rw [Try.params7] at hA hval
  obtain ⟨v0, vs0, d0, ds0, p0, q0, hargs, rfl, rfl, h0, r0⟩ := trodAll_cons hA
  obtain ⟨rfl, rfl, rfl⟩ := trodAll_nil r0
  obtain rfl : args = #[v0] := by cases args; simp_all
  obtain ⟨rfl, rfl⟩ := trodVars_none hV
  obtain ⟨a0, rfl, rfl, rfl, w0⟩ := open_string Try.underlying9 (hval 0 9 v0 rfl rfl) h0
  clear hA0 hval0
  refine (walk a0 W w0).mono fun e W' ⟨he, bel⟩ => ?_
  subst he
  exact ⟨_, rfl, _, _, _, [], _, [], hW', trodAll_mk1 (shut_bool Try.underlying4 _), (trodAll_cons_mk (shut_string Try.underlying9 w0) trodAll_mk0), rfl, bel.frame _, fun h => by cases h⟩

theorem over : Rows.pathParentsRow.holds Try.pinned (OpenSpec.ofChange Rows.pathParentsSpec) :=
  OpenClaim.holds_of_wide 7 Try.f7 rfl rfl rfl rfl rfl rfl rfl ⟨rfl, rfl, rfl, rfl, rfl⟩ rfl rfl rfl rfl rfl (by kernel_rfl) Try.func7 (by kernel_rfl)
    (of_decide_eq_true (by kernel_rfl)) (by unfold Func.isWrapper; first | (rw [if_pos (by decide +kernel)]; kernel_rfl) | (rw [if_neg (by decide +kernel)]; exact ⟨rfl, rfl⟩))
    (fun os started H enc _ => lifted os started H enc)

end Go.Proofs.Ytfnoppnmilmglaa.pathParents

namespace Go.Proofs.Ytfnoppnmilmglaa
/-- The statement. -/
theorem pathParents_proved : Rows.PathParentsSaid := pathParents.over
#print axioms pathParents_proved
end Go.Proofs.Ytfnoppnmilmglaa
