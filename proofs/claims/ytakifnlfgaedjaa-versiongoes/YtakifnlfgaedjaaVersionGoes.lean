/- Proved: VersionGoes holds of every input: whatever is done, versions are kept and counted just as the document says; no condition. -/
import Derived.Test.YtakifnlfgaedjaaVLive
import Derived.Test.YtakifnlfgaedjaaRSame
import Derived.Test.YtakifnlfgaedjaaVOps
import Derived.Deep.RegionHeld3
import Derived.BigQuiet
import Derived.Deep.QuietTactic
import Derived.WalkSmall
import Derived.ProofKit
import Derived.OpenShut
import Derived.ShutString
import Derived.ChangeOld
import Derived.Below
import Derived.Carry
import Derived.Deep.CutRange
import Derived.Deep.CutBlock
namespace Go.Proofs.Ytakifnlfgaedjaa.versionGoes
open Go.ChangeShapes Go.WideShapes Go.ChangeAt Go.RowKit
open Go.ChangeMaps (open_string shut_string)
set_option linter.unusedVariables false
set_option linter.unusedSimpArgs false

theorem own : ownKnob Try.prog.godebug = none := by kernel_rfl
theorem laidOut : laidOutB Try.prog = true := by kernel_rfl

set_option maxRecDepth 100000 in
set_option maxHeartbeats 8000000 in
theorem walk (root first : Int) (a : Option Addr) (len cap : Nat) (os : List VopV) (w : World) (hr : (Lit.int .u32 root).wf = true) (hf : (Lit.int .u64 first).wf = true) (ho : VopsAt w a len cap os) :
    Calls Try.prog 3 #[.int .u32 root, .int .u64 first, .slice a len cap] w fun e w' => e = .returned (.bool true) ∧ Below w.heap.size w w' := by
  obtain ⟨hf0, hf1⟩ := bounds_u64 hf
  clear hf hr
  have hlc := ho.2.1
  have hcm := ho.2.2.1
  unfold maxLen at hcm
  have HO : Hid (VopsAt w a len cap os) := ho
  clear ho
  have cl := live_any w
  go_enter Try.func3, Try.ntmps3
  go_wp2_with fail
  refine cl.mono ?_
  rintro e w1 ⟨rfl, hb1⟩
  clear cl
  have cn := new_in w w1 w.heap.size hb1 hb1.size root first
  unfold ptrR at cn
  go_wp2_with fail
  refine cn.mono ?_
  rintro e w2 ⟨p, rfl, h2, _⟩
  clear cn hb1
  have cx := rnew_in w w2 w.heap.size h2.bel h2.sz root first
  unfold ptrR at cx
  go_wp2_with fail
  refine cx.mono ?_
  rintro e w3 ⟨q, rfl, h3, hb3⟩
  clear cx
  have H3 : Hid (TwoIn w.heap.size w w3 p q 0 (newR root first) (newX root first)) := ⟨h2.below hb3, h3, both_new root first hf0 (by omega)⟩
  clear h2 h3 hb3
  by_cases hmany : 150 < len
  · have hmI : (150 : Int) < len := by omega
    have hB := H3.out.rf.bel
    clear H3
    go_wp2
    go_ret
    exact ⟨rfl, hB⟩
  have hmI : ¬ (150 : Int) < len := by omega
  have hl150 : len ≤ 150 := by omega
  clear hmany
  go_wp2_with fail
  go_loopw [11, 12, 13, 14, 15, 16, 17, 39] (fun _ _ _ _ _ _ _ t wr => ∃ (k : Nat) (s : Rg) (x : Rf), k ≤ len ∧ t = .int .i64 k ∧ Hid (TwoIn w.heap.size w wr p q k s x)) (fun _ _ _ _ _ _ _ t _ => len - (intOf t).toNat)
  case atStart => exact ⟨0, _, _, Nat.zero_le _, rfl, H3⟩
  case round =>
    clear H3
    obtain ⟨k, s, x, hk, rfl, HK⟩ := hrel
    by_cases hlt : k < len
    · have hltI : (k : Int) < len := by omega
      have hk1 : k + 1 ≤ 150 := by omega
      obtain ⟨b, off, o, rfl, hoo, hoa⟩ := vop_at HO.out HK.out.rg.bel k hlt
      have c0 := hoa.c0
      have c1 := hoa.c1
      have c2 := hoa.c2
      clear hoa hoo
      obtain ⟨f0, f1, f2⟩ := o
      dsimp only at *
      obtain ⟨wq, hwq⟩ : ∃ wq, wr.alloc (.cells #[.int .i64 f0, .int .i64 f1, .int .u32 f2] 31) = wq := ⟨_, rfl⟩
      have hbq : Below wr.heap.size wr wq := by rw [← hwq]; exact (Below.refl _ wr).alloc (Nat.le_refl _) _
      have hrow : wq.heap[wr.heap.size]? = some (.cells #[.int .i64 f0, .int .i64 f1, .int .u32 f2] 31 (0, 0)) := by rw [← hwq]; exact heap_alloc_new wr _
      have HQ : Hid (TwoIn w.heap.size w wq p q k s x) := HK.out.below hbq
      have HROW : Hid _ := hrow
      have q0 : wq.cell? ⟨wr.heap.size, 0, none⟩ = some (.int .i64 f0) := by rw [cell_of_row _ _ 0 _ _ (0, 0) hrow]; rfl
      clear hrow hbq HK
      go_upto_block 2 with fail
      (try rw [hwq])
      clear c0 c1 c2 hwq
      go_cut [11, 12, 13, 14, 15, 16, 17] from 40 to 113 (fun _ _ _ _ _ _ _ wx => ∃ (s' : Rg) (x' : Rf), Hid (TwoIn w.heap.size w wx p q (k + 1) s' x'))
      case first =>
        by_cases hf00 : f0 = 0
        · subst hf00
          have co := open_in HQ.out.rg HQ.out.both.ok
          unfold ptrR at co
          go_wp2_with fail
          refine co.mono ?_
          rintro e w5 ⟨rfl, h5, k5⟩
          clear co q0
          have r5 := HQ.out.rf.keepO k5 h5.bel h5.sz
          have cx := ropen_in r5 HQ.out.both
          unfold ptrR at cx
          obtain ⟨rt, hrt⟩ : ∃ rt, s.t.root = rt := ⟨_, rfl⟩
          obtain ⟨vr, hvr⟩ : ∃ vr, s.t.ver = vr := ⟨_, rfl⟩
          obtain ⟨li, hli⟩ : ∃ li : Int, ((s.last + 1 : Nat) : Int) = li := ⟨_, rfl⟩
          rw [hrt, hvr, hli] at cx ⊢
          have H5 : Hid (RgIn w.heap.size w w5 p (openR s)) := h5
          clear hrt hvr hli r5 h5 k5
          go_wp2_with fail
          refine cx.mono ?_
          rintro e w6 ⟨rfl, h6, k6⟩
          clear cx
          have HF : Hid (TwoIn w.heap.size w w6 p q (k + 1) (openR s) (openX x)) := ⟨H5.out.keepX k6 h6.bel h6.sz, h6, both_open HQ.out.both hk1⟩
          clear h6 k6
          go_wp2
          go_meet
          exact ⟨_, _, HF⟩
        by_cases hf01 : f0 = 1
        · subst hf01
          have co := close_in (HQ.out.rg.drewN 1) HQ.out.both.ok f1
          unfold ptrR at co
          obtain ⟨E, hE⟩ : ∃ E, closeE s f1 = E := ⟨_, rfl⟩
          rw [hE] at co
          have HE : Hid (closeE s f1 = E) := hE
          have hS0 : ∀ W : World, W.heap[wr.heap.size]? = some (.cells #[.int .i64 1, .int .i64 f1, .int .u32 f2] 31 (0, 0)) → W.cell? ⟨wr.heap.size, 1, none⟩ = some (.int .i64 f1) := fun W hW => by rw [cell_of_row _ _ 1 _ _ (0, 0) hW]; rfl
          clear hE
          go_wp2_with fail
          refine wp_region_noPanic ?_
          refine wp_region_held_drew (S := fun W : World => W.heap[wr.heap.size]? = some (.cells #[.int .i64 1, .int .i64 f1, .int .u32 f2] 31 (0, 0))) (by kernel_rfl) HROW.out (fun hHeld => ?_)
          refine wpAnyH_take (i := 0) (v := .pointer (some ⟨p, 0, none⟩)) rfl (by kernel_rfl) (by kernel_rfl) (by kernel_rfl) (fun _ _ _ h => h) (Or.inl ⟨by rfl, fun W hSw => by (try dsimp only at hSw); go_simp⟩) (by assumption) ?_
          simp only [List.getElem_toArray, List.getElem_cons_zero, List.getElem_cons_succ, Act.put, List.setIfInBounds_toArray, List.set_cons_zero, List.set_cons_succ]
          refine wpAnyH_take (i := 1) (v := .pointer (some ⟨wr.heap.size, 1, none⟩)) rfl (by kernel_rfl) (by kernel_rfl) (by kernel_rfl) (fun _ _ _ h => h) (Or.inl ⟨by rfl, fun W hSw => by (try dsimp only at hSw); go_simp⟩) (by assumption) ?_
          simp only [List.getElem_toArray, List.getElem_cons_zero, List.getElem_cons_succ, Act.put, List.setIfInBounds_toArray, List.set_cons_zero, List.set_cons_succ]
          refine wpAnyH_take (i := 2) (v := .int .i64 f1) rfl (by kernel_rfl) (by kernel_rfl) (by kernel_rfl) (fun _ _ _ h => h) (Or.inl ⟨by rfl, fun W hSw => by (try dsimp only at hSw); go_simp⟩) (by assumption) ?_
          simp only [List.getElem_toArray, List.getElem_cons_zero, List.getElem_cons_succ, Act.put, List.setIfInBounds_toArray, List.set_cons_zero, List.set_cons_succ]
          refine wpAnyH_take (i := 4) (v := .pointer (some ⟨q, 0, none⟩)) rfl (by kernel_rfl) (by kernel_rfl) (by kernel_rfl) (fun _ _ _ h => h) (Or.inl ⟨by rfl, fun W hSw => by (try dsimp only at hSw); go_simp⟩) (by assumption) ?_
          simp only [List.getElem_toArray, List.getElem_cons_zero, List.getElem_cons_succ, Act.put, List.setIfInBounds_toArray, List.set_cons_zero, List.set_cons_succ]
          refine wpAnyH_take (i := 5) (v := .pointer (some ⟨wr.heap.size, 1, none⟩)) rfl (by kernel_rfl) (by kernel_rfl) (by kernel_rfl) (fun _ _ _ h => h) (Or.inl ⟨by rfl, fun W hSw => by (try dsimp only at hSw); go_simp⟩) (by assumption) ?_
          simp only [List.getElem_toArray, List.getElem_cons_zero, List.getElem_cons_succ, Act.put, List.setIfInBounds_toArray, List.set_cons_zero, List.set_cons_succ]
          refine wpAnyH_take (i := 6) (v := .int .i64 f1) rfl (by kernel_rfl) (by kernel_rfl) (by kernel_rfl) (fun _ _ _ h => h) (Or.inl ⟨by rfl, fun W hSw => by (try dsimp only at hSw); go_simp⟩) (by assumption) ?_
          simp only [List.getElem_toArray, List.getElem_cons_zero, List.getElem_cons_succ, Act.put, List.setIfInBounds_toArray, List.set_cons_zero, List.set_cons_succ]
          refine wpAnyH_ready (rs := [3]) (by kernel_rfl) (by simp) ?_
          refine AllReadyH.cons rfl (fun K hK => ?_) AllReadyH.nil
          go_simp
          go_wp2_with (go_at_call 12; refine co.mono ?_; rintro e5 w5 ⟨rfl, h5, k5⟩)
          have row5 := k5 _ _ HROW.out (fun cs fr => ⟨by simp, by simp⟩)
          refine hK.out _ _ row5 (fun hHeld2 => ?_)
          clear hK K
          try simp only [List.getElem_toArray, List.getElem_cons_zero, List.getElem_cons_succ, Act.put, List.setIfInBounds_toArray, List.set_cons_zero, List.set_cons_succ]
          have r5 := (HQ.out.rf.below (belowQ _ 1 _)).keepO k5 h5.bel h5.sz
          have cx := rclose_in r5 HQ.out.both hk1 f1
          unfold ptrR at cx
          rw [HE.out] at cx
          have H5 : Hid (RgIn w.heap.size w w5 p (closeR s f1)) := h5
          clear r5 h5 k5 co
          refine wpAnyH_ready (rs := [7]) (by kernel_rfl) (by simp) ?_
          refine AllReadyH.cons rfl (fun K hK => ?_) AllReadyH.nil
          go_simp
          go_wp2_with (go_at_call 13; refine cx.mono ?_; rintro e6 w6 ⟨rfl, ⟨x', h6, b6⟩, k6⟩)
          refine hK.out _ _ (k6 _ _ row5 (fun cs fr => ⟨by simp, by simp, by simp⟩)) (fun hHeld3 => ?_)
          clear hK K
          try simp only [List.getElem_toArray, List.getElem_cons_zero, List.getElem_cons_succ, Act.put, List.setIfInBounds_toArray, List.set_cons_zero, List.set_cons_succ]
          refine wpAnyH_take (i := 8) (v := .bool false) rfl (by kernel_rfl) (by kernel_rfl) (by kernel_rfl) (fun _ _ _ h => h) (Or.inl ⟨by rfl, fun W hSw => by (try dsimp only at hSw); go_simp⟩) (by assumption) ?_
          simp only [List.getElem_toArray, List.getElem_cons_zero, List.getElem_cons_succ, Act.put, List.setIfInBounds_toArray, List.set_cons_zero, List.set_cons_succ]
          refine wpAnyH_done (by kernel_rfl) ?_ _
          refine NoPanic.normal ?_
          have HF : Hid (TwoIn w.heap.size w w6 p q (k + 1) (closeR s f1) x') := ⟨H5.out.keepX k6 h6.bel h6.sz, h6, b6⟩
          clear h6 k6 b6 cx hS0 hHeld hHeld2 hHeld3 q0 row5
          go_wp2
          go_meet
          exact ⟨_, _, HF⟩
        by_cases hf02 : f0 = 2
        · subst hf02
          have cn := next_in (HQ.out.rg.drewN 1) f2 (plN f1)
          unfold ptrR at cn
          obtain ⟨E, hE⟩ : ∃ E, nextE (plN f1) = E := ⟨_, rfl⟩
          rw [hE] at cn
          have HE : Hid (nextE (plN f1) = E) := hE
          obtain ⟨N, hN⟩ : ∃ N, plN f1 = N := ⟨_, rfl⟩
          rw [hN] at cn
          have HNN : Hid (plN f1 = N) := hN
          have cp : ∀ W, Calls Try.prog 15 #[.int .i64 f1] W fun e w' => e = .returned (.int .i64 N) ∧ w' = W := fun W => by rw [← hN]; exact places_any W f1
          have hS0 : ∀ W : World, W.heap[wr.heap.size]? = some (.cells #[.int .i64 2, .int .i64 f1, .int .u32 f2] 31 (0, 0)) → W.cell? ⟨wr.heap.size, 1, none⟩ = some (.int .i64 f1) := fun W hW => by rw [cell_of_row _ _ 1 _ _ (0, 0) hW]; rfl
          have hS1 : ∀ W : World, W.heap[wr.heap.size]? = some (.cells #[.int .i64 2, .int .i64 f1, .int .u32 f2] 31 (0, 0)) → W.cell? ⟨wr.heap.size, 2, none⟩ = some (.int .u32 f2) := fun W hW => by rw [cell_of_row _ _ 2 _ _ (0, 0) hW]; rfl
          clear hE hN
          go_wp2_with fail
          refine wp_region_noPanic ?_
          refine wp_region_held_drew (S := fun W : World => W.heap[wr.heap.size]? = some (.cells #[.int .i64 2, .int .i64 f1, .int .u32 f2] 31 (0, 0))) (by kernel_rfl) HROW.out (fun hHeld => ?_)
          refine wpAnyH_take (i := 0) (v := .pointer (some ⟨p, 0, none⟩)) rfl (by kernel_rfl) (by kernel_rfl) (by kernel_rfl) (fun _ _ _ h => h) (Or.inl ⟨by rfl, fun W hSw => by (try dsimp only at hSw); go_simp⟩) (by assumption) ?_
          simp only [List.getElem_toArray, List.getElem_cons_zero, List.getElem_cons_succ, Act.put, List.setIfInBounds_toArray, List.set_cons_zero, List.set_cons_succ]
          refine wpAnyH_take (i := 1) (v := .pointer (some ⟨wr.heap.size, 2, none⟩)) rfl (by kernel_rfl) (by kernel_rfl) (by kernel_rfl) (fun _ _ _ h => h) (Or.inl ⟨by rfl, fun W hSw => by (try dsimp only at hSw); go_simp⟩) (by assumption) ?_
          simp only [List.getElem_toArray, List.getElem_cons_zero, List.getElem_cons_succ, Act.put, List.setIfInBounds_toArray, List.set_cons_zero, List.set_cons_succ]
          refine wpAnyH_take (i := 2) (v := .int .u32 f2) rfl (by kernel_rfl) (by kernel_rfl) (by kernel_rfl) (fun _ _ _ h => h) (Or.inl ⟨by rfl, fun W hSw => by (try dsimp only at hSw); go_simp⟩) (by assumption) ?_
          simp only [List.getElem_toArray, List.getElem_cons_zero, List.getElem_cons_succ, Act.put, List.setIfInBounds_toArray, List.set_cons_zero, List.set_cons_succ]
          refine wpAnyH_take (i := 3) (v := .pointer (some ⟨wr.heap.size, 1, none⟩)) rfl (by kernel_rfl) (by kernel_rfl) (by kernel_rfl) (fun _ _ _ h => h) (Or.inl ⟨by rfl, fun W hSw => by (try dsimp only at hSw); go_simp⟩) (by assumption) ?_
          simp only [List.getElem_toArray, List.getElem_cons_zero, List.getElem_cons_succ, Act.put, List.setIfInBounds_toArray, List.set_cons_zero, List.set_cons_succ]
          refine wpAnyH_take (i := 4) (v := .int .i64 f1) rfl (by kernel_rfl) (by kernel_rfl) (by kernel_rfl) (fun _ _ _ h => h) (Or.inl ⟨by rfl, fun W hSw => by (try dsimp only at hSw); go_simp⟩) (by assumption) ?_
          simp only [List.getElem_toArray, List.getElem_cons_zero, List.getElem_cons_succ, Act.put, List.setIfInBounds_toArray, List.set_cons_zero, List.set_cons_succ]
          refine wpAnyH_take (i := 7) (v := .pointer (some ⟨q, 0, none⟩)) rfl (by kernel_rfl) (by kernel_rfl) (by kernel_rfl) (fun _ _ _ h => h) (Or.inl ⟨by rfl, fun W hSw => by (try dsimp only at hSw); go_simp⟩) (by assumption) ?_
          simp only [List.getElem_toArray, List.getElem_cons_zero, List.getElem_cons_succ, Act.put, List.setIfInBounds_toArray, List.set_cons_zero, List.set_cons_succ]
          refine wpAnyH_take (i := 8) (v := .pointer (some ⟨wr.heap.size, 2, none⟩)) rfl (by kernel_rfl) (by kernel_rfl) (by kernel_rfl) (fun _ _ _ h => h) (Or.inl ⟨by rfl, fun W hSw => by (try dsimp only at hSw); go_simp⟩) (by assumption) ?_
          simp only [List.getElem_toArray, List.getElem_cons_zero, List.getElem_cons_succ, Act.put, List.setIfInBounds_toArray, List.set_cons_zero, List.set_cons_succ]
          refine wpAnyH_take (i := 9) (v := .int .u32 f2) rfl (by kernel_rfl) (by kernel_rfl) (by kernel_rfl) (fun _ _ _ h => h) (Or.inl ⟨by rfl, fun W hSw => by (try dsimp only at hSw); go_simp⟩) (by assumption) ?_
          simp only [List.getElem_toArray, List.getElem_cons_zero, List.getElem_cons_succ, Act.put, List.setIfInBounds_toArray, List.set_cons_zero, List.set_cons_succ]
          refine wpAnyH_take (i := 10) (v := .pointer (some ⟨wr.heap.size, 1, none⟩)) rfl (by kernel_rfl) (by kernel_rfl) (by kernel_rfl) (fun _ _ _ h => h) (Or.inl ⟨by rfl, fun W hSw => by (try dsimp only at hSw); go_simp⟩) (by assumption) ?_
          simp only [List.getElem_toArray, List.getElem_cons_zero, List.getElem_cons_succ, Act.put, List.setIfInBounds_toArray, List.set_cons_zero, List.set_cons_succ]
          refine wpAnyH_take (i := 11) (v := .int .i64 f1) rfl (by kernel_rfl) (by kernel_rfl) (by kernel_rfl) (fun _ _ _ h => h) (Or.inl ⟨by rfl, fun W hSw => by (try dsimp only at hSw); go_simp⟩) (by assumption) ?_
          simp only [List.getElem_toArray, List.getElem_cons_zero, List.getElem_cons_succ, Act.put, List.setIfInBounds_toArray, List.set_cons_zero, List.set_cons_succ]
          refine wpAnyH_ready (rs := [5]) (by kernel_rfl) (by simp) ?_
          refine AllReadyH.cons rfl (fun K hK => ?_) AllReadyH.nil
          go_simp
          go_wp2_with (go_at_call 15; refine (cp _).mono ?_; rintro e5 w5 ⟨rfl, rfl⟩)
          refine hK.out _ _ (by assumption) (fun hHeld2 => ?_)
          clear hK K
          try simp only [List.getElem_toArray, List.getElem_cons_zero, List.getElem_cons_succ, Act.put, List.setIfInBounds_toArray, List.set_cons_zero, List.set_cons_succ]
          refine wpAnyH_ready (rs := [6]) (by kernel_rfl) (by simp) ?_
          refine AllReadyH.cons rfl (fun K hK => ?_) AllReadyH.nil
          go_simp
          go_wp2_with (go_at_call 14; refine cn.mono ?_; rintro e6 w6 ⟨rfl, h6, k6⟩)
          have row6 := k6 _ _ HROW.out (fun cs fr => ⟨by simp, by simp⟩)
          refine hK.out _ _ row6 (fun hHeld3 => ?_)
          clear hK K
          try simp only [List.getElem_toArray, List.getElem_cons_zero, List.getElem_cons_succ, Act.put, List.setIfInBounds_toArray, List.set_cons_zero, List.set_cons_succ]
          have r6 := (HQ.out.rf.below (belowQ _ 1 _)).keepO k6 h6.bel h6.sz
          have cx := rnext_in r6 HQ.out.both f2 N
          unfold ptrR at cx
          rw [show nextE N = E from by rw [← HNN.out]; exact HE.out] at cx
          have H6 : Hid (RgIn w.heap.size w w6 p (nextR s f2 N)) := h6
          clear r6 h6 k6 cn
          refine wpAnyH_ready (rs := [12]) (by kernel_rfl) (by simp) ?_
          refine AllReadyH.cons rfl (fun K hK => ?_) AllReadyH.nil
          go_simp
          go_wp2_with (go_at_call 15; refine (cp _).mono ?_; rintro e7 w7 ⟨rfl, rfl⟩)
          refine hK.out _ _ (by assumption) (fun hHeld4 => ?_)
          clear hK K
          try simp only [List.getElem_toArray, List.getElem_cons_zero, List.getElem_cons_succ, Act.put, List.setIfInBounds_toArray, List.set_cons_zero, List.set_cons_succ]
          refine wpAnyH_ready (rs := [13]) (by kernel_rfl) (by simp) ?_
          refine AllReadyH.cons rfl (fun K hK => ?_) AllReadyH.nil
          go_simp
          go_wp2_with (go_at_call 16; refine cx.mono ?_; rintro e8 w8 ⟨rfl, h8, k8⟩)
          refine hK.out _ _ (k8 _ _ row6 (fun cs fr => ⟨by simp, by simp, by simp⟩)) (fun hHeld5 => ?_)
          clear hK K
          try simp only [List.getElem_toArray, List.getElem_cons_zero, List.getElem_cons_succ, Act.put, List.setIfInBounds_toArray, List.set_cons_zero, List.set_cons_succ]
          refine wpAnyH_take (i := 14) (v := .bool false) rfl (by kernel_rfl) (by kernel_rfl) (by kernel_rfl) (fun _ _ _ h => h) (Or.inl ⟨by rfl, fun W hSw => by (try dsimp only at hSw); go_simp⟩) (by assumption) ?_
          simp only [List.getElem_toArray, List.getElem_cons_zero, List.getElem_cons_succ, Act.put, List.setIfInBounds_toArray, List.set_cons_zero, List.set_cons_succ]
          refine wpAnyH_done (by kernel_rfl) ?_ _
          refine NoPanic.normal ?_
          have HF : Hid (TwoIn w.heap.size w w8 p q (k + 1) (nextR s f2 (plN f1)) (nextX x f2 (plN f1))) := by
            unfold Hid
            rw [HNN.out]
            exact ⟨H6.out.keepX k8 h8.bel h8.sz, h8, by rw [← HNN.out]; exact both_next HQ.out.both hk1 f2 f1⟩
          clear h8 k8 cx cp hS0 hS1 hHeld hHeld2 hHeld3 hHeld4 hHeld5 q0 row6
          go_wp2
          go_meet
          exact ⟨_, _, HF⟩
        by_cases hf03 : f0 = 3
        · subst hf03
          have co := settle_in HQ.out.rg HQ.out.both.ok
          unfold ptrR at co
          go_wp2_with fail
          refine co.mono ?_
          rintro e w5 ⟨rfl, h5, k5⟩
          clear co q0
          have r5 := HQ.out.rf.keepO k5 h5.bel h5.sz
          have ch := rhorizon_in r5 HQ.out.both
          unfold ptrR at ch
          obtain ⟨E, hE⟩ : ∃ E, (eldT s).ver = E := ⟨_, rfl⟩
          rw [hE] at ch
          have HE : Hid ((eldT s).ver = E) := hE
          have H5 : Hid (RgIn w.heap.size w w5 p (settleR s)) := h5
          have R5 : Hid (RfIn w.heap.size w w5 q x) := r5
          clear hE r5 h5 k5
          go_wp2_with fail
          refine ch.mono ?_
          rintro e w6 ⟨rfl, hb6⟩
          clear ch
          obtain ⟨z1, z2, z3, z4⟩ := (R5.out.below hb6).setBase E
          have g6 := H5.out.below hb6
          have HF : Hid (TwoIn w.heap.size w (w6.setCell ⟨q, 3, none⟩ (.int .u64 E)) p q (k + 1) (settleR s) ⟨x.root, x.ver, x.first, E, x.pl, x.l⟩) := ⟨g6.keepX z4 z3.bel z3.sz, z3, by rw [← HE.out]; exact both_settle HQ.out.both hk1⟩
          obtain ⟨bs, hbs⟩ : ∃ bs, x.base = bs := ⟨_, rfl⟩
          rw [hbs] at z1
          clear z3 z4 g6 hb6 hbs
          go_wp2
          go_meet
          exact ⟨_, _, HF⟩
        · have HF : Hid (TwoIn w.heap.size w wq p q (k + 1) s x) := ⟨HQ.out.rg, HQ.out.rf, both_mono HQ.out.both hk1⟩
          go_wp2
          go_meet
          exact ⟨_, _, HF⟩
      case rest =>
        clear HQ HROW q0
        obtain ⟨s, x, HX⟩ := hcut
        obtain ⟨wx, hwx⟩ : ∃ wx, wx = wc := ⟨_, rfl⟩
        subst hwx
        have cs := same_any HX.out
        unfold ptrR at cs
        go_wp2_with fail
        refine cs.mono ?_
        rintro e w9 ⟨rfl, hb9⟩
        clear cs
        have H9 : Hid (TwoIn w.heap.size w w9 p q (k + 1) s x) := HX.out.below hb9
        clear hb9
        go_wp2_with fail
        go_roundw
        case rel => exact ⟨k + 1, s, x, by omega, by go_num, H9⟩
        case measure => simp [intOf]; omega
    · obtain rfl : k = len := by omega
      have hltI : ¬ (k : Int) < k := by omega
      have hB := HK.out.rg.bel
      clear HK
      go_wp2
      go_ret
      exact ⟨rfl, hB⟩

/-! ### The row -/
set_option maxRecDepth 100000 in
theorem lifted (os : Os) (started : os.Started) (H : Type) (enc : TypeId × Value → H) :
    ReturnsInHanded {} Try.checked os 3 .any (Rows.versionGoesSpec.pre6 enc Try.prog Try.f3 Rows.versionGoesRow.domain false) (Rows.versionGoesSpec.post enc Try.prog Try.f3 false true false false) := by
  refine returnsInHanded_of_change (C := Try.checked) own started (by kernel_rfl) Try.func3
    (ChangeSpec.witness6 (enc := enc) (C := Try.checked) false ⟨#[], #[.int .u32 0, .int .u64 0, .slice none 0 0], []⟩ 8 (by kernel_rfl) (by kernel_rfl) (by kernel_rfl) (by kernel_rfl)) ?_
  intro W base args ds gs before hval0 hW hcnd _
  have hval : ∀ (j : Nat) t v, Try.f3.params[j]? = some t → args[j]? = some v → Value.okWide Try.prog W .any base t v := hval0
  have hW' := hW
  obtain ⟨p, q, hA0, hV, rfl, hfz, hnd⟩ := hW
  have hA : DataW.TrodAll enc Try.prog W 0 (fun _ => true) true Try.f3.params.toList args.toList ds p := hA0
  rw [Try.params3] at hA hval
  obtain ⟨v0, vs0, d0, ds0, p0, q0, hargs, rfl, rfl, h0, r0⟩ := trodAll_cons hA
  obtain ⟨v1, vs1, d1, ds1, p1, q1, rfl, rfl, rfl, h1, r1⟩ := trodAll_cons r0
  obtain ⟨v2, vs2, d2, ds2, p2, q2, rfl, rfl, rfl, h2, r2⟩ := trodAll_cons r1
  obtain ⟨rfl, rfl, rfl⟩ := trodAll_nil r2
  obtain rfl : args = #[v0, v1, v2] := by cases args; simp_all
  obtain ⟨rfl, rfl⟩ := trodVars_none hV
  obtain ⟨a0, rfl, rfl, rfl, w0⟩ := open_int Try.underlying22 (hval 0 22 v0 rfl rfl) h0
  obtain ⟨a1, rfl, rfl, rfl, w1⟩ := open_int Try.underlying23 (hval 1 23 v1 rfl rfl) h1
  obtain ⟨a2, len2, cap2, rfl⟩ := okWide_slice Try.underlying24 (hval 2 24 v2 rfl rfl)
  have k2 := h2
  have lt2 : ∀ x ∈ p2, x.block < W.heap.size := by obtain ⟨m, hm⟩ := k2; exact DataW.trod_lt m _ _ _ hm
  obtain ⟨o2, w2⟩ : ∃ os, VopsAt W a2 len2 cap2 os := by
    obtain ⟨fuel, hf⟩ := h2
    exact vopsAt_of hf
  clear hA0 hval0
  refine (walk a0 a1 a2 len2 cap2 o2 W w0 w1 w2).mono fun e W' ⟨he, bel⟩ => ?_
  subst he
  exact ⟨_, rfl, _, _, _, [], _, [], hW', trodAll_mk1 (shut_bool Try.underlying4 _), (trodAll_cons_mk (shut_int Try.underlying22 w0) (trodAll_cons_mk (shut_int Try.underlying23 w1) (trodAll_cons_mk (Below.trod laidOut (by kernel_rfl) (of_decide_eq_true (by kernel_rfl)) k2 bel lt2) trodAll_mk0))), rfl, bel.frame _, fun h => by cases h⟩

theorem over : Rows.versionGoesRow.holds Try.pinned (OpenSpec.ofChange Rows.versionGoesSpec) :=
  OpenClaim.holds_of_wide 3 Try.f3 rfl rfl rfl rfl rfl rfl rfl ⟨rfl, rfl, rfl, rfl, rfl⟩ rfl rfl rfl rfl rfl (by kernel_rfl) Try.func3 (by kernel_rfl)
    (of_decide_eq_true (by kernel_rfl)) (by unfold Func.isWrapper; first | (rw [if_pos (by decide +kernel)]; kernel_rfl) | (rw [if_neg (by decide +kernel)]; exact ⟨rfl, rfl⟩))
    (fun os started H enc _ => lifted os started H enc)

end Go.Proofs.Ytakifnlfgaedjaa.versionGoes

namespace Go.Proofs.Ytakifnlfgaedjaa
/-- The statement. -/
theorem versionGoes_proved : Rows.VersionGoesSaid := versionGoes.over
#print axioms versionGoes_proved
end Go.Proofs.Ytakifnlfgaedjaa
