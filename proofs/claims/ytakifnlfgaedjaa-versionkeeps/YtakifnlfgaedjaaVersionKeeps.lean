/- Proved: VersionKeeps holds of every input: the root that an open snapshot sees is kept, and what it sees does not change; no condition. -/
import Derived.Test.YtakifnlfgaedjaaVMap
import Derived.Test.YtakifnlfgaedjaaVOps
import Derived.Deep.RegionHeld3
import Derived.BigQuiet
import Derived.Deep.QuietTactic
import Derived.WalkSmall
import Derived.ProofKit
import Derived.OpenShut
import Derived.ShutString
import Derived.ChangeOld
import Derived.Below
import Derived.Carry
import Derived.Deep.CutRange
import Derived.Deep.CutBlock
namespace Go.Proofs.Ytakifnlfgaedjaa.versionKeeps
open Go.ChangeShapes Go.WideShapes Go.ChangeAt Go.RowKit Go.Maps
open Go.ChangeMaps (open_string shut_string)
set_option linter.unusedVariables false
set_option linter.unusedSimpArgs false

theorem own : ownKnob Try.prog.godebug = none := by kernel_rfl
theorem laidOut : laidOutB Try.prog = true := by kernel_rfl

set_option maxRecDepth 100000 in
set_option maxHeartbeats 8000000 in
theorem walk (a : Option Addr) (len cap : Nat) (os : List VopV) (w : World) (ho : VopsAt w a len cap os) :
    Calls Try.prog 4 #[.slice a len cap] w fun e w' => e = .returned (.bool true) ∧ Below w.heap.size w w' := by
  have hlc := ho.2.1
  have hcm := ho.2.2.1
  unfold maxLen at hcm
  have HO : Hid (VopsAt w a len cap os) := ho
  clear ho
  have cl := live_any w
  have hmm := @run_makeMap Try.prog
  go_enter Try.func4, Try.ntmps4
  go_wp2_with fail
  refine cl.mono ?_
  rintro e w1 ⟨rfl, hb1⟩
  clear cl
  have cn := new_in w w1 w.heap.size hb1 hb1.size 1 0
  unfold ptrR at cn
  go_wp2_with fail
  refine cn.mono ?_
  rintro e w2 ⟨p, rfl, h2, _⟩
  clear cn hb1
  by_cases hmany : 150 < len
  · have hmI : (150 : Int) < len := by omega
    have hB := h2.bel
    clear h2
    go_wp2
    go_ret
    exact ⟨rfl, hB⟩
  have hmI : ¬ (150 : Int) < len := by omega
  have hl150 : len ≤ 150 := by omega
  clear hmany
  obtain ⟨w3, hw3⟩ : ∃ w3, w2.alloc (.map #[] 0) = w3 := ⟨_, rfl⟩
  obtain ⟨w4, hw4⟩ : ∃ w4, w3.alloc (.map #[] 0) = w4 := ⟨_, rfl⟩
  obtain ⟨bs, hbs⟩ : ∃ bs, w2.heap.size = bs := ⟨_, rfl⟩
  obtain ⟨ba, hba⟩ : ∃ ba, w3.heap.size = ba := ⟨_, rfl⟩
  have hB3 : Below w2.heap.size w2 w3 := by rw [← hw3]; exact (Below.refl _ w2).alloc (Nat.le_refl _) _
  have hB4 : Below w3.heap.size w3 w4 := by rw [← hw4]; exact (Below.refl _ w3).alloc (Nat.le_refl _) _
  have hs3 : w3.heap.size = w2.heap.size + 1 := by rw [← hw3]; simp
  have ho3 : w3.ownsMap Try.prog 3 (plainElem (H := Unit) Try.prog 22) bs 0 (.map []) := by rw [← hw3, ← hbs]; exact World.ownsMap_made _ _ _ _
  have ho4 : w4.ownsMap Try.prog 3 (plainElem (H := Unit) Try.prog 23) ba 0 (.map []) := by rw [← hw4, ← hba]; exact World.ownsMap_made _ _ _ _
  have hlo : w.heap.size ≤ bs ∧ w.heap.size ≤ ba ∧ bs ≠ ba := by have := h2.sz; omega
  have HLO : Hid (w.heap.size ≤ bs ∧ w.heap.size ≤ ba ∧ bs ≠ ba) := hlo
  have H4 : Hid (KpAt w w4 p bs ba 0 (newR 1 0)) := by
    refine ⟨(h2.below hB3).below hB4, ⟨new_ok _ _, Nat.le_refl _, ⟨Int.le_refl _, by decide⟩, ⟨by decide, by decide⟩, (fun x hx => by cases hx), List.Pairwise.nil⟩, ?_, ⟨_, ho4, fun x hx => by cases hx⟩⟩
    refine SeenAt.keep (w := w3) ⟨_, ho3, (fun kl h => by cases h), (fun x hx => by cases hx)⟩ (hB4.block _ (by rw [← hbs]; omega))
  clear h2 hB3 hB4 hs3 ho3 ho4 hlo
  go_wp2_with fail
  (try rw [hw3])
  (try rw [hw4])
  (try rw [hbs])
  (try rw [hba])
  clear hw3 hw4 hbs hba
  go_loopw [9, 10, 11, 12, 13, 14, 15, 16, 17, 19, 20, 21, 22, 23, 24, 25, 26, 27, 46] (fun _ _ _ _ _ _ _ _ _ _ _ _ _ _ _ _ _ _ t wr => ∃ (k : Nat) (s : Rg), k ≤ len ∧ t = .int .i64 k ∧ Hid (KpAt w wr p bs ba k s)) (fun _ _ _ _ _ _ _ _ _ _ _ _ _ _ _ _ _ _ t _ => len - (intOf t).toNat)
  case atStart => exact ⟨0, newR 1 0, Nat.zero_le _, rfl, H4⟩
  case round =>
    clear H4
    obtain ⟨k, s, hk, rfl, HK⟩ := hrel
    by_cases hlt : k < len
    · have hltI : (k : Int) < len := by omega
      obtain ⟨b, off, o, rfl, hoo, hoa⟩ := vop_at HO.out HK.out.rg.bel k hlt
      have c0 := hoa.c0
      have c1 := hoa.c1
      have c2 := hoa.c2
      have a1 := hoo.a1
      have a2 := hoo.a2
      clear hoa hoo
      obtain ⟨f0, f1, f2⟩ := o
      dsimp only at *
      obtain ⟨wq, hwq⟩ : ∃ wq, wr.alloc (.cells #[.int .i64 f0, .int .i64 f1, .int .u32 f2] 31) = wq := ⟨_, rfl⟩
      have hbq : Below wr.heap.size wr wq := by rw [← hwq]; exact (Below.refl _ wr).alloc (Nat.le_refl _) _
      have hrow : wq.heap[wr.heap.size]? = some (.cells #[.int .i64 f0, .int .i64 f1, .int .u32 f2] 31 (0, 0)) := by rw [← hwq]; exact heap_alloc_new wr _
      have HQ : Hid (KpAt w wq p bs ba k s) := HK.out.below hbq
      have HROW : Hid _ := hrow
      have q0 : wq.cell? ⟨wr.heap.size, 0, none⟩ = some (.int .i64 f0) := by rw [cell_of_row _ _ 0 _ _ (0, 0) hrow]; rfl
      have q1 : wq.cell? ⟨wr.heap.size, 1, none⟩ = some (.int .i64 f1) := by rw [cell_of_row _ _ 1 _ _ (0, 0) hrow]; rfl
      clear hrow hbq HK
      go_upto_block 2 with fail
      (try rw [hwq])
      clear c0 c1 c2 hwq
      go_cut [9, 10, 11, 12, 13, 14, 15, 16] from 47 to 168 (fun _ _ _ _ _ _ _ _ wx => ∃ s' : Rg, Hid (KpAt w wx p bs ba (k + 1) s'))
      case first =>
        have hlo := HLO.out
        have hk1000 : k < 1000 := by omega
        by_cases hf00 : f0 = 0
        · subst hf00
          have co := open_in HQ.out.rg HQ.out.ok.ok
          unfold ptrR at co
          have hl1 : ((s.last + 1 : Nat) : Int) = (s.last : Int) + 1 := by omega
          rw [hl1] at co
          clear q1 a1 a2
          go_wp2_with fail
          refine co.mono ?_
          rintro e w5 ⟨rfl, h5, k5⟩
          clear co q0
          have se5 := HQ.out.seen.keepO k5
          have ve5 := HQ.out.vers.keepO k5
          have hm := HQ.out.ok.ok.most
          have hmo := HQ.out.ok.most
          have hno : hasR s ((s.last : Int) + 1) = false := hasR_no (fun x hx => by have := HQ.out.ok.ok.ids x hx; omega)
          obtain ⟨c, hlk⟩ := seen_look se5 (i := (s.last : Int) + 1) (by omega) (by omega)
          rw [hno] at hlk
          obtain ⟨w6, hp6, se6, g6⟩ := seen_put se5 HQ.out.ok.ok hk1000 HQ.out.ok.rt
          obtain ⟨w7, hp7, ve7, g7⟩ := vers_put (ve5.keep (g6.block ba ve5.lt (by simp; exact fun e => hlo.2.2 e.symm))) HQ.out.ok.ok hk1000 ⟨HQ.out.ok.v0.1, by have := HQ.out.ok.v0; omega⟩
          have r6 := h5.map se5.map hlo.1 (sole_grown g6)
          have r7 := r6.map (VersAt.map (ve5.keep (g6.block ba ve5.lt (by simp; exact fun e => hlo.2.2 e.symm)))) hlo.2.1 (sole_grown g7)
          have HF : Hid (KpAt w w7 p bs ba (k + 1) (openR s)) := ⟨r7, k_open HQ.out.ok (by omega), se6.keep (g7.block bs se6.lt (by simp; exact hlo.2.2)), ve7⟩
          obtain ⟨rt, hrt⟩ : ∃ rt, s.t.root = rt := ⟨_, rfl⟩
          obtain ⟨vr, hvr⟩ : ∃ vr, s.t.ver = vr := ⟨_, rfl⟩
          rw [hrt] at hp6 ⊢
          rw [hvr] at hp7 ⊢
          clear se5 ve5 se6 ve7 g6 g7 r6 r7 h5 k5 hno hrt hvr hmm
          go_wp2
          go_meet
          exact ⟨openR s, HF⟩
        by_cases hf01 : f0 = 1
        · subst hf01
          have co := close_in HQ.out.rg HQ.out.ok.ok f1
          unfold ptrR at co
          go_wp2_with fail
          refine co.mono ?_
          rintro e w5 ⟨rfl, h5, k5⟩
          clear co q0
          have se5 := HQ.out.seen.keepO k5
          have ve5 := HQ.out.vers.keepO k5
          have row5 := k5 _ _ HROW.out (fun cs fr => ⟨by simp, by simp⟩)
          have q51 : w5.cell? ⟨wr.heap.size, 1, none⟩ = some (.int .i64 f1) := by rw [cell_of_row _ _ 1 _ _ (0, 0) row5]; rfl
          obtain ⟨c, hlk⟩ := seen_look se5 a1.1 a1.2
          have hne := closeE_has s f1
          obtain ⟨E, hE⟩ : ∃ E, closeE s f1 = E := ⟨_, rfl⟩
          obtain ⟨Hh, hHh⟩ : ∃ Hh, hasR s f1 = Hh := ⟨_, rfl⟩
          rw [hE, hHh] at hne
          rw [hHh] at hlk
          rw [hE]
          have SE5 : Hid (SeenAt w5 bs k s) := se5
          obtain ⟨D, ho5, h52, h53⟩ := se5
          have HD5 : Hid _ := h52
          have HD6 : Hid _ := h53
          have R5 : Hid (RgIn w.heap.size w w5 p (closeR s f1)) := h5
          have V5 : Hid (VersAt w5 ba k s) := ve5
          clear h52 h53 h5 ve5 hE hHh k5 row5 q1 hmm
          cases hEb : (E == 0) with
          | true =>
            rw [hEb] at hne
            have hHt : Hh = true := by cases Hh <;> simp at hne ⊢
            subst hHt
            have hE0 : E = 0 := by simpa using hEb
            subst hE0
            clear hne hEb
            obtain ⟨w6, hdl, ho6, ht6⟩ := ho5.drop lawI Try.underlying45 (key_i a1.1 a1.2) 0
            go_wp2
            go_meet
            have g6 := ht6.grown
            exact ⟨closeR s f1, R5.out.map SE5.out.map hlo.1 (sole_grown g6), k_close HQ.out.ok f1, (seen_del (w := w5) f1 HD5.out HD6.out ho6).mono (by omega), (vers_close (V5.out.keep (g6.block ba V5.out.lt (by simp; exact fun e => hlo.2.2 e.symm))) f1).mono (by omega)⟩
          | false =>
            rw [hEb] at hne
            have hHt : Hh = false := by cases Hh <;> simp at hne ⊢
            subst hHt
            have hE0 : ¬ E = 0 := by simpa using hEb
            clear hne
            obtain ⟨w6, hdl, ho6, ht6⟩ := ho5.drop lawI Try.underlying45 (key_i a1.1 a1.2) 0
            go_wp2
            go_meet
            have g6 := ht6.grown
            exact ⟨closeR s f1, R5.out.map SE5.out.map hlo.1 (sole_grown g6), k_close HQ.out.ok f1, (seen_del (w := w5) f1 HD5.out HD6.out ho6).mono (by omega), (vers_close (V5.out.keep (g6.block ba V5.out.lt (by simp; exact fun e => hlo.2.2 e.symm))) f1).mono (by omega)⟩
        by_cases hf02 : f0 = 2
        · subst hf02
          have cn := next_in (HQ.out.rg.drewN 1) f2 (plN f1)
          unfold ptrR at cn
          have hS0 : ∀ W : World, W.heap[wr.heap.size]? = some (.cells #[.int .i64 2, .int .i64 f1, .int .u32 f2] 31 (0, 0)) → W.cell? ⟨wr.heap.size, 1, none⟩ = some (.int .i64 f1) := fun W hW => by rw [cell_of_row _ _ 1 _ _ (0, 0) hW]; rfl
          have hS1 : ∀ W : World, W.heap[wr.heap.size]? = some (.cells #[.int .i64 2, .int .i64 f1, .int .u32 f2] 31 (0, 0)) → W.cell? ⟨wr.heap.size, 2, none⟩ = some (.int .u32 f2) := fun W hW => by rw [cell_of_row _ _ 2 _ _ (0, 0) hW]; rfl
          clear q1 hmm
          go_wp2_with fail
          refine wp_region_noPanic ?_
          refine wp_region_held_drew (S := fun W : World => W.heap[wr.heap.size]? = some (.cells #[.int .i64 2, .int .i64 f1, .int .u32 f2] 31 (0, 0))) (by kernel_rfl) HROW.out (fun hHeld => ?_)
          refine wpAnyH_take (i := 0) (v := .pointer (some ⟨p, 0, none⟩)) rfl (by kernel_rfl) (by kernel_rfl) (by kernel_rfl) (fun _ _ _ h => h) (Or.inl ⟨by rfl, fun W hSw => by (try dsimp only at hSw); go_simp⟩) (by assumption) ?_
          simp only [List.getElem_toArray, List.getElem_cons_zero, List.getElem_cons_succ, Act.put, List.setIfInBounds_toArray, List.set_cons_zero, List.set_cons_succ]
          refine wpAnyH_take (i := 1) (v := .pointer (some ⟨wr.heap.size, 2, none⟩)) rfl (by kernel_rfl) (by kernel_rfl) (by kernel_rfl) (fun _ _ _ h => h) (Or.inl ⟨by rfl, fun W hSw => by (try dsimp only at hSw); go_simp⟩) (by assumption) ?_
          simp only [List.getElem_toArray, List.getElem_cons_zero, List.getElem_cons_succ, Act.put, List.setIfInBounds_toArray, List.set_cons_zero, List.set_cons_succ]
          refine wpAnyH_take (i := 2) (v := .int .u32 f2) rfl (by kernel_rfl) (by kernel_rfl) (by kernel_rfl) (fun _ _ _ h => h) (Or.inl ⟨by rfl, fun W hSw => by (try dsimp only at hSw); go_simp⟩) (by assumption) ?_
          simp only [List.getElem_toArray, List.getElem_cons_zero, List.getElem_cons_succ, Act.put, List.setIfInBounds_toArray, List.set_cons_zero, List.set_cons_succ]
          refine wpAnyH_take (i := 3) (v := .pointer (some ⟨wr.heap.size, 1, none⟩)) rfl (by kernel_rfl) (by kernel_rfl) (by kernel_rfl) (fun _ _ _ h => h) (Or.inl ⟨by rfl, fun W hSw => by (try dsimp only at hSw); go_simp⟩) (by assumption) ?_
          simp only [List.getElem_toArray, List.getElem_cons_zero, List.getElem_cons_succ, Act.put, List.setIfInBounds_toArray, List.set_cons_zero, List.set_cons_succ]
          refine wpAnyH_take (i := 4) (v := .int .i64 f1) rfl (by kernel_rfl) (by kernel_rfl) (by kernel_rfl) (fun _ _ _ h => h) (Or.inl ⟨by rfl, fun W hSw => by (try dsimp only at hSw); go_simp⟩) (by assumption) ?_
          simp only [List.getElem_toArray, List.getElem_cons_zero, List.getElem_cons_succ, Act.put, List.setIfInBounds_toArray, List.set_cons_zero, List.set_cons_succ]
          refine wpAnyH_ready (rs := [5]) (by kernel_rfl) (by simp) ?_
          refine AllReadyH.cons rfl (fun K hK => ?_) AllReadyH.nil
          go_simp
          go_wp2_with (go_at_call 15; refine (places_any _ _).mono ?_; rintro e5 w5 ⟨rfl, rfl⟩)
          refine hK.out _ _ (by assumption) (fun hHeld2 => ?_)
          clear hK K
          try simp only [List.getElem_toArray, List.getElem_cons_zero, List.getElem_cons_succ, Act.put, List.setIfInBounds_toArray, List.set_cons_zero, List.set_cons_succ]
          refine wpAnyH_ready (rs := [6]) (by kernel_rfl) (by simp) ?_
          refine AllReadyH.cons rfl (fun K hK => ?_) AllReadyH.nil
          go_simp
          go_wp2_with (go_at_call 14; refine cn.mono ?_; rintro e6 w6 ⟨rfl, h6, k6⟩)
          refine hK.out _ _ (k6 _ _ HROW.out (fun cs fr => ⟨by simp, by simp⟩)) (fun hHeld3 => ?_)
          clear hK K
          refine wpAnyH_done (by kernel_rfl) ?_ _
          refine NoPanic.normal ?_
          have kk6 : KeepO wq w6 := (KeepO.drewN wq 1).trans k6
          have HF : Hid (KpAt w w6 p bs ba (k + 1) (nextR s f2 (plN f1))) := ⟨h6, k_next HQ.out.ok (by omega) f2 (plN f1) a2, (seen_next (HQ.out.seen.keepO kk6) _ _).mono (by omega), (vers_next (HQ.out.vers.keepO kk6) _ _).mono (by omega)⟩
          clear h6 k6 kk6 cn hS0 hS1 hHeld hHeld2 hHeld3 q0
          go_wp2
          go_meet
          exact ⟨_, HF⟩
        by_cases hf03 : f0 = 3
        · subst hf03
          have co := settle_in HQ.out.rg HQ.out.ok.ok
          unfold ptrR at co
          clear q1 hmm
          go_wp2_with fail
          refine co.mono ?_
          rintro e w5 ⟨rfl, h5, k5⟩
          clear co q0
          have HF : Hid (KpAt w w5 p bs ba (k + 1) (settleR s)) := ⟨h5, k_settle HQ.out.ok, SeenAt.mono (HQ.out.seen.keepO k5) (by omega), VersAt.mono (HQ.out.vers.keepO k5) (by omega)⟩
          clear h5 k5
          go_wp2
          go_meet
          exact ⟨_, HF⟩
        · have HF : Hid (KpAt w wq p bs ba (k + 1) s) := ⟨HQ.out.rg, k_mono HQ.out.ok, HQ.out.seen.mono (by omega), HQ.out.vers.mono (by omega)⟩
          clear q1 hmm
          go_wp2
          go_meet
          exact ⟨_, HF⟩
      case rest =>
        clear HQ HROW q0 q1 a1 a2
        obtain ⟨s, HX⟩ := hcut
        obtain ⟨wx, hwx⟩ : ∃ wx, wx = wc := ⟨_, rfl⟩
        subst hwx
        have hlo := HLO.out
        obtain ⟨wy, hwy⟩ : ∃ wy, wx.alloc (.map #[] 0) = wy := ⟨_, rfl⟩
        obtain ⟨bk, hbk⟩ : ∃ bk, wx.heap.size = bk := ⟨_, rfl⟩
        have hBy : Below wx.heap.size wx wy := by rw [← hwy]; exact (Below.refl _ wx).alloc (Nat.le_refl _) _
        have hoy : wy.ownsMap Try.prog 22 (plainElem (H := Unit) Try.prog 4) bk 0 (.map []) := by rw [← hwy, ← hbk]; exact World.ownsMap_made _ _ _ _
        have hsy : wy.heap.size = bk + 1 := by rw [← hwy, ← hbk]; simp
        have HOY : Hid (RootsAt wy bk 0 []) := ⟨_, hoy, fun v hv => by cases hv⟩
        have ck := kept_in (HX.out.below hBy).rg HX.out.ok.ok
        unfold ptrR at ck
        have HSY : Hid (wy.heap.size = bk + 1) := hsy
        have HBK : Hid (wx.heap.size = bk) := hbk
        clear hoy hsy
        go_wp2_with fail
        refine ck.mono ?_
        rintro e wz ⟨g, cp, l, rfl, hl1, hl2, hlc2, hcm2, hgb, hh, hkept, hrz, hbz⟩
        clear ck hwy hbk hmm
        unfold maxLen at hcm2
        have hBz : Below wx.heap.size wx wz := thenB hBy hbz
        have HBz : Hid (Below wx.heap.size wx wz) := hBz
        have HRZ : Hid (RootsAt wz bk 0 []) := HOY.out.keep (hbz.block bk HOY.out.lt)
        have HH : Hid (HoldU wz g l.toArray) := hh
        have HKE : Hid (KeptOf s l) := hkept
        have hgk : g ≠ bk := by have := HSY.out; omega
        have hlu : ∀ v ∈ l, 0 ≤ v ∧ v ≤ 4294967295 := fun v hv => by
          rcases (hkept.mem v).1 hv with e | ⟨x, hx, e⟩
          · rw [e]; exact HX.out.ok.rt
          · rw [← e]; exact (HX.out.ok.each x hx).1
        have HLU : Hid _ := hlu
        obtain ⟨n, hn⟩ : ∃ n, l.length = n := ⟨_, rfl⟩
        rw [hn] at hl1 hl2 hlc2 ⊢
        have HN : Hid (l.length = n) := hn
        clear hh hkept hrz hbz hBy hBz hlu hn HOY hgb
        go_wp2
        go_loopw [19, 110] (fun _ t wr => ∃ j : Nat, j ≤ n ∧ t = .int .i64 j ∧ Hid (RootsAt wr bk j (l.take j)) ∧ Hid (HoldU wr g l.toArray) ∧ Hid (Below wx.heap.size wx wr)) (fun _ t _ => n - (intOf t).toNat)
        case atStart => exact ⟨0, Nat.zero_le _, rfl, HRZ, HH, HBz⟩
        case round =>
          clear HRZ HH HBz
          obtain ⟨j, hj, rfl, HR2, HH2, HB2⟩ := hrel
          by_cases hjn : j < n
          · have hjI : (j : Int) < n := by omega
            have hN := HN.out
            have hlj : l[j]? = some (l.getD j 0) := by rw [List.getElem?_eq_getElem (by omega), List.getD_eq_getElem?_getD, List.getElem?_eq_getElem (by omega)]; rfl
            have cj := HH2.out.cell j (by simp; omega)
            have hgj : l.toArray[j]! = l.getD j 0 := by
              rw [getElem!_pos _ j (by simp; omega), List.getD_eq_getElem?_getD, List.getElem?_eq_getElem (by omega)]
              simp
            rw [hgj] at cj
            have hv := HLU.out _ (List.mem_of_getElem? hlj)
            obtain ⟨w7, hp7, r7, g7⟩ := roots_put HR2.out (by omega) hv.1 hv.2
            have HR7 : Hid (RootsAt w7 bk (j + 1) (l.take (j + 1))) := by unfold Hid; rw [List.take_add_one, hlj]; exact r7
            have HH7 : Hid (HoldU w7 g l.toArray) := HH2.out.other (sole_grown g7) (by simpa using hgk)
            have HB7 : Hid (Below wx.heap.size wx w7) := (sole_grown g7).belowOf HB2.out HB2.out.size (by have := HBK.out; simp; omega)
            generalize l.getD j 0 = v at *
            clear r7 g7 hlj hgj hN
            go_wp2
            go_roundw
            case rel => exact ⟨j + 1, by omega, by go_num, HR7, HH7, HB7⟩
            case measure => simp [intOf]; omega
          · obtain rfl : j = n := by omega
            have hjI : ¬ (j : Int) < j := by omega
            obtain ⟨wv, hwv⟩ : ∃ wv, wv = wr := ⟨_, rfl⟩
            subst hwv
            have hT : l.take j = l := List.take_of_length_le (by have := HN.out; omega)
            rw [hT] at HR2
            have HV : Hid (KpAt w wv p bs ba (k + 1) s) := HX.out.below HB2.out
            have ct := trunk_in HV.out.rg
            unfold ptrR at ct
            clear HH2 HB2 hT HX
            go_wp2_with fail
            refine ct.mono ?_
            rintro e wu ⟨rfl, hru, hbu⟩
            clear ct
            have HU : Hid (KpAt w wu p bs ba (k + 1) s) := HV.out.below hbu
            have HRU : Hid (RootsAt wu bk j l) := HR2.out.keep (hbu.block bk HR2.out.lt)
            have hlk := roots_look HRU.out ((HKE.out.mem s.t.root).2 (.inl rfl)) HU.out.ok.rt.1 HU.out.ok.rt.2
            obtain ⟨D, hoD, hD1, hD2⟩ := HU.out.seen
            obtain ⟨wt, hrg, hrg0, hg0, hs0⟩ := hoD.range lawI Try.underlying45
            obtain ⟨r, hr⟩ : ∃ r, wu.heap.size = r := ⟨_, rfl⟩
            rw [hr] at hrg hrg0 hs0
            have HD1 : Hid _ := hD1
            have HD2 : Hid _ := hD2
            have HBt : Hid (Below wu.heap.size wu wt) := ⟨hg0.os, hg0.tape, hg0.output, hg0.size, fun q hq => hg0.block q hq (by simp)⟩
            obtain ⟨V, hV⟩ : ∃ V, s.t.ver = V := ⟨_, rfl⟩
            obtain ⟨rt, hrt⟩ : ∃ rt, s.t.root = rt := ⟨_, rfl⟩
            rw [hV, hrt]
            rw [hrt] at hlk
            have HVV : Hid (s.t.ver = V) := hV
            have HRG : Hid _ := hrg0
            have HRR : Hid (wu.heap.size = r) := hr
            clear hru hbu hoD hD1 hD2 hrg0 hg0 hs0 hV hrt HV HR2 hr
            go_wp2
            (try go_frame)
            go_loopw [22, 23, 24, 25, 26, 27] (fun s22 _ _ _ _ _ wr => ∃ (le : Int) (left : Lit → Bool) (cnt : Nat), s22 = .int .u64 le ∧ Hid (wr.ranges Try.prog 3 (plainElem Try.prog 22) bs r (k + 1) D left cnt) ∧ Hid (∀ kl, left kl = true → Maps.has D kl = true) ∧ Hid (le ≤ V ∧ (∀ x ∈ s.opn, left (ilit x.id) = false → le ≤ x.t.ver) ∧ (le = V ∨ ∃ x ∈ s.opn, le = x.t.ver)) ∧ Hid (Below wu.heap.size wu wr)) (fun _ _ _ _ _ _ wr => wr.rangeLeft bs r)
            case atStart => exact ⟨V, _, _, rfl, HRG, fun _ h => h, ⟨Int.le_refl _, (fun x hx h => by rw [(HD2.out x hx).1] at h; cases h), .inl rfl⟩, HBt⟩
            case round =>
              clear HRG HBt hrg hlk
              obtain ⟨le, left, cnt, rfl, HR3, HLF, HLE, HB3⟩ := hrel
              obtain ⟨wy3, hwy3⟩ : ∃ wy3, wy3 = wr := ⟨_, rfl⟩
              subst hwy3
              have hrg3 := HR3.out
              go_wp2_with (first
                | (at_next; refine wpList_next_ranges_ii _ rfl _ rfl 3 22 .i64 .u32 lawI Try.underlying3 Try.underlying22 bs r (k + 1) _ _ _ rfl hrg3 ?_ ?_)
                | fail)
              · intro hc0 hl0
                have HY : Hid (KpAt w wy3 p bs ba (k + 1) s) := HU.out.below HB3.out
                have ch := horizon_in HY.out.rg HY.out.ok.ok
                unfold ptrR at ch
                rw [HY.out.ok.least le (by rw [HVV.out]; exact HLE.out.1) (fun x hx => HLE.out.2.1 x hx (hl0 _)) (by rw [HVV.out]; exact HLE.out.2.2)] at ch
                clear hrg3 HR3 hl0 hc0
                go_wp2_with fail
                refine ch.mono ?_
                rintro e w9 ⟨rfl, h9, hb9⟩
                clear ch
                have H9 : Hid (KpAt w w9 p bs ba (k + 1) s) := HY.out.below hb9
                clear h9 hb9
                go_wp2_with fail
                go_roundw
                case rel => exact ⟨k + 1, s, by omega, by go_num, H9⟩
                case measure => simp [intOf]; omega
              · intro x c w5 cnt1 hwx hwc hlx hat1 hrg1 hlt1 hg1 hs1 hen
                obtain ⟨y, hy, ey⟩ := HD1.out _ (HLF.out _ hlx)
                unfold ilit at ey
                simp only [Lit.int.injEq, true_and] at ey
                subst ey
                have hc : c = y.t.root := by
                  have h1 := hat1 (.lit (.int .u32 0))
                  have h2 := (HD2.out y hy).2 (.lit (.int .u32 0))
                  unfold ilit at h2
                  rw [h1] at h2
                  simpa using h2
                subst hc
                have hB5 : Below wu.heap.size wu w5 := (sole_grown hg1).belowOf HB3.out HB3.out.size (by have := HRR.out; simp; omega)
                have H5 : Hid (KpAt w w5 p bs ba (k + 1) s) := HU.out.below hB5
                have cs := snapshot_in H5.out.rg H5.out.ok.ok y.id
                unfold ptrR at cs
                obtain ⟨i, hi⟩ := List.mem_iff_getElem?.1 hy
                rw [sees_yes H5.out.ok.ok.rise hi rfl] at cs
                unfold snapV at cs
                dsimp only at cs
                have HYM : Hid (y ∈ s.opn) := hy
                have HRG1 : Hid _ := hrg1
                have HB5 : Hid (Below wu.heap.size wu w5) := hB5
                clear hy hi hB5 hwx hwc hat1 hrg1 hg1 hs1
                go_wp2_with fail
                refine cs.mono ?_
                rintro e w6 ⟨rfl, h6, hb6⟩
                clear cs hen
                have HB6 : Hid (Below wu.heap.size wu w6) := HB5.out.trans (hb6.mono HB5.out.size)
                have H6 : Hid (KpAt w w6 p bs ba (k + 1) s) := HU.out.below HB6.out
                have HRG6 : Hid (w6.ranges Try.prog 3 (plainElem Try.prog 22) bs r (k + 1) D (fun z => left z && !z.sameKey (.int .i64 y.id)) cnt1) := World.ranges.kept (row := none) HRG1.out ⟨hb6.os, hb6.tape, hb6.output, hb6.size, fun q hq _ => hb6.block q hq⟩ (by simp) (by simp)
                have hvl := vers_look H6.out.vers H6.out.ok.ok HYM.out
                have hrl := roots_look (HRU.out.keep (HB6.out.block bk HRU.out.lt)) ((HKE.out.mem y.t.root).2 (.inr ⟨y, HYM.out, rfl⟩)) (H6.out.ok.each y HYM.out).1.1 (H6.out.ok.each y HYM.out).1.2
                obtain ⟨yv, hyv⟩ : ∃ yv, y.t.ver = yv := ⟨_, rfl⟩
                obtain ⟨yr, hyr⟩ : ∃ yr, y.t.root = yr := ⟨_, rfl⟩
                rw [hyv] at hvl
                rw [hyr] at hrl
                rw [hyv, hyr]
                have HYV : Hid (y.t.ver = yv) := hyv
                have HLT : Hid (cnt1 < cnt) := hlt1
                clear h6 hb6 hyv hyr hlt1
                go_wp2_with fail
                go_roundw
                case rel =>
                  refine ⟨min le yv, _, cnt1, rfl, HRG6, fun kl hkl => HLF.out kl (by simp only [Bool.and_eq_true] at hkl; exact hkl.1), ⟨?_, fun x hx hf => ?_, ?_⟩, HB6⟩
                  · have := HLE.out.1; omega
                  · by_cases e : x.id = y.id
                    · have hxy : x.t.ver = yv := by
                        have hr := H6.out.ok.ok.rise
                        obtain ⟨i1, e1⟩ := List.mem_iff_getElem?.1 hx
                        obtain ⟨i2, e2⟩ := List.mem_iff_getElem?.1 HYM.out
                        have q1 := sees_yes (s := s) hr e1 (id := (y.id : Int)) (by omega)
                        have q2 := sees_yes (s := s) hr e2 (id := (y.id : Int)) rfl
                        rw [q1] at q2
                        simp only [Option.some.injEq] at q2
                        rw [q2]; exact HYV.out
                      omega
                    · have : left (ilit x.id) = false := by
                        cases hq : left (ilit x.id) with
                        | false => rfl
                        | true =>
                          rw [hq] at hf
                          have hsk : (ilit x.id).sameKey (.int .i64 y.id) = false := by
                            unfold ilit Lit.sameKey
                            simp
                            omega
                          rw [hsk] at hf
                          cases hf
                      have := HLE.out.2.1 x hx this
                      omega
                  · rcases HLE.out.2.2 with e | ⟨x, hx, e⟩
                    · by_cases q : le ≤ yv
                      · left; omega
                      · right; exact ⟨y, HYM.out, by rw [HYV.out]; omega⟩
                    · by_cases q : le ≤ yv
                      · right; exact ⟨x, hx, by omega⟩
                      · right; exact ⟨y, HYM.out, by rw [HYV.out]; omega⟩
                case measure => rw [HRG6.out.left_eq, HR3.out.left_eq]; exact HLT.out
    · obtain rfl : k = len := by omega
      have hltI : ¬ (k : Int) < k := by omega
      have hB := HK.out.rg.bel
      clear HK
      go_wp2
      go_ret
      exact ⟨rfl, hB⟩

/-! ### The row -/
set_option maxRecDepth 100000 in
theorem lifted (os : Os) (started : os.Started) (H : Type) (enc : TypeId × Value → H) :
    ReturnsInHanded {} Try.checked os 4 .any (Rows.versionKeepsSpec.pre6 enc Try.prog Try.f4 Rows.versionKeepsRow.domain false) (Rows.versionKeepsSpec.post enc Try.prog Try.f4 false true false false) := by
  refine returnsInHanded_of_change (C := Try.checked) own started (by kernel_rfl) Try.func4
    (ChangeSpec.witness6 (enc := enc) (C := Try.checked) false ⟨#[], #[.slice none 0 0], []⟩ 8 (by kernel_rfl) (by kernel_rfl) (by kernel_rfl) (by kernel_rfl)) ?_
  intro W base args ds gs before hval0 hW hcnd _
  have hval : ∀ (j : Nat) t v, Try.f4.params[j]? = some t → args[j]? = some v → Value.okWide Try.prog W .any base t v := hval0
  have hW' := hW
  obtain ⟨p, q, hA0, hV, rfl, hfz, hnd⟩ := hW
  have hA : DataW.TrodAll enc Try.prog W 0 (fun _ => true) true Try.f4.params.toList args.toList ds p := hA0
  rw [Try.params4] at hA hval
  obtain ⟨v0, vs0, d0, ds0, p0, q0, hargs, rfl, rfl, h0, r0⟩ := trodAll_cons hA
  obtain ⟨rfl, rfl, rfl⟩ := trodAll_nil r0
  obtain rfl : args = #[v0] := by cases args; simp_all
  obtain ⟨rfl, rfl⟩ := trodVars_none hV
  obtain ⟨a0, len0, cap0, rfl⟩ := okWide_slice Try.underlying24 (hval 0 24 v0 rfl rfl)
  have k0 := h0
  have lt0 : ∀ x ∈ p0, x.block < W.heap.size := by obtain ⟨m, hm⟩ := k0; exact DataW.trod_lt m _ _ _ hm
  obtain ⟨o0, w0⟩ : ∃ os, VopsAt W a0 len0 cap0 os := by
    obtain ⟨fuel, hf⟩ := h0
    exact vopsAt_of hf
  clear hA0 hval0
  refine (walk a0 len0 cap0 o0 W w0).mono fun e W' ⟨he, bel⟩ => ?_
  subst he
  exact ⟨_, rfl, _, _, _, [], _, [], hW', trodAll_mk1 (shut_bool Try.underlying4 _), (trodAll_cons_mk (Below.trod laidOut (by kernel_rfl) (of_decide_eq_true (by kernel_rfl)) k0 bel lt0) trodAll_mk0), rfl, bel.frame _, fun h => by cases h⟩

theorem over : Rows.versionKeepsRow.holds Try.pinned (OpenSpec.ofChange Rows.versionKeepsSpec) :=
  OpenClaim.holds_of_wide 4 Try.f4 rfl rfl rfl rfl rfl rfl rfl ⟨rfl, rfl, rfl, rfl, rfl⟩ rfl rfl rfl rfl rfl (by kernel_rfl) Try.func4 (by kernel_rfl)
    (of_decide_eq_true (by kernel_rfl)) (by unfold Func.isWrapper; first | (rw [if_pos (by decide +kernel)]; kernel_rfl) | (rw [if_neg (by decide +kernel)]; exact ⟨rfl, rfl⟩))
    (fun os started H enc _ => lifted os started H enc)

end Go.Proofs.Ytakifnlfgaedjaa.versionKeeps

namespace Go.Proofs.Ytakifnlfgaedjaa
/-- The statement. -/
theorem versionKeeps_proved : Rows.VersionKeepsSaid := versionKeeps.over
#print axioms versionKeeps_proved
end Go.Proofs.Ytakifnlfgaedjaa
