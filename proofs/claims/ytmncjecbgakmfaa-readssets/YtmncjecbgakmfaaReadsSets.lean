/- Proved: whatever is added to a set and undone (up to 100 calls), a set has just what the document says, each call answers as the document says, and what was told may be written over; the chapter's examples hold; no condition. -/
import Derived.Test.YtmncjecbgakmfaaRtSets
import Derived.Test.YtmncjecbgakmfaaRtArg
import Derived.Deep.RegionHeld3
import Derived.BigQuiet
import Derived.Deep.QuietTactic
import Derived.WalkSmall
import Derived.ProofKit
import Derived.OpenShut
import Derived.ShutString
import Derived.ChangeOld
import Derived.Below
import Derived.Carry
import Derived.Deep.CutRange
import Derived.Deep.CutBlock
import Derived.Deep.LoopGhost
namespace Go.Proofs.Ytmncjecbgakmfaa.readsSets
open Go.ChangeShapes Go.WideShapes Go.ChangeAt Go.RowKit Go.Maps
open Go.ChangeMaps (open_string shut_string)
set_option linter.unusedVariables false
set_option linter.unusedSimpArgs false

theorem own : ownKnob Try.prog.godebug = none := by kernel_rfl
theorem laidOut : laidOutB Try.prog = true := by kernel_rfl

set_option maxRecDepth 100000 in
set_option maxHeartbeats 16000000 in
theorem walk (ao : Option Addr) (no co : Nat) (lo : List Sop) (w : World) (ho : RdO w (.slice ao no co) lo) :
    Calls Try.prog 4 #[.slice ao no co] w fun e w' => e = .returned (.bool true) ∧ Below w.heap.size w w' := by
  obtain ⟨hlo, hnco, hcmo⟩ := ho.1.len
  have HO : Hid _ := ho
  have HLO : Hid (lo.length = no) := hlo
  clear ho hlo hnco hcmo
  go_enter Try.func4, Try.ntmps4
  go_wp2_with fail
  refine (live_any _).mono ?_
  rintro e w1 ⟨rfl, hb1⟩
  go_wp2_with fail
  refine (new_any _).mono ?_
  rintro e w2 ⟨rfl, hs2, hb2⟩
  have hF2 : SetF w.heap.size w w2 (w1.heap.size + 1) w1.heap.size [] [] := SetF.made hb1 hb1.size (by omega) (Nat.le_refl _) hs2 hb2
  have HB2 : Hid (Below w.heap.size w w2) := thenB hb1 hb2
  obtain ⟨P, hP⟩ : ∃ P, w1.heap.size + 1 = P := ⟨_, rfl⟩
  obtain ⟨M, hM⟩ : ∃ M, w1.heap.size = M := ⟨_, rfl⟩
  rw [hP, hM] at hF2
  rw [hP]
  clear hP hM hb1 hb2 hs2
  have HF2 : Hid (SetsAt w w2 P M none 0 0 0) := ⟨[], hF2, RdZ.nil _ _ _, Nat.le_refl _⟩
  clear hF2
  unfold ptr
  by_cases hbig : (no : Int) > 100
  · go_wp2
    go_ret
    exact ⟨rfl, HB2.out⟩
  have hno : no ≤ 100 := by omega
  clear hbig
  go_wp2
  go_loopg [5, 26] no (fun kx s5 s26 wr => ∃ (i : Nat) (ax : Option Addr) (nx cx : Nat), s26 = .int .i64 i ∧ s5 = .slice ax nx cx ∧ i ≤ no ∧ no - i ≤ kx ∧ nx ≤ cx ∧ Hid (SetsAt w wr P M ax nx cx i))
  case atStart => exact ⟨0, none, 0, 0, rfl, rfl, Nat.zero_le _, by omega, Nat.le_refl _, HF2.out⟩
  case round =>
    obtain ⟨i, ax, nx, cx, rfl, rfl, hin, hkx, hxc, HS⟩ := hrel
    by_cases hlt : i < no
    · obtain ⟨⟨D, N1, tt⟩, hx⟩ : ∃ o, lo[i]? = some o := ⟨_, List.getElem?_eq_getElem (by have := HLO.out; omega)⟩
      have hok : SopOk ⟨D, N1, tt⟩ := HO.out.2 _ (List.mem_of_getElem? hx)
      obtain ⟨L, hF, hR, hnx⟩ := HS.out
      obtain ⟨bo, oo, rfl, hld⟩ := sop_load (HO.out.1.below hF.bel) hx
      dsimp only at hld
      have HLD : Hid _ := hld
      have hbl := bel1 wr (.cells #[.int .i64 D, .int .i64 N1, .int .i64 tt.kind, .int .u32 tt.ino, .string tt.name, .int .i64 tt.lo, .int .i64 tt.hi] 34)
      have hiI : (i : Int) < (no : Int) := by omega
      have hib : (i : Int) + 1 ≤ 1000 := by omega
      have hop : OpAt (wr.alloc (.cells #[.int .i64 D, .int .i64 N1, .int .i64 tt.kind, .int .u32 tt.ino, .string tt.name, .int .i64 tt.lo, .int .i64 tt.hi] 34)) wr.heap.size ⟨D, N1, tt⟩ := OpAt.laid wr ⟨D, N1, tt⟩
      have hF5 := hF.more hbl [wr.heap.size] (fun q hq => by rw [List.mem_singleton] at hq; subst hq; exact ⟨Nat.le_refl _, hop.lt⟩)
      have hR5 := hR.below hbl
      obtain ⟨hln, _, hcm⟩ := hR.len
      obtain ⟨w5, hw5⟩ : ∃ w5, wr.alloc (.cells #[.int .i64 D, .int .i64 N1, .int .i64 tt.kind, .int .u32 tt.ino, .string tt.name, .int .i64 tt.lo, .int .i64 tt.hi] 34) = w5 := ⟨_, rfl⟩
      obtain ⟨q, hq⟩ : ∃ q, wr.heap.size = q := ⟨_, rfl⟩
      rw [hw5] at hF5 hR5 hop
      have c0 : w5.cell? ⟨wr.heap.size, 0, none⟩ = some (.int .i64 D) := hop.c0
      have c1 : w5.cell? ⟨wr.heap.size, 1, none⟩ = some (.int .i64 N1) := hop.c1
      have HN : Hid (L.length = nx ∧ nx ≤ i ∧ cx ≤ maxLen) := ⟨hln, hnx, hcm⟩
      have HOK : Hid (SopOk ⟨D, N1, tt⟩) := hok
      have hnx' : nx ≤ i := hnx
      have HF5 : Hid (SetF w.heap.size w w5 P M L ([wr.heap.size] ++ (Value.slice ax nx cx).ownBlock.toList)) := hF5
      have HR5 : Hid (RdZ 5 tcE w5 (.slice ax nx cx) L) := hR5
      have HOP : Hid (OpAt w5 wr.heap.size ⟨D, N1, tt⟩) := hop
      have HI : Hid (i ≤ no ∧ no - i ≤ gk ∧ nx ≤ cx ∧ nx ≤ i ∧ no ≤ 100 ∧ i < no) := ⟨hin, hkx, hxc, hnx, hno, hlt⟩
      clear hx hF hR hld hbl hop hF5 hR5 HS hln hcm hnx hok hq q hin hkx hxc hnx' hno hlt
      by_cases h0 : D = 0
      · subst h0
        have HT5 : Hid _ := HOP.out.loadT
        cases hm : mayB tt with
        | false =>
          have cA := (HF5.out.below (Below.refl _ w5).drew).add tt HOK.out.t (by have := HN.out; have := HI.out; omega)
          rw [ckE_no hm, addL_no hm] at cA
          unfold ptr at cA
          have cC := fun W => rck_any W tt
          rw [ckE_no hm] at cC
          go_wp2_with (first | (refine wpList_loadG rfl 34 _ rfl _ rfl _ HLD.out ?_))
          refine wp_region_noPanic ?_
          refine wp_region_held_drew (S := fun W => OpAt W wr.heap.size ⟨0, N1, tt⟩) (by kernel_rfl) ⟨HOP.out.row⟩ (fun hHeld => ?_)
          refine wpAnyH_take (i := 0) (v := .pointer (some ⟨P, 0, none⟩)) rfl (by kernel_rfl) (by kernel_rfl) (by kernel_rfl) (fun _ _ _ h => h) (Or.inl ⟨by rfl, fun W hSw => by (try dsimp only at hSw); go_simp⟩) (by assumption) ?_
          try simp only [List.getElem_toArray, List.getElem_cons_zero, List.getElem_cons_succ, Act.put, List.setIfInBounds_toArray, List.set_cons_zero, List.set_cons_succ]
          refine wpAnyH_take (i := 1) (v := .pointer (some ⟨wr.heap.size, 2, none⟩)) rfl (by kernel_rfl) (by kernel_rfl) (by kernel_rfl) (fun _ _ _ h => h) (Or.inl ⟨by rfl, fun W hSw => by (try dsimp only at hSw); go_simp⟩) (by assumption) ?_
          try simp only [List.getElem_toArray, List.getElem_cons_zero, List.getElem_cons_succ, Act.put, List.setIfInBounds_toArray, List.set_cons_zero, List.set_cons_succ]
          refine wpAnyH_take (i := 2) (v := .agg (tcC tt)) rfl (by kernel_rfl) (by kernel_rfl) (by kernel_rfl) (fun _ _ _ h => h) (yields_load (by rfl) _ _ rfl _ rfl _ (fun W h => h.loadT)) (by assumption) ?_
          try simp only [List.getElem_toArray, List.getElem_cons_zero, List.getElem_cons_succ, Act.put, List.setIfInBounds_toArray, List.set_cons_zero, List.set_cons_succ]
          refine wpAnyH_take (i := 4) (v := .pointer (some ⟨wr.heap.size, 2, none⟩)) rfl (by kernel_rfl) (by kernel_rfl) (by kernel_rfl) (fun _ _ _ h => h) (Or.inl ⟨by rfl, fun W hSw => by (try dsimp only at hSw); go_simp⟩) (by assumption) ?_
          try simp only [List.getElem_toArray, List.getElem_cons_zero, List.getElem_cons_succ, Act.put, List.setIfInBounds_toArray, List.set_cons_zero, List.set_cons_succ]
          refine wpAnyH_take (i := 5) (v := .agg (tcC tt)) rfl (by kernel_rfl) (by kernel_rfl) (by kernel_rfl) (fun _ _ _ h => h) (yields_load (by rfl) _ _ rfl _ rfl _ (fun W h => h.loadT)) (by assumption) ?_
          try simp only [List.getElem_toArray, List.getElem_cons_zero, List.getElem_cons_succ, Act.put, List.setIfInBounds_toArray, List.set_cons_zero, List.set_cons_succ]
          refine wpAnyH_ready (rs := [3]) (by kernel_rfl) (by simp) ?_
          refine AllReadyH.cons rfl (fun K hK => ?_) AllReadyH.nil
          go_simp
          go_wp2_with (go_at_call 15; refine cA.mono ?_; rintro e w6 ⟨rfl, hF6, hk6⟩)
          have hop6 : OpAt w6 wr.heap.size ⟨0, N1, tt⟩ := ⟨(hk6.block wr.heap.size (by simp)).trans HOP.out.row⟩
          refine hK.out _ _ hop6 (fun hHeld2 => ?_)
          clear hK K
          refine wpAnyH_ready (rs := [6]) (by kernel_rfl) (by simp) ?_
          refine AllReadyH.cons rfl (fun K hK => ?_) AllReadyH.nil
          go_simp
          go_wp2_with (go_at_call 11; refine (cC _).mono ?_; rintro e w7 ⟨rfl, hb7⟩)
          have HOP8 := hop6.below hb7
          refine hK.out _ _ HOP8 (fun hHeld4 => ?_)
          clear hK K
          refine wpAnyH_take (i := 7) (v := .bool false) rfl (by kernel_rfl) (by kernel_rfl) (by kernel_rfl) (fun _ _ _ h => h) (Or.inl ⟨by rfl, fun W hSw => by (try dsimp only at hSw); go_simp⟩) (by assumption) ?_
          try simp only [List.getElem_toArray, List.getElem_cons_zero, List.getElem_cons_succ, Act.put, List.setIfInBounds_toArray, List.set_cons_zero, List.set_cons_succ]
          refine wpAnyH_done (by kernel_rfl) ?_ _
          refine NoPanic.normal ?_
          have hF7 := hF6.below hb7
          have hR7 : RdZ 5 tcE w7 (.slice ax nx cx) L := ((HR5.out.below (Below.refl _ w5).drew).keepG hk6 (fun g hg => by simp [hg])).below hb7
          clear hF6 hb7 hk6 hop6 hHeld hHeld2 hHeld4 cA
          have HT8 : Hid _ := (HOP8.loadT)
          go_wp2_with (first | (refine wpList_loadG rfl 24 _ rfl _ rfl _ HT8.out ?_))
          refine (cC _).mono ?_
          rintro e w8 ⟨rfl, hb8⟩
          have hF8 := (hF7.below hb8).sub (G' := (Value.slice ax nx cx).ownBlock.toList) (fun g hg => by simp [hg])
          have hR8 := hR7.below hb8
          have hsm := same_any hF8 _ _ _ hR8 (by have := HN.out; have := HI.out; omega)
          unfold ptr at hsm
          go_wp2_with fail
          refine hsm.mono ?_
          rintro e w9 ⟨rfl, hb9⟩
          have HS9 : Hid (SetsAt w w9 P M ax nx cx (i + 1)) := ⟨_, hF8.below hb9, hR8.below hb9, by have := HI.out; omega⟩
          clear hsm
          go_wp2
          go_roundg (no - (i + 1))
          case measure => (have := HI.out; omega)
          case rel => exact ⟨i + 1, ax, nx, cx, by rw [show ((i : Int) + 1) = ((i + 1 : Nat) : Int) by omega], rfl, by have := HI.out; omega, by have := HI.out; omega, HI.out.2.2.1, HS9.out⟩
        | true =>
          have cA := (HF5.out.below (Below.refl _ w5).drew).add tt HOK.out.t (by have := HN.out; have := HI.out; omega)
          rw [ckE_yes hm, addL_radd hm] at cA
          unfold ptr at cA
          have cC := fun W => rck_any W tt
          rw [ckE_yes hm] at cC
          go_wp2_with (first | (refine wpList_loadG rfl 34 _ rfl _ rfl _ HLD.out ?_))
          refine wp_region_noPanic ?_
          refine wp_region_held_drew (S := fun W => OpAt W wr.heap.size ⟨0, N1, tt⟩) (by kernel_rfl) ⟨HOP.out.row⟩ (fun hHeld => ?_)
          refine wpAnyH_take (i := 0) (v := .pointer (some ⟨P, 0, none⟩)) rfl (by kernel_rfl) (by kernel_rfl) (by kernel_rfl) (fun _ _ _ h => h) (Or.inl ⟨by rfl, fun W hSw => by (try dsimp only at hSw); go_simp⟩) (by assumption) ?_
          try simp only [List.getElem_toArray, List.getElem_cons_zero, List.getElem_cons_succ, Act.put, List.setIfInBounds_toArray, List.set_cons_zero, List.set_cons_succ]
          refine wpAnyH_take (i := 1) (v := .pointer (some ⟨wr.heap.size, 2, none⟩)) rfl (by kernel_rfl) (by kernel_rfl) (by kernel_rfl) (fun _ _ _ h => h) (Or.inl ⟨by rfl, fun W hSw => by (try dsimp only at hSw); go_simp⟩) (by assumption) ?_
          try simp only [List.getElem_toArray, List.getElem_cons_zero, List.getElem_cons_succ, Act.put, List.setIfInBounds_toArray, List.set_cons_zero, List.set_cons_succ]
          refine wpAnyH_take (i := 2) (v := .agg (tcC tt)) rfl (by kernel_rfl) (by kernel_rfl) (by kernel_rfl) (fun _ _ _ h => h) (yields_load (by rfl) _ _ rfl _ rfl _ (fun W h => h.loadT)) (by assumption) ?_
          try simp only [List.getElem_toArray, List.getElem_cons_zero, List.getElem_cons_succ, Act.put, List.setIfInBounds_toArray, List.set_cons_zero, List.set_cons_succ]
          refine wpAnyH_take (i := 4) (v := .pointer (some ⟨wr.heap.size, 2, none⟩)) rfl (by kernel_rfl) (by kernel_rfl) (by kernel_rfl) (fun _ _ _ h => h) (Or.inl ⟨by rfl, fun W hSw => by (try dsimp only at hSw); go_simp⟩) (by assumption) ?_
          try simp only [List.getElem_toArray, List.getElem_cons_zero, List.getElem_cons_succ, Act.put, List.setIfInBounds_toArray, List.set_cons_zero, List.set_cons_succ]
          refine wpAnyH_take (i := 5) (v := .agg (tcC tt)) rfl (by kernel_rfl) (by kernel_rfl) (by kernel_rfl) (fun _ _ _ h => h) (yields_load (by rfl) _ _ rfl _ rfl _ (fun W h => h.loadT)) (by assumption) ?_
          try simp only [List.getElem_toArray, List.getElem_cons_zero, List.getElem_cons_succ, Act.put, List.setIfInBounds_toArray, List.set_cons_zero, List.set_cons_succ]
          refine wpAnyH_ready (rs := [3]) (by kernel_rfl) (by simp) ?_
          refine AllReadyH.cons rfl (fun K hK => ?_) AllReadyH.nil
          go_simp
          go_wp2_with (go_at_call 15; refine cA.mono ?_; rintro e w6 ⟨rfl, hF6, hk6⟩)
          have hop6 : OpAt w6 wr.heap.size ⟨0, N1, tt⟩ := ⟨(hk6.block wr.heap.size (by simp)).trans HOP.out.row⟩
          refine hK.out _ _ hop6 (fun hHeld2 => ?_)
          clear hK K
          refine wpAnyH_ready (rs := [6]) (by kernel_rfl) (by simp) ?_
          refine AllReadyH.cons rfl (fun K hK => ?_) AllReadyH.nil
          go_simp
          go_wp2_with (go_at_call 11; refine (cC _).mono ?_; rintro e w7 ⟨rfl, hb7⟩)
          have HOP8 := hop6.below hb7
          refine hK.out _ _ HOP8 (fun hHeld4 => ?_)
          clear hK K
          refine wpAnyH_take (i := 7) (v := .bool false) rfl (by kernel_rfl) (by kernel_rfl) (by kernel_rfl) (fun _ _ _ h => h) (Or.inl ⟨by rfl, fun W hSw => by (try dsimp only at hSw); go_simp⟩) (by assumption) ?_
          try simp only [List.getElem_toArray, List.getElem_cons_zero, List.getElem_cons_succ, Act.put, List.setIfInBounds_toArray, List.set_cons_zero, List.set_cons_succ]
          refine wpAnyH_done (by kernel_rfl) ?_ _
          refine NoPanic.normal ?_
          have hF7 := hF6.below hb7
          have hR7 : RdZ 5 tcE w7 (.slice ax nx cx) L := ((HR5.out.below (Below.refl _ w5).drew).keepG hk6 (fun g hg => by simp [hg])).below hb7
          clear hF6 hb7 hk6 hop6 hHeld hHeld2 hHeld4 cA
          have HT8 : Hid _ := (HOP8.loadT)
          go_wp2_with (first | (refine wpList_loadG rfl 24 _ rfl _ rfl _ HT8.out ?_))
          refine (cC _).mono ?_
          rintro e w8 ⟨rfl, hb8⟩
          have hF8 := hF7.below hb8
          have hR8 := hR7.below hb8
          have HT9 : Hid _ := ((HOP8.below hb8).loadT)
          have hra := radd_any w8 ax nx cx L hR8 tt (by have := HN.out; have := HI.out; omega)
          go_wp2_with (first | (refine wpList_loadG rfl 24 _ rfl _ rfl _ HT9.out ?_))
          refine hra.mono ?_
          rintro e w10 ⟨u10, rfl, hR10, hb10, hn10⟩
          have hF10 := hF8.newOr (fun g hg => by simp [hg]) hb10 hn10
          obtain ⟨a10, n10, c10, rfl⟩ : ∃ a n c, u10 = .slice a n c := by
            obtain ⟨⟨a, c, e, _⟩, _⟩ := hR10
            exact ⟨_, _, _, e⟩
          obtain ⟨hl10, hc10, _⟩ := hR10.len
          have hle10 : n10 ≤ nx + 1 := by have h1 := raddL_len L tt; have h2 := HN.out; omega
          have hRL : (raddL L tt).length ≤ 1000 := by have := HI.out; omega
          clear hra hF8 hR8 hF7 hR7 HOP8 hl10 hn10
          have hsm := same_any hF10 _ _ _ hR10 hRL
          unfold ptr at hsm
          go_wp2_with fail
          refine hsm.mono ?_
          rintro e w9 ⟨rfl, hb9⟩
          have HS9 : Hid (SetsAt w w9 P M a10 n10 c10 (i + 1)) := ⟨_, hF10.below hb9, hR10.below hb9, by have := HI.out; omega⟩
          clear hsm
          go_wp2
          go_roundg (no - (i + 1))
          case measure => (have := HI.out; omega)
          case rel => exact ⟨i + 1, a10, n10, c10, by rw [show ((i : Int) + 1) = ((i + 1 : Nat) : Int) by omega], rfl, by have := HI.out; omega, by have := HI.out; omega, hc10, HS9.out⟩
      by_cases h1 : D = 1
      · subst h1
        clear h0
        obtain ⟨r1, hr1⟩ : ∃ r, N1.tmod 9 = r := ⟨_, rfl⟩
        have hb1 := rem9 HOK.out.a1.1 HOK.out.a1.2
        rw [hr1] at hb1
        obtain ⟨r2, hr2⟩ : ∃ r, (r1 + 9).tmod 9 = r := ⟨_, rfl⟩
        have hb2 := rem9' (N := r1 + 9) (by omega)
        rw [hr2] at hb2
        obtain ⟨hb3, hb4⟩ := hb1
        obtain ⟨hb5, hb6⟩ := hb2
        have hnn : (nx : Int) ≤ 100 := by have := HI.out; omega
        by_cases hbad : ((nx : Int) - r2) < 0 ∨ (nx : Int) < ((nx : Int) - r2)
        · have cU := HF5.out.bad (((nx : Int) - r2)) (by rw [HN.out.1]; exact hbad)
          unfold ptr at cU
          by_cases hneg : ((nx : Int) - r2) < 0
          · clear hbad
            go_wp2_with (first | (refine wpList_loadG rfl 34 _ rfl _ rfl _ HLD.out ?_))
            refine cU.mono ?_
            rintro e w6 ⟨rfl, rfl⟩
            have hF8 := HF5.out.sub (G' := (Value.slice ax nx cx).ownBlock.toList) (fun g hg => by simp [hg])
            have hR8 := HR5.out
            have hsm := same_any hF8 _ _ _ hR8 (by have := HN.out; have := HI.out; omega)
            unfold ptr at hsm
            go_wp2_with fail
            refine hsm.mono ?_
            rintro e w9 ⟨rfl, hb9⟩
            have HS9 : Hid (SetsAt w w9 P M ax nx cx (i + 1)) := ⟨_, hF8.below hb9, hR8.below hb9, by have := HI.out; omega⟩
            clear hsm
            go_wp2
            go_roundg (no - (i + 1))
            case measure => (have := HI.out; omega)
            case rel => exact ⟨i + 1, ax, nx, cx, by rw [show ((i : Int) + 1) = ((i + 1 : Nat) : Int) by omega], rfl, by have := HI.out; omega, by have := HI.out; omega, HI.out.2.2.1, HS9.out⟩
          · exact absurd hbad (by omega)
        · obtain ⟨m, hm⟩ : ∃ m : Nat, ((nx : Int) - r2) = (m : Int) := ⟨(((nx : Int) - r2)).toNat, by omega⟩
          have hmn : m ≤ nx := by omega
          have hmI : (m : Int) ≤ (nx : Int) := by omega
          have hmC : (m : Int) ≤ (cx : Int) := by have := HI.out; omega
          have hm0 : ¬ (m : Int) < 0 := by omega
          have cU := HF5.out.undo m (by rw [HN.out.1]; exact hmn)
          unfold ptr at cU
          clear hbad
          have HM : Hid ((nx : Int) - r2 = (m : Int)) := hm
          obtain ⟨k, rfl⟩ : ∃ k : Nat, r2 = (k : Int) := ⟨r2.toNat, by omega⟩
          obtain rfl : nx = m + k := by omega
          have hcast : ((m + k : Nat) : Int) - (k : Int) = (m : Int) := by omega
          clear hm HM
          go_wp2_with (first | (refine wpList_loadG rfl 34 _ rfl _ rfl _ HLD.out ?_))
          refine cU.mono ?_
          rintro e w6 ⟨rfl, hF6, hk6⟩
          have hF8 := hF6.sub (G' := (Value.slice ax m cx).ownBlock.toList) (fun g hg => List.mem_append.2 (.inr (by rw [Option.mem_toList] at hg ⊢; rw [← hg]; exact own_cut _ _ _ _)))
          have hR8 := (HR5.out.keepG hk6 (fun g hg => by simp [hg])).take m hmn
          clear hF6 hk6 cU
          have hsm := same_any hF8 _ _ _ hR8 (by have := HN.out; have := HI.out; rw [List.length_take]; omega)
          unfold ptr at hsm
          go_wp2_with fail
          refine hsm.mono ?_
          rintro e w9 ⟨rfl, hb9⟩
          have HS9 : Hid (SetsAt w w9 P M ax m cx (i + 1)) := ⟨_, hF8.below hb9, hR8.below hb9, by have := HI.out; omega⟩
          clear hsm
          go_wp2
          go_roundg (no - (i + 1))
          case measure => (have := HI.out; omega)
          case rel => exact ⟨i + 1, ax, m, cx, by rw [show ((i : Int) + 1) = ((i + 1 : Nat) : Int) by omega], rfl, by have := HI.out; omega, by have := HI.out; omega, by have := HI.out; omega, HS9.out⟩
      · by_cases hbad : N1 < 0 ∨ (nx : Int) < N1
        · have cU := HF5.out.bad (N1) (by rw [HN.out.1]; exact hbad)
          unfold ptr at cU
          by_cases hneg : N1 < 0
          · clear hbad
            go_wp2_with (first | (refine wpList_loadG rfl 34 _ rfl _ rfl _ HLD.out ?_))
            refine cU.mono ?_
            rintro e w6 ⟨rfl, rfl⟩
            have hF8 := HF5.out.sub (G' := (Value.slice ax nx cx).ownBlock.toList) (fun g hg => by simp [hg])
            have hR8 := HR5.out
            have hsm := same_any hF8 _ _ _ hR8 (by have := HN.out; have := HI.out; omega)
            unfold ptr at hsm
            go_wp2_with fail
            refine hsm.mono ?_
            rintro e w9 ⟨rfl, hb9⟩
            have HS9 : Hid (SetsAt w w9 P M ax nx cx (i + 1)) := ⟨_, hF8.below hb9, hR8.below hb9, by have := HI.out; omega⟩
            clear hsm
            go_wp2
            go_roundg (no - (i + 1))
            case measure => (have := HI.out; omega)
            case rel => exact ⟨i + 1, ax, nx, cx, by rw [show ((i : Int) + 1) = ((i + 1 : Nat) : Int) by omega], rfl, by have := HI.out; omega, by have := HI.out; omega, HI.out.2.2.1, HS9.out⟩
          · have hgt : (nx : Int) < N1 := by omega
            clear hbad
            go_wp2_with (first | (refine wpList_loadG rfl 34 _ rfl _ rfl _ HLD.out ?_))
            refine cU.mono ?_
            rintro e w6 ⟨rfl, rfl⟩
            have hF8 := HF5.out.sub (G' := (Value.slice ax nx cx).ownBlock.toList) (fun g hg => by simp [hg])
            have hR8 := HR5.out
            have hsm := same_any hF8 _ _ _ hR8 (by have := HN.out; have := HI.out; omega)
            unfold ptr at hsm
            go_wp2_with fail
            refine hsm.mono ?_
            rintro e w9 ⟨rfl, hb9⟩
            have HS9 : Hid (SetsAt w w9 P M ax nx cx (i + 1)) := ⟨_, hF8.below hb9, hR8.below hb9, by have := HI.out; omega⟩
            clear hsm
            go_wp2
            go_roundg (no - (i + 1))
            case measure => (have := HI.out; omega)
            case rel => exact ⟨i + 1, ax, nx, cx, by rw [show ((i : Int) + 1) = ((i + 1 : Nat) : Int) by omega], rfl, by have := HI.out; omega, by have := HI.out; omega, HI.out.2.2.1, HS9.out⟩
        · obtain ⟨m, hm⟩ : ∃ m : Nat, N1 = (m : Int) := ⟨(N1).toNat, by omega⟩
          have hmn : m ≤ nx := by omega
          have hmI : (m : Int) ≤ (nx : Int) := by omega
          have hmC : (m : Int) ≤ (cx : Int) := by have := HI.out; omega
          have hm0 : ¬ (m : Int) < 0 := by omega
          have cU := HF5.out.undo m (by rw [HN.out.1]; exact hmn)
          unfold ptr at cU
          clear hbad
          subst hm
          go_wp2_with (first | (refine wpList_loadG rfl 34 _ rfl _ rfl _ HLD.out ?_))
          refine cU.mono ?_
          rintro e w6 ⟨rfl, hF6, hk6⟩
          have hF8 := hF6.sub (G' := (Value.slice ax m cx).ownBlock.toList) (fun g hg => List.mem_append.2 (.inr (by rw [Option.mem_toList] at hg ⊢; rw [← hg]; exact own_cut _ _ _ _)))
          have hR8 := (HR5.out.keepG hk6 (fun g hg => by simp [hg])).take m hmn
          clear hF6 hk6 cU
          have hsm := same_any hF8 _ _ _ hR8 (by have := HN.out; have := HI.out; rw [List.length_take]; omega)
          unfold ptr at hsm
          go_wp2_with fail
          refine hsm.mono ?_
          rintro e w9 ⟨rfl, hb9⟩
          have HS9 : Hid (SetsAt w w9 P M ax m cx (i + 1)) := ⟨_, hF8.below hb9, hR8.below hb9, by have := HI.out; omega⟩
          clear hsm
          go_wp2
          go_roundg (no - (i + 1))
          case measure => (have := HI.out; omega)
          case rel => exact ⟨i + 1, ax, m, cx, by rw [show ((i : Int) + 1) = ((i + 1 : Nat) : Int) by omega], rfl, by have := HI.out; omega, by have := HI.out; omega, by have := HI.out; omega, HS9.out⟩
    · obtain rfl : no = i := by omega
      obtain ⟨L, hF, _, _⟩ := HS.out
      have HBB : Hid (Below w.heap.size w wr) := hF.bel
      clear hF HS
      go_wp2
      go_ret
      exact ⟨rfl, HBB.out⟩

/-! ### The row -/
set_option maxRecDepth 100000 in
theorem lifted (os : Os) (started : os.Started) (H : Type) (enc : TypeId × Value → H) :
    ReturnsInHanded {} Try.checked os 4 .any (Rows.readsSetsSpec.pre6 enc Try.prog Try.f4 Rows.readsSetsRow.domain false) (Rows.readsSetsSpec.post enc Try.prog Try.f4 false true false false) := by
  refine returnsInHanded_of_change (C := Try.checked) own started (by kernel_rfl) Try.func4
    (ChangeSpec.witness6 (enc := enc) (C := Try.checked) false ⟨#[], #[.slice none 0 0], []⟩ 8 (by kernel_rfl) (by kernel_rfl) (by kernel_rfl) (by kernel_rfl)) ?_
  intro W base args ds gs before hval0 hW hcnd _
  have hval : ∀ (j : Nat) t v, Try.f4.params[j]? = some t → args[j]? = some v → Value.okWide Try.prog W .any base t v := hval0
  have hW' := hW
  obtain ⟨p, q, hA0, hV, rfl, hfz, hnd⟩ := hW
  have hA : DataW.TrodAll enc Try.prog W 0 (fun _ => true) true Try.f4.params.toList args.toList ds p := hA0
  rw [Try.params4] at hA hval
  obtain ⟨v0, vs0, d0, ds0, p0, q0, hargs, rfl, rfl, h0, r0⟩ := trodAll_cons hA
  obtain ⟨rfl, rfl, rfl⟩ := trodAll_nil r0
  obtain rfl : args = #[v0] := by cases args; simp_all
  obtain ⟨rfl, rfl⟩ := trodVars_none hV
  obtain ⟨a0, len0, cap0, rfl⟩ := okWide_slice Try.underlying29 (hval 0 29 v0 rfl rfl)
  have k0 := h0
  have lt0 : ∀ x ∈ p0, x.block < W.heap.size := by obtain ⟨m, hm⟩ := k0; exact DataW.trod_lt m _ _ _ hm
  obtain ⟨o0, w0⟩ : ∃ os, RdO W (.slice a0 len0 cap0) os := by
    obtain ⟨fuel, hf⟩ := h0
    exact sops_of hf
  clear hA0 hval0
  refine (walk a0 len0 cap0 o0 W w0).mono fun e W' ⟨he, bel⟩ => ?_
  subst he
  exact ⟨_, rfl, _, _, _, [], _, [], hW', trodAll_mk1 (shut_bool Try.underlying4 _), (trodAll_cons_mk (Below.trod laidOut (by kernel_rfl) (of_decide_eq_true (by kernel_rfl)) k0 bel lt0) trodAll_mk0), rfl, bel.frame _, fun h => by cases h⟩

theorem over : Rows.readsSetsRow.holds Try.pinned (OpenSpec.ofChange Rows.readsSetsSpec) :=
  OpenClaim.holds_of_wide 4 Try.f4 rfl rfl rfl rfl rfl rfl rfl ⟨rfl, rfl, rfl, rfl, rfl⟩ rfl rfl rfl rfl rfl (by kernel_rfl) Try.func4 (by kernel_rfl)
    (of_decide_eq_true (by kernel_rfl)) (by unfold Func.isWrapper; first | (rw [if_pos (by decide +kernel)]; kernel_rfl) | (rw [if_neg (by decide +kernel)]; exact ⟨rfl, rfl⟩))
    (fun os started H enc _ => lifted os started H enc)

end Go.Proofs.Ytmncjecbgakmfaa.readsSets

namespace Go.Proofs.Ytmncjecbgakmfaa
/-- The statement. -/
theorem readsSets_proved : Rows.ReadsSetsSaid := readsSets.over
#print axioms readsSets_proved
end Go.Proofs.Ytmncjecbgakmfaa
