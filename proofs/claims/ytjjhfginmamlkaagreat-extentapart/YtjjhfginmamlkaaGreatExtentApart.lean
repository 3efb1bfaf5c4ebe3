/- Proved: What is written into one file is not seen in another one: for every list of calls. -/
import Derived.Test.YtjjhfginmamlkaaGreatXD
import Derived.Test.YtjjhfginmamlkaaGreatA1
import Derived.Deep.RegionHeld3
import Derived.BigQuiet
import Derived.Deep.QuietTactic
import Derived.WalkSmall
import Derived.ProofKit
import Derived.OpenShut
import Derived.ShutString
import Derived.ChangeOld
import Derived.Below
import Derived.Carry
import Derived.Deep.CutRange
import Derived.Deep.CutBlock
namespace Go.Proofs.YtjjhfginmamlkaaGreat.extentApart
open Go.ChangeShapes Go.WideShapes Go.ChangeAt Go.RowKit
open Go.ChangeMaps (open_string shut_string)
set_option linter.unusedVariables false
set_option linter.unusedSimpArgs false

theorem own : ownKnob Tryz.prog.godebug = none := by kernel_rfl
theorem laidOut : laidOutB Tryz.prog = true := by kernel_rfl

set_option maxRecDepth 100000 in
set_option maxHeartbeats 16000000 in
theorem walk (ad : Option Addr) (len cap : Nat) (os : List Eop) (w : World) (hos : EopsAt w ad len cap os) : Calls Tryz.prog 5 #[.slice ad len cap] w fun e w' => e = .returned (.bool true) ∧ Below w.heap.size w w' := by
  have HOS : Hid (EopsAt w ad len cap os) := hos
  have HLN : Hid (os.length = len) := hos.len
  clear hos
  go_enter Tryz.func5, Tryz.ntmps5
  have cv := exlive_any w
  go_wp2_with fail
  refine cv.mono ?_
  rintro e w2 ⟨rfl, hb2⟩
  clear cv
  have HB2 : Hid (Below w.heap.size w w2) := hb2
  have cb := begin_in w2 none 0 0 [] ⟨rfl, Nat.le_refl _, Nat.zero_le _, fun h => by omega⟩ (B := w.heap.size) hb2.size (fun q h => by omega) 64 (by decide) 2 (by decide) (by decide)
  clear hb2
  go_wp2_with fail
  refine cb.mono ?_
  intro e w3 hbg
  obtain ⟨pp, a, rfl, hp⟩ := Pr.of hbg HB2.out.size
  clear cb hbg
  have HP3 : Hid (Pr w.heap.size w2 w3 pp a z0) := hp
  clear hp
  by_cases h60 : 60 < len
  · have h60I : (60 : Int) < (len : Int) := by omega
    have HB : Hid (Below w.heap.size w w3) := HB2.out.trans HP3.out.bel
    clear HP3
    go_wp2
    go_ret
    exact ⟨rfl, HB.out⟩
  have h60I : ¬ (60 : Int) < (len : Int) := by omega
  have HN60 : Hid (len ≤ 60) := by unfold Hid; omega
  have k0 : Sk z0 0 := exk0 _ _ _
  have q := HP3.out.c0
  have c := HP3.out.makeT 1 0 k0 (by decide)
  rw [zlv1] at c
  have K1 : Hid (Sk z1 1) := exk_make k0 1 0
  clear HP3 k0
  go_wp2_with fail
  refine c.mono ?_
  rintro e w4 ⟨rfl, hp, _⟩
  clear c q
  have hp : Pr w.heap.size w2 w4 pp a z1 := hp
  have q := hp.c0
  have c := hp.makeT 1 0 K1.out (by decide)
  rw [zlv2] at c
  have K2 : Hid (Sk z2 2) := exk_make K1.out 1 0
  clear hp
  go_wp2_with fail
  refine c.mono ?_
  rintro e w5 ⟨rfl, hp, _⟩
  clear c q
  have hp : Pr w.heap.size w2 w5 pp a z2 := hp
  have q := hp.c0
  obtain ⟨hap, hz⟩ := Ap.start hp.dlo K2.out.ck
  have c := hp.write 3 (by decide) (by decide) 0 othB (by decide) K2.out (by decide)
  rw [hz] at c
  have HA6 : Hid (Ap (wrX z2 3 0 othB).1) := hap
  have HK6 : Hid (Sk (wrX z2 3 0 othB).1 (13 + 25 * 0)) := (exk_wr K2.out 3 0 othB).mono (by omega)
  obtain ⟨S6, hS6⟩ : ∃ S6, (wrX z2 3 0 othB).1 = S6 := ⟨_, rfl⟩
  rw [hS6] at c HA6 HK6
  unfold othB at c
  clear hp hap hz hS6
  go_wp2_with fail
  refine c.mono ?_
  rintro e w6 ⟨rfl, hp, _⟩
  clear c q
  have HP6 : Hid (Pr w.heap.size w2 w6 pp a S6) := hp
  clear hp
  go_wp2
  go_loopg [62, 12, 13] len (fun kx s62 s12 s13 wr => ∃ (i : Nat) (S : Sg), s62 = .int .i64 i ∧ i ≤ len ∧ len - i ≤ kx ∧ Hid (Pr w.heap.size w2 wr pp a S ∧ Ap S ∧ Sk S (13 + 25 * i)))
  case atStart => exact ⟨0, S6, rfl, Nat.zero_le _, by omega, HP6.out, HA6.out, HK6.out⟩
  case round =>
    obtain ⟨i, S, rfl, hin, hkx, HW⟩ := hrel
    by_cases hlt : i < len
    · obtain ⟨o, hy⟩ : ∃ o, os[i]? = some o := ⟨_, List.getElem?_eq_getElem (by have := HLN.out; omega)⟩
      obtain ⟨hw1, hw2, hw3⟩ := HW.out
      have hor := HOS.out.below (HB2.out.trans hw1.bel)
      obtain ⟨ob, oo, rfl, hob⟩ := hor.open hy
      obtain ⟨q0, q1, q2, q3, q4⟩ := eop_cells hor.1 hy
      have HOK : Hid (EopOk o) := HOS.out.2 o (List.mem_of_getElem? hy)
      have HW2 : Hid (Ap S) := hw2
      have HW3 : Hid (Sk S (13 + 25 * i)) := hw3
      have HE8 : Hid (EoRow (wr.alloc (.cells (eopC o) 30)) wr.heap.size o) := heap_alloc_new wr _
      have HP8 : Hid (Pr w.heap.size w2 (wr.alloc (.cells (eopC o) 30)) pp a S) := hw1.below (bel1 wr _)
      unfold eopC at HE8 HP8
      obtain ⟨w8, hw8⟩ : ∃ w8, wr.alloc (.cells #[.int .i64 o.f0, .int .i64 o.off, .int .i64 o.n, .int .u32 o.ino, .string o.data] 30) = w8 := ⟨_, rfl⟩
      rw [hw8] at HE8 HP8
      have u0 := HE8.out.c0
      have hiI : (i : Int) < (len : Int) := by omega
      have hib : (i : Int) + 1 ≤ 1001 := by have := HN60.out; omega
      obtain ⟨f0, hf0⟩ : ∃ f0, o.f0 = f0 := ⟨_, rfl⟩
      have HF0 : Hid (o.f0 = f0) := hf0
      rw [hf0] at u0
      clear hw1 hw2 hw3 hy hor hob HW hf0
      by_cases h1 : f0 = 1
      · subst h1
        obtain ⟨XX, xx, hpr, _⟩ := HP8.out.ex
        have hS0 : PrAt w8.drew pp a xx ∧ EoRow w8.drew wr.heap.size o := ⟨hpr, HE8.out⟩
        go_wp2_with fail
        try rw [hw8]
        clear q0 q1 q2 q3 q4 hw8 u0
        skip
        refine wp_region_noPanic ?_
        refine wp_region_held_drew (S := fun W => PrAt W pp a xx ∧ EoRow W wr.heap.size o) (by kernel_rfl) hS0 (fun hHeld => ?_)
        refine wpAnyH_take (i := 0) (v := .pointer (some ⟨pp, 0, none⟩)) rfl (by kernel_rfl) (by kernel_rfl) (by kernel_rfl) (fun _ _ _ h => h) (Or.inl ⟨by rfl, fun W hSw => by (try dsimp only at hSw); go_simp⟩) (by assumption) ?_
        try simp only [List.getElem_toArray, List.getElem_cons_zero, List.getElem_cons_succ, Act.put, List.setIfInBounds_toArray, List.set_cons_zero, List.set_cons_succ]
        refine wpAnyH_take (i := 1) (v := .pointer (some ⟨pp, 0, none⟩)) rfl (by kernel_rfl) (by kernel_rfl) (by kernel_rfl) (fun _ _ _ h => h) (Or.inl ⟨by rfl, fun W hSw => by (try dsimp only at hSw); go_simp⟩) (by assumption) ?_
        try simp only [List.getElem_toArray, List.getElem_cons_zero, List.getElem_cons_succ, Act.put, List.setIfInBounds_toArray, List.set_cons_zero, List.set_cons_succ]
        refine wpAnyH_take (i := 2) (v := .pointer (some ⟨pp, 0, none⟩)) rfl (by kernel_rfl) (by kernel_rfl) (by kernel_rfl) (fun _ _ _ h => h) (Or.inl ⟨by rfl, fun W hSw => by (try dsimp only at hSw); go_simp⟩) (by assumption) ?_
        try simp only [List.getElem_toArray, List.getElem_cons_zero, List.getElem_cons_succ, Act.put, List.setIfInBounds_toArray, List.set_cons_zero, List.set_cons_succ]
        refine wpAnyH_take (i := 3) (v := .pointer (some ⟨a.s, 0, none⟩)) rfl (by kernel_rfl) (by kernel_rfl) (by kernel_rfl) (fun _ _ _ h => h) (Or.inl ⟨by rfl, fun W hSw => by (try dsimp only at hSw); (have z := hSw.1.c0; go_simp)⟩) (by assumption) ?_
        try simp only [List.getElem_toArray, List.getElem_cons_zero, List.getElem_cons_succ, Act.put, List.setIfInBounds_toArray, List.set_cons_zero, List.set_cons_succ]
        refine wpAnyH_take (i := 4) (v := .int .u32 2) rfl (by kernel_rfl) (by kernel_rfl) (by kernel_rfl) (fun _ _ _ h => h) (Or.inl ⟨by rfl, fun W hSw => by (try dsimp only at hSw); go_simp⟩) (by assumption) ?_
        try simp only [List.getElem_toArray, List.getElem_cons_zero, List.getElem_cons_succ, Act.put, List.setIfInBounds_toArray, List.set_cons_zero, List.set_cons_succ]
        refine wpAnyH_take (i := 5) (v := .pointer (some ⟨wr.heap.size, 1, none⟩)) rfl (by kernel_rfl) (by kernel_rfl) (by kernel_rfl) (fun _ _ _ h => h) (Or.inl ⟨by rfl, fun W hSw => by (try dsimp only at hSw); go_simp⟩) (by assumption) ?_
        try simp only [List.getElem_toArray, List.getElem_cons_zero, List.getElem_cons_succ, Act.put, List.setIfInBounds_toArray, List.set_cons_zero, List.set_cons_succ]
        refine wpAnyH_take (i := 6) (v := .int .i64 o.off) rfl (by kernel_rfl) (by kernel_rfl) (by kernel_rfl) (fun _ _ _ h => h) (Or.inl ⟨by rfl, fun W hSw => by (try dsimp only at hSw); (have z := hSw.2.c1; go_simp)⟩) (by assumption) ?_
        try simp only [List.getElem_toArray, List.getElem_cons_zero, List.getElem_cons_succ, Act.put, List.setIfInBounds_toArray, List.set_cons_zero, List.set_cons_succ]
        refine wpAnyH_take (i := 7) (v := .pointer (some ⟨wr.heap.size, 4, none⟩)) rfl (by kernel_rfl) (by kernel_rfl) (by kernel_rfl) (fun _ _ _ h => h) (Or.inl ⟨by rfl, fun W hSw => by (try dsimp only at hSw); go_simp⟩) (by assumption) ?_
        try simp only [List.getElem_toArray, List.getElem_cons_zero, List.getElem_cons_succ, Act.put, List.setIfInBounds_toArray, List.set_cons_zero, List.set_cons_succ]
        refine wpAnyH_take (i := 8) (v := .string o.data) rfl (by kernel_rfl) (by kernel_rfl) (by kernel_rfl) (fun _ _ _ h => h) (Or.inl ⟨by rfl, fun W hSw => by (try dsimp only at hSw); (have z := hSw.2.c4; go_simp)⟩) (by assumption) ?_
        try simp only [List.getElem_toArray, List.getElem_cons_zero, List.getElem_cons_succ, Act.put, List.setIfInBounds_toArray, List.set_cons_zero, List.set_cons_succ]
        have cw := (HP8.out.below (Below.refl _ _).drew).write 2 (by decide) (by decide) o.off o.data (Nat.le_trans HOK.out.a4 (by unfold maxLen; omega)) HW3.out (by have := HN60.out; omega)
        refine wpAnyH_ready (rs := [9]) (by kernel_rfl) (by simp) ?_
        refine AllReadyH.cons rfl (fun K hK => ?_) AllReadyH.nil
        go_simp
        go_wp2_with (go_at_call 14; refine cw.mono ?_; rintro e wx ⟨rfl, hpx, hkx2⟩)
        have HEX : Hid (EoRow wx wr.heap.size o) := hkx2.2 _ _ _ _ (show w8.drew.heap[wr.heap.size]? = some (.cells (eopC o) 30 (0, 0)) from HE8.out) (by decide) (by decide) (by decide) (by decide) (by decide) (by decide)
        have hprx : PrAt wx pp a xx := hkx2.2 _ _ _ _ hpr (by decide) (by decide) (by decide) (by decide) (by decide) (by decide)
        refine hK.out _ _ ⟨hprx, HEX.out⟩ (fun hHeld2 => ?_)
        clear hK K cw
        try simp only [List.getElem_toArray, List.getElem_cons_zero, List.getElem_cons_succ, Act.put, List.setIfInBounds_toArray, List.set_cons_zero, List.set_cons_succ]
        refine wpAnyH_done (by kernel_rfl) ?_ _
        refine NoPanic.normal ?_
        have HPX : Hid (Pr w.heap.size w2 wx pp a (wrX S 2 o.off o.data).1) := hpx
        have HAX : Hid (Ap (wrX S 2 o.off o.data).1) := Ap.wr HW2.out _ _
        have HKX : Hid (Sk (wrX S 2 o.off o.data).1 (13 + 25 * i + 9)) := exk_wr HW3.out 2 _ _
        obtain ⟨SX, hSX⟩ : ∃ SX, (wrX S 2 o.off o.data).1 = SX := ⟨_, rfl⟩
        rw [hSX] at HPX HAX HKX
        generalize (wrX S 2 o.off o.data).2 = we at *
        have v0 := HEX.out.c0
        rw [HF0.out] at v0
        clear hHeld hHeld2 hpx hkx2 hprx hS0 hpr HP8 HE8 hSX
        have q := HPX.out.c0
        have c := HPX.out.read 3 (by decide) (by decide) 0 64 (by decide) (by decide) HKX.out (by have := HN60.out; omega)
        rw [(Ap.rd HAX.out).2] at c
        have HA9 : Hid (Ap (rdX SX 3 0 64).1) := (Ap.rd HAX.out).1
        have HK9 : Hid (Sk (rdX SX 3 0 64).1 (13 + 25 * (i + 1))) := (exk_rd HKX.out 3 0 64).mono (by omega)
        obtain ⟨S9, hS9⟩ : ∃ S9, (rdX SX 3 0 64).1 = S9 := ⟨_, rfl⟩
        rw [hS9] at c HA9 HK9
        unfold othB at c
        clear hS9
        go_wp2_with fail
        refine c.mono ?_
        rintro e w9 ⟨rfl, hp9, hk9⟩
        clear c q
        have HP9 : Hid (Pr w.heap.size w2 w9 pp a S9) := hp9
        clear hp9 hk9
        go_wp2
        go_roundg (len - (i + 1))
        case measure => omega
        case rel => exact ⟨i + 1, S9, by rw [show ((i : Int) + 1) = ((i + 1 : Nat) : Int) by omega], by omega, by omega, HP9.out, HA9.out, HK9.out⟩
      by_cases h2 : f0 = 2
      · subst h2
        obtain ⟨XX, xx, hpr, _⟩ := HP8.out.ex
        have hS0 : PrAt w8.drew pp a xx ∧ EoRow w8.drew wr.heap.size o := ⟨hpr, HE8.out⟩
        go_wp2_with fail
        try rw [hw8]
        clear q0 q1 q2 q3 q4 hw8 u0
        skip
        refine wp_region_noPanic ?_
        refine wp_region_held_drew (S := fun W => PrAt W pp a xx ∧ EoRow W wr.heap.size o) (by kernel_rfl) hS0 (fun hHeld => ?_)
        refine wpAnyH_take (i := 0) (v := .pointer (some ⟨pp, 0, none⟩)) rfl (by kernel_rfl) (by kernel_rfl) (by kernel_rfl) (fun _ _ _ h => h) (Or.inl ⟨by rfl, fun W hSw => by (try dsimp only at hSw); go_simp⟩) (by assumption) ?_
        try simp only [List.getElem_toArray, List.getElem_cons_zero, List.getElem_cons_succ, Act.put, List.setIfInBounds_toArray, List.set_cons_zero, List.set_cons_succ]
        refine wpAnyH_take (i := 1) (v := .pointer (some ⟨pp, 0, none⟩)) rfl (by kernel_rfl) (by kernel_rfl) (by kernel_rfl) (fun _ _ _ h => h) (Or.inl ⟨by rfl, fun W hSw => by (try dsimp only at hSw); go_simp⟩) (by assumption) ?_
        try simp only [List.getElem_toArray, List.getElem_cons_zero, List.getElem_cons_succ, Act.put, List.setIfInBounds_toArray, List.set_cons_zero, List.set_cons_succ]
        refine wpAnyH_take (i := 2) (v := .pointer (some ⟨pp, 0, none⟩)) rfl (by kernel_rfl) (by kernel_rfl) (by kernel_rfl) (fun _ _ _ h => h) (Or.inl ⟨by rfl, fun W hSw => by (try dsimp only at hSw); go_simp⟩) (by assumption) ?_
        try simp only [List.getElem_toArray, List.getElem_cons_zero, List.getElem_cons_succ, Act.put, List.setIfInBounds_toArray, List.set_cons_zero, List.set_cons_succ]
        refine wpAnyH_take (i := 3) (v := .pointer (some ⟨a.s, 0, none⟩)) rfl (by kernel_rfl) (by kernel_rfl) (by kernel_rfl) (fun _ _ _ h => h) (Or.inl ⟨by rfl, fun W hSw => by (try dsimp only at hSw); (have z := hSw.1.c0; go_simp)⟩) (by assumption) ?_
        try simp only [List.getElem_toArray, List.getElem_cons_zero, List.getElem_cons_succ, Act.put, List.setIfInBounds_toArray, List.set_cons_zero, List.set_cons_succ]
        refine wpAnyH_take (i := 4) (v := .int .u32 2) rfl (by kernel_rfl) (by kernel_rfl) (by kernel_rfl) (fun _ _ _ h => h) (Or.inl ⟨by rfl, fun W hSw => by (try dsimp only at hSw); go_simp⟩) (by assumption) ?_
        try simp only [List.getElem_toArray, List.getElem_cons_zero, List.getElem_cons_succ, Act.put, List.setIfInBounds_toArray, List.set_cons_zero, List.set_cons_succ]
        refine wpAnyH_take (i := 5) (v := .pointer (some ⟨wr.heap.size, 2, none⟩)) rfl (by kernel_rfl) (by kernel_rfl) (by kernel_rfl) (fun _ _ _ h => h) (Or.inl ⟨by rfl, fun W hSw => by (try dsimp only at hSw); go_simp⟩) (by assumption) ?_
        try simp only [List.getElem_toArray, List.getElem_cons_zero, List.getElem_cons_succ, Act.put, List.setIfInBounds_toArray, List.set_cons_zero, List.set_cons_succ]
        refine wpAnyH_take (i := 6) (v := .int .i64 o.n) rfl (by kernel_rfl) (by kernel_rfl) (by kernel_rfl) (fun _ _ _ h => h) (Or.inl ⟨by rfl, fun W hSw => by (try dsimp only at hSw); (have z := hSw.2.c2; go_simp)⟩) (by assumption) ?_
        try simp only [List.getElem_toArray, List.getElem_cons_zero, List.getElem_cons_succ, Act.put, List.setIfInBounds_toArray, List.set_cons_zero, List.set_cons_succ]
        have cw := (HP8.out.below (Below.refl _ _).drew).trunc 2 (by decide) (by decide) o.n HW3.out (by have := HN60.out; omega)
        refine wpAnyH_ready (rs := [7]) (by kernel_rfl) (by simp) ?_
        refine AllReadyH.cons rfl (fun K hK => ?_) AllReadyH.nil
        go_simp
        go_wp2_with (go_at_call 15; refine cw.mono ?_; rintro e wx ⟨rfl, hpx, hkx2⟩)
        have HEX : Hid (EoRow wx wr.heap.size o) := hkx2.2 _ _ _ _ (show w8.drew.heap[wr.heap.size]? = some (.cells (eopC o) 30 (0, 0)) from HE8.out) (by decide) (by decide) (by decide) (by decide) (by decide) (by decide)
        have hprx : PrAt wx pp a xx := hkx2.2 _ _ _ _ hpr (by decide) (by decide) (by decide) (by decide) (by decide) (by decide)
        refine hK.out _ _ ⟨hprx, HEX.out⟩ (fun hHeld2 => ?_)
        clear hK K cw
        try simp only [List.getElem_toArray, List.getElem_cons_zero, List.getElem_cons_succ, Act.put, List.setIfInBounds_toArray, List.set_cons_zero, List.set_cons_succ]
        refine wpAnyH_done (by kernel_rfl) ?_ _
        refine NoPanic.normal ?_
        have HPX : Hid (Pr w.heap.size w2 wx pp a (trX S 2 o.n).1) := hpx
        have HAX : Hid (Ap (trX S 2 o.n).1) := Ap.tr HW2.out _
        have HKX : Hid (Sk (trX S 2 o.n).1 (13 + 25 * i + 23)) := exk_tr HP8.out.dlo HW3.out 2 _
        obtain ⟨SX, hSX⟩ : ∃ SX, (trX S 2 o.n).1 = SX := ⟨_, rfl⟩
        rw [hSX] at HPX HAX HKX
        generalize (trX S 2 o.n).2 = we at *
        clear hHeld hHeld2 hpx hkx2 hprx hS0 hpr HP8 HE8 hSX
        have q := HPX.out.c0
        have c := HPX.out.read 3 (by decide) (by decide) 0 64 (by decide) (by decide) HKX.out (by have := HN60.out; omega)
        rw [(Ap.rd HAX.out).2] at c
        have HA9 : Hid (Ap (rdX SX 3 0 64).1) := (Ap.rd HAX.out).1
        have HK9 : Hid (Sk (rdX SX 3 0 64).1 (13 + 25 * (i + 1))) := (exk_rd HKX.out 3 0 64).mono (by omega)
        obtain ⟨S9, hS9⟩ : ∃ S9, (rdX SX 3 0 64).1 = S9 := ⟨_, rfl⟩
        rw [hS9] at c HA9 HK9
        unfold othB at c
        clear hS9
        go_wp2_with fail
        refine c.mono ?_
        rintro e w9 ⟨rfl, hp9, hk9⟩
        clear c q
        have HP9 : Hid (Pr w.heap.size w2 w9 pp a S9) := hp9
        clear hp9 hk9
        go_wp2
        go_roundg (len - (i + 1))
        case measure => omega
        case rel => exact ⟨i + 1, S9, by rw [show ((i : Int) + 1) = ((i + 1 : Nat) : Int) by omega], by omega, by omega, HP9.out, HA9.out, HK9.out⟩
      · have h1b : (f0 == 1) = false := by simpa using h1
        have h2b : (f0 == 2) = false := by simpa using h2
        obtain ⟨SX, hSX⟩ : ∃ SX, S = SX := ⟨_, rfl⟩
        subst hSX
        have HPX : Hid (Pr w.heap.size w2 w8 pp a S) := HP8.out
        have HAX : Hid (Ap S) := HW2.out
        have HKX : Hid (Sk S (13 + 25 * i + 23)) := HW3.out.mono (by omega)
        clear HP8 h1 h2
        have q := HPX.out.c0
        have c := HPX.out.read 3 (by decide) (by decide) 0 64 (by decide) (by decide) HKX.out (by have := HN60.out; omega)
        rw [(Ap.rd HAX.out).2] at c
        have HA9 : Hid (Ap (rdX S 3 0 64).1) := (Ap.rd HAX.out).1
        have HK9 : Hid (Sk (rdX S 3 0 64).1 (13 + 25 * (i + 1))) := (exk_rd HKX.out 3 0 64).mono (by omega)
        obtain ⟨S9, hS9⟩ : ∃ S9, (rdX S 3 0 64).1 = S9 := ⟨_, rfl⟩
        rw [hS9] at c HA9 HK9
        unfold othB at c
        clear hS9
        go_wp2_with fail
        try rw [hw8]
        clear q0 q1 q2 q3 q4
        refine c.mono ?_
        rintro e w9 ⟨rfl, hp9, hk9⟩
        clear c q
        have HP9 : Hid (Pr w.heap.size w2 w9 pp a S9) := hp9
        clear hp9 hk9
        go_wp2
        go_roundg (len - (i + 1))
        case measure => omega
        case rel => exact ⟨i + 1, S9, by rw [show ((i : Int) + 1) = ((i + 1 : Nat) : Int) by omega], by omega, by omega, HP9.out, HA9.out, HK9.out⟩
    · obtain rfl : len = i := by omega
      have HB : Hid (Below w.heap.size w wr) := HB2.out.trans HW.out.1.bel
      clear HW
      go_wp2
      go_ret
      exact ⟨rfl, HB.out⟩

/-! ### The row -/
set_option maxRecDepth 100000 in
theorem lifted (os : Os) (started : os.Started) (H : Type) (enc : TypeId × Value → H) :
    ReturnsInHanded {} Tryz.checked os 5 .any (Rows.extentApartSpec.pre6 enc Tryz.prog Tryz.f5 Rows.extentApartRow.domain false) (Rows.extentApartSpec.post enc Tryz.prog Tryz.f5 false true false false) := by
  refine returnsInHanded_of_change (C := Tryz.checked) own started (by kernel_rfl) Tryz.func5
    (ChangeSpec.witness6 (enc := enc) (C := Tryz.checked) false ⟨#[], #[.slice none 0 0], []⟩ 8 (by kernel_rfl) (by kernel_rfl) (by kernel_rfl) (by kernel_rfl)) ?_
  intro W base args ds gs before hval0 hW hcnd _
  have hval : ∀ (j : Nat) t v, Tryz.f5.params[j]? = some t → args[j]? = some v → Value.okWide Tryz.prog W .any base t v := hval0
  have hW' := hW
  obtain ⟨p, q, hA0, hV, rfl, hfz, hnd⟩ := hW
  have hA : DataW.TrodAll enc Tryz.prog W 0 (fun _ => true) true Tryz.f5.params.toList args.toList ds p := hA0
  rw [Tryz.params5] at hA hval
  obtain ⟨v0, vs0, d0, ds0, p0, q0, hargs, rfl, rfl, h0, r0⟩ := trodAll_cons hA
  obtain ⟨rfl, rfl, rfl⟩ := trodAll_nil r0
  obtain rfl : args = #[v0] := by cases args; simp_all
  obtain ⟨rfl, rfl⟩ := trodVars_none hV
  obtain ⟨a0, len0, cap0, rfl⟩ := okWide_slice Tryz.underlying23 (hval 0 23 v0 rfl rfl)
  have k0 := h0
  have lt0 : ∀ x ∈ p0, x.block < W.heap.size := by obtain ⟨m, hm⟩ := k0; exact DataW.trod_lt m _ _ _ hm
  obtain ⟨o0, w0⟩ : ∃ os, EopsAt W a0 len0 cap0 os := by
    obtain ⟨fuel, hf⟩ := h0
    exact eops_of hf
  clear hA0 hval0
  refine (walk a0 len0 cap0 o0 W w0).mono fun e W' ⟨he, bel⟩ => ?_
  subst he
  exact ⟨_, rfl, _, _, _, [], _, [], hW', trodAll_mk1 (shut_bool Tryz.underlying4 _), (trodAll_cons_mk (Below.trod laidOut (by kernel_rfl) (of_decide_eq_true (by kernel_rfl)) k0 bel lt0) trodAll_mk0), rfl, bel.frame _, fun h => by cases h⟩

theorem over : Rows.extentApartRow.holds Tryz.pinned (OpenSpec.ofChange Rows.extentApartSpec) :=
  OpenClaim.holds_of_wide 5 Tryz.f5 rfl rfl rfl rfl rfl rfl rfl ⟨rfl, rfl, rfl, rfl, rfl⟩ rfl rfl rfl rfl rfl (by kernel_rfl) Tryz.func5 (by kernel_rfl)
    (of_decide_eq_true (by kernel_rfl)) (by unfold Func.isWrapper; first | (rw [if_pos (by decide +kernel)]; kernel_rfl) | (rw [if_neg (by decide +kernel)]; exact ⟨rfl, rfl⟩))
    (fun os started H enc _ => lifted os started H enc)

end Go.Proofs.YtjjhfginmamlkaaGreat.extentApart

namespace Go.Proofs.YtjjhfginmamlkaaGreat
/-- The statement. -/
theorem extentApart_proved : Rows.ExtentApartSaid := extentApart.over
#print axioms extentApart_proved
end Go.Proofs.YtjjhfginmamlkaaGreat
