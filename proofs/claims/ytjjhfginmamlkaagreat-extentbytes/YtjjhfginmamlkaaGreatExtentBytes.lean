/- Proved: A file that is written and cut has just the bytes that a list of bytes would have: for every list of calls. -/
import Derived.Test.YtjjhfginmamlkaaGreatExB
import Derived.Test.YtjjhfginmamlkaaGreatA1
import Derived.Deep.RegionHeld3
import Derived.BigQuiet
import Derived.Deep.QuietTactic
import Derived.WalkSmall
import Derived.ProofKit
import Derived.OpenShut
import Derived.ShutString
import Derived.ChangeOld
import Derived.Below
import Derived.Carry
import Derived.Deep.CutRange
import Derived.Deep.CutBlock
namespace Go.Proofs.YtjjhfginmamlkaaGreat.extentBytes
open Go.ChangeShapes Go.WideShapes Go.ChangeAt Go.RowKit
open Go.ChangeMaps (open_string shut_string)
set_option linter.unusedVariables false
set_option linter.unusedSimpArgs false

theorem own : ownKnob Tryz.prog.godebug = none := by kernel_rfl
theorem laidOut : laidOutB Tryz.prog = true := by kernel_rfl

set_option maxRecDepth 100000 in
set_option maxHeartbeats 16000000 in
theorem walk (ad : Option Addr) (len cap : Nat) (os : List Eop) (w : World) (hos : EopsAt w ad len cap os) : Calls Tryz.prog 4 #[.slice ad len cap] w fun e w' => e = .returned (.bool true) ∧ Below w.heap.size w w' := by
  have HOS : Hid (EopsAt w ad len cap os) := hos
  have HLN : Hid (os.length = len) := hos.len
  clear hos
  go_enter Tryz.func4, Tryz.ntmps4
  have cv := exlive_any w
  go_wp2_with fail
  refine cv.mono ?_
  rintro e w2 ⟨rfl, hb2⟩
  clear cv
  have HB2 : Hid (Below w.heap.size w w2) := hb2
  have cb := begin_in w2 none 0 0 [] ⟨rfl, Nat.le_refl _, Nat.zero_le _, fun h => by omega⟩ (B := w.heap.size) hb2.size (fun q h => by omega) 64 (by decide) 2 (by decide) (by decide)
  clear hb2
  go_wp2_with fail
  refine cb.mono ?_
  intro e w3 hbg
  obtain ⟨pp, a, rfl, hp⟩ := Pr.of hbg HB2.out.size
  clear cb hbg
  have HP3 : Hid (Pr w.heap.size w2 w3 pp a z0) := hp
  clear hp
  by_cases h60 : 60 < len
  · have h60I : (60 : Int) < (len : Int) := by omega
    have HB : Hid (Below w.heap.size w w3) := HB2.out.trans HP3.out.bel
    clear HP3
    go_wp2
    go_ret
    exact ⟨rfl, HB.out⟩
  have h60I : ¬ (60 : Int) < (len : Int) := by omega
  have HN60 : Hid (len ≤ 60) := by unfold Hid; omega
  have k0 : Sk z0 0 := exk0 _ _ _
  have q := HP3.out.c0
  have c := HP3.out.makeT 1 0 k0 (by decide)
  rw [zlv1] at c
  have K1 : Hid (Sk z1 (2 + 40 * 0)) := (exk_make k0 1 0).mono (by decide)
  clear HP3 k0
  go_wp2_with fail
  refine c.mono ?_
  rintro e w4 ⟨rfl, hp, _⟩
  clear c q
  have HP6 : Hid (Pr w.heap.size w2 w4 pp a z1) := hp
  obtain ⟨hbs, hfl⟩ := one_start hp.dlo K1.out.ck
  have HBS6 : Hid (Bs z1 (KF 2)) := hbs
  have HFL6 : Hid (Fl z1 2 []) := hfl
  obtain ⟨S6, hS6⟩ : ∃ S6, z1 = S6 := ⟨_, rfl⟩
  rw [hS6] at HP6 HBS6 HFL6 K1
  clear hp hbs hfl hS6
  go_wp2
  go_loopg [7, 10, 11, 12, 13, 14, 15, 42] len (fun kx s7 s10 s11 s12 s13 s14 s15 s42 wr => ∃ (i : Nat) (S : Sg) (xs : List Int) (wa : Option Addr) (wn wc : Nat), s42 = .int .i64 i ∧ s7 = .slice wa wn wc ∧ i ≤ len ∧ len - i ≤ kx ∧ Hid (Pr w.heap.size w2 wr pp a S ∧ Bs S (KF 2) ∧ Fl S 2 xs ∧ Own wr w.heap.size (.slice wa wn wc) xs ∧ Sk S (2 + 40 * i)))
  case atStart => exact ⟨0, S6, [], none, 0, 0, rfl, rfl, Nat.zero_le _, by omega, HP6.out, HBS6.out, HFL6.out, Own.nil _ _, K1.out⟩
  case round =>
    obtain ⟨i, S, xs, wa, wn, wc, rfl, rfl, hin, hkx, HW⟩ := hrel
    by_cases hlt : i < len
    · obtain ⟨o, hy⟩ : ∃ o, os[i]? = some o := ⟨_, List.getElem?_eq_getElem (by have := HLN.out; omega)⟩
      obtain ⟨hw1, hw2, hw3, hw4, hw5⟩ := HW.out
      have hor := HOS.out.below (HB2.out.trans hw1.bel)
      obtain ⟨ob, oo, rfl, hob⟩ := hor.open hy
      obtain ⟨q0, q1, q2, q3, q4⟩ := eop_cells hor.1 hy
      have HOK : Hid (EopOk o) := HOS.out.2 o (List.mem_of_getElem? hy)
      have HW2 : Hid (Bs S (KF 2)) := hw2
      have HW3 : Hid (Fl S 2 xs) := hw3
      have HW5 : Hid (Sk S (2 + 40 * i)) := hw5
      have HWN : Hid (xs.length = wn ∧ xs.length ≤ 512) := by
        obtain ⟨a', c', e⟩ := row_slice hw4
        simp only [Value.slice.injEq] at e
        exact ⟨e.2.1.symm, hw3.len⟩
      obtain ⟨gr, hgr⟩ : ∃ gr, wr.heap.size = gr := ⟨_, rfl⟩
      have HE8 : Hid (EoRow (wr.alloc (.cells (eopC o) 30)) gr o) := by rw [← hgr]; exact heap_alloc_new wr _
      have HP8 : Hid (Pr w.heap.size w2 (wr.alloc (.cells (eopC o) 30)) pp a S) := hw1.below (bel1 wr _)
      have HO8 : Hid (Own (wr.alloc (.cells (eopC o) 30)) w.heap.size (.slice wa wn wc) xs) := hw4.below (bel1 wr _)
      unfold eopC at HE8 HP8 HO8
      obtain ⟨w8, hw8⟩ : ∃ w8, wr.alloc (.cells #[.int .i64 o.f0, .int .i64 o.off, .int .i64 o.n, .int .u32 o.ino, .string o.data] 30) = w8 := ⟨_, rfl⟩
      rw [hw8] at HE8 HP8 HO8
      have u0 := HE8.out.c0
      rw [← hgr] at u0
      have HGR : Hid (wr.heap.size = gr) := hgr
      clear hgr
      have hiI : (i : Int) < (len : Int) := by omega
      have hib : (i : Int) + 1 ≤ 1001 := by have := HN60.out; omega
      obtain ⟨f0, hf0⟩ : ∃ f0, o.f0 = f0 := ⟨_, rfl⟩
      rw [hf0] at u0
      clear hw1 hw2 hw3 hw4 hw5 hy hor hob HW hf0
      by_cases h1 : f0 = 1
      · subst h1
        obtain ⟨XX, xx, hpr, _⟩ := HP8.out.ex
        have hS0 : PrAt w8.drew pp a xx ∧ EoRow w8.drew gr o := ⟨hpr, HE8.out⟩
        go_wp2_with fail
        try rw [hw8]
        rw [HGR.out]
        clear q0 q1 q2 q3 q4 hw8 u0 HGR
        refine wp_region_noPanic ?_
        refine wp_region_held_drew (S := fun W => PrAt W pp a xx ∧ EoRow W gr o) (by kernel_rfl) hS0 (fun hHeld => ?_)
        refine wpAnyH_take (i := 0) (v := .pointer (some ⟨pp, 0, none⟩)) rfl (by kernel_rfl) (by kernel_rfl) (by kernel_rfl) (fun _ _ _ h => h) (Or.inl ⟨by rfl, fun W hSw => by (try dsimp only at hSw); go_simp⟩) (by assumption) ?_
        try simp only [List.getElem_toArray, List.getElem_cons_zero, List.getElem_cons_succ, Act.put, List.setIfInBounds_toArray, List.set_cons_zero, List.set_cons_succ]
        refine wpAnyH_take (i := 1) (v := .pointer (some ⟨pp, 0, none⟩)) rfl (by kernel_rfl) (by kernel_rfl) (by kernel_rfl) (fun _ _ _ h => h) (Or.inl ⟨by rfl, fun W hSw => by (try dsimp only at hSw); go_simp⟩) (by assumption) ?_
        try simp only [List.getElem_toArray, List.getElem_cons_zero, List.getElem_cons_succ, Act.put, List.setIfInBounds_toArray, List.set_cons_zero, List.set_cons_succ]
        refine wpAnyH_take (i := 2) (v := .pointer (some ⟨pp, 0, none⟩)) rfl (by kernel_rfl) (by kernel_rfl) (by kernel_rfl) (fun _ _ _ h => h) (Or.inl ⟨by rfl, fun W hSw => by (try dsimp only at hSw); go_simp⟩) (by assumption) ?_
        try simp only [List.getElem_toArray, List.getElem_cons_zero, List.getElem_cons_succ, Act.put, List.setIfInBounds_toArray, List.set_cons_zero, List.set_cons_succ]
        refine wpAnyH_take (i := 3) (v := .pointer (some ⟨a.s, 0, none⟩)) rfl (by kernel_rfl) (by kernel_rfl) (by kernel_rfl) (fun _ _ _ h => h) (Or.inl ⟨by rfl, fun W hSw => by (try dsimp only at hSw); (have z := hSw.1.c0; go_simp)⟩) (by assumption) ?_
        try simp only [List.getElem_toArray, List.getElem_cons_zero, List.getElem_cons_succ, Act.put, List.setIfInBounds_toArray, List.set_cons_zero, List.set_cons_succ]
        refine wpAnyH_take (i := 4) (v := .int .u32 2) rfl (by kernel_rfl) (by kernel_rfl) (by kernel_rfl) (fun _ _ _ h => h) (Or.inl ⟨by rfl, fun W hSw => by (try dsimp only at hSw); go_simp⟩) (by assumption) ?_
        try simp only [List.getElem_toArray, List.getElem_cons_zero, List.getElem_cons_succ, Act.put, List.setIfInBounds_toArray, List.set_cons_zero, List.set_cons_succ]
        refine wpAnyH_take (i := 5) (v := .pointer (some ⟨gr, 1, none⟩)) rfl (by kernel_rfl) (by kernel_rfl) (by kernel_rfl) (fun _ _ _ h => h) (Or.inl ⟨by rfl, fun W hSw => by (try dsimp only at hSw); go_simp⟩) (by assumption) ?_
        try simp only [List.getElem_toArray, List.getElem_cons_zero, List.getElem_cons_succ, Act.put, List.setIfInBounds_toArray, List.set_cons_zero, List.set_cons_succ]
        refine wpAnyH_take (i := 6) (v := .int .i64 o.off) rfl (by kernel_rfl) (by kernel_rfl) (by kernel_rfl) (fun _ _ _ h => h) (Or.inl ⟨by rfl, fun W hSw => by (try dsimp only at hSw); (have z := hSw.2.c1; go_simp)⟩) (by assumption) ?_
        try simp only [List.getElem_toArray, List.getElem_cons_zero, List.getElem_cons_succ, Act.put, List.setIfInBounds_toArray, List.set_cons_zero, List.set_cons_succ]
        refine wpAnyH_take (i := 7) (v := .pointer (some ⟨gr, 4, none⟩)) rfl (by kernel_rfl) (by kernel_rfl) (by kernel_rfl) (fun _ _ _ h => h) (Or.inl ⟨by rfl, fun W hSw => by (try dsimp only at hSw); go_simp⟩) (by assumption) ?_
        try simp only [List.getElem_toArray, List.getElem_cons_zero, List.getElem_cons_succ, Act.put, List.setIfInBounds_toArray, List.set_cons_zero, List.set_cons_succ]
        refine wpAnyH_take (i := 8) (v := .string o.data) rfl (by kernel_rfl) (by kernel_rfl) (by kernel_rfl) (fun _ _ _ h => h) (Or.inl ⟨by rfl, fun W hSw => by (try dsimp only at hSw); (have z := hSw.2.c4; go_simp)⟩) (by assumption) ?_
        try simp only [List.getElem_toArray, List.getElem_cons_zero, List.getElem_cons_succ, Act.put, List.setIfInBounds_toArray, List.set_cons_zero, List.set_cons_succ]
        have cw := (HP8.out.below (Below.refl _ _).drew).write 2 (by decide) (by decide) o.off o.data HOK.out.a4 HW5.out (by have := HN60.out; omega)
        refine wpAnyH_ready (rs := [9]) (by kernel_rfl) (by simp) ?_
        refine AllReadyH.cons rfl (fun K hK => ?_) AllReadyH.nil
        go_simp
        go_wp2_with (go_at_call 14; refine cw.mono ?_; rintro e wx ⟨rfl, hpx, hkx2⟩)
        have HEX : Hid (EoRow wx gr o) := hkx2.2 _ _ _ _ (show w8.drew.heap[gr]? = some (.cells (eopC o) 30 (0, 0)) from HE8.out) (by decide) (by decide) (by decide) (by decide) (by decide) (by decide)
        have hprx : PrAt wx pp a xx := hkx2.2 _ _ _ _ hpr (by decide) (by decide) (by decide) (by decide) (by decide) (by decide)
        refine hK.out _ _ ⟨hprx, HEX.out⟩ (fun hHeld2 => ?_)
        clear hK K cw
        try simp only [List.getElem_toArray, List.getElem_cons_zero, List.getElem_cons_succ, Act.put, List.setIfInBounds_toArray, List.set_cons_zero, List.set_cons_succ]
        refine wpAnyH_take (i := 10) (v := .int .i64 (wrX S 2 o.off o.data).2) rfl (by kernel_rfl) (by kernel_rfl) (by kernel_rfl) (fun _ _ _ h => h) (Or.inl ⟨by rfl, fun W hSw => by (try dsimp only at hSw); go_simp⟩) (by assumption) ?_
        try simp only [List.getElem_toArray, List.getElem_cons_zero, List.getElem_cons_succ, Act.put, List.setIfInBounds_toArray, List.set_cons_zero, List.set_cons_succ]
        refine wpAnyH_done (by kernel_rfl) ?_ _
        refine NoPanic.normal ?_
        have HPX : Hid (Pr w.heap.size w2 wx pp a (wrX S 2 o.off o.data).1) := hpx
        have HOX : Hid (Own wx w.heap.size (.slice wa wn wc) xs) := (HO8.out.below (Below.refl _ _).drew).keepT hkx2
        obtain ⟨hx1, hx2, hx3, hx4⟩ := wr_any HW2.out HW3.out (KF_dat 2) (KF_rec 2) o.off o.data
        have HBX : Hid (Bs (wrX S 2 o.off o.data).1 (KF 2)) := hx1
        have HFX0 : Hid (Fl (wrX S 2 o.off o.data).1 2 _) := hx2
        have HKX : Hid (Sk (wrX S 2 o.off o.data).1 (2 + 40 * i + 23)) := (exk_wr HW5.out 2 _ _).mono (by omega)
        have HWE : Hid (((wrX S 2 o.off o.data).2 == 0) = _) := hx4
        obtain ⟨SX, hSX⟩ : ∃ SX, (wrX S 2 o.off o.data).1 = SX := ⟨_, rfl⟩
        rw [hSX] at HPX HBX HFX0 HKX
        generalize (wrX S 2 o.off o.data).2 = we at *
        clear hHeld hHeld2 hpx hkx2 hprx hS0 hpr HP8 HE8 HO8 hSX hx1 hx2 hx3 hx4
        have v1 := HEX.out.c1
        have v4 := HEX.out.c4
        have HDZ : Hid (o.data.size ≤ 9223372036854775807) := HOK.out.a4
        by_cases c1 : o.off < 0
        · have hg : goodW o.off o.data = false := by unfold goodW; simp [show ¬ 0 ≤ o.off by omega]
          have hwe := HWE.out
          rw [hg] at hwe
          have HXS : Hid (wrL xs o.off o.data = xs) := by unfold Hid wrL; rw [hg, if_neg (by simp)]
          have HFX : Hid (Fl SX 2 (wrL xs o.off o.data)) := HFX0.out
          have c1' : ¬ 0 ≤ o.off := by omega
          clear HWE hg HFX0
          go_wp2
          go_roundg (len - (i + 1))
          case measure => omega
          case rel => exact ⟨i + 1, SX, xs, wa, wn, wc, by rw [show ((i : Int) + 1) = ((i + 1 : Nat) : Int) by omega], rfl, by omega, by omega, HPX.out, HBX.out, by rw [← HXS.out]; exact HFX.out, HOX.out, HKX.out.mono (by omega)⟩
        by_cases c2 : 64 < o.data.size
        · have hg : goodW o.off o.data = false := by unfold goodW; simp [show ¬ o.data.size ≤ 64 by omega]
          have hwe := HWE.out
          rw [hg] at hwe
          have HXS : Hid (wrL xs o.off o.data = xs) := by unfold Hid wrL; rw [hg, if_neg (by simp)]
          have HFX : Hid (Fl SX 2 (wrL xs o.off o.data)) := HFX0.out
          have c2I : ¬ (o.data.size : Int) ≤ 64 := by omega
          have hdz := HDZ.out
          clear HWE hg HFX0
          go_wp2
          go_roundg (len - (i + 1))
          case measure => omega
          case rel => exact ⟨i + 1, SX, xs, wa, wn, wc, by rw [show ((i : Int) + 1) = ((i + 1 : Nat) : Int) by omega], rfl, by omega, by omega, HPX.out, HBX.out, by rw [← HXS.out]; exact HFX.out, HOX.out, HKX.out.mono (by omega)⟩
        have c1I : 0 ≤ o.off := by omega
        have c2I : (o.data.size : Int) ≤ 64 := by omega
        have c2N : o.data.size ≤ 64 := by omega
        by_cases c3 : o.data.size = 0
        · have hg : goodW o.off o.data = true := by unfold goodW; simp [c1I, c3]
          have hwe := HWE.out
          rw [hg] at hwe
          have HXS : Hid (wrL xs o.off o.data = xs) := by unfold Hid wrL; rw [if_neg (by simp [c3])]
          have HFX : Hid (Fl SX 2 (wrL xs o.off o.data)) := HFX0.out
          have hdd : o.data = ByteArray.empty := ByteArray.ext (Array.eq_empty_of_size_eq_zero c3)
          rw [hdd] at v4
          clear HWE hg HFX0
          go_wp2
          go_roundg (len - (i + 1))
          case measure => omega
          case rel => exact ⟨i + 1, SX, xs, wa, wn, wc, by rw [show ((i : Int) + 1) = ((i + 1 : Nat) : Int) by omega], rfl, by omega, by omega, HPX.out, HBX.out, by rw [← HXS.out]; exact HFX.out, HOX.out, HKX.out.mono (by omega)⟩
        have hde1 : (o.data.toList == []) = false := by
          cases hq : o.data.toList with
          | nil => exfalso; apply c3; have := congrArg List.length hq; rw [ByteArray.toList_eq] at this; simpa using this
          | cons x r => rfl
        have hde2 : o.data.toList.isEmpty = false := by cases hq : o.data.toList with
          | nil => rw [hq] at hde1; cases hde1
          | cons x r => rfl
        by_cases c4 : o.off ≤ 512 - (o.data.size : Int)
        case neg =>
          have hg : goodW o.off o.data = false := by unfold goodW; simp [c3, c4]
          have hwe := HWE.out
          rw [hg] at hwe
          have HXS : Hid (wrL xs o.off o.data = xs) := by unfold Hid wrL; rw [hg, if_neg (by simp)]
          have HFX : Hid (Fl SX 2 (wrL xs o.off o.data)) := HFX0.out
          clear HWE hg HFX0
          go_wp2
          go_roundg (len - (i + 1))
          case measure => omega
          case rel => exact ⟨i + 1, SX, xs, wa, wn, wc, by rw [show ((i : Int) + 1) = ((i + 1 : Nat) : Int) by omega], rfl, by omega, by omega, HPX.out, HBX.out, by rw [← HXS.out]; exact HFX.out, HOX.out, HKX.out.mono (by omega)⟩
        have hg : goodW o.off o.data = true := by unfold goodW; simp [c1I, c2N, c4]
        have hwe := HWE.out
        rw [hg] at hwe
        have HFX1 : Hid (Fl SX 2 (ovl xs o.off.toNat (strB o.data))) := by
          have := HFX0.out
          unfold wrL at this
          rw [hg, if_pos ⟨rfl, c3⟩] at this
          exact this
        obtain ⟨of, hof⟩ : ∃ of : Nat, o.off = (of : Int) := ⟨o.off.toNat, by omega⟩
        obtain ⟨sz, hsz⟩ : ∃ sz, o.data.size = sz := ⟨_, rfl⟩
        have HOF : Hid (o.off = (of : Int) ∧ o.data.size = sz ∧ 0 < sz ∧ sz ≤ 64 ∧ of + sz ≤ 512) := ⟨hof, hsz, by omega, by omega, by omega⟩
        have HFX : Hid (Fl SX 2 (ovl xs of (strB o.data))) := by rw [show of = o.off.toNat by omega]; exact HFX1.out
        have k1 : (of : Int) ≤ 512 := by omega
        have k2 : (sz : Int) ≤ 64 := by omega
        rw [hof] at v1 c1I c4
        rw [hsz] at c2I c4
        have hszE := hsz
        clear HWE hg HFX0 HFX1 c1 c2 c2N c3 hof
        go_wp2
        clear v1 v4 hwe c1I c2I c4
        go_loopg [7] 600 (fun ky s7 wr => ∃ (j : Nat) (wa : Option Addr) (wn wc : Nat), s7 = .slice wa wn wc ∧ xs.length + j = wn ∧ wn ≤ max xs.length (of + sz) ∧ (of + sz) - wn ≤ ky ∧ Hid (Pr w.heap.size w2 wr pp a SX ∧ EoRow wr gr o ∧ Own wr w.heap.size (.slice wa wn wc) (padL xs j)))
        case atStart => exact ⟨0, wa, wn, wc, rfl, by have := HWN.out; omega, by have := HWN.out; omega, by omega, HPX.out, HEX.out, by unfold padL; rw [List.replicate_zero, List.append_nil]; exact HOX.out⟩
        case round =>
          obtain ⟨j, wa, wn, wc, rfl, hj1, hj2, hj3, HI⟩ := hrel
          obtain ⟨p1, p2, p3⟩ := HI.out
          have v1 := p2.c1
          have v4 := p2.c4
          rw [HOF.out.1] at v1
          have hwnB : wn ≤ 1024 := by have := HWN.out; have := HOF.out; omega
          by_cases hmore : wn < of + sz
          · have hmI : (wn : Int) < (of : Int) + (sz : Int) := by omega
            have hrd : Rd (wr.alloc (.cells #[.int .u8 0] 5)) (.slice (some ⟨wr.heap.size, 0, none⟩) 1 1) [0] := Rd.laid rfl (by unfold maxLen; omega) rfl
            have hbq := bel1 wr (.cells #[.int .u8 0] 5)
            have hown := Own.below p3 hbq
            have HP1 : Hid (Pr w.heap.size w2 (wr.alloc (.cells #[.int .u8 0] 5)) pp a SX) := p1.below hbq
            have HE1 : Hid (EoRow (wr.alloc (.cells #[.int .u8 0] 5)) gr o) := p2.below hbq
            have HW1 : Hid (Own (wr.alloc (.cells #[.int .u8 0] 5)) w.heap.size (.slice wa wn wc) (padL xs j)) := hown
            have HSZ : Hid (w.heap.size ≤ (wr.alloc (.cells #[.int .u8 0] 5)).heap.size) := Nat.le_trans HB2.out.size (Nat.le_trans p1.bel.size hbq.size)
            have HPL : Hid ((padL xs j).length ≤ 1024) := by unfold Hid; rw [padL_len]; omega
            clear p1 p2 p3 hbq HI
            go_wp2_with (refine wpList_append_rd rfl _ _ rfl w.heap.size _ _ rfl hown _ [0] rfl hrd (by have := HPL.out; simp; omega) HSZ.out ?_; rintro v2 wy ho2 hg2)
            obtain ⟨a2, c2, rfl⟩ := row_slice ho2
            rw [padL_next] at ho2
            rw [List.length_append, padL_len] at *
            have HO2 : Hid (Own wy w.heap.size (.slice a2 (xs.length + j + 1) c2) (padL xs (j + 1))) := by
              have h := ho2
              exact h
            have HP2 : Hid (Pr w.heap.size w2 wy pp a SX) := HP1.out.grown HW1.out hg2
            have HE2 : Hid (EoRow wy gr o) := HE1.out.grown HW1.out hg2
            clear ho2 hg2 hown hrd v1 v4
            go_roundg (of + sz - (wn + 1))
            case measure => omega
            case rel => exact ⟨j + 1, a2, xs.length + j + 1, c2, rfl, by omega, by omega, by omega, HP2.out, HE2.out, HO2.out⟩
          · have hmI : ¬ (wn : Int) < (of : Int) + (sz : Int) := by omega
            obtain ⟨g, hwa⟩ : ∃ g, wa = some ⟨g, 0, none⟩ := by
              rcases p3.2 with ⟨e, e2⟩ | ⟨g, cp, cur, e, _⟩
              · exfalso
                simp only [Value.slice.injEq] at e
                have := HOF.out; omega
              · simp only [Value.slice.injEq] at e
                exact ⟨g, e.1⟩
            subst hwa
            have hcapw : wn ≤ wc := by
              rcases p3.2 with ⟨e, e2⟩ | ⟨g', cp, cur, e, _, _, h1, _⟩
              · cases e
              · simp only [Value.slice.injEq] at e
                obtain ⟨_, e2, rfl⟩ := e
                omega
            have hofw : of < wc := by have := HOF.out; omega
            have hofn : of ≤ wn := by have := HOF.out; omega
            have hne : ¬ wc = of := by omega
            obtain ⟨cs, cur, hrow, hgB, hcpy, hown2⟩ := copy_own (w := wr.drew) (B := w.heap.size) (g := g) (n := wn) (cap := wc) (xs := padL xs j) (Own.below p3 (Below.refl _ _).drew) of o.data (by rw [HOF.out.2.1]; omega) (by rw [HOF.out.2.1]; exact HOF.out.2.2.1)
            have HP1 : Hid (Pr w.heap.size w2 wr.drew pp a SX) := p1.below (Below.refl _ _).drew
            have HP2 : Hid (Pr w.heap.size w2 (wr.drew.setRow g cs) pp a SX) := HP1.out.soleOwn hrow hgB soleRow
            have hEo : EoRow wr.drew gr o := p2
            have hgne : gr ≠ g := by
              intro e
              subst e
              unfold EoRow at hEo
              rw [hrow] at hEo
              simp only [Option.some.injEq, Obj.cells.injEq] at hEo
              exact absurd hEo.2.1 (by decide)
            have hEo2 : EoRow (wr.drew.setRow g cs) gr o := (setRow_other _ _ _ _ hgne).trans hEo
            rw [pad_ovl xs of (strB o.data) j (by rw [strB_length]; have := HOF.out; omega)] at hown2
            have HOX : Hid (Own (wr.drew.setRow g cs) w.heap.size (.slice (some ⟨g, 0, none⟩) wn wc) (ovl xs of (strB o.data))) := hown2
            obtain ⟨wz, hwz⟩ : ∃ wz, wr.drew.setRow g cs = wz := ⟨_, rfl⟩
            rw [hwz] at hcpy HP2 hEo2 HOX
            have HPX : Hid (Pr w.heap.size w2 wz pp a SX) := HP2.out
            clear p1 p3 hown2 HP1 HP2 hrow hgB hwz HI hcapw
            go_wp2_with fail
            refine wp_region_noPanic ?_
            refine wp_region_held_drew (S := fun W => EoRow W gr o) (by kernel_rfl) hEo (fun hHeld => ?_)
            refine wpAnyH_take (i := 0) (v := .slice (some ⟨g, 0, none⟩) wn wc) rfl (by kernel_rfl) (by kernel_rfl) (by kernel_rfl) (fun _ _ _ h => h) (Or.inl ⟨by rfl, fun W hSw => by (try dsimp only at hSw); go_simp⟩) (by assumption) ?_
            try simp only [List.getElem_toArray, List.getElem_cons_zero, List.getElem_cons_succ, Act.put, List.setIfInBounds_toArray, List.set_cons_zero, List.set_cons_succ]
            refine wpAnyH_take (i := 1) (v := .pointer (some ⟨gr, 1, none⟩)) rfl (by kernel_rfl) (by kernel_rfl) (by kernel_rfl) (fun _ _ _ h => h) (Or.inl ⟨by rfl, fun W hSw => by (try dsimp only at hSw); go_simp⟩) (by assumption) ?_
            try simp only [List.getElem_toArray, List.getElem_cons_zero, List.getElem_cons_succ, Act.put, List.setIfInBounds_toArray, List.set_cons_zero, List.set_cons_succ]
            refine wpAnyH_take (i := 2) (v := .int .i64 (of : Int)) rfl (by kernel_rfl) (by kernel_rfl) (by kernel_rfl) (fun _ _ _ h => h) (Or.inl ⟨by rfl, fun W hSw => by (try dsimp only at hSw); (have z := hSw.c1; rw [HOF.out.1] at z; go_simp)⟩) (by assumption) ?_
            try simp only [List.getElem_toArray, List.getElem_cons_zero, List.getElem_cons_succ, Act.put, List.setIfInBounds_toArray, List.set_cons_zero, List.set_cons_succ]
            refine wpAnyH_take (i := 3) (v := .slice (some ⟨g, of, none⟩) (wn - of) (wc - of)) rfl (by kernel_rfl) (by kernel_rfl) (by kernel_rfl) (fun _ _ _ h => h) (Or.inl ⟨by rfl, fun W hSw => by (try dsimp only at hSw); go_simp⟩) (by assumption) ?_
            try simp only [List.getElem_toArray, List.getElem_cons_zero, List.getElem_cons_succ, Act.put, List.setIfInBounds_toArray, List.set_cons_zero, List.set_cons_succ]
            refine wpAnyH_take (i := 4) (v := .pointer (some ⟨gr, 4, none⟩)) rfl (by kernel_rfl) (by kernel_rfl) (by kernel_rfl) (fun _ _ _ h => h) (Or.inl ⟨by rfl, fun W hSw => by (try dsimp only at hSw); go_simp⟩) (by assumption) ?_
            try simp only [List.getElem_toArray, List.getElem_cons_zero, List.getElem_cons_succ, Act.put, List.setIfInBounds_toArray, List.set_cons_zero, List.set_cons_succ]
            refine wpAnyH_take (i := 5) (v := .string o.data) rfl (by kernel_rfl) (by kernel_rfl) (by kernel_rfl) (fun _ _ _ h => h) (Or.inl ⟨by rfl, fun W hSw => by (try dsimp only at hSw); (have z := hSw.c4; go_simp)⟩) (by assumption) ?_
            try simp only [List.getElem_toArray, List.getElem_cons_zero, List.getElem_cons_succ, Act.put, List.setIfInBounds_toArray, List.set_cons_zero, List.set_cons_succ]
            refine wpAnyH_ready (rs := [6]) (by kernel_rfl) (by simp) ?_
            refine AllReadyH.cons rfl (fun K hK => ?_) AllReadyH.nil
            go_simp
            refine hK.out _ _ hEo2 (fun hHeld2 => ?_)
            clear hK K
            try simp only [List.getElem_toArray, List.getElem_cons_zero, List.getElem_cons_succ, Act.put, List.setIfInBounds_toArray, List.set_cons_zero, List.set_cons_succ]
            refine wpAnyH_done (by kernel_rfl) ?_ _
            refine NoPanic.normal ?_
            clear hHeld hHeld2 hcpy hEo hEo2 p2 v1 v4
            obtain ⟨wa, hwa⟩ : ∃ wa, (some ⟨g, 0, none⟩ : Option Addr) = wa := ⟨_, rfl⟩
            rw [hwa] at HOX ⊢
            clear hwa
            have hcv := (Own.rd HOX.out).conv
            have c := all_in HPX.out HBX.out HFX.out HKX.out (by have := HN60.out; omega)
            obtain ⟨u, hu⟩ : ∃ u, strOfNums (ovl xs of (strB o.data)) = u := ⟨_, rfl⟩
            rw [hu] at c
            clear hcv
            go_wp2_with fail
            refine c.mono ?_
            rintro e w9 ⟨rfl, S9, hp9, hk9, hb9, hf9, hs9⟩
            clear c
            have HO9 : Hid (Own w9 w.heap.size (.slice wa wn wc) (ovl xs of (strB o.data))) := HOX.out.keepT hk9
            have hcv : (convert 42 9 (.slice wa wn wc)).run Tryz.prog w9 = .ok (.string u) w9 := by rw [← hu]; exact (Own.rd HO9.out).conv
            have HP9 : Hid (Pr w.heap.size w2 w9 pp a S9) := hp9
            have HB9 : Hid (Bs S9 (KF 2)) := hb9
            have HF9 : Hid (Fl S9 2 (ovl xs of (strB o.data))) := hf9
            have HS9 : Hid (Sk S9 (2 + 40 * (i + 1))) := hs9.mono (by omega)
            clear hp9 hk9 hb9 hf9 hs9 hu
            go_wp2
            go_roundg (len - (i + 1))
            case measure => omega
            case rel => exact ⟨i + 1, S9, _, wa, wn, wc, by rw [show ((i : Int) + 1) = ((i + 1 : Nat) : Int) by omega], rfl, by omega, by omega, HP9.out, HB9.out, HF9.out, HO9.out, HS9.out⟩
      by_cases h2 : f0 = 2
      · subst h2
        obtain ⟨XX, xx, hpr, _⟩ := HP8.out.ex
        have hS0 : PrAt w8.drew pp a xx ∧ EoRow w8.drew gr o := ⟨hpr, HE8.out⟩
        go_wp2_with fail
        try rw [hw8]
        rw [HGR.out]
        clear q0 q1 q2 q3 q4 hw8 u0 HGR
        refine wp_region_noPanic ?_
        refine wp_region_held_drew (S := fun W => PrAt W pp a xx ∧ EoRow W gr o) (by kernel_rfl) hS0 (fun hHeld => ?_)
        refine wpAnyH_take (i := 0) (v := .pointer (some ⟨pp, 0, none⟩)) rfl (by kernel_rfl) (by kernel_rfl) (by kernel_rfl) (fun _ _ _ h => h) (Or.inl ⟨by rfl, fun W hSw => by (try dsimp only at hSw); go_simp⟩) (by assumption) ?_
        try simp only [List.getElem_toArray, List.getElem_cons_zero, List.getElem_cons_succ, Act.put, List.setIfInBounds_toArray, List.set_cons_zero, List.set_cons_succ]
        refine wpAnyH_take (i := 1) (v := .pointer (some ⟨pp, 0, none⟩)) rfl (by kernel_rfl) (by kernel_rfl) (by kernel_rfl) (fun _ _ _ h => h) (Or.inl ⟨by rfl, fun W hSw => by (try dsimp only at hSw); go_simp⟩) (by assumption) ?_
        try simp only [List.getElem_toArray, List.getElem_cons_zero, List.getElem_cons_succ, Act.put, List.setIfInBounds_toArray, List.set_cons_zero, List.set_cons_succ]
        refine wpAnyH_take (i := 2) (v := .pointer (some ⟨pp, 0, none⟩)) rfl (by kernel_rfl) (by kernel_rfl) (by kernel_rfl) (fun _ _ _ h => h) (Or.inl ⟨by rfl, fun W hSw => by (try dsimp only at hSw); go_simp⟩) (by assumption) ?_
        try simp only [List.getElem_toArray, List.getElem_cons_zero, List.getElem_cons_succ, Act.put, List.setIfInBounds_toArray, List.set_cons_zero, List.set_cons_succ]
        refine wpAnyH_take (i := 3) (v := .pointer (some ⟨a.s, 0, none⟩)) rfl (by kernel_rfl) (by kernel_rfl) (by kernel_rfl) (fun _ _ _ h => h) (Or.inl ⟨by rfl, fun W hSw => by (try dsimp only at hSw); (have z := hSw.1.c0; go_simp)⟩) (by assumption) ?_
        try simp only [List.getElem_toArray, List.getElem_cons_zero, List.getElem_cons_succ, Act.put, List.setIfInBounds_toArray, List.set_cons_zero, List.set_cons_succ]
        refine wpAnyH_take (i := 4) (v := .int .u32 2) rfl (by kernel_rfl) (by kernel_rfl) (by kernel_rfl) (fun _ _ _ h => h) (Or.inl ⟨by rfl, fun W hSw => by (try dsimp only at hSw); go_simp⟩) (by assumption) ?_
        try simp only [List.getElem_toArray, List.getElem_cons_zero, List.getElem_cons_succ, Act.put, List.setIfInBounds_toArray, List.set_cons_zero, List.set_cons_succ]
        refine wpAnyH_take (i := 5) (v := .pointer (some ⟨gr, 2, none⟩)) rfl (by kernel_rfl) (by kernel_rfl) (by kernel_rfl) (fun _ _ _ h => h) (Or.inl ⟨by rfl, fun W hSw => by (try dsimp only at hSw); go_simp⟩) (by assumption) ?_
        try simp only [List.getElem_toArray, List.getElem_cons_zero, List.getElem_cons_succ, Act.put, List.setIfInBounds_toArray, List.set_cons_zero, List.set_cons_succ]
        refine wpAnyH_take (i := 6) (v := .int .i64 o.n) rfl (by kernel_rfl) (by kernel_rfl) (by kernel_rfl) (fun _ _ _ h => h) (Or.inl ⟨by rfl, fun W hSw => by (try dsimp only at hSw); (have z := hSw.2.c2; go_simp)⟩) (by assumption) ?_
        try simp only [List.getElem_toArray, List.getElem_cons_zero, List.getElem_cons_succ, Act.put, List.setIfInBounds_toArray, List.set_cons_zero, List.set_cons_succ]
        have cw := (HP8.out.below (Below.refl _ _).drew).trunc 2 (by decide) (by decide) o.n HW5.out (by have := HN60.out; omega)
        refine wpAnyH_ready (rs := [7]) (by kernel_rfl) (by simp) ?_
        refine AllReadyH.cons rfl (fun K hK => ?_) AllReadyH.nil
        go_simp
        go_wp2_with (go_at_call 15; refine cw.mono ?_; rintro e wx ⟨rfl, hpx, hkx2⟩)
        have HEX : Hid (EoRow wx gr o) := hkx2.2 _ _ _ _ (show w8.drew.heap[gr]? = some (.cells (eopC o) 30 (0, 0)) from HE8.out) (by decide) (by decide) (by decide) (by decide) (by decide) (by decide)
        have hprx : PrAt wx pp a xx := hkx2.2 _ _ _ _ hpr (by decide) (by decide) (by decide) (by decide) (by decide) (by decide)
        refine hK.out _ _ ⟨hprx, HEX.out⟩ (fun hHeld2 => ?_)
        clear hK K cw
        try simp only [List.getElem_toArray, List.getElem_cons_zero, List.getElem_cons_succ, Act.put, List.setIfInBounds_toArray, List.set_cons_zero, List.set_cons_succ]
        refine wpAnyH_take (i := 8) (v := .int .i64 (trX S 2 o.n).2) rfl (by kernel_rfl) (by kernel_rfl) (by kernel_rfl) (fun _ _ _ h => h) (Or.inl ⟨by rfl, fun W hSw => by (try dsimp only at hSw); go_simp⟩) (by assumption) ?_
        try simp only [List.getElem_toArray, List.getElem_cons_zero, List.getElem_cons_succ, Act.put, List.setIfInBounds_toArray, List.set_cons_zero, List.set_cons_succ]
        refine wpAnyH_done (by kernel_rfl) ?_ _
        refine NoPanic.normal ?_
        have HPX : Hid (Pr w.heap.size w2 wx pp a (trX S 2 o.n).1) := hpx
        have HOX : Hid (Own wx w.heap.size (.slice wa wn wc) xs) := (HO8.out.below (Below.refl _ _).drew).keepT hkx2
        obtain ⟨hx1, hx2, hx3, hx4⟩ := tr_any HW2.out HW3.out (KF_dat 2) (KF_rec 2) o.n
        have HBX : Hid (Bs (trX S 2 o.n).1 (KF 2)) := hx1
        have HFX0 : Hid (Fl (trX S 2 o.n).1 2 _) := hx2
        have HKX : Hid (Sk (trX S 2 o.n).1 (2 + 40 * i + 23)) := exk_tr HP8.out.dlo HW5.out 2 _
        have HWE : Hid (((trX S 2 o.n).2 == 0) = _) := hx4
        obtain ⟨SX, hSX⟩ : ∃ SX, (trX S 2 o.n).1 = SX := ⟨_, rfl⟩
        rw [hSX] at HPX HBX HFX0 HKX
        generalize (trX S 2 o.n).2 = we at *
        clear hHeld hHeld2 hpx hkx2 hprx hS0 hpr HP8 HE8 HO8 hSX hx1 hx2 hx3 hx4
        have v2 := HEX.out.c2
        by_cases c1 : o.n < 0
        · have hg : goodT o.n = false := by unfold goodT; simp [show ¬ 0 ≤ o.n by omega]
          have hwe := HWE.out
          rw [hg] at hwe
          have HXS : Hid (trL xs o.n = xs) := by unfold Hid trL; rw [hg, if_neg (by simp)]
          have HFX : Hid (Fl SX 2 (trL xs o.n)) := HFX0.out
          have c1' : ¬ 0 ≤ o.n := by omega
          clear HWE hg HFX0
          go_wp2
          go_roundg (len - (i + 1))
          case measure => omega
          case rel => exact ⟨i + 1, SX, xs, wa, wn, wc, by rw [show ((i : Int) + 1) = ((i + 1 : Nat) : Int) by omega], rfl, by omega, by omega, HPX.out, HBX.out, by rw [← HXS.out]; exact HFX.out, HOX.out, HKX.out.mono (by omega)⟩
        have c1I : 0 ≤ o.n := by omega
        by_cases c2 : o.n ≤ 512
        case neg =>
          have hg : goodT o.n = false := by unfold goodT; simp [c2]
          have hwe := HWE.out
          rw [hg] at hwe
          have HXS : Hid (trL xs o.n = xs) := by unfold Hid trL; rw [hg, if_neg (by simp)]
          have HFX : Hid (Fl SX 2 (trL xs o.n)) := HFX0.out
          clear HWE hg HFX0
          go_wp2
          go_roundg (len - (i + 1))
          case measure => omega
          case rel => exact ⟨i + 1, SX, xs, wa, wn, wc, by rw [show ((i : Int) + 1) = ((i + 1 : Nat) : Int) by omega], rfl, by omega, by omega, HPX.out, HBX.out, by rw [← HXS.out]; exact HFX.out, HOX.out, HKX.out.mono (by omega)⟩
        have hg : goodT o.n = true := by unfold goodT; simp [c1I, c2]
        have hwe := HWE.out
        rw [hg] at hwe
        obtain ⟨nn, hnn⟩ : ∃ nn : Nat, o.n = (nn : Int) := ⟨o.n.toNat, by omega⟩
        have HNN : Hid (o.n = (nn : Int) ∧ nn ≤ 512) := ⟨hnn, by omega⟩
        have HFX : Hid (Fl SX 2 (cutL xs nn)) := by
          have := HFX0.out
          unfold trL at this
          rw [hg, if_pos rfl, show o.n.toNat = nn by omega] at this
          exact this
        rw [hnn] at v2 c1I c2
        clear HWE hg HFX0 c1 hnn
        go_wp2
        clear v2 hwe c1I c2
        go_loopg [7] 600 (fun ky s7 wr => ∃ (j : Nat) (wa : Option Addr) (wn wc : Nat), s7 = .slice wa wn wc ∧ xs.length + j = wn ∧ wn ≤ max xs.length nn ∧ nn - wn ≤ ky ∧ Hid (Pr w.heap.size w2 wr pp a SX ∧ EoRow wr gr o ∧ Own wr w.heap.size (.slice wa wn wc) (padL xs j)))
        case atStart => exact ⟨0, wa, wn, wc, rfl, by have := HWN.out; omega, by have := HWN.out; omega, by have := HNN.out; omega, HPX.out, HEX.out, by unfold padL; rw [List.replicate_zero, List.append_nil]; exact HOX.out⟩
        case round =>
          obtain ⟨j, wa, wn, wc, rfl, hj1, hj2, hj3, HI⟩ := hrel
          obtain ⟨p1, p2, p3⟩ := HI.out
          have v2 := p2.c2
          rw [HNN.out.1] at v2
          have hwnB : wn ≤ 1024 := by have := HWN.out; have := HNN.out; omega
          by_cases hmore : wn < nn
          · have hmI : (wn : Int) < (nn : Int) := by omega
            have hrd : Rd (wr.alloc (.cells #[.int .u8 0] 5)) (.slice (some ⟨wr.heap.size, 0, none⟩) 1 1) [0] := Rd.laid rfl (by unfold maxLen; omega) rfl
            have hbq := bel1 wr (.cells #[.int .u8 0] 5)
            have hown := Own.below p3 hbq
            have HP1 : Hid (Pr w.heap.size w2 (wr.alloc (.cells #[.int .u8 0] 5)) pp a SX) := p1.below hbq
            have HE1 : Hid (EoRow (wr.alloc (.cells #[.int .u8 0] 5)) gr o) := p2.below hbq
            have HW1 : Hid (Own (wr.alloc (.cells #[.int .u8 0] 5)) w.heap.size (.slice wa wn wc) (padL xs j)) := hown
            have HSZ : Hid (w.heap.size ≤ (wr.alloc (.cells #[.int .u8 0] 5)).heap.size) := Nat.le_trans HB2.out.size (Nat.le_trans p1.bel.size hbq.size)
            have HPL : Hid ((padL xs j).length ≤ 1024) := by unfold Hid; rw [padL_len]; omega
            clear p1 p2 p3 hbq HI
            go_wp2_with (refine wpList_append_rd rfl _ _ rfl w.heap.size _ _ rfl hown _ [0] rfl hrd (by have := HPL.out; simp; omega) HSZ.out ?_; rintro v2 wy ho2 hg2)
            obtain ⟨a2, c2, rfl⟩ := row_slice ho2
            rw [padL_next] at ho2
            rw [List.length_append, padL_len] at *
            have HO2 : Hid (Own wy w.heap.size (.slice a2 (xs.length + j + 1) c2) (padL xs (j + 1))) := by
              have h := ho2
              exact h
            have HP2 : Hid (Pr w.heap.size w2 wy pp a SX) := HP1.out.grown HW1.out hg2
            have HE2 : Hid (EoRow wy gr o) := HE1.out.grown HW1.out hg2
            clear ho2 hg2 hown hrd v2
            go_roundg (nn - (wn + 1))
            case measure => omega
            case rel => exact ⟨j + 1, a2, xs.length + j + 1, c2, rfl, by omega, by omega, by omega, HP2.out, HE2.out, HO2.out⟩
          · have hmI : ¬ (wn : Int) < (nn : Int) := by omega
            have hnw : nn ≤ wn := by omega
            have hcapw : nn ≤ wc := by
              rcases p3.2 with ⟨e, e2⟩ | ⟨g', cp, cur, e, _, _, h1, _⟩
              · simp only [Value.slice.injEq] at e; omega
              · simp only [Value.slice.injEq] at e
                obtain ⟨_, e2, rfl⟩ := e
                omega
            have HPX : Hid (Pr w.heap.size w2 wr pp a SX) := p1
            have HOX : Hid (Own wr w.heap.size (.slice wa nn wc) (cutL xs nn)) := by
              have := Own.cutTo p3 hnw
              rw [pad_cut xs nn j (by omega)] at this
              exact this
            clear p1 p2 p3 HI
            obtain ⟨wm, hwm⟩ : ∃ wm, wm = wn := ⟨_, rfl⟩
            rw [← hwm] at hmI hnw hwnB ⊢
            clear hwm hj1 hj2 hj3 hmore
            have hcv := (Own.rd HOX.out).conv
            have c := all_in HPX.out HBX.out HFX.out HKX.out (by have := HN60.out; omega)
            obtain ⟨u, hu⟩ : ∃ u, strOfNums (cutL xs nn) = u := ⟨_, rfl⟩
            rw [hu] at c
            clear hcv
            go_wp2_with fail
            refine c.mono ?_
            rintro e w9 ⟨rfl, S9, hp9, hk9, hb9, hf9, hs9⟩
            clear c
            have HO9 : Hid (Own w9 w.heap.size (.slice wa nn wc) (cutL xs nn)) := HOX.out.keepT hk9
            have hcv : (convert 42 9 (.slice wa nn wc)).run Tryz.prog w9 = .ok (.string u) w9 := by rw [← hu]; exact (Own.rd HO9.out).conv
            have HP9 : Hid (Pr w.heap.size w2 w9 pp a S9) := hp9
            have HB9 : Hid (Bs S9 (KF 2)) := hb9
            have HF9 : Hid (Fl S9 2 (cutL xs nn)) := hf9
            have HS9 : Hid (Sk S9 (2 + 40 * (i + 1))) := hs9.mono (by omega)
            clear hp9 hk9 hb9 hf9 hs9 hu
            go_wp2
            go_roundg (len - (i + 1))
            case measure => omega
            case rel => exact ⟨i + 1, S9, _, wa, nn, wc, by rw [show ((i : Int) + 1) = ((i + 1 : Nat) : Int) by omega], rfl, by omega, by omega, HP9.out, HB9.out, HF9.out, HO9.out, HS9.out⟩
      · have h1b : (f0 == 1) = false := by simpa using h1
        have h2b : (f0 == 2) = false := by simpa using h2
        have HPX : Hid (Pr w.heap.size w2 w8 pp a S) := HP8.out
        have HBX : Hid (Bs S (KF 2)) := HW2.out
        have HFX : Hid (Fl S 2 xs) := HW3.out
        have HOX : Hid (Own w8 w.heap.size (.slice wa wn wc) xs) := HO8.out
        have HKX : Hid (Sk S (2 + 40 * i + 23)) := HW5.out.mono (by omega)
        clear HP8 h1 h2 HO8
        have hcv := (Own.rd HOX.out).conv
        have c := all_in HPX.out HBX.out HFX.out HKX.out (by have := HN60.out; omega)
        obtain ⟨u, hu⟩ : ∃ u, strOfNums (xs) = u := ⟨_, rfl⟩
        rw [hu] at c
        clear hcv
        go_wp2_with fail
        try rw [hw8]
        clear q0 q1 q2 q3 q4
        refine c.mono ?_
        rintro e w9 ⟨rfl, S9, hp9, hk9, hb9, hf9, hs9⟩
        clear c
        have HO9 : Hid (Own w9 w.heap.size (.slice wa wn wc) (xs)) := HOX.out.keepT hk9
        have hcv : (convert 42 9 (.slice wa wn wc)).run Tryz.prog w9 = .ok (.string u) w9 := by rw [← hu]; exact (Own.rd HO9.out).conv
        have HP9 : Hid (Pr w.heap.size w2 w9 pp a S9) := hp9
        have HB9 : Hid (Bs S9 (KF 2)) := hb9
        have HF9 : Hid (Fl S9 2 (xs)) := hf9
        have HS9 : Hid (Sk S9 (2 + 40 * (i + 1))) := hs9.mono (by omega)
        clear hp9 hk9 hb9 hf9 hs9 hu
        go_wp2
        go_roundg (len - (i + 1))
        case measure => omega
        case rel => exact ⟨i + 1, S9, _, wa, wn, wc, by rw [show ((i : Int) + 1) = ((i + 1 : Nat) : Int) by omega], rfl, by omega, by omega, HP9.out, HB9.out, HF9.out, HO9.out, HS9.out⟩
    · obtain rfl : len = i := by omega
      have HB : Hid (Below w.heap.size w wr) := HB2.out.trans HW.out.1.bel
      clear HW
      go_wp2
      go_ret
      exact ⟨rfl, HB.out⟩

/-! ### The row -/
set_option maxRecDepth 100000 in
theorem lifted (os : Os) (started : os.Started) (H : Type) (enc : TypeId × Value → H) :
    ReturnsInHanded {} Tryz.checked os 4 .any (Rows.extentBytesSpec.pre6 enc Tryz.prog Tryz.f4 Rows.extentBytesRow.domain false) (Rows.extentBytesSpec.post enc Tryz.prog Tryz.f4 false true false false) := by
  refine returnsInHanded_of_change (C := Tryz.checked) own started (by kernel_rfl) Tryz.func4
    (ChangeSpec.witness6 (enc := enc) (C := Tryz.checked) false ⟨#[], #[.slice none 0 0], []⟩ 8 (by kernel_rfl) (by kernel_rfl) (by kernel_rfl) (by kernel_rfl)) ?_
  intro W base args ds gs before hval0 hW hcnd _
  have hval : ∀ (j : Nat) t v, Tryz.f4.params[j]? = some t → args[j]? = some v → Value.okWide Tryz.prog W .any base t v := hval0
  have hW' := hW
  obtain ⟨p, q, hA0, hV, rfl, hfz, hnd⟩ := hW
  have hA : DataW.TrodAll enc Tryz.prog W 0 (fun _ => true) true Tryz.f4.params.toList args.toList ds p := hA0
  rw [Tryz.params4] at hA hval
  obtain ⟨v0, vs0, d0, ds0, p0, q0, hargs, rfl, rfl, h0, r0⟩ := trodAll_cons hA
  obtain ⟨rfl, rfl, rfl⟩ := trodAll_nil r0
  obtain rfl : args = #[v0] := by cases args; simp_all
  obtain ⟨rfl, rfl⟩ := trodVars_none hV
  obtain ⟨a0, len0, cap0, rfl⟩ := okWide_slice Tryz.underlying23 (hval 0 23 v0 rfl rfl)
  have k0 := h0
  have lt0 : ∀ x ∈ p0, x.block < W.heap.size := by obtain ⟨m, hm⟩ := k0; exact DataW.trod_lt m _ _ _ hm
  obtain ⟨o0, w0⟩ : ∃ os, EopsAt W a0 len0 cap0 os := by
    obtain ⟨fuel, hf⟩ := h0
    exact eops_of hf
  clear hA0 hval0
  refine (walk a0 len0 cap0 o0 W w0).mono fun e W' ⟨he, bel⟩ => ?_
  subst he
  exact ⟨_, rfl, _, _, _, [], _, [], hW', trodAll_mk1 (shut_bool Tryz.underlying4 _), (trodAll_cons_mk (Below.trod laidOut (by kernel_rfl) (of_decide_eq_true (by kernel_rfl)) k0 bel lt0) trodAll_mk0), rfl, bel.frame _, fun h => by cases h⟩

theorem over : Rows.extentBytesRow.holds Tryz.pinned (OpenSpec.ofChange Rows.extentBytesSpec) :=
  OpenClaim.holds_of_wide 4 Tryz.f4 rfl rfl rfl rfl rfl rfl rfl ⟨rfl, rfl, rfl, rfl, rfl⟩ rfl rfl rfl rfl rfl (by kernel_rfl) Tryz.func4 (by kernel_rfl)
    (of_decide_eq_true (by kernel_rfl)) (by unfold Func.isWrapper; first | (rw [if_pos (by decide +kernel)]; kernel_rfl) | (rw [if_neg (by decide +kernel)]; exact ⟨rfl, rfl⟩))
    (fun os started H enc _ => lifted os started H enc)

end Go.Proofs.YtjjhfginmamlkaaGreat.extentBytes

namespace Go.Proofs.YtjjhfginmamlkaaGreat
/-- The statement. -/
theorem extentBytes_proved : Rows.ExtentBytesSaid := extentBytes.over
#print axioms extentBytes_proved
end Go.Proofs.YtjjhfginmamlkaaGreat
