/- Proved: of a write and of a read just what is touched. -/
import Derived.Test.YtjjhfginmamlkaaGreatExU
import Derived.Test.YtjjhfginmamlkaaGreatA1
import Derived.Deep.RegionHeld3
import Derived.BigQuiet
import Derived.Deep.QuietTactic
import Derived.WalkSmall
import Derived.ProofKit
import Derived.OpenShut
import Derived.ShutString
import Derived.ChangeOld
import Derived.Below
import Derived.Carry
import Derived.Deep.CutRange
import Derived.Deep.CutBlock
namespace Go.Proofs.YtjjhfginmamlkaaGreat.extentTouches
open Go.ChangeShapes Go.WideShapes Go.ChangeAt Go.RowKit
open Go.ChangeMaps (open_string shut_string)
set_option linter.unusedVariables false
set_option linter.unusedSimpArgs false

theorem own : ownKnob Tryz.prog.godebug = none := by kernel_rfl
theorem laidOut : laidOutB Tryz.prog = true := by kernel_rfl

set_option maxRecDepth 100000 in
set_option maxHeartbeats 32000000 in
theorem walk (ad : Option Addr) (len cap : Nat) (os : List Eop) (oz : Eop) (w : World) (hos : EopsAt w ad len cap os) (hoz : EopOk oz) : Calls Tryz.prog 6 #[.slice ad len cap, .agg (eopC oz)] w fun e w' => e = .returned (.bool true) ∧ Below w.heap.size w w' := by
  have HOS : Hid (EopsAt w ad len cap os) := hos
  have HLN : Hid (os.length = len) := hos.len
  have HOZ : Hid (EopOk oz) := hoz
  have hb1 := bel1 w (.cells (eopC oz) 30)
  have ho1 : EoRow (w.alloc (.cells (eopC oz) 30)) w.heap.size oz := heap_alloc_new w _
  unfold eopC at hb1 ho1
  obtain ⟨w1, hw1⟩ : ∃ w1, w.alloc (.cells #[.int .i64 oz.f0, .int .i64 oz.off, .int .i64 oz.n, .int .u32 oz.ino, .string oz.data] 30) = w1 := ⟨_, rfl⟩
  rw [hw1] at hb1 ho1
  have HO1 : Hid (EoRow w1 w.heap.size oz) := ho1
  have HB1 : Hid (Below w.heap.size w w1) := hb1
  clear hos hoz hb1 ho1
  unfold eopC
  go_enter Tryz.func6, Tryz.ntmps6
  have cv := exlive_any w1
  go_wp2_with fail
  refine cv.mono ?_
  rintro e w2 ⟨rfl, hb2⟩
  clear cv hw1
  have HB2 : Hid (Below w.heap.size w w2) := thenB HB1.out hb2
  have HO2 : Hid (EoRow w2 w.heap.size oz) := HO1.out.below hb2
  have cb := begin_in w2 none 0 0 [] ⟨rfl, Nat.le_refl _, Nat.zero_le _, fun h => by omega⟩ (B := w.heap.size) HB2.out.size (fun q h => by omega) 64 (by decide) 2 (by decide) (by decide)
  clear hb2 HO1 HB1
  go_wp2_with fail
  refine cb.mono ?_
  intro e w3 hbg
  have hb3 : Below w2.heap.size w2 w3 := by obtain ⟨pp, a, x, X, rv, q, _, _, _, _, _, hb, _⟩ := hbg; exact hb
  obtain ⟨pp, a, rfl, hp⟩ := Pr.of hbg HB2.out.size
  have HO3 : Hid (EoRow w3 w.heap.size oz) := HO2.out.below hb3
  clear cb hbg hb3 HO2
  have HP3 : Hid (Pr w.heap.size w2 w3 pp a z0) := hp
  clear hp
  by_cases h40 : 40 < len
  · have h40I : (40 : Int) < (len : Int) := by omega
    have HB : Hid (Below w.heap.size w w3) := HB2.out.trans HP3.out.bel
    clear HP3
    go_wp2
    go_ret
    exact ⟨rfl, HB.out⟩
  have h40I : ¬ (40 : Int) < (len : Int) := by omega
  have HN40 : Hid (len ≤ 40) := by unfold Hid; omega
  have k0 : Sk z0 0 := exk0 _ _ _
  have q := HP3.out.c0
  have c := HP3.out.makeT 1 0 k0 (by decide)
  rw [zlv1] at c
  have K1 : Hid (Sk z1 1) := exk_make k0 1 0
  clear HP3 k0
  go_wp2_with fail
  refine c.mono ?_
  rintro e w4 ⟨rfl, hp, hkt⟩
  clear c q
  have HP6 : Hid (Pr w.heap.size w2 w4 pp a z1) := hp
  have HO4 : Hid (EoRow w4 w.heap.size oz) := hkt.2 _ _ _ _ HO3.out (by decide) (by decide) (by decide) (by decide) (by decide) (by decide)
  obtain ⟨hbs, hfl⟩ := one_start hp.dlo K1.out.ck
  have HBS6 : Hid (Bs z1 (KF 2)) := hbs
  have HFL6 : Hid (Fl z1 2 []) := hfl
  obtain ⟨S6, hS6⟩ : ∃ S6, z1 = S6 := ⟨_, rfl⟩
  rw [hS6] at HP6 HBS6 HFL6 K1
  clear hp hbs hfl hS6 HO3 hkt
  go_wp2
  go_loopg [45] len (fun kx s45 wr => ∃ (i : Nat) (S : Sg) (xs : List Int), s45 = .int .i64 i ∧ i ≤ len ∧ len - i ≤ kx ∧ Hid (Pr w.heap.size w2 wr pp a S ∧ Bs S (KF 2) ∧ Fl S 2 xs ∧ Sk S (1 + 9 * i) ∧ EoRow wr w.heap.size oz))
  case atStart => exact ⟨0, S6, [], rfl, Nat.zero_le _, by omega, HP6.out, HBS6.out, HFL6.out, K1.out, HO4.out⟩
  case round =>
    obtain ⟨i, S, xs, rfl, hin, hkx, HW⟩ := hrel
    by_cases hlt : i < len
    · obtain ⟨o, hy⟩ : ∃ o, os[i]? = some o := ⟨_, List.getElem?_eq_getElem (by have := HLN.out; omega)⟩
      obtain ⟨hw1, hw2, hw3, hw4, hw5⟩ := HW.out
      have hor := HOS.out.below (HB2.out.trans hw1.bel)
      obtain ⟨ob, oo, rfl, hob⟩ := hor.open hy
      obtain ⟨q0, q1, q2, q3, q4⟩ := eop_cells hor.1 hy
      have HOK : Hid (EopOk o) := HOS.out.2 o (List.mem_of_getElem? hy)
      have HW2 : Hid (Bs S (KF 2)) := hw2
      have HW3 : Hid (Fl S 2 xs) := hw3
      have HW5 : Hid (Sk S (1 + 9 * i)) := hw4
      obtain ⟨gr, hgr⟩ : ∃ gr, wr.heap.size = gr := ⟨_, rfl⟩
      have HE8 : Hid (EoRow (wr.alloc (.cells (eopC o) 30)) gr o) := by rw [← hgr]; exact heap_alloc_new wr _
      have HP8 : Hid (Pr w.heap.size w2 (wr.alloc (.cells (eopC o) 30)) pp a S) := hw1.below (bel1 wr _)
      have HZ8 : Hid (EoRow (wr.alloc (.cells (eopC o) 30)) w.heap.size oz) := hw5.below (bel1 wr _)
      unfold eopC at HE8 HP8 HZ8
      obtain ⟨w8, hw8⟩ : ∃ w8, wr.alloc (.cells #[.int .i64 o.f0, .int .i64 o.off, .int .i64 o.n, .int .u32 o.ino, .string o.data] 30) = w8 := ⟨_, rfl⟩
      rw [hw8] at HE8 HP8 HZ8
      have u0 := HE8.out.c0
      rw [← hgr] at u0
      have HGR : Hid (wr.heap.size = gr) := hgr
      clear hgr
      have hiI : (i : Int) < (len : Int) := by omega
      have hib : (i : Int) + 1 ≤ 1001 := by have := HN40.out; omega
      obtain ⟨f0, hf0⟩ : ∃ f0, o.f0 = f0 := ⟨_, rfl⟩
      rw [hf0] at u0
      clear hw1 hw2 hw3 hw4 hw5 hy hor hob HW hf0
      by_cases h1 : f0 = 1
      · subst h1
        obtain ⟨XX, xx, hpr, _⟩ := HP8.out.ex
        have hS0 : PrAt w8.drew pp a xx ∧ EoRow w8.drew gr o ∧ EoRow w8.drew w.heap.size oz := ⟨hpr, HE8.out, HZ8.out⟩
        go_wp2_with fail
        try rw [hw8]
        rw [HGR.out]
        clear q0 q1 q2 q3 q4 hw8 u0 HGR
        refine wp_region_noPanic ?_
        refine wp_region_held_drew (S := fun W => PrAt W pp a xx ∧ EoRow W gr o ∧ EoRow W w.heap.size oz) (by kernel_rfl) hS0 (fun hHeld => ?_)
        refine wpAnyH_take (i := 0) (v := .pointer (some ⟨pp, 0, none⟩)) rfl (by kernel_rfl) (by kernel_rfl) (by kernel_rfl) (fun _ _ _ h => h) (Or.inl ⟨by rfl, fun W hSw => by (try dsimp only at hSw); go_simp⟩) (by assumption) ?_
        try simp only [List.getElem_toArray, List.getElem_cons_zero, List.getElem_cons_succ, Act.put, List.setIfInBounds_toArray, List.set_cons_zero, List.set_cons_succ]
        refine wpAnyH_take (i := 1) (v := .pointer (some ⟨pp, 0, none⟩)) rfl (by kernel_rfl) (by kernel_rfl) (by kernel_rfl) (fun _ _ _ h => h) (Or.inl ⟨by rfl, fun W hSw => by (try dsimp only at hSw); go_simp⟩) (by assumption) ?_
        try simp only [List.getElem_toArray, List.getElem_cons_zero, List.getElem_cons_succ, Act.put, List.setIfInBounds_toArray, List.set_cons_zero, List.set_cons_succ]
        refine wpAnyH_take (i := 2) (v := .pointer (some ⟨pp, 0, none⟩)) rfl (by kernel_rfl) (by kernel_rfl) (by kernel_rfl) (fun _ _ _ h => h) (Or.inl ⟨by rfl, fun W hSw => by (try dsimp only at hSw); go_simp⟩) (by assumption) ?_
        try simp only [List.getElem_toArray, List.getElem_cons_zero, List.getElem_cons_succ, Act.put, List.setIfInBounds_toArray, List.set_cons_zero, List.set_cons_succ]
        refine wpAnyH_take (i := 3) (v := .pointer (some ⟨a.s, 0, none⟩)) rfl (by kernel_rfl) (by kernel_rfl) (by kernel_rfl) (fun _ _ _ h => h) (Or.inl ⟨by rfl, fun W hSw => by (try dsimp only at hSw); (have z := hSw.1.c0; go_simp)⟩) (by assumption) ?_
        try simp only [List.getElem_toArray, List.getElem_cons_zero, List.getElem_cons_succ, Act.put, List.setIfInBounds_toArray, List.set_cons_zero, List.set_cons_succ]
        refine wpAnyH_take (i := 4) (v := .int .u32 2) rfl (by kernel_rfl) (by kernel_rfl) (by kernel_rfl) (fun _ _ _ h => h) (Or.inl ⟨by rfl, fun W hSw => by (try dsimp only at hSw); go_simp⟩) (by assumption) ?_
        try simp only [List.getElem_toArray, List.getElem_cons_zero, List.getElem_cons_succ, Act.put, List.setIfInBounds_toArray, List.set_cons_zero, List.set_cons_succ]
        refine wpAnyH_take (i := 5) (v := .pointer (some ⟨gr, 1, none⟩)) rfl (by kernel_rfl) (by kernel_rfl) (by kernel_rfl) (fun _ _ _ h => h) (Or.inl ⟨by rfl, fun W hSw => by (try dsimp only at hSw); go_simp⟩) (by assumption) ?_
        try simp only [List.getElem_toArray, List.getElem_cons_zero, List.getElem_cons_succ, Act.put, List.setIfInBounds_toArray, List.set_cons_zero, List.set_cons_succ]
        refine wpAnyH_take (i := 6) (v := .int .i64 o.off) rfl (by kernel_rfl) (by kernel_rfl) (by kernel_rfl) (fun _ _ _ h => h) (Or.inl ⟨by rfl, fun W hSw => by (try dsimp only at hSw); (have z := hSw.2.1.c1; go_simp)⟩) (by assumption) ?_
        try simp only [List.getElem_toArray, List.getElem_cons_zero, List.getElem_cons_succ, Act.put, List.setIfInBounds_toArray, List.set_cons_zero, List.set_cons_succ]
        refine wpAnyH_take (i := 7) (v := .pointer (some ⟨gr, 4, none⟩)) rfl (by kernel_rfl) (by kernel_rfl) (by kernel_rfl) (fun _ _ _ h => h) (Or.inl ⟨by rfl, fun W hSw => by (try dsimp only at hSw); go_simp⟩) (by assumption) ?_
        try simp only [List.getElem_toArray, List.getElem_cons_zero, List.getElem_cons_succ, Act.put, List.setIfInBounds_toArray, List.set_cons_zero, List.set_cons_succ]
        refine wpAnyH_take (i := 8) (v := .string o.data) rfl (by kernel_rfl) (by kernel_rfl) (by kernel_rfl) (fun _ _ _ h => h) (Or.inl ⟨by rfl, fun W hSw => by (try dsimp only at hSw); (have z := hSw.2.1.c4; go_simp)⟩) (by assumption) ?_
        try simp only [List.getElem_toArray, List.getElem_cons_zero, List.getElem_cons_succ, Act.put, List.setIfInBounds_toArray, List.set_cons_zero, List.set_cons_succ]
        have cw := (HP8.out.below (Below.refl _ _).drew).write 2 (by decide) (by decide) o.off o.data HOK.out.a4 HW5.out (by have := HN40.out; omega)
        refine wpAnyH_ready (rs := [9]) (by kernel_rfl) (by simp) ?_
        refine AllReadyH.cons rfl (fun K hK => ?_) AllReadyH.nil
        go_simp
        go_wp2_with (go_at_call 14; refine cw.mono ?_; rintro e wx ⟨rfl, hpx, hkx2⟩)
        have HEX : Hid (EoRow wx gr o) := hkx2.2 _ _ _ _ (show w8.drew.heap[gr]? = some (.cells (eopC o) 30 (0, 0)) from HE8.out) (by decide) (by decide) (by decide) (by decide) (by decide) (by decide)
        have HZX : Hid (EoRow wx w.heap.size oz) := hkx2.2 _ _ _ _ (show w8.drew.heap[w.heap.size]? = some (.cells (eopC oz) 30 (0, 0)) from HZ8.out) (by decide) (by decide) (by decide) (by decide) (by decide) (by decide)
        have hprx : PrAt wx pp a xx := hkx2.2 _ _ _ _ hpr (by decide) (by decide) (by decide) (by decide) (by decide) (by decide)
        refine hK.out _ _ ⟨hprx, HEX.out, HZX.out⟩ (fun hHeld2 => ?_)
        clear hK K cw
        try simp only [List.getElem_toArray, List.getElem_cons_zero, List.getElem_cons_succ, Act.put, List.setIfInBounds_toArray, List.set_cons_zero, List.set_cons_succ]
        refine wpAnyH_done (by kernel_rfl) ?_ _
        refine NoPanic.normal ?_
        obtain ⟨hx1, hx2, _⟩ := wr_any HW2.out HW3.out (KF_dat 2) (KF_rec 2) o.off o.data
        have HNX : Hid (Pr w.heap.size w2 wx pp a (wrX S 2 o.off o.data).1 ∧ Bs (wrX S 2 o.off o.data).1 (KF 2) ∧ Fl (wrX S 2 o.off o.data).1 2 (wrL xs o.off o.data) ∧ Sk (wrX S 2 o.off o.data).1 (1 + 9 * (i + 1)) ∧ EoRow wx w.heap.size oz) := ⟨hpx, hx1, hx2, (exk_wr HW5.out 2 _ _).mono (by omega), HZX.out⟩
        generalize (wrX S 2 o.off o.data).1 = SX at *
        generalize (wrX S 2 o.off o.data).2 = we at *
        generalize wrL xs o.off o.data = ys at *
        clear hHeld hHeld2 hpx hkx2 hprx hS0 hpr HP8 HE8 HZ8 hx1 hx2 HEX HZX HW2 HW3 HW5
        go_wp2
        go_roundg (len - (i + 1))
        case measure => omega
        case rel => exact ⟨i + 1, SX, ys, by rw [show ((i : Int) + 1) = ((i + 1 : Nat) : Int) by omega], by omega, by omega, HNX.out⟩
      · have h1b : (f0 == 1) = false := by simpa using h1
        have HNX : Hid (Pr w.heap.size w2 w8 pp a S ∧ Bs S (KF 2) ∧ Fl S 2 xs ∧ Sk S (1 + 9 * (i + 1)) ∧ EoRow w8 w.heap.size oz) := ⟨HP8.out, HW2.out, HW3.out, HW5.out.mono (by omega), HZ8.out⟩
        clear HP8 HE8 HZ8 HW2 HW3 HW5 HGR
        go_wp2_with fail
        try rw [hw8]
        clear q0 q1 q2 q3 q4
        go_roundg (len - (i + 1))
        case measure => omega
        case rel => exact ⟨i + 1, S, xs, by rw [show ((i : Int) + 1) = ((i + 1 : Nat) : Int) by omega], by omega, by omega, HNX.out⟩
    obtain rfl : len = i := by omega
    obtain ⟨hw1, hw2, hw3, hw4, hw5⟩ := HW.out
    have q := hw1.c0
    have c := hw1.sizeT 2 (by decide) (by decide) (by have := hw4.R; have := HN40.out; omega)
    have hsk := sizeR_sk hw4 hw3
    rw [sizeR_file hw3] at c hsk
    dsimp only at c hsk
    have HSK : Hid (Sk { S with R := [], U := [] } (1 + 9 * len + 1)) := hsk.clear
    have HBS : Hid (Bs { S with R := [], U := [] } (KF 2)) := hw2.same rfl rfl
    have HFL : Hid (Fl { S with R := [], U := [] } 2 xs) := hw3.same rfl
    have HO9 : Hid (EoRow wr w.heap.size oz) := hw5
    clear hw1 hw2 hw3 hw4 hw5 hsk HW
    go_wp2_with fail
    refine c.mono ?_
    rintro e w9 ⟨rfl, hp, hkt⟩
    clear c q
    have HO10 : Hid (EoRow w9 w.heap.size oz) := hkt.2 _ _ _ _ HO9.out (by decide) (by decide) (by decide) (by decide) (by decide) (by decide)
    clear hkt HO9
    have q := hp.c0
    have q1 := hp.r1
    have c := hp.undoR
    clear hp
    go_wp2_with fail
    refine c.mono ?_
    rintro e w10 ⟨rfl, hp, hkt⟩
    clear c q q1
    have HO11 : Hid (EoRow w10 w.heap.size oz) := hkt.2 _ _ _ _ HO10.out (by decide) (by decide) (by decide) (by decide) (by decide) (by decide)
    clear hkt HO10
    have q := hp.c0
    have q1 := hp.u2
    have c := hp.undoU
    clear hp
    go_wp2_with fail
    refine c.mono ?_
    rintro e w11 ⟨rfl, hp, hkt⟩
    clear c q q1
    have HZ8 : Hid (EoRow w11 w.heap.size oz) := hkt.2 _ _ _ _ HO11.out (by decide) (by decide) (by decide) (by decide) (by decide) (by decide)
    have HP8 : Hid (Pr w.heap.size w2 w11 pp a { S with R := [], U := [] }) := hp
    clear hkt HO11 hp
    obtain ⟨T, hT⟩ : ∃ T : Sg, { S with R := [], U := [] } = T := ⟨_, rfl⟩
    have HTR : Hid (T.R = [] ∧ T.U = []) := by rw [← hT]; exact ⟨rfl, rfl⟩
    rw [hT] at HSK HBS HFL HP8
    clear hT
    obtain ⟨XX, xx, hpr, _⟩ := HP8.out.ex
    have hS0 : PrAt w11.drew pp a xx ∧ EoRow w11.drew w.heap.size oz ∧ EoRow w11.drew w.heap.size oz := ⟨hpr, HZ8.out, HZ8.out⟩
    have u0 := HZ8.out.c0
    obtain ⟨f0, hf0⟩ : ∃ f0, oz.f0 = f0 := ⟨_, rfl⟩
    rw [hf0] at u0
    clear hf0
    have HE8 : Hid (EoRow w11 w.heap.size oz) := HZ8.out
    by_cases h1 : f0 = 1
    · subst h1
      go_wp2_with fail
      clear u0
      refine wp_region_noPanic ?_
      refine wp_region_held_drew (S := fun W => PrAt W pp a xx ∧ EoRow W w.heap.size oz ∧ EoRow W w.heap.size oz) (by kernel_rfl) hS0 (fun hHeld => ?_)
      refine wpAnyH_take (i := 0) (v := .pointer (some ⟨pp, 0, none⟩)) rfl (by kernel_rfl) (by kernel_rfl) (by kernel_rfl) (fun _ _ _ h => h) (Or.inl ⟨by rfl, fun W hSw => by (try dsimp only at hSw); go_simp⟩) (by assumption) ?_
      try simp only [List.getElem_toArray, List.getElem_cons_zero, List.getElem_cons_succ, Act.put, List.setIfInBounds_toArray, List.set_cons_zero, List.set_cons_succ]
      refine wpAnyH_take (i := 1) (v := .pointer (some ⟨pp, 0, none⟩)) rfl (by kernel_rfl) (by kernel_rfl) (by kernel_rfl) (fun _ _ _ h => h) (Or.inl ⟨by rfl, fun W hSw => by (try dsimp only at hSw); go_simp⟩) (by assumption) ?_
      try simp only [List.getElem_toArray, List.getElem_cons_zero, List.getElem_cons_succ, Act.put, List.setIfInBounds_toArray, List.set_cons_zero, List.set_cons_succ]
      refine wpAnyH_take (i := 2) (v := .pointer (some ⟨pp, 0, none⟩)) rfl (by kernel_rfl) (by kernel_rfl) (by kernel_rfl) (fun _ _ _ h => h) (Or.inl ⟨by rfl, fun W hSw => by (try dsimp only at hSw); go_simp⟩) (by assumption) ?_
      try simp only [List.getElem_toArray, List.getElem_cons_zero, List.getElem_cons_succ, Act.put, List.setIfInBounds_toArray, List.set_cons_zero, List.set_cons_succ]
      refine wpAnyH_take (i := 3) (v := .pointer (some ⟨a.s, 0, none⟩)) rfl (by kernel_rfl) (by kernel_rfl) (by kernel_rfl) (fun _ _ _ h => h) (Or.inl ⟨by rfl, fun W hSw => by (try dsimp only at hSw); (have z := hSw.1.c0; go_simp)⟩) (by assumption) ?_
      try simp only [List.getElem_toArray, List.getElem_cons_zero, List.getElem_cons_succ, Act.put, List.setIfInBounds_toArray, List.set_cons_zero, List.set_cons_succ]
      refine wpAnyH_take (i := 4) (v := .int .u32 2) rfl (by kernel_rfl) (by kernel_rfl) (by kernel_rfl) (fun _ _ _ h => h) (Or.inl ⟨by rfl, fun W hSw => by (try dsimp only at hSw); go_simp⟩) (by assumption) ?_
      try simp only [List.getElem_toArray, List.getElem_cons_zero, List.getElem_cons_succ, Act.put, List.setIfInBounds_toArray, List.set_cons_zero, List.set_cons_succ]
      refine wpAnyH_take (i := 5) (v := .pointer (some ⟨w.heap.size, 1, none⟩)) rfl (by kernel_rfl) (by kernel_rfl) (by kernel_rfl) (fun _ _ _ h => h) (Or.inl ⟨by rfl, fun W hSw => by (try dsimp only at hSw); go_simp⟩) (by assumption) ?_
      try simp only [List.getElem_toArray, List.getElem_cons_zero, List.getElem_cons_succ, Act.put, List.setIfInBounds_toArray, List.set_cons_zero, List.set_cons_succ]
      refine wpAnyH_take (i := 6) (v := .int .i64 oz.off) rfl (by kernel_rfl) (by kernel_rfl) (by kernel_rfl) (fun _ _ _ h => h) (Or.inl ⟨by rfl, fun W hSw => by (try dsimp only at hSw); (have z := hSw.2.1.c1; go_simp)⟩) (by assumption) ?_
      try simp only [List.getElem_toArray, List.getElem_cons_zero, List.getElem_cons_succ, Act.put, List.setIfInBounds_toArray, List.set_cons_zero, List.set_cons_succ]
      refine wpAnyH_take (i := 7) (v := .pointer (some ⟨w.heap.size, 4, none⟩)) rfl (by kernel_rfl) (by kernel_rfl) (by kernel_rfl) (fun _ _ _ h => h) (Or.inl ⟨by rfl, fun W hSw => by (try dsimp only at hSw); go_simp⟩) (by assumption) ?_
      try simp only [List.getElem_toArray, List.getElem_cons_zero, List.getElem_cons_succ, Act.put, List.setIfInBounds_toArray, List.set_cons_zero, List.set_cons_succ]
      refine wpAnyH_take (i := 8) (v := .string oz.data) rfl (by kernel_rfl) (by kernel_rfl) (by kernel_rfl) (fun _ _ _ h => h) (Or.inl ⟨by rfl, fun W hSw => by (try dsimp only at hSw); (have z := hSw.2.1.c4; go_simp)⟩) (by assumption) ?_
      try simp only [List.getElem_toArray, List.getElem_cons_zero, List.getElem_cons_succ, Act.put, List.setIfInBounds_toArray, List.set_cons_zero, List.set_cons_succ]
      have cw := (HP8.out.below (Below.refl _ _).drew).write 2 (by decide) (by decide) oz.off oz.data HOZ.out.a4 HSK.out (by have := HN40.out; omega)
      refine wpAnyH_ready (rs := [9]) (by kernel_rfl) (by simp) ?_
      refine AllReadyH.cons rfl (fun K hK => ?_) AllReadyH.nil
      go_simp
      go_wp2_with (go_at_call 14; refine cw.mono ?_; rintro e wx ⟨rfl, hpx, hkx2⟩)
      have HEX : Hid (EoRow wx w.heap.size oz) := hkx2.2 _ _ _ _ (show w11.drew.heap[w.heap.size]? = some (.cells (eopC oz) 30 (0, 0)) from HE8.out) (by decide) (by decide) (by decide) (by decide) (by decide) (by decide)
      have HZX : Hid (EoRow wx w.heap.size oz) := hkx2.2 _ _ _ _ (show w11.drew.heap[w.heap.size]? = some (.cells (eopC oz) 30 (0, 0)) from HZ8.out) (by decide) (by decide) (by decide) (by decide) (by decide) (by decide)
      have hprx : PrAt wx pp a xx := hkx2.2 _ _ _ _ hpr (by decide) (by decide) (by decide) (by decide) (by decide) (by decide)
      refine hK.out _ _ ⟨hprx, HEX.out, HZX.out⟩ (fun hHeld2 => ?_)
      clear hK K cw
      try simp only [List.getElem_toArray, List.getElem_cons_zero, List.getElem_cons_succ, Act.put, List.setIfInBounds_toArray, List.set_cons_zero, List.set_cons_succ]
      refine wpAnyH_take (i := 10) (v := .int .i64 (wrX T 2 oz.off oz.data).2) rfl (by kernel_rfl) (by kernel_rfl) (by kernel_rfl) (fun _ _ _ h => h) (Or.inl ⟨by rfl, fun W hSw => by (try dsimp only at hSw); go_simp⟩) (by assumption) ?_
      try simp only [List.getElem_toArray, List.getElem_cons_zero, List.getElem_cons_succ, Act.put, List.setIfInBounds_toArray, List.set_cons_zero, List.set_cons_succ]
      refine wpAnyH_done (by kernel_rfl) ?_ _
      refine NoPanic.normal ?_
      have HTC := wr_touch HBS.out HFL.out (KF_dat 2) (KF_rec 2) HTR.out.1 HTR.out.2 oz.off oz.data
      have HPX : Hid (Pr w.heap.size w2 wx pp a (wrX T 2 oz.off oz.data).1) := hpx
      obtain ⟨SX, hSX⟩ : ∃ SX, (wrX T 2 oz.off oz.data).1 = SX := ⟨_, rfl⟩
      rw [hSX] at HPX HTC
      generalize (wrX T 2 oz.off oz.data).2 = we at *
      clear hHeld hHeld2 hpx hkx2 hprx hS0 hpr HP8 HE8 HZ8 HZX hSX
      have HB : Hid (Below w.heap.size w wx) := HB2.out.trans HPX.out.bel
      have q := HPX.out.c0
      have q1 := HPX.out.u2
      have v4 := HEX.out.c4
      rcases HTC with ⟨hU, hor⟩ | ⟨hwe, hd0, hd64, ho0, ho1, hR1, hU⟩
      · have c := HPX.out.allU (by rw [hU]; decide)
        rw [hU, show ([] : List Tc).length = 0 from rfl] at c
        go_wp2_with fail
        refine c.mono ?_
        rintro e w12 ⟨ua, uc, rfl, _, hb12⟩
        have HB12 : Hid (Below w.heap.size w w12) := thenB HB.out hb12
        have v4 := (HEX.out.below hb12).c4
        clear c q q1
        by_cases hwe : we = 0
        · subst hwe
          have c3 : oz.data.size = 0 := hor.resolve_left (fun h => h rfl)
          have hdd : oz.data = ByteArray.empty := ByteArray.ext (Array.eq_empty_of_size_eq_zero c3)
          rw [hdd] at v4
          go_wp2
          go_ret
          exact ⟨rfl, HB12.out⟩
        · have hwe2 : (we == 0) = false := by simpa using hwe
          have hwe3 : (we != 0) = true := by simpa using hwe
          go_wp2
          go_ret
          exact ⟨rfl, HB12.out⟩
      subst hwe
      have HU : Hid (SX.U = _) := hU
      obtain ⟨sz, hsz⟩ : ∃ sz, oz.data.size = sz := ⟨_, rfl⟩
      obtain ⟨of, hof⟩ : ∃ of : Nat, oz.off = (of : Int) := ⟨oz.off.toNat, by omega⟩
      rw [hof, hsz] at HU
      rw [hsz] at hd0 hd64 ho1
      rw [hof] at ho0 ho1
      have hof1 : of + sz ≤ 512 := by omega
      have c3 : ¬ oz.data.size = 0 := by rw [hsz]; omega
      have hde1 : (oz.data.toList == []) = false := by
        cases hq : oz.data.toList with
        | nil => exfalso; apply c3; have := congrArg List.length hq; rw [ByteArray.toList_eq] at this; simpa using this
        | cons x r => rfl
      have hde2 : oz.data.toList.isEmpty = false := by cases hq : oz.data.toList with
        | nil => rw [hq] at hde1; cases hde1
        | cons x r => rfl
      have HR1 : Hid (SX.R.length = 1) := hR1
      clear hU hR1
      by_cases hz : (of : Int) + (sz : Int) ≤ xs.length
      · rw [if_pos hz] at HU
        have hln : SX.U.length = 1 := by rw [HU.out]; rfl
        have c := HPX.out.allU (by rw [hln]; decide)
        rw [hln] at c
        go_wp2_with fail
        refine c.mono ?_
        rintro e w12 ⟨ua, uc, rfl, hrd, hb12⟩
        clear c q q1
        have HB12 : Hid (Below w.heap.size w w12) := thenB HB.out hb12
        rw [HU.out] at hrd
        obtain ⟨ub, uo, rfl, t0, t1, t2, t3, t4⟩ := tc_cells hrd (i := 0) rfl
        simp only [tcB, Nat.zero_mul, Nat.add_zero] at t0 t1 t2 t3 t4
        have v4 := (HEX.out.below hb12).c4
        have v1 := (HEX.out.below hb12).c1
        rw [hof] at v1
        have hp12 := HPX.out.below hb12
        have q := hp12.c0
        have q1 := hp12.r1
        have hmk : ∀ n, Calls Tryz.prog 21 #[.pointer (some ⟨a.r, 0, none⟩)] (w12.drewN n) fun e w' => e = .returned (.int .i64 1) ∧ w' = w12.drewN n := fun n => (hp12.below (belowQ _ _ _)).markR.mono fun e w' h => ⟨by rw [HR1.out] at h; exact h.1, h.2.symm⟩
        have heq := fun W => eq_tcs W 4 2 (of : Int) ((of : Int) + (sz : Int)) 4 2 (of : Int) ((of : Int) + (sz : Int)) ⟨#[]⟩ ⟨#[]⟩
        rw [tcEq_self] at heq
        have hsum : (of : Int) + (sz : Int) ≤ 9223372036854775807 := by omega
        have hgt : ¬ ((xs.length : Int) < (of : Int) + (sz : Int)) := by omega
        have hgd : decide ((xs.length : Int) < (of : Int) + (sz : Int)) = false := by simpa using hgt
        clear hrd hb12 hp12
        go_wp2
        go_quiet (first | (go_at_call 21; refine Calls.quiet_of_same (hmk _)))
        go_wp2
        go_ret
        exact ⟨rfl, thenB HB12.out (belowQ _ _ _)⟩
      · rw [if_neg hz] at HU
        have hln : SX.U.length = 2 := by rw [HU.out]; rfl
        have c := HPX.out.allU (by rw [hln]; decide)
        rw [hln] at c
        go_wp2_with fail
        refine c.mono ?_
        rintro e w12 ⟨ua, uc, rfl, hrd, hb12⟩
        clear c q q1
        have HB12 : Hid (Below w.heap.size w w12) := thenB HB.out hb12
        rw [HU.out] at hrd
        obtain ⟨ub, uo, rfl, t0, t1, t2, t3, t4⟩ := tc_cells hrd (i := 0) rfl
        simp only [tcB, Nat.zero_mul, Nat.add_zero] at t0 t1 t2 t3 t4
        have v4 := (HEX.out.below hb12).c4
        have v1 := (HEX.out.below hb12).c1
        rw [hof] at v1
        have hp12 := HPX.out.below hb12
        have q := hp12.c0
        have q1 := hp12.r1
        have hmk : ∀ n, Calls Tryz.prog 21 #[.pointer (some ⟨a.r, 0, none⟩)] (w12.drewN n) fun e w' => e = .returned (.int .i64 1) ∧ w' = w12.drewN n := fun n => (hp12.below (belowQ _ _ _)).markR.mono fun e w' h => ⟨by rw [HR1.out] at h; exact h.1, h.2.symm⟩
        have heq := fun W => eq_tcs W 4 2 (of : Int) ((of : Int) + (sz : Int)) 4 2 (of : Int) ((of : Int) + (sz : Int)) ⟨#[]⟩ ⟨#[]⟩
        rw [tcEq_self] at heq
        have hsum : (of : Int) + (sz : Int) ≤ 9223372036854775807 := by omega
        have hgt : (xs.length : Int) < (of : Int) + (sz : Int) := by omega
        have hgd : decide ((xs.length : Int) < (of : Int) + (sz : Int)) = true := by simpa using hgt
        clear hrd hb12 hp12
        go_wp2
        go_quiet (first | (go_at_call 21; refine Calls.quiet_of_same (hmk _)))
        go_wp2
        go_ret
        exact ⟨rfl, thenB HB12.out (belowQ _ _ _)⟩
    · have h1b : (f0 == 1) = false := by simpa using h1
      go_wp2_with fail
      clear u0
      refine wp_region_noPanic ?_
      refine wp_region_held_drew (S := fun W => PrAt W pp a xx ∧ EoRow W w.heap.size oz ∧ EoRow W w.heap.size oz) (by kernel_rfl) hS0 (fun hHeld => ?_)
      refine wpAnyH_take (i := 0) (v := .pointer (some ⟨pp, 0, none⟩)) rfl (by kernel_rfl) (by kernel_rfl) (by kernel_rfl) (fun _ _ _ h => h) (Or.inl ⟨by rfl, fun W hSw => by (try dsimp only at hSw); go_simp⟩) (by assumption) ?_
      try simp only [List.getElem_toArray, List.getElem_cons_zero, List.getElem_cons_succ, Act.put, List.setIfInBounds_toArray, List.set_cons_zero, List.set_cons_succ]
      refine wpAnyH_take (i := 1) (v := .pointer (some ⟨pp, 0, none⟩)) rfl (by kernel_rfl) (by kernel_rfl) (by kernel_rfl) (fun _ _ _ h => h) (Or.inl ⟨by rfl, fun W hSw => by (try dsimp only at hSw); go_simp⟩) (by assumption) ?_
      try simp only [List.getElem_toArray, List.getElem_cons_zero, List.getElem_cons_succ, Act.put, List.setIfInBounds_toArray, List.set_cons_zero, List.set_cons_succ]
      refine wpAnyH_take (i := 2) (v := .pointer (some ⟨pp, 0, none⟩)) rfl (by kernel_rfl) (by kernel_rfl) (by kernel_rfl) (fun _ _ _ h => h) (Or.inl ⟨by rfl, fun W hSw => by (try dsimp only at hSw); go_simp⟩) (by assumption) ?_
      try simp only [List.getElem_toArray, List.getElem_cons_zero, List.getElem_cons_succ, Act.put, List.setIfInBounds_toArray, List.set_cons_zero, List.set_cons_succ]
      refine wpAnyH_take (i := 3) (v := .pointer (some ⟨a.s, 0, none⟩)) rfl (by kernel_rfl) (by kernel_rfl) (by kernel_rfl) (fun _ _ _ h => h) (Or.inl ⟨by rfl, fun W hSw => by (try dsimp only at hSw); (have z := hSw.1.c0; go_simp)⟩) (by assumption) ?_
      try simp only [List.getElem_toArray, List.getElem_cons_zero, List.getElem_cons_succ, Act.put, List.setIfInBounds_toArray, List.set_cons_zero, List.set_cons_succ]
      refine wpAnyH_take (i := 4) (v := .int .u32 2) rfl (by kernel_rfl) (by kernel_rfl) (by kernel_rfl) (fun _ _ _ h => h) (Or.inl ⟨by rfl, fun W hSw => by (try dsimp only at hSw); go_simp⟩) (by assumption) ?_
      try simp only [List.getElem_toArray, List.getElem_cons_zero, List.getElem_cons_succ, Act.put, List.setIfInBounds_toArray, List.set_cons_zero, List.set_cons_succ]
      refine wpAnyH_take (i := 5) (v := .pointer (some ⟨w.heap.size, 1, none⟩)) rfl (by kernel_rfl) (by kernel_rfl) (by kernel_rfl) (fun _ _ _ h => h) (Or.inl ⟨by rfl, fun W hSw => by (try dsimp only at hSw); go_simp⟩) (by assumption) ?_
      try simp only [List.getElem_toArray, List.getElem_cons_zero, List.getElem_cons_succ, Act.put, List.setIfInBounds_toArray, List.set_cons_zero, List.set_cons_succ]
      refine wpAnyH_take (i := 6) (v := .int .i64 oz.off) rfl (by kernel_rfl) (by kernel_rfl) (by kernel_rfl) (fun _ _ _ h => h) (Or.inl ⟨by rfl, fun W hSw => by (try dsimp only at hSw); (have z := hSw.2.1.c1; go_simp)⟩) (by assumption) ?_
      try simp only [List.getElem_toArray, List.getElem_cons_zero, List.getElem_cons_succ, Act.put, List.setIfInBounds_toArray, List.set_cons_zero, List.set_cons_succ]
      refine wpAnyH_take (i := 7) (v := .pointer (some ⟨w.heap.size, 2, none⟩)) rfl (by kernel_rfl) (by kernel_rfl) (by kernel_rfl) (fun _ _ _ h => h) (Or.inl ⟨by rfl, fun W hSw => by (try dsimp only at hSw); go_simp⟩) (by assumption) ?_
      try simp only [List.getElem_toArray, List.getElem_cons_zero, List.getElem_cons_succ, Act.put, List.setIfInBounds_toArray, List.set_cons_zero, List.set_cons_succ]
      refine wpAnyH_take (i := 8) (v := .int .i64 oz.n) rfl (by kernel_rfl) (by kernel_rfl) (by kernel_rfl) (fun _ _ _ h => h) (Or.inl ⟨by rfl, fun W hSw => by (try dsimp only at hSw); (have z := hSw.2.1.c2; go_simp)⟩) (by assumption) ?_
      try simp only [List.getElem_toArray, List.getElem_cons_zero, List.getElem_cons_succ, Act.put, List.setIfInBounds_toArray, List.set_cons_zero, List.set_cons_succ]
      have cw := (HP8.out.below (Below.refl _ _).drew).read 2 (by decide) (by decide) oz.off oz.n HOZ.out.a1.1 HOZ.out.a1.2 HSK.out (by have := HN40.out; omega)
      refine wpAnyH_ready (rs := [9]) (by kernel_rfl) (by simp) ?_
      refine AllReadyH.cons rfl (fun K hK => ?_) AllReadyH.nil
      go_simp
      go_wp2_with (go_at_call 17; refine cw.mono ?_; rintro e wx ⟨rfl, hpx, hkx2⟩)
      have HEX : Hid (EoRow wx w.heap.size oz) := hkx2.2 _ _ _ _ (show w11.drew.heap[w.heap.size]? = some (.cells (eopC oz) 30 (0, 0)) from HE8.out) (by decide) (by decide) (by decide) (by decide) (by decide) (by decide)
      have HZX : Hid (EoRow wx w.heap.size oz) := hkx2.2 _ _ _ _ (show w11.drew.heap[w.heap.size]? = some (.cells (eopC oz) 30 (0, 0)) from HZ8.out) (by decide) (by decide) (by decide) (by decide) (by decide) (by decide)
      have hprx : PrAt wx pp a xx := hkx2.2 _ _ _ _ hpr (by decide) (by decide) (by decide) (by decide) (by decide) (by decide)
      refine hK.out _ _ ⟨hprx, HEX.out, HZX.out⟩ (fun hHeld2 => ?_)
      clear hK K cw
      try simp only [List.getElem_toArray, List.getElem_cons_zero, List.getElem_cons_succ, Act.put, List.setIfInBounds_toArray, List.set_cons_zero, List.set_cons_succ]
      refine wpAnyH_take (i := 10) (v := .tuple #[.string (rdX T 2 oz.off oz.n).2.1, .int .i64 (rdX T 2 oz.off oz.n).2.2]) rfl (by kernel_rfl) (by kernel_rfl) (by kernel_rfl) (fun _ _ _ h => h) (Or.inl ⟨by rfl, fun W hSw => by (try dsimp only at hSw); go_simp⟩) (by assumption) ?_
      try simp only [List.getElem_toArray, List.getElem_cons_zero, List.getElem_cons_succ, Act.put, List.setIfInBounds_toArray, List.set_cons_zero, List.set_cons_succ]
      refine wpAnyH_take (i := 11) (v := .string (rdX T 2 oz.off oz.n).2.1) rfl (by kernel_rfl) (by kernel_rfl) (by kernel_rfl) (fun _ _ _ h => h) (Or.inl ⟨by rfl, fun W hSw => by (try dsimp only at hSw); go_simp⟩) (by assumption) ?_
      try simp only [List.getElem_toArray, List.getElem_cons_zero, List.getElem_cons_succ, Act.put, List.setIfInBounds_toArray, List.set_cons_zero, List.set_cons_succ]
      refine wpAnyH_take (i := 12) (v := .int .i64 (rdX T 2 oz.off oz.n).2.2) rfl (by kernel_rfl) (by kernel_rfl) (by kernel_rfl) (fun _ _ _ h => h) (Or.inl ⟨by rfl, fun W hSw => by (try dsimp only at hSw); go_simp⟩) (by assumption) ?_
      try simp only [List.getElem_toArray, List.getElem_cons_zero, List.getElem_cons_succ, Act.put, List.setIfInBounds_toArray, List.set_cons_zero, List.set_cons_succ]
      refine wpAnyH_take (i := 13) (v := .string (rdX T 2 oz.off oz.n).2.1) rfl (by kernel_rfl) (by kernel_rfl) (by kernel_rfl) (fun _ _ _ h => h) (Or.inl ⟨by rfl, fun W hSw => by (try dsimp only at hSw); go_simp⟩) (by assumption) ?_
      try simp only [List.getElem_toArray, List.getElem_cons_zero, List.getElem_cons_succ, Act.put, List.setIfInBounds_toArray, List.set_cons_zero, List.set_cons_succ]
      refine wpAnyH_take (i := 14) (v := .int .i64 (rdX T 2 oz.off oz.n).2.2) rfl (by kernel_rfl) (by kernel_rfl) (by kernel_rfl) (fun _ _ _ h => h) (Or.inl ⟨by rfl, fun W hSw => by (try dsimp only at hSw); go_simp⟩) (by assumption) ?_
      try simp only [List.getElem_toArray, List.getElem_cons_zero, List.getElem_cons_succ, Act.put, List.setIfInBounds_toArray, List.set_cons_zero, List.set_cons_succ]
      refine wpAnyH_done (by kernel_rfl) ?_ _
      refine NoPanic.normal ?_
      have HTC := rd_touch HBS.out.nil HFL.out HTR.out.1 HTR.out.2 oz.off oz.n
      have HPX : Hid (Pr w.heap.size w2 wx pp a (rdX T 2 oz.off oz.n).1) := hpx
      obtain ⟨SX, hSX⟩ : ∃ SX, (rdX T 2 oz.off oz.n).1 = SX := ⟨_, rfl⟩
      rw [hSX] at HPX HTC
      obtain ⟨us, hus⟩ : ∃ us, (rdX T 2 oz.off oz.n).2.1 = us := ⟨_, rfl⟩
      obtain ⟨we, hwe0⟩ : ∃ we, (rdX T 2 oz.off oz.n).2.2 = we := ⟨_, rfl⟩
      rw [hus, hwe0] at HTC ⊢
      clear hHeld hHeld2 hpx hkx2 hprx hS0 hpr HP8 HE8 HZ8 HZX hSX hus hwe0
      have HB : Hid (Below w.heap.size w wx) := HB2.out.trans HPX.out.bel
      have q := HPX.out.c0
      have q1 := HPX.out.r1
      obtain ⟨hU0, HTC⟩ := HTC
      have HU0 : Hid (SX.U.length = 0) := by unfold Hid; rw [hU0]; rfl
      clear hU0
      rcases HTC with ⟨hR1, hor⟩ | ⟨hwe, hd0, hd64, ho0, ho1, hRL⟩
      · have c := HPX.out.allR (by omega)
        obtain ⟨rn, hrn⟩ : ∃ rn, SX.R.length = rn := ⟨_, rfl⟩
        rw [hrn] at c hR1
        clear hrn
        go_wp2_with fail
        refine c.mono ?_
        rintro e w12 ⟨ua, uc, rfl, _, hb12⟩
        have hp12 := HPX.out.below hb12
        have HB12 : Hid (Below w.heap.size w w12) := thenB HB.out hb12
        clear c q q1
        have q := hp12.c0
        have q1 := hp12.u2
        have cm := hp12.markU
        rw [HU0.out] at cm
        have hR1I : (rn : Int) ≤ 1 := by omega
        clear hp12 hb12 hR1
        by_cases hwe : we = 0
        · subst hwe
          have c3 : us.size = 0 := hor.resolve_left (fun h => h rfl)
          have hdd : us = ByteArray.empty := ByteArray.ext (Array.eq_empty_of_size_eq_zero c3)
          subst hdd
          go_wp2_with fail
          refine cm.mono ?_
          rintro e w13 ⟨rfl, rfl⟩
          go_wp2
          go_ret
          exact ⟨rfl, HB12.out⟩
        · have hwe2 : (we == 0) = false := by simpa using hwe
          have hwe3 : (we != 0) = true := by simpa using hwe
          go_wp2_with fail
          refine cm.mono ?_
          rintro e w13 ⟨rfl, rfl⟩
          go_wp2
          go_ret
          exact ⟨rfl, HB12.out⟩
      subst hwe
      obtain ⟨sz, hsz⟩ : ∃ sz, us.size = sz := ⟨_, rfl⟩
      obtain ⟨of, hof⟩ : ∃ of : Nat, oz.off = (of : Int) := ⟨oz.off.toNat, by omega⟩
      rw [hsz] at hd0 hd64
      rw [hof, hsz] at hRL
      rw [hof] at ho0 ho1
      have c3 : ¬ us.size = 0 := by rw [hsz]; omega
      have hde1 : (us.toList == []) = false := by
        cases hq : us.toList with
        | nil => exfalso; apply c3; have := congrArg List.length hq; rw [ByteArray.toList_eq] at this; simpa using this
        | cons x r => rfl
      have hde2 : us.toList.isEmpty = false := by cases hq : us.toList with
        | nil => rw [hq] at hde1; cases hde1
        | cons x r => rfl
      have hln : SX.R.length = 2 := by rw [hRL]; rfl
      have c := HPX.out.allR (by rw [hln]; decide)
      rw [hln] at c
      go_wp2_with fail
      refine c.mono ?_
      rintro e w12 ⟨ua, uc, rfl, hrd, hb12⟩
      clear c q q1
      have HB12 : Hid (Below w.heap.size w w12) := thenB HB.out hb12
      rw [hRL] at hrd
      obtain ⟨ub, uo, hua, t0, _⟩ := tc_cells hrd (i := 0) rfl
      obtain ⟨ub', uo', hua', r0, r1, r2, r3, r4⟩ := tc_cells hrd (i := 1) rfl
      rw [hua] at hua'
      simp only [Option.some.injEq, Addr.mk.injEq, and_true] at hua'
      obtain ⟨rfl, rfl⟩ := hua'
      subst hua
      simp only [tcK, tcB, Nat.zero_mul, Nat.add_zero, Nat.one_mul] at t0 r0 r1 r2 r3 r4
      have v1 := (HEX.out.below hb12).c1
      rw [hof] at v1
      have hp12 := HPX.out.below hb12
      have q := hp12.c0
      have q1 := hp12.u2
      have hmk : ∀ n, Calls Tryz.prog 21 #[.pointer (some ⟨a.u, 0, none⟩)] (w12.drewN n) fun e w' => e = .returned (.int .i64 0) ∧ w' = w12.drewN n := fun n => (hp12.below (belowQ _ _ _)).markU.mono fun e w' h => ⟨by rw [HU0.out] at h; exact h.1, h.2.symm⟩
      have heq := fun W => eq_tcs W 4 2 (of : Int) ((of : Int) + (sz : Int)) 4 2 (of : Int) ((of : Int) + (sz : Int)) ⟨#[]⟩ ⟨#[]⟩
      rw [tcEq_self] at heq
      have hsum : (of : Int) + (sz : Int) ≤ 9223372036854775807 := by omega
      clear hrd hb12 hp12
      go_wp2
      go_quiet (first | (go_at_call 21; refine Calls.quiet_of_same (hmk _)))
      go_wp2
      go_ret
      exact ⟨rfl, thenB HB12.out (belowQ _ _ _)⟩

/-! ### The row -/
set_option maxRecDepth 100000 in
theorem lifted (os : Os) (started : os.Started) (H : Type) (enc : TypeId × Value → H) :
    ReturnsInHanded {} Tryz.checked os 6 .any (Rows.extentTouchesSpec.pre6 enc Tryz.prog Tryz.f6 Rows.extentTouchesRow.domain false) (Rows.extentTouchesSpec.post enc Tryz.prog Tryz.f6 false true false false) := by
  refine returnsInHanded_of_change (C := Tryz.checked) own started (by kernel_rfl) Tryz.func6
    (ChangeSpec.witness6 (enc := enc) (C := Tryz.checked) false ⟨#[], #[.slice none 0 0, .agg (eopC eop0)], []⟩ 8 (by kernel_rfl) (by kernel_rfl) (by kernel_rfl) (by kernel_rfl)) ?_
  intro W base args ds gs before hval0 hW hcnd _
  have hval : ∀ (j : Nat) t v, Tryz.f6.params[j]? = some t → args[j]? = some v → Value.okWide Tryz.prog W .any base t v := hval0
  have hW' := hW
  obtain ⟨p, q, hA0, hV, rfl, hfz, hnd⟩ := hW
  have hA : DataW.TrodAll enc Tryz.prog W 0 (fun _ => true) true Tryz.f6.params.toList args.toList ds p := hA0
  rw [Tryz.params6] at hA hval
  obtain ⟨v0, vs0, d0, ds0, p0, q0, hargs, rfl, rfl, h0, r0⟩ := trodAll_cons hA
  obtain ⟨v1, vs1, d1, ds1, p1, q1, rfl, rfl, rfl, h1, r1⟩ := trodAll_cons r0
  obtain ⟨rfl, rfl, rfl⟩ := trodAll_nil r1
  obtain rfl : args = #[v0, v1] := by cases args; simp_all
  obtain ⟨rfl, rfl⟩ := trodVars_none hV
  obtain ⟨a0, len0, cap0, rfl⟩ := okWide_slice Tryz.underlying23 (hval 0 23 v0 rfl rfl)
  have k0 := h0
  have lt0 : ∀ x ∈ p0, x.block < W.heap.size := by obtain ⟨m, hm⟩ := k0; exact DataW.trod_lt m _ _ _ hm
  obtain ⟨o0, w0⟩ : ∃ os, EopsAt W a0 len0 cap0 os := by
    obtain ⟨fuel, hf⟩ := h0
    exact eops_of hf
  obtain ⟨cs1, rfl, sz1⟩ := okWide_struct Tryz.underlying30 (hval 1 30 v1 rfl rfl)
  have k1 := h1
  have lt1 : ∀ x ∈ p1, x.block < W.heap.size := by obtain ⟨m, hm⟩ := k1; exact DataW.trod_lt m _ _ _ hm
  obtain ⟨a1, w1, rfl⟩ : ∃ q : Eop, EopOk q ∧ cs1 = eopC q := by
    obtain ⟨fuel, hf⟩ := h1
    exact eop_of sz1 hf
  clear hA0 hval0
  refine (walk a0 len0 cap0 o0 a1 W w0 w1).mono fun e W' ⟨he, bel⟩ => ?_
  subst he
  exact ⟨_, rfl, _, _, _, [], _, [], hW', trodAll_mk1 (shut_bool Tryz.underlying4 _), (trodAll_cons_mk (Below.trod laidOut (by kernel_rfl) (of_decide_eq_true (by kernel_rfl)) k0 bel lt0) (trodAll_cons_mk (Below.trod laidOut (by kernel_rfl) (of_decide_eq_true (by kernel_rfl)) k1 bel lt1) trodAll_mk0)), rfl, bel.frame _, fun h => by cases h⟩

theorem over : Rows.extentTouchesRow.holds Tryz.pinned (OpenSpec.ofChange Rows.extentTouchesSpec) :=
  OpenClaim.holds_of_wide 6 Tryz.f6 rfl rfl rfl rfl rfl rfl rfl ⟨rfl, rfl, rfl, rfl, rfl⟩ rfl rfl rfl rfl rfl (by kernel_rfl) Tryz.func6 (by kernel_rfl)
    (of_decide_eq_true (by kernel_rfl)) (by unfold Func.isWrapper; first | (rw [if_pos (by decide +kernel)]; kernel_rfl) | (rw [if_neg (by decide +kernel)]; exact ⟨rfl, rfl⟩))
    (fun os started H enc _ => lifted os started H enc)

end Go.Proofs.YtjjhfginmamlkaaGreat.extentTouches

namespace Go.Proofs.YtjjhfginmamlkaaGreat
/-- The statement. -/
theorem extentTouches_proved : Rows.ExtentTouchesSaid := extentTouches.over
#print axioms extentTouches_proved
end Go.Proofs.YtjjhfginmamlkaaGreat
