/- The contract of the law's same: two maps that are the same. -/
import Derived.Test.YtljfdmjlilahjaaFList
import Derived.Test.YtljfdmjlilahjaaFTurnR
import Derived.BigQuiet
import Derived.Deep.QuietTactic
namespace Go.Proofs.Ytljfdmjlilahjaa
open Go.RowKit
set_option linter.unusedVariables false
set_option linter.unusedSimpArgs false
set_option maxRecDepth 4000

theorem kindOfN_le {s : Fr} (hk : FrOk s) (i : Int) : kindOfN s i ≤ 3 := by
  unfold kindOfN
  split
  · rename_i h
    rw [List.getD_eq_getElem?_getD]
    cases e : s.ks[(i - s.lo).toNat]? with
    | none => simp
    | some k => exact (hk.kinds k (List.mem_of_getElem? e)).2
  · omega

/-- The kind, as far as it was looked for. -/
def wantN (K k : Nat) : Nat := if K ≤ k then K else 0

theorem row_apart {w w' : World} {b1 b2 : Nat} {u v : Value} {l l' : List Nat} (hu : w.ownsRow b1 3 1 u l.length (natC l)) (hw : w.heap.size ≤ b2) (hv : w'.ownsRow b2 3 1 v l'.length (natC l')) : ∀ q, u.ownBlock = some q → v.ownBlock ≠ some q := by
  intro q hq e
  have h1 := (World.ownsRow.lt hu q hq).2
  have h2 := (World.ownsRow.lt hv q e).1
  omega

/-- One list of each, held against one another. -/
structure ListsAt (w : World) (k : Nat) (s : Fr) (F : Nat) (p p' : Nat) : Prop where
  mine : ∀ W, Below w.heap.size w W → Calls Try.prog F #[ptr p] W fun e w' => ∃ u, e = .returned u ∧ w'.ownsRow W.heap.size 3 1 u (blocksL s k).length (natC (blocksL s k)) ∧ Below W.heap.size W w'
  his : ∀ W, Below w.heap.size w W → Calls Try.prog 33 #[ptr p', .int .i64 ((k : Int) - 1)] W fun e w' => ∃ u, e = .returned u ∧ w'.ownsRow W.heap.size 3 1 u (blocksL s k).length (natC (blocksL s k)) ∧ Below W.heap.size W w'

set_option maxHeartbeats 4000000 in
theorem same_any {w : World} {p h p' h' : Nat} {s : Fr} (H : PAt w p h s) (H' : RAt w p' h' s) (hk : FrOk s) :
    Calls Try.prog 18 #[ptr p, ptr p'] w fun e w' => e = .returned (.bool true) ∧ Below w.heap.size w w' := by
  have hm := hk.most
  have hl : ∀ W, Below w.heap.size w W → ∀ i : Int, Calls Try.prog 31 #[ptr p, .int .i64 i] W fun e w' => e = .returned (.int .i64 (kindOfN s i)) ∧ Below W.heap.size W w' := fun W hW i => is_any (FrAt.below H hW) hk i
  have hri : ∀ W, Below w.heap.size w W → ∀ (i : Int) (k : Nat), i ≤ 9223372036854775807 → Calls Try.prog 29 #[ptr p', .int .i64 i, .int .i64 k] W fun e w' => e = .returned (.bool (decide (kindOfN s i = k + 1))) ∧ Below W.heap.size W w' := fun W hW i k hi => by
    have := ris_any (FrAt.below H' hW) hk i hi (k + 1) (by omega)
    rw [show ((k + 1 : Nat) : Int) - 1 = (k : Int) from by omega] at this
    exact this
  have hkn := fun i => kindOfN_le hk i
  obtain ⟨cap, c0, c1, h1, h2, hp, hh, hne, hc⟩ := FrAt.opened H'
  have HP : Hid (PAt w p h s) := H
  have HR : Hid (RAt w p' h' s) := H'
  have HK : Hid (FrOk s) := hk
  unfold ptr at *
  clear hc H H'
  generalize hn : s.ks.length = n at *
  generalize hlo : s.lo = lo at *
  go_enter Try.func18, Try.ntmps18
  go_wp2
  go_loopw [5] (fun t wr => ∃ q : Nat, q ≤ n + 5 ∧ t = .int .i64 ((lo : Int) - 2 + q) ∧ Below w.heap.size w wr) (fun t _ => ((lo : Int) + n + 3 - intOf t).toNat)
  case atStart => exact ⟨0, Nat.zero_le _, by simp, Below.refl _ _⟩
  case round =>
    obtain ⟨q, hq, rfl, HB⟩ := hrel
    obtain ⟨wA, hA⟩ : ∃ wA, wA = wr := ⟨_, rfl⟩
    subst hA
    obtain ⟨i, hi⟩ : ∃ i : Int, (lo : Int) - 2 + q = i := ⟨_, rfl⟩
    rw [hi]
    have hib : -2 ≤ i ∧ i ≤ 4000 := by omega
    have x0 := (HB.cell (p := ⟨p', 0, none⟩) hp).trans c0
    have x1 := (HB.cell (p := ⟨p', 1, none⟩) hp).trans c1
    by_cases hgo : i < (lo : Int) + n + 2 ∧ i < (lo : Int) + 40
    · have d1 : decide (i < (lo : Int) + n + 2) = true := decide_eq_true hgo.1
      have d2 : decide (i < (lo : Int) + 40) = true := decide_eq_true hgo.2
      have hqn : q < n + 4 := by omega
      obtain ⟨K, hK⟩ : ∃ K, kindOfN s i = K := ⟨_, rfl⟩
      have hK3 : K ≤ 3 := by rw [← hK]; exact hkn i
      have hri' := fun W hW k => hri W hW i k (by omega)
      have hl' := fun W hW => hl W hW i
      rw [hK] at hri'
      simp only [hK] at hl'
      clear hri hl hkn hgo c0 c1
      go_wp2_with fail
      go_quiet (fail)
      have HBq := fun N => HB.trans (belowQ wA N w.heap.size)
      go_wp2_with fail
      go_loopw [6, 37] (fun x t wr => ∃ k : Nat, k ≤ 3 ∧ t = .int .i64 k ∧ x = .int .i64 (wantN K k) ∧ Below w.heap.size w wr) (fun _ t _ => 3 - (intOf t).toNat)
      case atStart => exact ⟨0, Nat.zero_le _, rfl, by unfold wantN; split <;> simp_all, HBq _⟩
      case round =>
        clear HBq d1 d2 x0 x1
        obtain ⟨k, hk3, rfl, rfl, HB2⟩ := hrel
        obtain ⟨wB, hB⟩ : ∃ wB, wB = wr := ⟨_, rfl⟩
        subst hB
        by_cases hkl : k < 3
        · have hkI : (k : Int) < 3 := by omega
          have cc := hri' wB HB2 k
          by_cases hKk : K = k + 1
          · rw [decide_eq_true hKk] at cc
            have HW : Hid (wantN K (k + 1) = k + 1) := by unfold Hid wantN; rw [if_pos (by omega)]; exact hKk
            clear hri' hl'
            go_wp2_with fail
            refine cc.mono ?_
            rintro e w2 ⟨rfl, hb2⟩
            clear cc
            go_wp2_with fail
            go_roundw
            case rel => exact ⟨k + 1, by omega, by go_num, by rw [HW.out]; go_num, HB2.trans (hb2.mono HB2.size)⟩
            case measure => simp [intOf]; omega
          · rw [decide_eq_false hKk] at cc
            have HW : Hid (wantN K (k + 1) = wantN K k) := by
              unfold Hid wantN
              by_cases h : K ≤ k
              · rw [if_pos h, if_pos (by omega)]
              · rw [if_neg h, if_neg (by omega)]
            generalize wantN K k = V at *
            clear hri' hl'
            go_wp2_with fail
            refine cc.mono ?_
            rintro e w2 ⟨rfl, hb2⟩
            clear cc
            go_wp2_with fail
            go_roundw
            case rel => exact ⟨k + 1, by omega, by go_num, by rw [HW.out], HB2.trans (hb2.mono HB2.size)⟩
            case measure => simp [intOf]; omega
        · obtain rfl : k = 3 := by omega
          have cc := hl' wB HB2
          have hw3 : wantN K 3 = K := by unfold wantN; rw [if_pos hK3]
          rw [hw3]
          clear hri' hl' hw3
          go_wp2_with fail
          refine cc.mono ?_
          rintro e w2 ⟨rfl, hb2⟩
          clear cc
          go_wp2_with fail
          go_roundw
          case rel => exact ⟨q + 1, by omega, by rw [show (lo : Int) - 2 + ((q + 1 : Nat) : Int) = i + 1 from by omega], HB2.trans (hb2.mono HB2.size)⟩
          case measure => simp only [intOf]; omega
    · have hor : decide (i < (lo : Int) + n + 2) = false ∨ (decide (i < (lo : Int) + n + 2) = true ∧ decide (i < (lo : Int) + 40) = false) := by
        by_cases h : i < (lo : Int) + n + 2
        · exact .inr ⟨decide_eq_true h, decide_eq_false (fun q => hgo ⟨h, q⟩)⟩
        · exact .inl (decide_eq_false h)
      rcases hor with d1 | ⟨d1, d2⟩
      · have d2 := True.intro
        clear hri hl hkn c0 c1 hgo
        go_wp2_with fail
        go_quiet (fail)
        have HBq := fun N => HB.trans (belowQ wA N w.heap.size)
        go_wp2_with fail
        clear d1 d2 x0 x1
        have c1 := fun W (hW : Below w.heap.size w W) => freeL_any (FrAt.below HP.out hW) HK.out
        unfold ptr at c1
        refine (c1 _ (HBq _)).mono ?_
        rintro e w1 ⟨u1x, rfl, ho1, hb1⟩
        have HB1 : Below w.heap.size w w1 := (HBq _).trans (hb1.mono (HBq _).size)
        clear c1
        have c2 := rall_any (FrAt.below HR.out HB1) HK.out 1 (by omega)
        rw [show ((1 : Nat) : Int) - 1 = 0 from by omega] at c2
        unfold ptr at c2
        go_wp2_with fail
        refine c2.mono ?_
        clear c2
        rintro e w2 ⟨u2x, rfl, ho2, hb2⟩
        have HB2 := HB1.trans (hb2.mono HB1.size)
        have c3 := list_any (rowI_below ho1 hb2) ho2 (row_apart ho1 (Nat.le_refl _) ho2)
        obtain ⟨A1, C1, rfl⟩ := rowI_slice ho1
        obtain ⟨A2, C2, rfl⟩ := rowI_slice ho2
        go_wp2_with fail
        refine c3.mono ?_
        clear c3 ho1 ho2
        rintro e w3 ⟨rfl, hb3⟩
        have HB3 : Below w.heap.size w w3 := HB2.trans (hb3.mono (HBq _).size)
        clear hb1 hb2 hb3 HB1 HB2
        go_wp2_with fail
        have c4 := fun W (hW : Below w.heap.size w W) => takenL_any (FrAt.below HP.out hW) HK.out
        unfold ptr at c4
        refine (c4 _ HB3).mono ?_
        rintro e w4 ⟨u4x, rfl, ho4, hb4⟩
        have HB4 : Below w.heap.size w w4 := HB3.trans (hb4.mono HB3.size)
        clear c4
        have c5 := rall_any (FrAt.below HR.out HB4) HK.out 2 (by omega)
        rw [show ((2 : Nat) : Int) - 1 = 1 from by omega] at c5
        unfold ptr at c5
        go_wp2_with fail
        refine c5.mono ?_
        clear c5
        rintro e w5 ⟨u5x, rfl, ho5, hb5⟩
        have HB5 := HB4.trans (hb5.mono HB4.size)
        have c6 := list_any (rowI_below ho4 hb5) ho5 (row_apart ho4 (Nat.le_refl _) ho5)
        obtain ⟨A4, C4, rfl⟩ := rowI_slice ho4
        obtain ⟨A5, C5, rfl⟩ := rowI_slice ho5
        go_wp2_with fail
        refine c6.mono ?_
        clear c6 ho4 ho5
        rintro e w6 ⟨rfl, hb6⟩
        have HB6 : Below w.heap.size w w6 := HB5.trans (hb6.mono HB3.size)
        clear hb4 hb5 hb6 HB4 HB5
        go_wp2_with fail
        have c7 := fun W (hW : Below w.heap.size w W) => waitingL_any (FrAt.below HP.out hW) HK.out
        unfold ptr at c7
        refine (c7 _ HB6).mono ?_
        rintro e w7 ⟨u7x, rfl, ho7, hb7⟩
        have HB7 : Below w.heap.size w w7 := HB6.trans (hb7.mono HB6.size)
        clear c7
        have c8 := rall_any (FrAt.below HR.out HB7) HK.out 3 (by omega)
        rw [show ((3 : Nat) : Int) - 1 = 2 from by omega] at c8
        unfold ptr at c8
        go_wp2_with fail
        refine c8.mono ?_
        clear c8
        rintro e w8 ⟨u8x, rfl, ho8, hb8⟩
        have HB8 := HB7.trans (hb8.mono HB7.size)
        have c9 := list_any (rowI_below ho7 hb8) ho8 (row_apart ho7 (Nat.le_refl _) ho8)
        obtain ⟨A7, C7, rfl⟩ := rowI_slice ho7
        obtain ⟨A8, C8, rfl⟩ := rowI_slice ho8
        go_wp2_with fail
        refine c9.mono ?_
        clear c9 ho7 ho8
        rintro e w9 ⟨rfl, hb9⟩
        have HB9 : Below w.heap.size w w9 := HB8.trans (hb9.mono HB6.size)
        clear hb7 hb8 hb9 HB7 HB8
        go_wp2
        go_ret
        exact ⟨rfl, HB9⟩
      · clear hri hl hkn c0 c1 hgo
        go_wp2_with fail
        go_quiet (fail)
        have HBq := fun N => HB.trans (belowQ wA N w.heap.size)
        go_wp2_with fail
        clear d1 d2 x0 x1
        have c1 := fun W (hW : Below w.heap.size w W) => freeL_any (FrAt.below HP.out hW) HK.out
        unfold ptr at c1
        refine (c1 _ (HBq _)).mono ?_
        rintro e w1 ⟨u1x, rfl, ho1, hb1⟩
        have HB1 : Below w.heap.size w w1 := (HBq _).trans (hb1.mono (HBq _).size)
        clear c1
        have c2 := rall_any (FrAt.below HR.out HB1) HK.out 1 (by omega)
        rw [show ((1 : Nat) : Int) - 1 = 0 from by omega] at c2
        unfold ptr at c2
        go_wp2_with fail
        refine c2.mono ?_
        clear c2
        rintro e w2 ⟨u2x, rfl, ho2, hb2⟩
        have HB2 := HB1.trans (hb2.mono HB1.size)
        have c3 := list_any (rowI_below ho1 hb2) ho2 (row_apart ho1 (Nat.le_refl _) ho2)
        obtain ⟨A1, C1, rfl⟩ := rowI_slice ho1
        obtain ⟨A2, C2, rfl⟩ := rowI_slice ho2
        go_wp2_with fail
        refine c3.mono ?_
        clear c3 ho1 ho2
        rintro e w3 ⟨rfl, hb3⟩
        have HB3 : Below w.heap.size w w3 := HB2.trans (hb3.mono (HBq _).size)
        clear hb1 hb2 hb3 HB1 HB2
        go_wp2_with fail
        have c4 := fun W (hW : Below w.heap.size w W) => takenL_any (FrAt.below HP.out hW) HK.out
        unfold ptr at c4
        refine (c4 _ HB3).mono ?_
        rintro e w4 ⟨u4x, rfl, ho4, hb4⟩
        have HB4 : Below w.heap.size w w4 := HB3.trans (hb4.mono HB3.size)
        clear c4
        have c5 := rall_any (FrAt.below HR.out HB4) HK.out 2 (by omega)
        rw [show ((2 : Nat) : Int) - 1 = 1 from by omega] at c5
        unfold ptr at c5
        go_wp2_with fail
        refine c5.mono ?_
        clear c5
        rintro e w5 ⟨u5x, rfl, ho5, hb5⟩
        have HB5 := HB4.trans (hb5.mono HB4.size)
        have c6 := list_any (rowI_below ho4 hb5) ho5 (row_apart ho4 (Nat.le_refl _) ho5)
        obtain ⟨A4, C4, rfl⟩ := rowI_slice ho4
        obtain ⟨A5, C5, rfl⟩ := rowI_slice ho5
        go_wp2_with fail
        refine c6.mono ?_
        clear c6 ho4 ho5
        rintro e w6 ⟨rfl, hb6⟩
        have HB6 : Below w.heap.size w w6 := HB5.trans (hb6.mono HB3.size)
        clear hb4 hb5 hb6 HB4 HB5
        go_wp2_with fail
        have c7 := fun W (hW : Below w.heap.size w W) => waitingL_any (FrAt.below HP.out hW) HK.out
        unfold ptr at c7
        refine (c7 _ HB6).mono ?_
        rintro e w7 ⟨u7x, rfl, ho7, hb7⟩
        have HB7 : Below w.heap.size w w7 := HB6.trans (hb7.mono HB6.size)
        clear c7
        have c8 := rall_any (FrAt.below HR.out HB7) HK.out 3 (by omega)
        rw [show ((3 : Nat) : Int) - 1 = 2 from by omega] at c8
        unfold ptr at c8
        go_wp2_with fail
        refine c8.mono ?_
        clear c8
        rintro e w8 ⟨u8x, rfl, ho8, hb8⟩
        have HB8 := HB7.trans (hb8.mono HB7.size)
        have c9 := list_any (rowI_below ho7 hb8) ho8 (row_apart ho7 (Nat.le_refl _) ho8)
        obtain ⟨A7, C7, rfl⟩ := rowI_slice ho7
        obtain ⟨A8, C8, rfl⟩ := rowI_slice ho8
        go_wp2_with fail
        refine c9.mono ?_
        clear c9 ho7 ho8
        rintro e w9 ⟨rfl, hb9⟩
        have HB9 : Below w.heap.size w w9 := HB8.trans (hb9.mono HB6.size)
        clear hb7 hb8 hb9 HB7 HB8
        go_wp2
        go_ret
        exact ⟨rfl, HB9⟩

end Go.Proofs.Ytljfdmjlilahjaa
