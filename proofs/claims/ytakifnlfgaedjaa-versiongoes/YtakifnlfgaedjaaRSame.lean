/- The contract of the law's same: true at two registries that have all in common. -/
import Derived.Test.YtakifnlfgaedjaaRIn
namespace Go.Proofs.Ytakifnlfgaedjaa
open Go.RowKit Go.Sort
set_option linter.unusedVariables false
set_option linter.unusedSimpArgs false
set_option maxRecDepth 4000

theorem snapV_form (o : Option Tr) : ∃ c d e : Int, snapV o = .tuple #[.int .u32 c, .int .u64 d, .int .i64 e] := by
  cases o with
  | none => exact ⟨0, 0, 4, rfl⟩
  | some t => exact ⟨t.root, t.ver, 0, rfl⟩

set_option maxRecDepth 10000 in
set_option maxHeartbeats 8000000 in
theorem same_any {B : Nat} {w0 w : World} {p q k : Nat} {s : Rg} {x : Rf} (h : TwoIn B w0 w p q k s x) : Calls Try.prog 19 #[ptrR p, ptrR q] w fun e w' => e = .returned (.bool true) ∧ Below w.heap.size w w' := by
  have H : Hid (TwoIn B w0 w p q k s x) := h
  have ct := trunk_in h.rg
  clear h
  unfold ptrR at *
  obtain ⟨R, hR⟩ : ∃ R, s.t.root = R := ⟨_, rfl⟩
  obtain ⟨V, hV⟩ : ∃ V, s.t.ver = V := ⟨_, rfl⟩
  rw [hR, hV] at ct
  have HRR : Hid (s.t.root = R) := hR
  have HVV : Hid (s.t.ver = V) := hV
  clear hR hV
  go_enter Try.func19, Try.ntmps19
  go_wp2_with fail
  refine ct.mono ?_
  rintro e w1 ⟨rfl, _, hb1⟩
  clear ct
  have ck := kept_in (H.out.below hb1).rg H.out.both.ok
  unfold ptrR at ck
  go_wp2_with fail
  refine ck.mono ?_
  rintro e w2 ⟨g, cp, l, rfl, hl1, hl2, hlc, hcm, hgb, hh, hkept, _, hb2⟩
  clear ck
  unfold maxLen at hcm
  have hB2 : Below w.heap.size w w2 := thenB hb1 hb2
  have hg2 := hh.lt
  have crk := rkept_in (H.out.below hB2).rf H.out.both hkept
  unfold ptrR at crk
  obtain ⟨n, hn⟩ : ∃ n, l.length = n := ⟨_, rfl⟩
  have HN : Hid (l.length = n) := hn
  rw [hn] at crk hl1 hl2 hlc ⊢
  have HH2 : Hid (HoldU w2 g l.toArray) := hh
  have HGW : Hid (w.heap.size ≤ g) := Nat.le_trans hb1.size hgb
  have HB2 : Hid (Below w.heap.size w w2) := hB2
  clear hb1 hb2 hh hkept hB2 hgb hn
  go_wp2_with fail
  refine crk.mono ?_
  rintro e w3 ⟨g3, cp3, rfl, hlc3, hcm3, hgb3, hh3, hb3⟩
  clear crk
  unfold maxLen at hcm3
  have hgg : g ≠ g3 := by omega
  have HB3 : Hid (Below w.heap.size w w3) := thenB HB2.out hb3
  have HH3 : Hid (HoldU w3 g l.toArray) := HH2.out.other (Sole.of_below hb3 []) (by simp)
  have HX3 : Hid (HoldU w3 g3 l.toArray) := hh3
  clear hb3 hh3 HB2 HH2 hg2 hgb3
  obtain ⟨⟨vp, vl, hat⟩, _, _, _⟩ := (H.out.below HB3.out).rf
  have c0 : w3.cell? ⟨q, 0, none⟩ = some (.int .u32 R) := by rw [← HRR.out, ← H.out.both.root]; exact hat.cell 0 _ rfl
  have c1 : w3.cell? ⟨q, 1, none⟩ = some (.int .u64 V) := by rw [← HVV.out, ← H.out.both.ver]; exact hat.cell 1 _ rfl
  clear hat
  have ch := horizon_in (H.out.below HB3.out).rg H.out.both.ok
  unfold ptrR at ch
  obtain ⟨E, hE⟩ : ∃ E, (eldT s).ver = E := ⟨_, rfl⟩
  rw [hE] at ch
  go_wp2_with fail
  refine ch.mono ?_
  rintro e w4 ⟨rfl, _, hb4⟩
  clear ch c0 c1
  have HB4 : Hid (Below w.heap.size w w4) := thenB HB3.out hb4
  have HH4 : Hid (HoldU w4 g l.toArray) := HH3.out.other (Sole.of_below hb4 []) (by simp)
  have HX4 : Hid (HoldU w4 g3 l.toArray) := HX3.out.other (Sole.of_below hb4 []) (by simp)
  have ch := rhorizon_in (H.out.below HB4.out).rf H.out.both
  unfold ptrR at ch
  rw [hE] at ch
  clear hb4 HB3 HH3 HX3 hE
  go_wp2_with fail
  refine ch.mono ?_
  rintro e w5 ⟨rfl, hb5⟩
  clear ch
  have HB5 : Hid (Below w.heap.size w w5) := thenB HB4.out hb5
  have HH5 : Hid (HoldU w5 g l.toArray) := HH4.out.other (Sole.of_below hb5 []) (by simp)
  have HX5 : Hid (HoldU w5 g3 l.toArray) := HX4.out.other (Sole.of_below hb5 []) (by simp)
  have ch := window_in (H.out.below HB5.out).rg
  unfold ptrR at ch
  obtain ⟨D, hD⟩ : ∃ D, winR s = D := ⟨_, rfl⟩
  rw [hD] at ch
  clear hb5 HB4 HH4 HX4
  go_wp2_with fail
  refine ch.mono ?_
  rintro e w6 ⟨rfl, _, hb6⟩
  clear ch
  have HB6 : Hid (Below w.heap.size w w6) := thenB HB5.out hb6
  have HH6 : Hid (HoldU w6 g l.toArray) := HH5.out.other (Sole.of_below hb6 []) (by simp)
  have HX6 : Hid (HoldU w6 g3 l.toArray) := HX5.out.other (Sole.of_below hb6 []) (by simp)
  have ch := rwindow_in (H.out.below HB6.out).rf H.out.both
  unfold ptrR at ch
  rw [hD] at ch
  clear hb6 HB5 HH5 HX5 hD
  go_wp2_with fail
  refine ch.mono ?_
  rintro e w7 ⟨rfl, hb7⟩
  clear ch
  have HB7 : Hid (Below w.heap.size w w7) := thenB HB6.out hb7
  have HH7 : Hid (HoldU w7 g l.toArray) := HH6.out.other (Sole.of_below hb7 []) (by simp)
  have HX7 : Hid (HoldU w7 g3 l.toArray) := HX6.out.other (Sole.of_below hb7 []) (by simp)
  clear hb7 HB6 HH6 HX6
  go_wp2
  go_loopw [9, 63] (fun _ t wr => ∃ (j : Nat) (d : Array Int), j ≤ n ∧ t = .int .i64 j ∧ Hid (d.size = n ∧ ∀ i, j ≤ i → i < n → d[i]! = l.toArray[i]!) ∧ Hid (HoldU wr g d) ∧ Hid (HoldU wr g3 l.toArray) ∧ Hid (Below w.heap.size w wr)) (fun _ t _ => n - (intOf t).toNat)
  case atStart => exact ⟨0, l.toArray, Nat.zero_le _, rfl, ⟨HN.out, fun _ _ _ => rfl⟩, HH7, HX7, HB7⟩
  case round =>
    clear HB7 HH7 HX7
    obtain ⟨j, d, hj, rfl, HD, HH, HX, HB⟩ := hrel
    by_cases hjn : j < n
    · have hjI : (j : Int) < n := by omega
      have x1 := HH.out.cell j (by rw [HD.out.1]; exact hjn)
      rw [HD.out.2 j (Nat.le_refl _) hjn] at x1
      have x2 := HX.out.cell j (by have := HN.out; simp; omega)
      obtain ⟨y, hy⟩ : ∃ y, l.toArray[j]! = y := ⟨_, rfl⟩
      rw [hy] at x1 x2
      clear hy
      go_wp2_with fail
      go_quiet (fail)
      have HHq : Hid (HoldU (wr.drewN nq) g d) := HH.out.drewN nq
      have HXq : Hid (HoldU (wr.drewN nq) g3 l.toArray) := HX.out.drewN nq
      have HBq : Hid (Below w.heap.size w (wr.drewN nq)) := thenB HB.out (belowQ _ _ _)
      have z1 : (wr.drewN nq).cell? ⟨g, j, none⟩ = some (.int .u32 y) := x1
      clear x1 x2 HH HX HB
      generalize wr.drewN nq = wy at *
      have z2 := HHq.out.frozen j
      have HS : Hid (HoldU (wy.setCell ⟨g, j, none⟩ (.int .u32 0)) g (d.setIfInBounds j 0)) := HHq.out.set j 0 (by rw [HD.out.1]; exact hjn)
      have hSo : Sole [g] wy (wy.setCell ⟨g, j, none⟩ (.int .u32 0)) := Sole.setCell _ _ (by simp)
      have HXS : Hid (HoldU (wy.setCell ⟨g, j, none⟩ (.int .u32 0)) g3 l.toArray) := HXq.out.other hSo (by simpa using fun e => hgg e.symm)
      have HBS : Hid (Below w.heap.size w (wy.setCell ⟨g, j, none⟩ (.int .u32 0))) := hSo.belowOf HBq.out HBq.out.size (by simpa using HGW.out)
      have HD2 : Hid ((d.setIfInBounds j 0).size = n ∧ ∀ i, j + 1 ≤ i → i < n → (d.setIfInBounds j 0)[i]! = l.toArray[i]!) := by
        refine ⟨by simpa using HD.out.1, fun i hi hin => ?_⟩
        have hd := HD.out.1
        rw [← HD.out.2 i (by omega) hin]
        rw [getElem!_pos _ i (by simpa using (by omega : i < d.size)), getElem!_pos _ i (by omega), Array.getElem_setIfInBounds_ne (by omega) (by omega)]
      clear hSo
      go_wp2
      go_roundw
      case rel => exact ⟨j + 1, _, by omega, by go_num, HD2, HS, HXS, HBS⟩
      case measure => simp [intOf]; omega
    · have hjI : ¬ (j : Int) < n := by omega
      clear HD HH HX
      go_wp2
      go_loopw [10, 11, 12, 13, 14, 15, 16] (fun s10 _ _ _ _ _ _ wr => ∃ i : Int, -1 ≤ i ∧ i ≤ 12 ∧ s10 = .int .i64 i ∧ Hid (Below w.heap.size w wr)) (fun s10 _ _ _ _ _ _ _ => (12 - intOf s10).toNat)
      case atStart => exact ⟨-1, by omega, by omega, rfl, HB⟩
      case round =>
        clear HB
        obtain ⟨i, hi0, hi1, rfl, HB⟩ := hrel
        by_cases hi : i < 12
        · obtain ⟨wz, hwz⟩ : ∃ wz, wz = wr := ⟨_, rfl⟩
          subst hwz
          obtain ⟨C, D, E, hV⟩ := snapV_form (seesR s i)
          have c1 := snapshot_in (H.out.below HB.out).rg H.out.both.ok i
          rw [hV] at c1
          unfold ptrR at c1
          have HV2 : Hid _ := hV
          clear hV
          go_wp2_with fail
          refine c1.mono ?_
          rintro e w8 ⟨rfl, _, hb8⟩
          clear c1
          have HB8 : Hid (Below w.heap.size w w8) := thenB HB.out hb8
          have c2 := rsnap_in (H.out.below HB8.out).rf H.out.both i
          rw [HV2.out] at c2
          unfold ptrR at c2
          clear hb8 HB
          go_wp2_with fail
          refine c2.mono ?_
          rintro e w9 ⟨rfl, hb9⟩
          clear c2
          have HB9 : Hid (Below w.heap.size w w9) := thenB HB8.out hb9
          have hwi : IntKind.i64.wrap (i + 1) = i + 1 := Go.IntWalk.i64_in _ (by omega)
          clear hb9 HB8
          go_wp2
          go_roundw
          case rel => exact ⟨i + 1, by omega, by omega, by first | rfl | go_num, HB9⟩
          case measure => simp [intOf]; omega
        · go_wp2
          go_ret
          exact ⟨rfl, HB.out⟩

end Go.Proofs.Ytakifnlfgaedjaa
