/- Proved: for every node and every bytes PageBack returns true, and both read afterwards as they did. -/
import Derived.Test.YtanbjdcffcnfgaaQLive
import Derived.Test.YtanbjdcffcnfgaaQArg
import Derived.Deep.RegionHeld3
import Derived.BigQuiet
import Derived.Deep.QuietTactic
import Derived.WalkSmall
import Derived.ProofKit
import Derived.OpenShut
import Derived.ShutString
import Derived.ChangeOld
import Derived.Below
import Derived.Carry
namespace Go.Proofs.Ytanbjdcffcnfgaa.pageBack
open Go.ChangeShapes Go.WideShapes Go.ChangeAt Go.RowKit
open Go.ChangeMaps (open_string shut_string)
set_option linter.unusedVariables false

theorem own : ownKnob Try.prog.godebug = none := by kernel_rfl
theorem laidOut : laidOutB Try.prog = true := by kernel_rfl

theorem ndAt_own {w : World} {base : Nat} {v : Value} {n : Nd} (h : NdOwn w base v n) : NdAt w v n := by
  obtain ⟨p, q, r, rfl, hp, hq, hr⟩ := h
  obtain ⟨a1, c1, rfl⟩ := row_slice hp
  obtain ⟨a2, c2, rfl⟩ := row_slice hq
  obtain ⟨a3, c3, rfl⟩ := row_slice hr
  exact ⟨a1, c1, a2, c2, a3, c3, rfl, rdE_own (enc := kvE) (fun _ => rfl) hp, rdE_own (enc := strE) (fun _ => rfl) hq, rdE_own (enc := u32E) (fun _ => rfl) hr, trivial⟩

theorem belowQ {B : Nat} {w W : World} (h : Below B w W) (q : Nat) : Below B w (W.drewN q) := h.trans (belowN' _ _ _)

set_option maxHeartbeats 8000000 in
theorem walk (v : Value) (n : Nd) (vb : Value) (xs : List Int) (w : World) (h : NdAt w v n) (hk : NdOk n) (hr : Rd w vb xs) (hy : Byt xs) :
    Calls Try.prog 6 #[v, vb] w fun e w' => e = .returned (.bool true) ∧ Below w.heap.size w w' := by
  have h' := h
  obtain ⟨a1, c1, a2, c2, a3, c3, rfl, _, _, _, _⟩ := h
  obtain ⟨a, cap, rfl, hcap, hm, hnn, hne⟩ := id hr
  clear hnn hne
  unfold maxLen at hm
  have hB0 := (Below.refl w.heap.size w).alloc (Nat.le_refl _) (.cells #[.bool n.leaf, .slice a1 n.pairs.length c1, .slice a2 n.keys.length c2, .slice a3 n.kids.length c3] 26)
  have h0 := h'.below hB0
  have hr0 := hr.below hB0
  have hg := heap_alloc_new w (.cells #[.bool n.leaf, .slice a1 n.pairs.length c1, .slice a2 n.keys.length c2, .slice a3 n.kids.length c3] 26)
  clear h' hr
  generalize hlf : n.leaf = lf at *
  generalize hn1 : n.pairs.length = n1 at *
  generalize hn2 : n.keys.length = n2 at *
  generalize hn3 : n.kids.length = n3 at *
  generalize hW0 : w.alloc (.cells #[.bool lf, .slice a1 n1 c1, .slice a2 n2 c2, .slice a3 n3 c3] 26) = W0 at *
  have z0 : w.heap.size < W0.heap.size := (Array.getElem?_eq_some_iff.1 hg).1
  obtain ⟨X0, X1, X2, X3, _⟩ := box4' hg
  have hX : ∀ W, Below W0.heap.size W0 W → W.cell? ⟨w.heap.size, 0, none⟩ = some (.bool lf) ∧ W.cell? ⟨w.heap.size, 1, none⟩ = some (.slice a1 n1 c1) ∧ W.cell? ⟨w.heap.size, 2, none⟩ = some (.slice a2 n2 c2) ∧ W.cell? ⟨w.heap.size, 3, none⟩ = some (.slice a3 n3 c3) := fun W hW =>
    ⟨(hW.cell (p := ⟨_, _, none⟩) z0).trans X0, (hW.cell (p := ⟨_, _, none⟩) z0).trans X1, (hW.cell (p := ⟨_, _, none⟩) z0).trans X2, (hW.cell (p := ⟨_, _, none⟩) z0).trans X3⟩
  have hn : ∀ W, Below W0.heap.size W0 W → NdAt W (.agg #[.bool lf, .slice a1 n1 c1, .slice a2 n2 c2, .slice a3 n3 c3]) n := fun W hW => h0.below hW
  have hrW : ∀ W, Below W0.heap.size W0 W → Rd W (.slice a xs.length cap) xs := fun W hW => hr0.below hW
  clear hg X0 X1 X2 X3 h0 hr0
  by_cases hbig : 100000 < xs.length
  · have hbig' : (100000 : Int) < xs.length := by omega
    generalize xs.length = m at *
    clear hX hn hrW
    go_enter Try.func6, Try.ntmps6
    go_wp2_with fail
    refine (live_any _).mono ?_
    rintro e w1 ⟨rfl, hb1⟩
    go_wp2
    go_ret
    exact ⟨rfl, hB0.trans (hb1.mono hB0.size)⟩
  · have hbig' : ¬ (100000 : Int) < xs.length := by omega
    go_enter Try.func6, Try.ntmps6
    go_wp2_with fail
    clear hW0
    refine (live_any _).mono ?_
    rintro e w1 ⟨rfl, hb1⟩
    obtain ⟨Y0, Y1, Y2, Y3⟩ := hX w1 hb1
    have he1 := encode_any w1 _ n (hn w1 hb1) hk
    cases hok : nodeOk n with
    | false =>
      have hE1 : nodeE n = 50 := by unfold nodeE; rw [hok]; rfl
      rw [hE1] at he1
      clear hE1 hok hlf hn1 hn2 hn3
      go_wp2_with fail
      refine he1.mono ?_
      clear he1 Y0 Y1 Y2 Y3
      rintro e w2 ⟨u2, rfl, _, hb2⟩
      have hbc : Below W0.heap.size W0 w2 := hb1.trans (hb2.mono hb1.size)
      clear hb1 hb2
      have hrc := hrW w2 hbc
      have hdc := decode_any w2 _ xs hrc hy
      go_wp2_with fail
      refine hdc.mono ?_
      clear hdc hrc
      rintro e w5 ⟨u5, rfl, ho5, hb5⟩
      have hbd : Below W0.heap.size W0 w5 := hbc.trans (hb5.mono hbc.size)
      have hat5 := ndAt_own ho5
      clear ho5 hb5 hbc
      obtain ⟨p1, r1, p2, r2, p3, r3, rfl, _, _, _, _⟩ := id hat5
      have hbA := (Below.refl w5.heap.size w5).alloc (Nat.le_refl _) (.cells #[.bool (ndN xs).leaf, .slice p1 (ndN xs).pairs.length r1, .slice p2 (ndN xs).keys.length r2, .slice p3 (ndN xs).kids.length r3] 26)
      have hgA := heap_alloc_new w5 (.cells #[.bool (ndN xs).leaf, .slice p1 (ndN xs).pairs.length r1, .slice p2 (ndN xs).keys.length r2, .slice p3 (ndN xs).kids.length r3] 26)
      have hat := hat5.below hbA
      have hbk : Below W0.heap.size W0 (w5.alloc (.cells #[.bool (ndN xs).leaf, .slice p1 (ndN xs).pairs.length r1, .slice p2 (ndN xs).keys.length r2, .slice p3 (ndN xs).kids.length r3] 26)) := hbd.trans (hbA.mono hbd.size)
      clear hat5 hbA hbd
      have hhok := hdH_ok hy
      by_cases hN : ndE xs = 0
      · have hforth := node_forth hN
        have he5 := encode_any _ _ (ndN xs) hat (ndN_ok hy)
        have hH : hdE xs = 11 := by
          have ho : opE xs = 0 := by
            unfold ndE at hN
            split at hN
            · assumption
            · exact hN
          rcases hdE_cases ho with e | e
          · exact (not_both hN e).elim
          · exact e
        have hE1 : nodeE (ndN xs) = 0 := by unfold nodeE; rw [hforth.1]; rfl
        have hE2 : encL (ndN xs) = xs := by unfold encL; rw [hforth.1, hforth.2]; rfl
        rw [hE1, hE2] at he5
        obtain ⟨V0, V1, V2, V3, _⟩ := box4' hgA
        rw [hN]
        have hdh := fun W hr => decodeHead_any W (.slice a xs.length cap) xs hr hy
        unfold hdV at hdh
        rw [hH] at hdh
        generalize (hdH xs).seq = y0 at *
        generalize (hdH xs).version = y1 at *
        generalize (hdH xs).log = y2 at *
        generalize (hdH xs).root = y3 at *
        generalize (hdH xs).next = y4 at *
        generalize (hdH xs).items = y5 at *
        clear hforth hE1 hE2 hat hH hgA hN hhok
        generalize (ndN xs).leaf = l0 at *
        generalize (ndN xs).pairs.length = l1 at *
        generalize (ndN xs).keys.length = l2 at *
        generalize (ndN xs).kids.length = l3 at *
        go_wp2_with fail
        refine he5.mono ?_
        clear V0 V1 V2 V3 he5
        rintro e w6 ⟨u6, rfl, ho6, hb6⟩
        have hbk' := hbk.trans (hb6.mono hbk.size)
        clear hbk hb6
        have hbk := hbk'
        clear hbk'
        have c6 := ho6.rd.conv
        have cb6 := (hrW w6 hbk).conv
        have hdd := hdh w6 (hrW w6 hbk)
        clear hdh ho6
        go_wp2_with fail
        refine hdd.mono ?_
        rintro e w7 ⟨rfl, hb7⟩
        have hb7' : Below W0.heap.size W0 w7 := hbk.trans (hb7.mono hbk.size)
        have hbA := (Below.refl w7.heap.size w7).alloc (Nat.le_refl _) (.cells #[.int .u64 y0, .int .u64 y1, .int .u64 y2, .int .u32 y3, .int .u32 y4, .int .u32 y5] 40)
        have hgA := heap_alloc_new w7 (.cells #[.int .u64 y0, .int .u64 y1, .int .u64 y2, .int .u32 y3, .int .u32 y4, .int .u32 y5] 40)
        have hbz : Below W0.heap.size W0 (w7.alloc (.cells #[.int .u64 y0, .int .u64 y1, .int .u64 y2, .int .u32 y3, .int .u32 y4, .int .u32 y5] 40)) := hb7'.trans (hbA.mono hb7'.size)
        clear hbA hb7 hb7' hdd
        have fin : Below w.heap.size w (w7.alloc (.cells #[.int .u64 y0, .int .u64 y1, .int .u64 y2, .int .u32 y3, .int .u32 y4, .int .u32 y5] 40)) := hB0.trans (hbz.mono hB0.size)
        clear hgA hbz hX hn hrW
        go_wp2_with fail
        go_quiet (fail)
        go_wp2
        go_ret
        exact ⟨rfl, belowQ fin _⟩
      · have hdd := decodeHead_any _ _ xs (hrW _ hbk) hy
        unfold hdV at hdd
        have hen : hdE xs = 0 → ∀ W, Calls Try.prog 22 #[hdV (hdH xs)] W fun e w' => ∃ u, e = .returned u ∧ Own w' W.heap.size u xs ∧ Below W.heap.size W w' := fun h0 W => by
          have := encodeHead_any W (hdH xs) hhok
          rw [head_forth h0] at this
          exact this
        unfold hdV at hen
        generalize hdE xs = H at *
        generalize ndE xs = N at *
        generalize (hdH xs).seq = y0 at *
        generalize (hdH xs).version = y1 at *
        generalize (hdH xs).log = y2 at *
        generalize (hdH xs).root = y3 at *
        generalize (hdH xs).next = y4 at *
        generalize (hdH xs).items = y5 at *
        clear hat hgA hhok
        generalize (ndN xs).leaf = l0 at *
        generalize (ndN xs).pairs.length = l1 at *
        generalize (ndN xs).keys.length = l2 at *
        generalize (ndN xs).kids.length = l3 at *
        by_cases hH : H = 0
        · subst hH
          replace hen := hen rfl
          go_wp2_with fail
          refine hdd.mono ?_
          rintro e w7 ⟨rfl, hb7⟩
          have hb7' : Below W0.heap.size W0 w7 := hbk.trans (hb7.mono hbk.size)
          have hbA := (Below.refl w7.heap.size w7).alloc (Nat.le_refl _) (.cells #[.int .u64 y0, .int .u64 y1, .int .u64 y2, .int .u32 y3, .int .u32 y4, .int .u32 y5] 40)
          have hgA := heap_alloc_new w7 (.cells #[.int .u64 y0, .int .u64 y1, .int .u64 y2, .int .u32 y3, .int .u32 y4, .int .u32 y5] 40)
          have hbz : Below W0.heap.size W0 (w7.alloc (.cells #[.int .u64 y0, .int .u64 y1, .int .u64 y2, .int .u32 y3, .int .u32 y4, .int .u32 y5] 40)) := hb7'.trans (hbA.mono hb7'.size)
          clear hbA hb7 hb7' hdd
          have hgz : w7.heap.size < (w7.alloc (.cells #[.int .u64 y0, .int .u64 y1, .int .u64 y2, .int .u32 y3, .int .u32 y4, .int .u32 y5] 40)).heap.size := (Array.getElem?_eq_some_iff.1 hgA).1
          have fin : ∀ W, Below (w7.alloc (.cells #[.int .u64 y0, .int .u64 y1, .int .u64 y2, .int .u32 y3, .int .u32 y4, .int .u32 y5] 40)).heap.size (w7.alloc (.cells #[.int .u64 y0, .int .u64 y1, .int .u64 y2, .int .u32 y3, .int .u32 y4, .int .u32 y5] 40)) W → Below w.heap.size w W := fun W hW => hB0.trans ((hbz.trans (hW.mono hbz.size)).mono hB0.size)
          go_wp2_with fail
          generalize w7.alloc (.cells #[.int .u64 y0, .int .u64 y1, .int .u64 y2, .int .u32 y3, .int .u32 y4, .int .u32 y5] 40) = W7 at *
          have hq : ∀ j u, #[Value.int .u64 y0, .int .u64 y1, .int .u64 y2, .int .u32 y3, .int .u32 y4, .int .u32 y5][j]? = some u → ∀ W, Below W7.heap.size W7 W → W.cell? ⟨w7.heap.size, j, none⟩ = some u := fun j u hu W hW => by
            rw [cell_of_row W _ j _ _ (0, 0) ((hW.block _ hgz).trans hgA)]; exact hu
          have q0 := hq 0 _ rfl
          have q1 := hq 1 _ rfl
          have q2 := hq 2 _ rfl
          have q3 := hq 3 _ rfl
          have q4 := hq 4 _ rfl
          have q5 := hq 5 _ rfl
          have cB : ∀ W, Below W7.heap.size W7 W → (convert 28 9 (.slice a xs.length cap)).run Try.prog W = .ok (.string (strOfNums xs)) W := fun W hW => (hrW W (hbz.trans (hW.mono hbz.size))).conv
          clear hq hgA hgz hrW hbz hX hn
          refine wp_region_noPanic ?_
          go_region_held (fun W => Below W7.heap.size W7 W) (first | assumption | exact (Below.refl _ _).drew | exact keep2 (by assumption) (by assumption))
            (first
              | (go_at_call 22; refine (hen _).mono ?_; rintro e w8 ⟨u8, rfl, ho8, hb8⟩; have k8 := ho8.rd.conv))
          refine NoPanic.normal ?_
          have hlast : Below W7.heap.size W7 w8 := by assumption
          clear q0 q1 q2 q3 q4 q5 cB k8 hen
          go_wp2
          go_ret
          have hne : (N != 0) = true := by simp [hN]
          exact ⟨by show Ending.returned (.bool (N != 0)) = _; rw [hne], fin _ hlast⟩
        · clear hen
          go_wp2_with fail
          refine hdd.mono ?_
          rintro e w7 ⟨rfl, hb7⟩
          have hb7' : Below W0.heap.size W0 w7 := hbk.trans (hb7.mono hbk.size)
          have hbA := (Below.refl w7.heap.size w7).alloc (Nat.le_refl _) (.cells #[.int .u64 y0, .int .u64 y1, .int .u64 y2, .int .u32 y3, .int .u32 y4, .int .u32 y5] 40)
          have hgA := heap_alloc_new w7 (.cells #[.int .u64 y0, .int .u64 y1, .int .u64 y2, .int .u32 y3, .int .u32 y4, .int .u32 y5] 40)
          have hbz : Below W0.heap.size W0 (w7.alloc (.cells #[.int .u64 y0, .int .u64 y1, .int .u64 y2, .int .u32 y3, .int .u32 y4, .int .u32 y5] 40)) := hb7'.trans (hbA.mono hb7'.size)
          clear hbA hb7 hb7' hdd
          have fin : Below w.heap.size w (w7.alloc (.cells #[.int .u64 y0, .int .u64 y1, .int .u64 y2, .int .u32 y3, .int .u32 y4, .int .u32 y5] 40)) := hB0.trans (hbz.mono hB0.size)
          clear hgA hbz hX hn hrW
          go_wp2_with fail
          go_quiet (fail)
          go_wp2
          go_ret
          exact ⟨rfl, belowQ fin _⟩
    | true =>
      have hE1 : nodeE n = 0 := by unfold nodeE; rw [hok]; rfl
      have hE2 : encL n = blockL n := by unfold encL; rw [hok]; rfl
      rw [hE1, hE2] at he1
      have hbl := blockL_length hok
      have hdB := fun W u hr => decode_any W u (blockL n) hr (blockL_byt hok)
      rw [(node_back hok hk).1, (node_back hok hk).2] at hdB
      clear hE1 hE2 hok
      generalize blockL n = BL at *
      go_wp2_with fail
      refine he1.mono ?_
      clear he1 Y0 Y1 Y2 Y3
      rintro e w2 ⟨u2, rfl, ho2, hb2⟩
      have hd2 := hdB w2 u2 ho2.rd
      obtain ⟨g2, q2, rfl, _, _⟩ := ho2.open (by omega)
      rw [hbl] at hd2 ⊢
      clear hdB ho2 hbl
      go_wp2_with fail
      refine hd2.mono ?_
      clear hd2
      rintro e w3 ⟨u3, rfl, ho3, hb3⟩
      have hat3 := ndAt_own ho3
      clear ho3
      obtain ⟨b1, d1, b2, d2, b3, d3, rfl, _, _, _, _⟩ := id hat3
      rw [hlf, hn1, hn2, hn3] at hat3 ⊢
      clear hlf hn1 hn2 hn3
      have hb13 := hb1.trans ((hb2.trans (hb3.mono hb2.size)).mono hb1.size)
      clear hb1 hb2 hb3
      have hbA := (Below.refl w3.heap.size w3).alloc (Nat.le_refl _) (.cells #[.bool lf, .slice b1 n1 d1, .slice b2 n2 d2, .slice b3 n3 d3] 26)
      have hgA := heap_alloc_new w3 (.cells #[.bool lf, .slice b1 n1 d1, .slice b2 n2 d2, .slice b3 n3 d3] 26)
      have hat := hat3.below hbA
      have hb14 := hb13.trans (hbA.mono hb13.size)
      have hsm := same_any _ _ _ n (hn _ hb14) hat
      obtain ⟨Y0, Y1, Y2, Y3⟩ := hX _ hb14
      obtain ⟨V0, V1, V2, V3, _⟩ := box4' hgA
      clear hgA hat hat3 hbA hb13
      go_wp2_with fail
      refine hsm.mono ?_
      clear hsm Y0 Y1 Y2 Y3 V0 V1 V2 V3
      rintro e w4 ⟨rfl, hb4⟩
      have hbc : Below W0.heap.size W0 w4 := hb14.trans (hb4.mono hb14.size)
      clear hb14 hb4
      have hrc := hrW w4 hbc
      have hdc := decode_any w4 _ xs hrc hy
      go_wp2_with fail
      refine hdc.mono ?_
      clear hdc hrc
      rintro e w5 ⟨u5, rfl, ho5, hb5⟩
      have hbd : Below W0.heap.size W0 w5 := hbc.trans (hb5.mono hbc.size)
      have hat5 := ndAt_own ho5
      clear ho5 hb5 hbc
      obtain ⟨p1, r1, p2, r2, p3, r3, rfl, _, _, _, _⟩ := id hat5
      have hbA := (Below.refl w5.heap.size w5).alloc (Nat.le_refl _) (.cells #[.bool (ndN xs).leaf, .slice p1 (ndN xs).pairs.length r1, .slice p2 (ndN xs).keys.length r2, .slice p3 (ndN xs).kids.length r3] 26)
      have hgA := heap_alloc_new w5 (.cells #[.bool (ndN xs).leaf, .slice p1 (ndN xs).pairs.length r1, .slice p2 (ndN xs).keys.length r2, .slice p3 (ndN xs).kids.length r3] 26)
      have hat := hat5.below hbA
      have hbk : Below W0.heap.size W0 (w5.alloc (.cells #[.bool (ndN xs).leaf, .slice p1 (ndN xs).pairs.length r1, .slice p2 (ndN xs).keys.length r2, .slice p3 (ndN xs).kids.length r3] 26)) := hbd.trans (hbA.mono hbd.size)
      clear hat5 hbA hbd
      have hhok := hdH_ok hy
      by_cases hN : ndE xs = 0
      · have hforth := node_forth hN
        have he5 := encode_any _ _ (ndN xs) hat (ndN_ok hy)
        have hH : hdE xs = 11 := by
          have ho : opE xs = 0 := by
            unfold ndE at hN
            split at hN
            · assumption
            · exact hN
          rcases hdE_cases ho with e | e
          · exact (not_both hN e).elim
          · exact e
        have hE1 : nodeE (ndN xs) = 0 := by unfold nodeE; rw [hforth.1]; rfl
        have hE2 : encL (ndN xs) = xs := by unfold encL; rw [hforth.1, hforth.2]; rfl
        rw [hE1, hE2] at he5
        obtain ⟨V0, V1, V2, V3, _⟩ := box4' hgA
        rw [hN]
        have hdh := fun W hr => decodeHead_any W (.slice a xs.length cap) xs hr hy
        unfold hdV at hdh
        rw [hH] at hdh
        generalize (hdH xs).seq = y0 at *
        generalize (hdH xs).version = y1 at *
        generalize (hdH xs).log = y2 at *
        generalize (hdH xs).root = y3 at *
        generalize (hdH xs).next = y4 at *
        generalize (hdH xs).items = y5 at *
        clear hforth hE1 hE2 hat hH hgA hN hhok
        generalize (ndN xs).leaf = l0 at *
        generalize (ndN xs).pairs.length = l1 at *
        generalize (ndN xs).keys.length = l2 at *
        generalize (ndN xs).kids.length = l3 at *
        go_wp2_with fail
        refine he5.mono ?_
        clear V0 V1 V2 V3 he5
        rintro e w6 ⟨u6, rfl, ho6, hb6⟩
        have hbk' := hbk.trans (hb6.mono hbk.size)
        clear hbk hb6
        have hbk := hbk'
        clear hbk'
        have c6 := ho6.rd.conv
        have cb6 := (hrW w6 hbk).conv
        have hdd := hdh w6 (hrW w6 hbk)
        clear hdh ho6
        go_wp2_with fail
        refine hdd.mono ?_
        rintro e w7 ⟨rfl, hb7⟩
        have hb7' : Below W0.heap.size W0 w7 := hbk.trans (hb7.mono hbk.size)
        have hbA := (Below.refl w7.heap.size w7).alloc (Nat.le_refl _) (.cells #[.int .u64 y0, .int .u64 y1, .int .u64 y2, .int .u32 y3, .int .u32 y4, .int .u32 y5] 40)
        have hgA := heap_alloc_new w7 (.cells #[.int .u64 y0, .int .u64 y1, .int .u64 y2, .int .u32 y3, .int .u32 y4, .int .u32 y5] 40)
        have hbz : Below W0.heap.size W0 (w7.alloc (.cells #[.int .u64 y0, .int .u64 y1, .int .u64 y2, .int .u32 y3, .int .u32 y4, .int .u32 y5] 40)) := hb7'.trans (hbA.mono hb7'.size)
        clear hbA hb7 hb7' hdd
        have fin : Below w.heap.size w (w7.alloc (.cells #[.int .u64 y0, .int .u64 y1, .int .u64 y2, .int .u32 y3, .int .u32 y4, .int .u32 y5] 40)) := hB0.trans (hbz.mono hB0.size)
        clear hgA hbz hX hn hrW
        go_wp2_with fail
        go_quiet (fail)
        go_wp2
        go_ret
        exact ⟨rfl, belowQ fin _⟩
      · have hdd := decodeHead_any _ _ xs (hrW _ hbk) hy
        unfold hdV at hdd
        have hen : hdE xs = 0 → ∀ W, Calls Try.prog 22 #[hdV (hdH xs)] W fun e w' => ∃ u, e = .returned u ∧ Own w' W.heap.size u xs ∧ Below W.heap.size W w' := fun h0 W => by
          have := encodeHead_any W (hdH xs) hhok
          rw [head_forth h0] at this
          exact this
        unfold hdV at hen
        generalize hdE xs = H at *
        generalize ndE xs = N at *
        generalize (hdH xs).seq = y0 at *
        generalize (hdH xs).version = y1 at *
        generalize (hdH xs).log = y2 at *
        generalize (hdH xs).root = y3 at *
        generalize (hdH xs).next = y4 at *
        generalize (hdH xs).items = y5 at *
        clear hat hgA hhok
        generalize (ndN xs).leaf = l0 at *
        generalize (ndN xs).pairs.length = l1 at *
        generalize (ndN xs).keys.length = l2 at *
        generalize (ndN xs).kids.length = l3 at *
        by_cases hH : H = 0
        · subst hH
          replace hen := hen rfl
          go_wp2_with fail
          refine hdd.mono ?_
          rintro e w7 ⟨rfl, hb7⟩
          have hb7' : Below W0.heap.size W0 w7 := hbk.trans (hb7.mono hbk.size)
          have hbA := (Below.refl w7.heap.size w7).alloc (Nat.le_refl _) (.cells #[.int .u64 y0, .int .u64 y1, .int .u64 y2, .int .u32 y3, .int .u32 y4, .int .u32 y5] 40)
          have hgA := heap_alloc_new w7 (.cells #[.int .u64 y0, .int .u64 y1, .int .u64 y2, .int .u32 y3, .int .u32 y4, .int .u32 y5] 40)
          have hbz : Below W0.heap.size W0 (w7.alloc (.cells #[.int .u64 y0, .int .u64 y1, .int .u64 y2, .int .u32 y3, .int .u32 y4, .int .u32 y5] 40)) := hb7'.trans (hbA.mono hb7'.size)
          clear hbA hb7 hb7' hdd
          have hgz : w7.heap.size < (w7.alloc (.cells #[.int .u64 y0, .int .u64 y1, .int .u64 y2, .int .u32 y3, .int .u32 y4, .int .u32 y5] 40)).heap.size := (Array.getElem?_eq_some_iff.1 hgA).1
          have fin : ∀ W, Below (w7.alloc (.cells #[.int .u64 y0, .int .u64 y1, .int .u64 y2, .int .u32 y3, .int .u32 y4, .int .u32 y5] 40)).heap.size (w7.alloc (.cells #[.int .u64 y0, .int .u64 y1, .int .u64 y2, .int .u32 y3, .int .u32 y4, .int .u32 y5] 40)) W → Below w.heap.size w W := fun W hW => hB0.trans ((hbz.trans (hW.mono hbz.size)).mono hB0.size)
          go_wp2_with fail
          generalize w7.alloc (.cells #[.int .u64 y0, .int .u64 y1, .int .u64 y2, .int .u32 y3, .int .u32 y4, .int .u32 y5] 40) = W7 at *
          have hq : ∀ j u, #[Value.int .u64 y0, .int .u64 y1, .int .u64 y2, .int .u32 y3, .int .u32 y4, .int .u32 y5][j]? = some u → ∀ W, Below W7.heap.size W7 W → W.cell? ⟨w7.heap.size, j, none⟩ = some u := fun j u hu W hW => by
            rw [cell_of_row W _ j _ _ (0, 0) ((hW.block _ hgz).trans hgA)]; exact hu
          have q0 := hq 0 _ rfl
          have q1 := hq 1 _ rfl
          have q2 := hq 2 _ rfl
          have q3 := hq 3 _ rfl
          have q4 := hq 4 _ rfl
          have q5 := hq 5 _ rfl
          have cB : ∀ W, Below W7.heap.size W7 W → (convert 28 9 (.slice a xs.length cap)).run Try.prog W = .ok (.string (strOfNums xs)) W := fun W hW => (hrW W (hbz.trans (hW.mono hbz.size))).conv
          clear hq hgA hgz hrW hbz hX hn
          refine wp_region_noPanic ?_
          go_region_held (fun W => Below W7.heap.size W7 W) (first | assumption | exact (Below.refl _ _).drew | exact keep2 (by assumption) (by assumption))
            (first
              | (go_at_call 22; refine (hen _).mono ?_; rintro e w8 ⟨u8, rfl, ho8, hb8⟩; have k8 := ho8.rd.conv))
          refine NoPanic.normal ?_
          have hlast : Below W7.heap.size W7 w8 := by assumption
          clear q0 q1 q2 q3 q4 q5 cB k8 hen
          go_wp2
          go_ret
          have hne : (N != 0) = true := by simp [hN]
          exact ⟨by show Ending.returned (.bool (N != 0)) = _; rw [hne], fin _ hlast⟩
        · clear hen
          go_wp2_with fail
          refine hdd.mono ?_
          rintro e w7 ⟨rfl, hb7⟩
          have hb7' : Below W0.heap.size W0 w7 := hbk.trans (hb7.mono hbk.size)
          have hbA := (Below.refl w7.heap.size w7).alloc (Nat.le_refl _) (.cells #[.int .u64 y0, .int .u64 y1, .int .u64 y2, .int .u32 y3, .int .u32 y4, .int .u32 y5] 40)
          have hgA := heap_alloc_new w7 (.cells #[.int .u64 y0, .int .u64 y1, .int .u64 y2, .int .u32 y3, .int .u32 y4, .int .u32 y5] 40)
          have hbz : Below W0.heap.size W0 (w7.alloc (.cells #[.int .u64 y0, .int .u64 y1, .int .u64 y2, .int .u32 y3, .int .u32 y4, .int .u32 y5] 40)) := hb7'.trans (hbA.mono hb7'.size)
          clear hbA hb7 hb7' hdd
          have fin : Below w.heap.size w (w7.alloc (.cells #[.int .u64 y0, .int .u64 y1, .int .u64 y2, .int .u32 y3, .int .u32 y4, .int .u32 y5] 40)) := hB0.trans (hbz.mono hB0.size)
          clear hgA hbz hX hn hrW
          go_wp2_with fail
          go_quiet (fail)
          go_wp2
          go_ret
          exact ⟨rfl, belowQ fin _⟩

/-! ### The row -/
set_option maxRecDepth 100000 in
theorem lifted (os : Os) (started : os.Started) (H : Type) (enc : TypeId × Value → H) :
    ReturnsInHanded {} Try.checked os 6 .any (Rows.pageBackSpec.pre6 enc Try.prog Try.f6 Rows.pageBackRow.domain false) (Rows.pageBackSpec.post enc Try.prog Try.f6 false true false false) := by
  refine returnsInHanded_of_change (C := Try.checked) own started (by kernel_rfl) Try.func6
    (ChangeSpec.witness6 (enc := enc) (C := Try.checked) false ⟨#[], #[.agg #[.bool false, .slice none 0 0, .slice none 0 0, .slice none 0 0], .slice none 0 0], []⟩ 8 (by kernel_rfl) (by kernel_rfl) (by kernel_rfl) (by kernel_rfl)) ?_
  intro W base args ds gs before hval0 hW hcnd _
  have hval : ∀ (j : Nat) t v, Try.f6.params[j]? = some t → args[j]? = some v → Value.okWide Try.prog W .any base t v := hval0
  have hW' := hW
  obtain ⟨p, q, hA0, hV, rfl, hfz, hnd⟩ := hW
  have hA : DataW.TrodAll enc Try.prog W 0 (fun _ => true) true Try.f6.params.toList args.toList ds p := hA0
  rw [Try.params6] at hA hval
  obtain ⟨v0, vs0, d0, ds0, p0, q0, hargs, rfl, rfl, h0, r0⟩ := trodAll_cons hA
  obtain ⟨v1, vs1, d1, ds1, p1, q1, rfl, rfl, rfl, h1, r1⟩ := trodAll_cons r0
  obtain ⟨rfl, rfl, rfl⟩ := trodAll_nil r1
  obtain rfl : args = #[v0, v1] := by cases args; simp_all
  obtain ⟨rfl, rfl⟩ := trodVars_none hV
  obtain ⟨cs0, rfl, sz0⟩ := okWide_struct Try.underlying26 (hval 0 26 v0 rfl rfl)
  have k0 := h0
  have lt0 : ∀ x ∈ p0, x.block < W.heap.size := by obtain ⟨m, hm⟩ := k0; exact DataW.trod_lt m _ _ _ hm
  obtain ⟨a0, w0, wk0⟩ : ∃ n : Nd, NdAt W (.agg cs0) n ∧ NdOk n := by
    obtain ⟨fuel, hf⟩ := h0
    obtain ⟨n, a1, c1, a2, c2, a3, c3, hk, rfl, h1, h2, h3⟩ := node_of sz0 hf
    exact ⟨n, ⟨a1, c1, a2, c2, a3, c3, rfl, h1, h2, h3, trivial⟩, hk⟩
  obtain ⟨a1, len1, cap1, rfl⟩ := okWide_slice Try.underlying28 (hval 1 28 v1 rfl rfl)
  have k1 := h1
  have lt1 : ∀ x ∈ p1, x.block < W.heap.size := by obtain ⟨m, hm⟩ := k1; exact DataW.trod_lt m _ _ _ hm
  obtain ⟨z1, w1⟩ : ∃ zs, IsRow .u8 W a1 len1 cap1 zs := by
    obtain ⟨fuel, hf⟩ := h1
    rcases open_ints Try.underlying28 Try.underlying5 (by kernel_rfl) hf with ⟨hcs, _⟩ | ⟨x, l, c, zs, hcs, _, hl, hm, hz, _, hcell, hwz⟩
    · simp [Value.cells] at hcs
      obtain ⟨rfl, rfl, rfl⟩ := hcs
      exact ⟨[], .inl ⟨rfl, rfl, rfl, rfl⟩⟩
    · simp [Value.cells] at hcs
      obtain ⟨rfl, rfl, rfl⟩ := hcs
      exact ⟨zs, .inr ⟨_, rfl, hl, hm, by simpa using hz, hcell, hwz⟩⟩
  clear hA0 hval0
  refine (walk (.agg cs0) a0 (.slice a1 len1 cap1) (z1.take len1) W w0 wk0 (rd_row w1) (byt_row w1)).mono fun e W' ⟨he, bel⟩ => ?_
  subst he
  exact ⟨_, rfl, _, _, _, [], _, [], hW', trodAll_mk1 (shut_bool Try.underlying4 _), (trodAll_cons_mk (Below.trod laidOut (by kernel_rfl) (of_decide_eq_true (by kernel_rfl)) k0 bel lt0) (trodAll_cons_mk (Below.trod laidOut (by kernel_rfl) (of_decide_eq_true (by kernel_rfl)) k1 bel lt1) trodAll_mk0)), rfl, bel.frame _, fun h => by cases h⟩

theorem over : Rows.pageBackRow.holds Try.pinned (OpenSpec.ofChange Rows.pageBackSpec) :=
  OpenClaim.holds_of_wide 6 Try.f6 rfl rfl rfl rfl rfl rfl rfl ⟨rfl, rfl, rfl, rfl, rfl⟩ rfl rfl rfl rfl rfl (by kernel_rfl) Try.func6 (by kernel_rfl)
    (of_decide_eq_true (by kernel_rfl)) (by unfold Func.isWrapper; first | (rw [if_pos (by decide +kernel)]; kernel_rfl) | (rw [if_neg (by decide +kernel)]; exact ⟨rfl, rfl⟩))
    (fun os started H enc _ => lifted os started H enc)

end Go.Proofs.Ytanbjdcffcnfgaa.pageBack

namespace Go.Proofs.Ytanbjdcffcnfgaa
/-- The statement. -/
theorem pageBack_proved : Rows.PageBackSaid := pageBack.over
#print axioms pageBack_proved
end Go.Proofs.Ytanbjdcffcnfgaa
