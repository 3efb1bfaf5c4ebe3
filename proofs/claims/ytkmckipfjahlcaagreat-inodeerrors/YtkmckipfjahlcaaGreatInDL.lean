/- Over a store that may fail: Remove (written by tools/laws/InL2_gen.py). -/
import Derived.Test.YtkmckipfjahlcaaGreatInML
import Derived.Test.YtkmckipfjahlcaaGreatMD
namespace Go.Proofs.YtkmckipfjahlcaaGreat.L
open Go.RowKit Go.Maps
set_option linter.unusedVariables false
set_option linter.unusedSimpArgs false
set_option maxRecDepth 100000

def goneE (s : Sg) (p : Pl) : Int := (putX s.d (goneC p)).2
def gone1 (s : Sg) (p : Pl) : Sg := { s with d := putS s.d (goneC p) }
def goneL : Sg → List Pl → Sg × Int
  | s, [] => (s, 0)
  | s, p :: ps => if goneE s p ≠ 0 then (gone1 s p, goneE s p) else goneL (gone1 s p) ps
def rmB (s : Sg) (ino : Int) (i : In4) : Sg := if i.k = 1 then { s with R := addK s.R ino [3] } else s
def rmE (g : Sg × Int) (ino : Int) : Sg × Int := if g.2 ≠ 0 then g else ({ g.1 with U := addK g.1.U ino [7] }, 0)
def rmF (s : Sg) (ino : Int) (F : In4 × Int) : Sg × Int := if F.2 ≠ 0 then (s, F.2) else rmE (goneL (rmB s ino F.1) (placesL ino F.1)) ino
def rmR (s : Sg) (ino : Int) : Sg × Int := rmF (fdS s ino) ino (fdR s ino)

set_option maxHeartbeats 8000000 in
theorem rm_in {B : Nat} {w : World} {a : Sa} {X : List Nat} {s : Sg} (h : SgIn B w a X s) (ino : Int) (h0 : 0 ≤ ino) (h1 : ino ≤ 4294967295) {N : Nat} (hk : Sk s N) (hN : N ≤ 4000) (hR : s.R.length ≤ 899) (hU : s.U.length ≤ 899) : Calls Tryz.prog 18 #[.pointer (some ⟨a.s, 0, none⟩), .int .u32 ino] w fun e w' =>
    e = .returned (.int .i64 (rmR s ino).2) ∧ SgOut B w a X (rmR s ino).1 w' := by
  have cf := find_in h ino h0 h1
  have hbd := fd_bd (sg_ok h) hk.ck ino
  obtain ⟨e1, e2, e3, _⟩ := fdS_same s ino
  have hkS := hk.fdS ino
  rw [← e2] at hR
  rw [← e3] at hU
  clear e1 e2 e3 hk
  have HF : Hid (rmF (fdS s ino) ino (fdR s ino) = rmR s ino) := rfl
  generalize rmR s ino = R at *
  generalize fdR s ino = F at *
  generalize fdS s ino = S1 at *
  obtain ⟨⟨fk, fm, fl, fz⟩, fe⟩ := F
  unfold inV at cf
  dsimp only at cf HF hbd ⊢
  have HH : Hid (SgIn B w a X s) := h
  have HBD : Hid (Bd ⟨fk, fm, fl, fz⟩) := hbd
  have HX : Hid (∀ k ∈ X, k < w.heap.size) := h.lt
  have HK : Hid (Sk S1 N) := hkS
  have HN : Hid (N ≤ 4000) := hN
  have HL : Hid (S1.R.length ≤ 899 ∧ S1.U.length ≤ 899) := ⟨hR, hU⟩
  clear h hbd hkS hR hU hN
  go_enter Tryz.func18, Tryz.ntmps18
  go_wp2_with fail
  refine cf.mono ?_
  rintro e w1 ⟨rfl, ho1⟩
  clear cf
  obtain ⟨Xz, hz1, hz2, hz3⟩ := ho1
  have HZ2 : Hid (Sole X w w1) := hz2
  have HZ3 : Hid (∀ k ∈ Xz, k ∈ X ∨ w.heap.size ≤ k) := hz3
  have HHz : Hid (SgIn B w1 a Xz S1) := hz1
  have HXz : Hid (∀ k ∈ Xz, k < w1.heap.size) := hz1.lt
  have hb1 := Below.refl w1.heap.size w1
  clear hz1 hz2 hz3
  have hb2 := bel1 w1 (.cells #[.int .i64 fk, .int .i64 fm, .int .i64 fl, .int .i64 fz] 53)
  have hi2 : InRow (w1.alloc (.cells #[.int .i64 fk, .int .i64 fm, .int .i64 fl, .int .i64 fz] 53)) w1.heap.size fk fm fl fz := ⟨heap_alloc_new w1 _⟩
  obtain ⟨w2, hw2⟩ : ∃ w2, w1.alloc (.cells #[.int .i64 fk, .int .i64 fm, .int .i64 fl, .int .i64 fz] 53) = w2 := ⟨_, rfl⟩
  rw [hw2] at hb2 hi2
  have hB2 := thenB hb1 hb2
  have HB2 : Hid (Below w1.heap.size w1 w2) := hB2
  have HLE : Hid (w1.heap.size ≤ w1.heap.size) := hb1.size
  by_cases he : fe = 0
  case neg =>
    have heb : (fe != 0) = true := by simpa using he
    have HE : Hid (R = (S1, fe)) := by unfold Hid; rw [← HF.out]; unfold rmF; rw [if_pos he]
    clear HF hi2
    go_wp2
    go_ret
    exact ⟨by rw [HE.out]; first | done | rfl, by rw [HE.out]; exact SgOut.then HZ2.out HZ3.out (HHz.out.out HB2.out)⟩
  subst he
  have HE : Hid (rmE (goneL (rmB S1 ino ⟨fk, fm, fl, fz⟩) (placesL ino ⟨fk, fm, fl, fz⟩)) ino = R) := by have := HF.out; unfold rmF at this; rw [if_neg (by simp)] at this; exact this
  clear HF
  have i0 := hi2.cell 0 _ rfl
  have HI2 : Hid (InRow w2 w1.heap.size fk fm fl fz) := hi2
  have c1 := (HHz.out.below HB2.out).c1
  clear hi2 hb1 hb2 hB2
  by_cases hk1 : fk = 1
  · subst hk1
    have hb3 := bel1 w2 (.cells #[.int .i64 3] 3)
    have hk3 : RdKs (w2.alloc (.cells #[.int .i64 3] 3)) (.slice (some ⟨w2.heap.size, 0, none⟩) 1 1) [3] := rdKs_lit w2 [3]
    obtain ⟨w3, hw3⟩ : ∃ w3, w2.alloc (.cells #[.int .i64 3] 3) = w3 := ⟨_, rfl⟩
    rw [hw3] at hb3 hk3
    have ct := ((HHz.out.below HB2.out).below hb3).touchR ino h0 h1 _ _ _ _ hk3 (by intro k hk; simp at hk; omega) (by decide) (by have := HL.out.1; omega)
    have HB3 : Hid (Below w1.heap.size w1 w3) := thenB HB2.out hb3
    have HI3 : Hid (InRow w3 w1.heap.size 1 fm fl fz) := HI2.out.below hb3
    have HE1 : Hid (rmE (goneL { S1 with R := addK S1.R ino [3] } (placesL ino ⟨1, fm, fl, fz⟩)) ino = R) := HE.out
    have HKB : Hid (Sk { S1 with R := addK S1.R ino [3] } (N + 1 + 0)) := HK.out.read ino [3]
    have HUB : Hid (({ S1 with R := addK S1.R ino [3] } : Sg).U = S1.U) := rfl
    clear hb3 hk3 HE HB2 HI2
    have HE := HE1
    clear HE1
    go_wp2_with fail
    refine ct.mono ?_
    rintro e wq ⟨rfl, hoq⟩
    clear ct i0
    have HQ : Hid (SgOut B w1 a Xz { S1 with R := addK S1.R ino [3] } wq) := SgOut.pre HB3.out hoq
    have HIQ : Hid (InRow wq w1.heap.size 1 fm fl fz) := HI3.out.sole hoq.sole (fun e => by have := HXz.out _ e; have := HLE.out; omega)
    clear hoq HB3 HI3
    have lq : Hid _ := HIQ.out.load
    obtain ⟨Xq, hq1, hq2, hq3⟩ := HQ.out
    have HQ2 : Hid (Sole Xz w1 wq) := hq2
    have HQ3 : Hid (∀ k ∈ Xq, k ∈ Xz ∨ w1.heap.size ≤ k) := hq3
    have HXQ : Hid (∀ k ∈ Xq, k < wq.heap.size) := hq1.lt
    have cp := placesOf_any wq ino h0 h1 ⟨1, fm, fl, fz⟩ HBD.out.s0 HBD.out.s1
    unfold inV at cp
    dsimp only at cp
    have HPO : Hid (∀ p ∈ placesL ino ⟨1, fm, fl, fz⟩, PlOk p) := placesL_ok h0 h1 HBD.out.s1
    have HPL : Hid ((placesL ino ⟨1, fm, fl, fz⟩).length ≤ 17) := placesL_len HBD.out.s1
    have hpos := placesL_pos ino ⟨1, fm, fl, fz⟩
    generalize placesL ino ⟨1, fm, fl, fz⟩ = P at *
    clear hq2 hq3 c1
    go_wp2_with (refine wpList_loadG rfl 53 _ rfl _ rfl _ lq.out ?_)
    refine cp.mono ?_
    rintro e w6 ⟨pa, pc, rfl, hpo, hb6⟩
    clear cp lq
    obtain ⟨n, hn⟩ : ∃ n, P.length = n := ⟨_, rfl⟩
    have HNL : Hid (P.length = n) := hn
    have hn17 : n ≤ 17 := by rw [← hn]; exact HPL.out
    have hn0 : 0 < n := by rw [← hn]; exact hpos
    rw [hn] at hpo ⊢
    have hrd : RdZ 4 plE4 w6 (.slice pa n pc) P := by rw [← hn]; rw [← hn] at hpo; exact rdZ_own plE4_len hpo
    obtain ⟨g, rfl, hg⟩ : ∃ g, pa = some ⟨g, 0, none⟩ ∧ wq.heap.size ≤ g ∧ g < w6.heap.size := by
      rcases hpo.2 with ⟨e, e2⟩ | ⟨g', cap, cur, e, hb', hh, _⟩
      · exfalso; omega
      · simp only [Value.slice.injEq] at e
        exact ⟨g', e.1, hb', lt_of_row hh⟩
    have HS6 : Hid (SgIn B w6 a Xq { S1 with R := addK S1.R ino [3] }) := hq1.below hb6
    have HB6 : Hid (Below wq.heap.size wq w6) := hb6
    have HG : Hid (wq.heap.size ≤ g ∧ g < w6.heap.size) := hg
    have HXG : Hid (∀ (X' : List Nat), (∀ k ∈ X', k ∈ Xq ∨ w6.heap.size ≤ k) → g ∉ X') := fun X' hx hm => by
      rcases hx g hm with e | e
      · have := HXQ.out g e; have := HG.out; omega
      · have := HG.out; omega
    have HRD : Hid (RdZ 4 plE4 w6 (.slice (some ⟨g, 0, none⟩) n pc) P) := hrd
    clear hpo hq1 hb6 hg hrd hn hpos
    go_wp2
    go_loopg [33] n (fun kx s33 wr => ∃ (i : Nat) (s' : Sg), s33 = .int .i64 i ∧ i ≤ n ∧ n - i ≤ kx ∧ Hid (SgOut B w6 a Xq s' wr ∧ RdZ 4 plE4 wr (.slice (some ⟨g, 0, none⟩) n pc) P ∧ goneL { S1 with R := addK S1.R ino [3] } P = goneL s' (P.drop i) ∧ Sk s' (N + 1 + i) ∧ s'.U = S1.U))
    case atStart => exact ⟨0, { S1 with R := addK S1.R ino [3] }, rfl, Nat.zero_le _, by omega, HS6.out.out (Below.refl _ _), HRD.out, rfl, HKB.out, (by first | exact HUB.out | rfl)⟩
    case round =>
      obtain ⟨i, s', rfl, hin, hkx, HW⟩ := hrel
      by_cases hlt : i < n
      · obtain ⟨p, hy⟩ : ∃ y, P[i]? = some y := ⟨_, List.getElem?_eq_getElem (by have := HNL.out; omega)⟩
        have HY : Hid (P[i]? = some p) := hy
        obtain ⟨hw1, hw2, hw3, hw4, hw5⟩ := HW.out
        obtain ⟨q0, q1, q2, q3⟩ := pl_cells hw2 hy
        simp only [Nat.zero_add] at q0 q1 q2 q3
        have HDR : Hid (P.drop i = p :: P.drop (i + 1)) := by
          have hl : i < P.length := by have := HNL.out; omega
          have e := List.drop_eq_getElem_cons hl
          rw [List.getElem?_eq_getElem hl] at hy
          cases hy
          exact e
        have HGL : Hid (goneL { S1 with R := addK S1.R ino [3] } P = goneL s' (p :: P.drop (i + 1))) := by rw [← HDR.out]; exact hw3
        have HK4 : Hid (Sk s' (N + 1 + i)) := hw4
        have HU5 : Hid (s'.U = S1.U) := hw5
        have HR2 : Hid (RdZ 4 plE4 wr (.slice (some ⟨g, 0, none⟩) n pc) P) := hw2
        have HO1 : Hid (SgOut B w6 a Xq s' wr) := hw1
        have hp8 : PlAt (wr.alloc (.cells (plCells p) 70)) wr.heap.size p := PlAt.laid wr p
        have hb8 := bel1 wr (.cells (plCells p) 70)
        obtain ⟨w8, hw8⟩ : ∃ w8, wr.alloc (.cells (plCells p) 70) = w8 := ⟨_, rfl⟩
        rw [hw8] at hp8 hb8
        have HP8 : Hid (PlAt w8 wr.heap.size p) := hp8
        have HPK : Hid (PlOk p) := HPO.out p (List.mem_of_getElem? hy)
        have HB8 : Hid (Below wr.heap.size wr w8) := hb8
        unfold plCells at hw8
        have hiI : (i : Int) < (n : Int) := by omega
        have hib : (i : Int) + 1 ≤ 1001 := by omega
        clear hw1 hw2 hw3 hw4 hw5 hy hp8 hb8 HW
        go_wp2_with fail
        try rw [hw8]
        clear hw8 q0 q1 q2 q3
        obtain ⟨X8, hx1, hx2, hx3⟩ := HO1.out.post HB8.out
        have HX1 : Hid (SgIn B w8.drew a X8 s') := hx1.drew
        have HX2 : Hid (Sole Xq w6 w8) := hx2
        have HX3 : Hid (∀ k ∈ X8, k ∈ Xq ∨ w6.heap.size ≤ k) := hx3
        have HNX : Hid (wr.heap.size ∉ X8) := fun hm => by
          obtain ⟨vd, vr, vu, hh, e⟩ := hx1
          subst e
          exact (hh.other HP8.out.row (by decide) (by decide) (by decide) (by decide) (by decide) (by decide)) hm
        have hS0 : SRow w8.drew a ∧ PlAt w8.drew wr.heap.size p := ⟨HX1.out.row, ⟨HP8.out.row⟩⟩
        have lP : ∀ W, (SRow W a ∧ PlAt W wr.heap.size p) → (Instr.loadAt 70 (.pointer (some ⟨wr.heap.size, 0, none⟩))).run Tryz.prog W = .ok (plV p) W := fun W h => h.2.loadG
        clear hx1 hx2 hx3
        refine wp_region_noPanic ?_
        refine wp_region_held_drew (S := fun W => SRow W a ∧ PlAt W wr.heap.size p) (by kernel_rfl) hS0 (fun hHeld => ?_)
        refine wpAnyH_take (i := 0) (v := .pointer (some ⟨a.s, 0, none⟩)) rfl (by kernel_rfl) (by kernel_rfl) (by kernel_rfl) (fun _ _ _ h => h) (Or.inl ⟨by rfl, fun W hSw => by (try dsimp only at hSw); go_simp⟩) (by assumption) ?_
        try simp only [List.getElem_toArray, List.getElem_cons_zero, List.getElem_cons_succ, Act.put, List.setIfInBounds_toArray, List.set_cons_zero, List.set_cons_succ]
        refine wpAnyH_take (i := 1) (v := .pointer (some ⟨a.s, 0, none⟩)) rfl (by kernel_rfl) (by kernel_rfl) (by kernel_rfl) (fun _ _ _ h => h) (Or.inl ⟨by rfl, fun W hSw => by (try dsimp only at hSw); go_simp⟩) (by assumption) ?_
        try simp only [List.getElem_toArray, List.getElem_cons_zero, List.getElem_cons_succ, Act.put, List.setIfInBounds_toArray, List.set_cons_zero, List.set_cons_succ]
        refine wpAnyH_take (i := 2) (v := .pointer (some ⟨a.s, 0, none⟩)) rfl (by kernel_rfl) (by kernel_rfl) (by kernel_rfl) (fun _ _ _ h => h) (Or.inl ⟨by rfl, fun W hSw => by (try dsimp only at hSw); go_simp⟩) (by assumption) ?_
        try simp only [List.getElem_toArray, List.getElem_cons_zero, List.getElem_cons_succ, Act.put, List.setIfInBounds_toArray, List.set_cons_zero, List.set_cons_succ]
        refine wpAnyH_take (i := 3) (v := .pointer (some ⟨a.v, 0, none⟩)) rfl (by kernel_rfl) (by kernel_rfl) (by kernel_rfl) (fun _ _ _ h => h) (Or.inl ⟨by rfl, fun W hSw => by (try dsimp only at hSw); (have z := hSw.1.c0; go_simp)⟩) (by assumption) ?_
        try simp only [List.getElem_toArray, List.getElem_cons_zero, List.getElem_cons_succ, Act.put, List.setIfInBounds_toArray, List.set_cons_zero, List.set_cons_succ]
        refine wpAnyH_take (i := 4) (v := plV p) rfl (by kernel_rfl) (by kernel_rfl) (by kernel_rfl) (fun _ _ _ h => h) (yields_load (by rfl) _ _ rfl _ rfl _ lP) (by assumption) ?_
        try simp only [List.getElem_toArray, List.getElem_cons_zero, List.getElem_cons_succ, Act.put, List.setIfInBounds_toArray, List.set_cons_zero, List.set_cons_succ]
        refine wpAnyH_take (i := 5) (v := .agg (cgC (goneC p))) rfl (by kernel_rfl) (by kernel_rfl) (by kernel_rfl) (fun _ _ _ h => h) (yields_build (by rfl) 104 _ rfl [(0, plV p), (1, .bool true)] (by kernel_rfl) _ (bt_gone p)) (by assumption) ?_
        try simp only [List.getElem_toArray, List.getElem_cons_zero, List.getElem_cons_succ, Act.put, List.setIfInBounds_toArray, List.set_cons_zero, List.set_cons_succ]
        have cp := HX1.out.put (goneC p) (gone_ok HPK.out) (by have := HK4.out.L; have := HN.out; omega) (by have := HK4.out.P; have := HN.out; omega)
        refine wpAnyH_ready (rs := [6]) (by kernel_rfl) (by simp) ?_
        refine AllReadyH.cons rfl (fun K hK => ?_) AllReadyH.nil
        go_simp
        go_wp2_with (go_at_call 42; refine cp.mono ?_; rintro e w9 ⟨rfl, ho9⟩)
        have HO9 : Hid (SgOut B w6 a Xq (gone1 s' p) w9) := SgOut.then (w1 := w8.drew) (HX2.out.trans (Sole.drew _ _)) HX3.out ho9
        have HR9 : Hid (RdZ 4 plE4 w9 (.slice (some ⟨g, 0, none⟩) n pc) P) := ((HR2.out.below HB8.out).below (Below.refl _ w8).drew).sole ho9.sole (HXG.out X8 HX3.out)
        refine hK.out _ _ ⟨ho9.srow, ⟨ho9.sole.row hHeld.2.row HNX.out⟩⟩ (fun hHeld3 => ?_)
        clear hK K cp
        try simp only [List.getElem_toArray, List.getElem_cons_zero, List.getElem_cons_succ, Act.put, List.setIfInBounds_toArray, List.set_cons_zero, List.set_cons_succ]
        refine wpAnyH_take (i := 7) (v := .int .i64 (putX s'.d (goneC p)).2) rfl (by kernel_rfl) (by kernel_rfl) (by kernel_rfl) (fun _ _ _ h => h) (Or.inl ⟨by rfl, fun W hSw => by (try dsimp only at hSw); go_simp⟩) (by assumption) ?_
        try simp only [List.getElem_toArray, List.getElem_cons_zero, List.getElem_cons_succ, Act.put, List.setIfInBounds_toArray, List.set_cons_zero, List.set_cons_succ]
        refine wpAnyH_done (by kernel_rfl) ?_ _
        refine NoPanic.normal ?_
        rw [show (putX s'.d (goneC p)).2 = goneE s' p from rfl]
        clear hHeld hHeld3 ho9 lP hS0 HX1 HX2 HX3 HP8 HO1 HR2
        by_cases hpe : goneE s' p = 0
        case neg =>
          have hpb : (goneE s' p != 0) = true := by simpa using hpe
          have HE9 : Hid (R = (gone1 s' p, goneE s' p)) := by
            unfold Hid
            rw [← HE.out, HGL.out]
            unfold goneL
            rw [if_pos hpe]
            unfold rmE
            rw [if_pos hpe]
          clear HE
          obtain ⟨ge, hge⟩ : ∃ ge, goneE s' p = ge := ⟨_, rfl⟩
          rw [hge] at hpb HE9 ⊢
          clear hge hpe
          go_wp2
          go_ret
          exact ⟨by rw [HE9.out]; first | done | rfl, by rw [HE9.out]; exact SgOut.then HZ2.out HZ3.out (SgOut.then HQ2.out HQ3.out (SgOut.pre HB6.out HO9.out))⟩
        have HGL9 : Hid (goneL { S1 with R := addK S1.R ino [3] } P = goneL (gone1 s' p) (P.drop (i + 1))) := by
          have e := HGL.out
          rw [goneL, if_neg (by rw [hpe]; decide)] at e
          exact e
        have HK9 : Hid (Sk (gone1 s' p) (N + 1 + (i + 1))) := HK4.out.put (goneC p)
        rw [hpe]
        clear hpe HGL
        go_wp2
        go_roundg (n - (i + 1))
        case measure => omega
        case rel => exact ⟨i + 1, gone1 s' p, by rw [show ((i : Int) + 1) = ((i + 1 : Nat) : Int) by omega], by omega, by omega, HO9.out, HR9.out, HGL9.out, HK9.out, HU5.out⟩
      · obtain rfl : n = i := by omega
        obtain ⟨hw1, hw2, hw3, hw4, hw5⟩ := HW.out
        have HR7 : Hid (R = ({ s' with U := addK s'.U ino [7] }, 0)) := by
          unfold Hid
          rw [← HE.out, hw3, List.drop_of_length_le (by have := HNL.out; omega)]
          rfl
        obtain ⟨X7, hx1, hx2, hx3⟩ := hw1
        have HX2 : Hid (Sole Xq w6 wr) := hx2
        have HX3 : Hid (∀ k ∈ X7, k ∈ Xq ∨ w6.heap.size ≤ k) := hx3
        have hb7 := bel1 wr (.cells #[.int .i64 7] 3)
        have hk7 : RdKs (wr.alloc (.cells #[.int .i64 7] 3)) (.slice (some ⟨wr.heap.size, 0, none⟩) 1 1) [7] := rdKs_lit wr [7]
        obtain ⟨w7, hw7⟩ : ∃ w7, wr.alloc (.cells #[.int .i64 7] 3) = w7 := ⟨_, rfl⟩
        rw [hw7] at hb7 hk7
        have c2 := hx1.c2
        have ct := (hx1.below hb7).touchU ino h0 h1 _ _ _ _ hk7 (by intro k hk; simp at hk; omega) (by decide) (by rw [hw5]; have := HL.out.2; omega)
        have HB7 : Hid (Below wr.heap.size wr w7) := hb7
        clear hx1 hx2 hx3 hw2 hw3 hw4 hw5 hk7 hb7 HW HE
        go_wp2_with fail
        refine ct.mono ?_
        rintro e wz ⟨rfl, hoz⟩
        clear ct c2
        have HOZ : Hid _ := hoz
        clear hoz
        go_wp2
        go_ret
        exact ⟨by rw [HR7.out]; first | done | rfl, by rw [HR7.out]; exact SgOut.then HZ2.out HZ3.out (SgOut.then HQ2.out HQ3.out (SgOut.pre HB6.out (SgOut.then HX2.out HX3.out (SgOut.pre HB7.out HOZ.out))))⟩
  · have hk1b : (fk == 1) = false := by simpa using hk1
    have HE1 : Hid (rmE (goneL S1 (placesL ino ⟨fk, fm, fl, fz⟩)) ino = R) := by have := HE.out; unfold rmB at this; rw [if_neg hk1] at this; exact this
    have HKB : Hid (Sk S1 (N + 1 + 0)) := HK.out.mono (by omega)
    have HUB : Hid (S1.U = S1.U) := rfl
    clear HE
    have HE := HE1
    clear HE1
    have HQ : Hid (SgOut B w1 a Xz S1 w2) := HHz.out.out HB2.out
    have HIQ := HI2
    clear HI2 hk1
    have lq : Hid _ := HIQ.out.load
    obtain ⟨Xq, hq1, hq2, hq3⟩ := HQ.out
    have HQ2 : Hid (Sole Xz w1 w2) := hq2
    have HQ3 : Hid (∀ k ∈ Xq, k ∈ Xz ∨ w1.heap.size ≤ k) := hq3
    have HXQ : Hid (∀ k ∈ Xq, k < w2.heap.size) := hq1.lt
    have cp := placesOf_any w2 ino h0 h1 ⟨fk, fm, fl, fz⟩ HBD.out.s0 HBD.out.s1
    unfold inV at cp
    dsimp only at cp
    have HPO : Hid (∀ p ∈ placesL ino ⟨fk, fm, fl, fz⟩, PlOk p) := placesL_ok h0 h1 HBD.out.s1
    have HPL : Hid ((placesL ino ⟨fk, fm, fl, fz⟩).length ≤ 17) := placesL_len HBD.out.s1
    have hpos := placesL_pos ino ⟨fk, fm, fl, fz⟩
    generalize placesL ino ⟨fk, fm, fl, fz⟩ = P at *
    clear hq2 hq3 c1
    go_wp2_with (refine wpList_loadG rfl 53 _ rfl _ rfl _ lq.out ?_)
    refine cp.mono ?_
    rintro e w6 ⟨pa, pc, rfl, hpo, hb6⟩
    clear cp lq
    obtain ⟨n, hn⟩ : ∃ n, P.length = n := ⟨_, rfl⟩
    have HNL : Hid (P.length = n) := hn
    have hn17 : n ≤ 17 := by rw [← hn]; exact HPL.out
    have hn0 : 0 < n := by rw [← hn]; exact hpos
    rw [hn] at hpo ⊢
    have hrd : RdZ 4 plE4 w6 (.slice pa n pc) P := by rw [← hn]; rw [← hn] at hpo; exact rdZ_own plE4_len hpo
    obtain ⟨g, rfl, hg⟩ : ∃ g, pa = some ⟨g, 0, none⟩ ∧ w2.heap.size ≤ g ∧ g < w6.heap.size := by
      rcases hpo.2 with ⟨e, e2⟩ | ⟨g', cap, cur, e, hb', hh, _⟩
      · exfalso; omega
      · simp only [Value.slice.injEq] at e
        exact ⟨g', e.1, hb', lt_of_row hh⟩
    have HS6 : Hid (SgIn B w6 a Xq S1) := hq1.below hb6
    have HB6 : Hid (Below w2.heap.size w2 w6) := hb6
    have HG : Hid (w2.heap.size ≤ g ∧ g < w6.heap.size) := hg
    have HXG : Hid (∀ (X' : List Nat), (∀ k ∈ X', k ∈ Xq ∨ w6.heap.size ≤ k) → g ∉ X') := fun X' hx hm => by
      rcases hx g hm with e | e
      · have := HXQ.out g e; have := HG.out; omega
      · have := HG.out; omega
    have HRD : Hid (RdZ 4 plE4 w6 (.slice (some ⟨g, 0, none⟩) n pc) P) := hrd
    clear hpo hq1 hb6 hg hrd hn hpos
    go_wp2
    go_loopg [33] n (fun kx s33 wr => ∃ (i : Nat) (s' : Sg), s33 = .int .i64 i ∧ i ≤ n ∧ n - i ≤ kx ∧ Hid (SgOut B w6 a Xq s' wr ∧ RdZ 4 plE4 wr (.slice (some ⟨g, 0, none⟩) n pc) P ∧ goneL S1 P = goneL s' (P.drop i) ∧ Sk s' (N + 1 + i) ∧ s'.U = S1.U))
    case atStart => exact ⟨0, S1, rfl, Nat.zero_le _, by omega, HS6.out.out (Below.refl _ _), HRD.out, rfl, HKB.out, (by first | exact HUB.out | rfl)⟩
    case round =>
      obtain ⟨i, s', rfl, hin, hkx, HW⟩ := hrel
      by_cases hlt : i < n
      · obtain ⟨p, hy⟩ : ∃ y, P[i]? = some y := ⟨_, List.getElem?_eq_getElem (by have := HNL.out; omega)⟩
        have HY : Hid (P[i]? = some p) := hy
        obtain ⟨hw1, hw2, hw3, hw4, hw5⟩ := HW.out
        obtain ⟨q0, q1, q2, q3⟩ := pl_cells hw2 hy
        simp only [Nat.zero_add] at q0 q1 q2 q3
        have HDR : Hid (P.drop i = p :: P.drop (i + 1)) := by
          have hl : i < P.length := by have := HNL.out; omega
          have e := List.drop_eq_getElem_cons hl
          rw [List.getElem?_eq_getElem hl] at hy
          cases hy
          exact e
        have HGL : Hid (goneL S1 P = goneL s' (p :: P.drop (i + 1))) := by rw [← HDR.out]; exact hw3
        have HK4 : Hid (Sk s' (N + 1 + i)) := hw4
        have HU5 : Hid (s'.U = S1.U) := hw5
        have HR2 : Hid (RdZ 4 plE4 wr (.slice (some ⟨g, 0, none⟩) n pc) P) := hw2
        have HO1 : Hid (SgOut B w6 a Xq s' wr) := hw1
        have hp8 : PlAt (wr.alloc (.cells (plCells p) 70)) wr.heap.size p := PlAt.laid wr p
        have hb8 := bel1 wr (.cells (plCells p) 70)
        obtain ⟨w8, hw8⟩ : ∃ w8, wr.alloc (.cells (plCells p) 70) = w8 := ⟨_, rfl⟩
        rw [hw8] at hp8 hb8
        have HP8 : Hid (PlAt w8 wr.heap.size p) := hp8
        have HPK : Hid (PlOk p) := HPO.out p (List.mem_of_getElem? hy)
        have HB8 : Hid (Below wr.heap.size wr w8) := hb8
        unfold plCells at hw8
        have hiI : (i : Int) < (n : Int) := by omega
        have hib : (i : Int) + 1 ≤ 1001 := by omega
        clear hw1 hw2 hw3 hw4 hw5 hy hp8 hb8 HW
        go_wp2_with fail
        try rw [hw8]
        clear hw8 q0 q1 q2 q3
        obtain ⟨X8, hx1, hx2, hx3⟩ := HO1.out.post HB8.out
        have HX1 : Hid (SgIn B w8.drew a X8 s') := hx1.drew
        have HX2 : Hid (Sole Xq w6 w8) := hx2
        have HX3 : Hid (∀ k ∈ X8, k ∈ Xq ∨ w6.heap.size ≤ k) := hx3
        have HNX : Hid (wr.heap.size ∉ X8) := fun hm => by
          obtain ⟨vd, vr, vu, hh, e⟩ := hx1
          subst e
          exact (hh.other HP8.out.row (by decide) (by decide) (by decide) (by decide) (by decide) (by decide)) hm
        have hS0 : SRow w8.drew a ∧ PlAt w8.drew wr.heap.size p := ⟨HX1.out.row, ⟨HP8.out.row⟩⟩
        have lP : ∀ W, (SRow W a ∧ PlAt W wr.heap.size p) → (Instr.loadAt 70 (.pointer (some ⟨wr.heap.size, 0, none⟩))).run Tryz.prog W = .ok (plV p) W := fun W h => h.2.loadG
        clear hx1 hx2 hx3
        refine wp_region_noPanic ?_
        refine wp_region_held_drew (S := fun W => SRow W a ∧ PlAt W wr.heap.size p) (by kernel_rfl) hS0 (fun hHeld => ?_)
        refine wpAnyH_take (i := 0) (v := .pointer (some ⟨a.s, 0, none⟩)) rfl (by kernel_rfl) (by kernel_rfl) (by kernel_rfl) (fun _ _ _ h => h) (Or.inl ⟨by rfl, fun W hSw => by (try dsimp only at hSw); go_simp⟩) (by assumption) ?_
        try simp only [List.getElem_toArray, List.getElem_cons_zero, List.getElem_cons_succ, Act.put, List.setIfInBounds_toArray, List.set_cons_zero, List.set_cons_succ]
        refine wpAnyH_take (i := 1) (v := .pointer (some ⟨a.s, 0, none⟩)) rfl (by kernel_rfl) (by kernel_rfl) (by kernel_rfl) (fun _ _ _ h => h) (Or.inl ⟨by rfl, fun W hSw => by (try dsimp only at hSw); go_simp⟩) (by assumption) ?_
        try simp only [List.getElem_toArray, List.getElem_cons_zero, List.getElem_cons_succ, Act.put, List.setIfInBounds_toArray, List.set_cons_zero, List.set_cons_succ]
        refine wpAnyH_take (i := 2) (v := .pointer (some ⟨a.s, 0, none⟩)) rfl (by kernel_rfl) (by kernel_rfl) (by kernel_rfl) (fun _ _ _ h => h) (Or.inl ⟨by rfl, fun W hSw => by (try dsimp only at hSw); go_simp⟩) (by assumption) ?_
        try simp only [List.getElem_toArray, List.getElem_cons_zero, List.getElem_cons_succ, Act.put, List.setIfInBounds_toArray, List.set_cons_zero, List.set_cons_succ]
        refine wpAnyH_take (i := 3) (v := .pointer (some ⟨a.v, 0, none⟩)) rfl (by kernel_rfl) (by kernel_rfl) (by kernel_rfl) (fun _ _ _ h => h) (Or.inl ⟨by rfl, fun W hSw => by (try dsimp only at hSw); (have z := hSw.1.c0; go_simp)⟩) (by assumption) ?_
        try simp only [List.getElem_toArray, List.getElem_cons_zero, List.getElem_cons_succ, Act.put, List.setIfInBounds_toArray, List.set_cons_zero, List.set_cons_succ]
        refine wpAnyH_take (i := 4) (v := plV p) rfl (by kernel_rfl) (by kernel_rfl) (by kernel_rfl) (fun _ _ _ h => h) (yields_load (by rfl) _ _ rfl _ rfl _ lP) (by assumption) ?_
        try simp only [List.getElem_toArray, List.getElem_cons_zero, List.getElem_cons_succ, Act.put, List.setIfInBounds_toArray, List.set_cons_zero, List.set_cons_succ]
        refine wpAnyH_take (i := 5) (v := .agg (cgC (goneC p))) rfl (by kernel_rfl) (by kernel_rfl) (by kernel_rfl) (fun _ _ _ h => h) (yields_build (by rfl) 104 _ rfl [(0, plV p), (1, .bool true)] (by kernel_rfl) _ (bt_gone p)) (by assumption) ?_
        try simp only [List.getElem_toArray, List.getElem_cons_zero, List.getElem_cons_succ, Act.put, List.setIfInBounds_toArray, List.set_cons_zero, List.set_cons_succ]
        have cp := HX1.out.put (goneC p) (gone_ok HPK.out) (by have := HK4.out.L; have := HN.out; omega) (by have := HK4.out.P; have := HN.out; omega)
        refine wpAnyH_ready (rs := [6]) (by kernel_rfl) (by simp) ?_
        refine AllReadyH.cons rfl (fun K hK => ?_) AllReadyH.nil
        go_simp
        go_wp2_with (go_at_call 42; refine cp.mono ?_; rintro e w9 ⟨rfl, ho9⟩)
        have HO9 : Hid (SgOut B w6 a Xq (gone1 s' p) w9) := SgOut.then (w1 := w8.drew) (HX2.out.trans (Sole.drew _ _)) HX3.out ho9
        have HR9 : Hid (RdZ 4 plE4 w9 (.slice (some ⟨g, 0, none⟩) n pc) P) := ((HR2.out.below HB8.out).below (Below.refl _ w8).drew).sole ho9.sole (HXG.out X8 HX3.out)
        refine hK.out _ _ ⟨ho9.srow, ⟨ho9.sole.row hHeld.2.row HNX.out⟩⟩ (fun hHeld3 => ?_)
        clear hK K cp
        try simp only [List.getElem_toArray, List.getElem_cons_zero, List.getElem_cons_succ, Act.put, List.setIfInBounds_toArray, List.set_cons_zero, List.set_cons_succ]
        refine wpAnyH_take (i := 7) (v := .int .i64 (putX s'.d (goneC p)).2) rfl (by kernel_rfl) (by kernel_rfl) (by kernel_rfl) (fun _ _ _ h => h) (Or.inl ⟨by rfl, fun W hSw => by (try dsimp only at hSw); go_simp⟩) (by assumption) ?_
        try simp only [List.getElem_toArray, List.getElem_cons_zero, List.getElem_cons_succ, Act.put, List.setIfInBounds_toArray, List.set_cons_zero, List.set_cons_succ]
        refine wpAnyH_done (by kernel_rfl) ?_ _
        refine NoPanic.normal ?_
        rw [show (putX s'.d (goneC p)).2 = goneE s' p from rfl]
        clear hHeld hHeld3 ho9 lP hS0 HX1 HX2 HX3 HP8 HO1 HR2
        by_cases hpe : goneE s' p = 0
        case neg =>
          have hpb : (goneE s' p != 0) = true := by simpa using hpe
          have HE9 : Hid (R = (gone1 s' p, goneE s' p)) := by
            unfold Hid
            rw [← HE.out, HGL.out]
            unfold goneL
            rw [if_pos hpe]
            unfold rmE
            rw [if_pos hpe]
          clear HE
          obtain ⟨ge, hge⟩ : ∃ ge, goneE s' p = ge := ⟨_, rfl⟩
          rw [hge] at hpb HE9 ⊢
          clear hge hpe
          go_wp2
          go_ret
          exact ⟨by rw [HE9.out]; first | done | rfl, by rw [HE9.out]; exact SgOut.then HZ2.out HZ3.out (SgOut.then HQ2.out HQ3.out (SgOut.pre HB6.out HO9.out))⟩
        have HGL9 : Hid (goneL S1 P = goneL (gone1 s' p) (P.drop (i + 1))) := by
          have e := HGL.out
          rw [goneL, if_neg (by rw [hpe]; decide)] at e
          exact e
        have HK9 : Hid (Sk (gone1 s' p) (N + 1 + (i + 1))) := HK4.out.put (goneC p)
        rw [hpe]
        clear hpe HGL
        go_wp2
        go_roundg (n - (i + 1))
        case measure => omega
        case rel => exact ⟨i + 1, gone1 s' p, by rw [show ((i : Int) + 1) = ((i + 1 : Nat) : Int) by omega], by omega, by omega, HO9.out, HR9.out, HGL9.out, HK9.out, HU5.out⟩
      · obtain rfl : n = i := by omega
        obtain ⟨hw1, hw2, hw3, hw4, hw5⟩ := HW.out
        have HR7 : Hid (R = ({ s' with U := addK s'.U ino [7] }, 0)) := by
          unfold Hid
          rw [← HE.out, hw3, List.drop_of_length_le (by have := HNL.out; omega)]
          rfl
        obtain ⟨X7, hx1, hx2, hx3⟩ := hw1
        have HX2 : Hid (Sole Xq w6 wr) := hx2
        have HX3 : Hid (∀ k ∈ X7, k ∈ Xq ∨ w6.heap.size ≤ k) := hx3
        have hb7 := bel1 wr (.cells #[.int .i64 7] 3)
        have hk7 : RdKs (wr.alloc (.cells #[.int .i64 7] 3)) (.slice (some ⟨wr.heap.size, 0, none⟩) 1 1) [7] := rdKs_lit wr [7]
        obtain ⟨w7, hw7⟩ : ∃ w7, wr.alloc (.cells #[.int .i64 7] 3) = w7 := ⟨_, rfl⟩
        rw [hw7] at hb7 hk7
        have c2 := hx1.c2
        have ct := (hx1.below hb7).touchU ino h0 h1 _ _ _ _ hk7 (by intro k hk; simp at hk; omega) (by decide) (by rw [hw5]; have := HL.out.2; omega)
        have HB7 : Hid (Below wr.heap.size wr w7) := hb7
        clear hx1 hx2 hx3 hw2 hw3 hw4 hw5 hk7 hb7 HW HE
        go_wp2_with fail
        refine ct.mono ?_
        rintro e wz ⟨rfl, hoz⟩
        clear ct c2
        have HOZ : Hid _ := hoz
        clear hoz
        go_wp2
        go_ret
        exact ⟨by rw [HR7.out]; first | done | rfl, by rw [HR7.out]; exact SgOut.then HZ2.out HZ3.out (SgOut.then HQ2.out HQ3.out (SgOut.pre HB6.out (SgOut.then HX2.out HX3.out (SgOut.pre HB7.out HOZ.out))))⟩

end Go.Proofs.YtkmckipfjahlcaaGreat.L
