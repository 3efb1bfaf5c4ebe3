/- Proved: WalCuts: wherever the power is cut, and cut again, also while the log is opened, whatever survives: a log that is opened has all records that were safe, and then the first ones of those that were not, each wholly, and no others; and it goes on; for every input, without a condition. -/
import Derived.Test.YtckcdmkgmbicfaaGreatWCut
import Derived.Test.YtckcdmkgmbicfaaGreatWOps
import Derived.Deep.RegionHeld3
import Derived.BigQuiet
import Derived.Deep.QuietTactic
import Derived.WalkSmall
import Derived.ProofKit
import Derived.OpenShut
import Derived.ShutString
import Derived.ChangeOld
import Derived.Below
import Derived.Carry
import Derived.SizedLaws
import Derived.Deep.CutRange
import Derived.Deep.CutBlock
namespace Go.Proofs.YtckcdmkgmbicfaaGreat.walCuts
open Go.ChangeShapes Go.WideShapes Go.ChangeAt Go.RowKit
open Go.ChangeMaps (open_string shut_string)
set_option linter.unusedVariables false
set_option linter.unusedSimpArgs false

theorem own : ownKnob Tryz.prog.godebug = none := by kernel_rfl
theorem laidOut : laidOutB Tryz.prog = true := by kernel_rfl

theorem mod_small (x m : Int) (hm : 0 < m) (hm2 : m ≤ 1000) (h1 : -9223372036854775808 ≤ x) (h2 : x ≤ 9223372036854775807) : ∃ r : Nat, (wrap64 (x.tmod m + m)).tmod m = (r : Int) ∧ (r : Int) < m := by
  obtain ⟨y, hy⟩ : ∃ y, x.tmod m = y := ⟨_, rfl⟩
  have hy1 : y < m := by rw [← hy]; exact Int.tmod_lt_of_pos _ hm
  have hy2 : -m < y := by rw [← hy]; have := Int.lt_tmod_of_pos x hm; omega
  have e1 : wrap64 (y + m) = y + m := by unfold wrap64; omega
  rw [hy, e1]
  have h3 : 0 ≤ (y + m).tmod m := Int.tmod_nonneg _ (by omega)
  have h4 : (y + m).tmod m < m := Int.tmod_lt_of_pos _ hm
  exact ⟨((y + m).tmod m).toNat, by omega, by omega⟩

/-- What was handed in is as it was. -/
def Low (w W : World) : Prop := ∀ k, k < w.heap.size → W.heap[k]? = w.heap[k]?
theorem Low.of {w W : World} (h : Below w.heap.size w W) : Low w W := fun k hk => h.block k hk

set_option maxRecDepth 100000 in
set_option maxHeartbeats 8000000 in
theorem walk (a : Option Addr) (len cap : Nat) (os : List WopV) (v1 : Value) (al : List Int) (v2 : Value) (ml : List ByteArray) (mb0 : Nat) (w : World) (ho : WopsAt w a len cap os) (hr1 : RdI w v1 al) (hk1 : IntsOk al) (hr2 : RdT [mb0] w v2 ml) (hk2 : TxsOk ml) (hl2 : 0 < ml.length → mb0 < w.heap.size) :
    Calls Tryz.prog 5 #[.slice a len cap, v1, v2] w fun e w' => e = .returned (.bool true) ∧ Below w.heap.size w w' := by
  have hlc := ho.2.1
  have HCM : Hid (cap ≤ maxLen) := ho.2.2.1
  have hcm : cap ≤ 9223372036854775807 := by have := HCM.out; unfold maxLen at this; omega
  have HO : Hid (WopsAt w a len cap os) := ho
  obtain ⟨aa, ac, rfl, ha1, ha2, ha3⟩ := hr1
  obtain ⟨ma, mc, rfl, hm1, hm2, hm3, hm4⟩ := hr2
  have ha2' : ac ≤ 9223372036854775807 := by unfold maxLen at ha2; omega
  have hm2' : mc ≤ 9223372036854775807 := by unfold maxLen at hm2; omega
  clear ho ha2 hm2 hm3 hl2
  have cl := live_any w
  have HA3 : Hid _ := ha3
  have HM4 : Hid _ := hm4
  have HK1 : Hid (IntsOk al) := hk1
  have HK2 : Hid (TxsOk ml) := hk2
  clear ha3 hm4 hk1 hk2
  go_enter Tryz.func5, Tryz.ntmps5
  go_wp2_with fail
  refine cl.mono ?_
  rintro e0 w0 ⟨rfl, b0⟩
  clear cl
  have s0 := b0.size
  have c1 := disk_New w0 60 (by decide) (by decide)
  unfold ptr at c1
  go_wp2_with fail
  refine c1.mono ?_
  rintro f1 w1 ⟨rfl, d1, b1, s1⟩
  clear c1
  have c2 := make_v (B := w.heap.size) (X := []) d1 rfl rfl 3 50 (by decide) (by decide) (by decide) (by decide) (by omega) (by omega) (by omega) (by omega) (fun k hk => by cases hk)
  unfold ptr ptrW at c2
  go_wp2_with fail
  refine c2.mono ?_
  rintro f2 w2 ⟨k2, q, rfl, q2, l2⟩
  clear c2
  have hB2 : Below w.heap.size w w2 := (b0.trans (b1.mono s0)).trans (k2.below (by omega))
  have s2 := k2.size
  obtain ⟨w3, hw3⟩ : ∃ w3, w2.alloc (.cells #[.slice none 0 0, .int .i64 0, .int .i64 50, .int .u64 0] 41) = w3 := ⟨_, rfl⟩
  have hb3 : Below w2.heap.size w2 w3 := by rw [← hw3]; exact (Below.refl _ w2).alloc (Nat.le_refl _) _
  have hr3 : w3.heap[w2.heap.size]? = some (.cells #[.slice none 0 0, .int .i64 0, .int .i64 50, .int .u64 0] 41 (0, 0)) := by rw [← hw3]; exact heap_alloc_new w2 _
  have s3 := hb3.size
  have s3' : w2.heap.size < w3.heap.size := (Array.getElem?_eq_some_iff.1 hr3).1
  have HB3 : Hid (Below w.heap.size w w3) := hB2.trans (hb3.mono (by omega))
  have HBO3 : Hid (Both w.heap.size w3 q (w0.heap.size + 2) 3 50 false 0 0 [] w2.heap.size []) := ⟨l2.below hb3 _ (fun k hk => by simp only [List.mem_singleton] at hk; subst hk; exact ⟨.inr (Nat.le_refl _), s3'⟩), ⟨⟨_, hr3, none, 0, rfl, Nat.le_refl _, Nat.zero_le _, (fun _ => rfl), fun h => by cases h⟩, by simp⟩, (fun r hr => by cases hr), by omega, by omega⟩
  clear d1 b0 b1 k2 l2 hB2 hb3 hr3
  by_cases hmany : 100 < len
  · have hmI : (100 : Int) < len := by omega
    go_wp2
    (try rw [hw3])
    go_ret
    exact ⟨rfl, HB3.out⟩
  have hmI : ¬ (100 : Int) < len := by omega
  have hl100 : len ≤ 100 := by omega
  clear hmany
  by_cases hal : al.length = 0
  · have haI : ((al.length : Int) == 0) = true := by rw [hal]; rfl
    rw [hal] at *
    go_wp2
    (try rw [hw3])
    go_ret
    exact ⟨rfl, HB3.out⟩
  by_cases hml : ml.length = 0
  · have haI : ((al.length : Int) == 0) = false := by simpa using hal
    rw [hml] at *
    go_wp2
    (try rw [hw3])
    go_ret
    exact ⟨rfl, HB3.out⟩
  have haI : ((al.length : Int) == 0) = false := by simpa using hal
  have hmlI : ((ml.length : Int) == 0) = false := by simpa using hml
  obtain ⟨ba, oa, rfl, hba, hca⟩ := HA3.out (by omega)
  obtain ⟨mb, om, rfl, hmb, hmB, hcmm⟩ := HM4.out (by omega)
  have HXA : Hid (∀ W, Low w W → ∀ (i : Nat) (x : Int), al[i]? = some x → W.cell? ⟨ba, oa + i, none⟩ = some (.int .i64 x)) := fun W hW i x hi => (World.cell?_of_block (a := ⟨ba, oa + i, none⟩) (hW ba hba)).trans (hca i x hi)
  have HXM : Hid (∀ W, Low w W → ∀ (i : Nat) (x : ByteArray), ml[i]? = some x → W.cell? ⟨mb, om + i, none⟩ = some (.string x)) := fun W hW i x hi => (World.cell?_of_block (a := ⟨mb, om + i, none⟩) (hW mb hmb)).trans (hcmm i x hi)
  have hal0 : 0 < al.length := by omega
  have hml0 : 0 < ml.length := by omega
  have hai : al[0]? = some al[0] := List.getElem?_eq_getElem hal0
  have hmi : ml[0]? = some ml[0] := List.getElem?_eq_getElem hml0
  have hAb := HK1.out al[0] (List.getElem_mem hal0)
  have hMb := HK2.out ml[0] (List.getElem_mem hml0)
  have xa0 : ∀ W, Low w W → W.cell? ⟨ba, oa, none⟩ = some (.int .i64 al[0]) := fun W hW => HXA.out W hW 0 _ hai
  have xm0 : ∀ W, Low w W → W.cell? ⟨mb, om, none⟩ = some (.string ml[0]) := fun W hW => HXM.out W hW 0 _ hmi
  generalize al[0] = A0 at *
  generalize ml[0] = M0 at *
  obtain ⟨F, hF, hF40⟩ := mod_small A0 40 (by decide) (by decide) hAb.1 hAb.2
  have ca := arm_v ((HBO3.out.below (below_q w3 1 w3.heap.size)).log) F (by omega) (by omega) M0 (by unfold maxLen; omega)
  unfold ptr at ca
  clear HA3 HM4 hca hcmm hai hmi hmB
  go_wp2_with fail
  (try rw [hw3])
  refine wp_region_noPanic ?_
  refine wp_region_held_drew (S := fun W : World => Low w W) (by kernel_rfl) (show Low w w3 from Low.of HB3.out) (fun hHeld => ?_)
  refine wpAnyH_take (i := 0) (v := .pointer (some ⟨w0.heap.size + 2, 0, none⟩)) rfl (by kernel_rfl) (by kernel_rfl) (by kernel_rfl) (fun _ _ _ h => h) (Or.inl ⟨by rfl, fun W hSw => by (try dsimp only at hSw); go_simp⟩) (by assumption) ?_
  simp only [List.getElem_toArray, List.getElem_cons_zero, List.getElem_cons_succ, Act.put, List.setIfInBounds_toArray, List.set_cons_zero, List.set_cons_succ]
  refine wpAnyH_take (i := 1) (v := .slice (some ⟨ba, oa, none⟩) al.length ac) rfl (by kernel_rfl) (by kernel_rfl) (by kernel_rfl) (fun _ _ _ h => h) (Or.inl ⟨by rfl, fun W hSw => by (try dsimp only at hSw); go_simp⟩) (by assumption) ?_
  simp only [List.getElem_toArray, List.getElem_cons_zero, List.getElem_cons_succ, Act.put, List.setIfInBounds_toArray, List.set_cons_zero, List.set_cons_succ]
  refine wpAnyH_take (i := 2) (v := .pointer (some ⟨ba, oa, none⟩)) rfl (by kernel_rfl) (by kernel_rfl) (by kernel_rfl) (fun _ _ _ h => h) (Or.inl ⟨by rfl, fun W hSw => by (try dsimp only at hSw); go_simp⟩) (by assumption) ?_
  simp only [List.getElem_toArray, List.getElem_cons_zero, List.getElem_cons_succ, Act.put, List.setIfInBounds_toArray, List.set_cons_zero, List.set_cons_succ]
  refine wpAnyH_take (i := 3) (v := .int .i64 A0) rfl (by kernel_rfl) (by kernel_rfl) (by kernel_rfl) (fun _ _ _ h => h) (Or.inl ⟨by rfl, fun W hSw => by (try dsimp only at hSw); have z := xa0 W hSw; go_simp⟩) (by assumption) ?_
  simp only [List.getElem_toArray, List.getElem_cons_zero, List.getElem_cons_succ, Act.put, List.setIfInBounds_toArray, List.set_cons_zero, List.set_cons_succ]
  refine wpAnyH_take (i := 4) (v := .int .i64 (A0.tmod 40)) rfl (by kernel_rfl) (by kernel_rfl) (by kernel_rfl) (fun _ _ _ h => h) (Or.inl ⟨by rfl, fun W hSw => by (try dsimp only at hSw); go_simp⟩) (by assumption) ?_
  simp only [List.getElem_toArray, List.getElem_cons_zero, List.getElem_cons_succ, Act.put, List.setIfInBounds_toArray, List.set_cons_zero, List.set_cons_succ]
  refine wpAnyH_take (i := 5) (v := .int .i64 (wrap64 (A0.tmod 40 + 40))) rfl (by kernel_rfl) (by kernel_rfl) (by kernel_rfl) (fun _ _ _ h => h) (Or.inl ⟨by rfl, fun W hSw => by (try dsimp only at hSw); go_simp; exact Go.IntWalk.i64_left _⟩) (by assumption) ?_
  simp only [List.getElem_toArray, List.getElem_cons_zero, List.getElem_cons_succ, Act.put, List.setIfInBounds_toArray, List.set_cons_zero, List.set_cons_succ]
  refine wpAnyH_take (i := 6) (v := .int .i64 F) rfl (by kernel_rfl) (by kernel_rfl) (by kernel_rfl) (fun _ _ _ h => h) (Or.inl ⟨by rfl, fun W hSw => by (try dsimp only at hSw); go_simp⟩) (by assumption) ?_
  simp only [List.getElem_toArray, List.getElem_cons_zero, List.getElem_cons_succ, Act.put, List.setIfInBounds_toArray, List.set_cons_zero, List.set_cons_succ]
  refine wpAnyH_take (i := 7) (v := .slice (some ⟨mb, om, none⟩) ml.length mc) rfl (by kernel_rfl) (by kernel_rfl) (by kernel_rfl) (fun _ _ _ h => h) (Or.inl ⟨by rfl, fun W hSw => by (try dsimp only at hSw); go_simp⟩) (by assumption) ?_
  simp only [List.getElem_toArray, List.getElem_cons_zero, List.getElem_cons_succ, Act.put, List.setIfInBounds_toArray, List.set_cons_zero, List.set_cons_succ]
  refine wpAnyH_take (i := 8) (v := .pointer (some ⟨mb, om, none⟩)) rfl (by kernel_rfl) (by kernel_rfl) (by kernel_rfl) (fun _ _ _ h => h) (Or.inl ⟨by rfl, fun W hSw => by (try dsimp only at hSw); go_simp⟩) (by assumption) ?_
  simp only [List.getElem_toArray, List.getElem_cons_zero, List.getElem_cons_succ, Act.put, List.setIfInBounds_toArray, List.set_cons_zero, List.set_cons_succ]
  refine wpAnyH_take (i := 9) (v := .string M0) rfl (by kernel_rfl) (by kernel_rfl) (by kernel_rfl) (fun _ _ _ h => h) (Or.inl ⟨by rfl, fun W hSw => by (try dsimp only at hSw); have z := xm0 W hSw; go_simp⟩) (by assumption) ?_
  simp only [List.getElem_toArray, List.getElem_cons_zero, List.getElem_cons_succ, Act.put, List.setIfInBounds_toArray, List.set_cons_zero, List.set_cons_succ]
  refine wpAnyH_ready (rs := [10]) (by kernel_rfl) (by simp) ?_
  refine AllReadyH.cons rfl (fun K hK => ?_) AllReadyH.nil
  go_simp
  go_wp2_with (go_at_call 19; refine ca.mono ?_; rintro e4 w4 ⟨rfl, k4, l4⟩)
  have HB4 : Hid (Below w.heap.size w w4) := (HB3.out.trans (below_q w3 1 _)).trans (k4.below (by show w.heap.size ≤ w3.heap.size; omega))
  refine hK.out _ _ (show Low w w4 from Low.of HB4.out) (fun hHeld2 => ?_)
  clear hK K ca
  try simp only [List.getElem_toArray, List.getElem_cons_zero, List.getElem_cons_succ, Act.put, List.setIfInBounds_toArray, List.set_cons_zero, List.set_cons_succ]
  refine wpAnyH_done (by kernel_rfl) ?_ _
  refine NoPanic.normal ?_
  have s4 := k4.size
  have s4' : w3.heap.size ≤ w4.heap.size := s4
  have HBO4 : Hid (Both w.heap.size w4 q (w0.heap.size + 2) 3 50 true 0 0 [] w2.heap.size []) := ⟨l4, (HBO3.out.below (below_q w3 1 w3.heap.size)).ref.keepX k4 (by simp) (by show w2.heap.size < w3.heap.size; omega) (fun k hk => by cases hk), (fun r hr => by cases hr), by omega, by omega⟩
  clear k4 l4 HBO3 HB3 hHeld hHeld2 xa0 xm0 hAb hMb hF hF40 hw3
  go_wp2_with fail
  go_loopw [10, 12, 13, 82] (fun s10 s12 s13 t wr => ∃ (k q x nx dn tn : Nat) (rs : List Rc) (BX : List Nat) (arm : Bool), k ≤ len ∧ t = .int .i64 k ∧ s10 = .pointer (some ⟨q, 0, none⟩) ∧ s12 = .pointer (some ⟨x, 0, none⟩) ∧ s13 = .int .i64 tn ∧ tn ≤ 3 * k ∧ nx ≤ 100 * k ∧ Hid (Both w.heap.size wr q (w0.heap.size + 2) 3 50 arm nx dn rs x BX) ∧ Hid (Below w.heap.size w wr)) (fun _ _ _ t _ => len - (RowKit.intOf t).toNat)
  case atStart => exact ⟨0, q, w2.heap.size, 0, 0, 0, [], [], true, Nat.zero_le _, rfl, rfl, rfl, rfl, Nat.zero_le _, Nat.zero_le _, HBO4, HB4⟩
  case round =>
    clear HBO4 HB4
    obtain ⟨k, q, x, nx, dn, tn, rs, BX, arm, hk, rfl, rfl, rfl, rfl, htn, hnx, HBT, HBR⟩ := hrel
    have hszr := HBR.out.size
    by_cases hlt : k < len
    · have hltI : (k : Int) < len := by omega
      obtain ⟨b, off, o, Bo, rfl, hoo, hoa, hor, hob, _⟩ := wop_at HO.out HBR.out k hlt
      have y0 := hoa.c0
      have y1 := hoa.c1
      have y2 := hoa.c2
      have y3 := hoa.c3
      have HOO : Hid (WopOk o) := hoo
      have HOR : Hid (RdT Bo wr o.v3 o.f3) := hor
      have HBO : Hid (∀ j ∈ Bo, j < w.heap.size) := hob
      clear hoo hoa hor hob
      obtain ⟨f0, f1, f2, v3, f3, b3⟩ := o
      dsimp only at *
      obtain ⟨va, vc, hv3, _⟩ := id HOR.out
      subst hv3
      obtain ⟨wq, hwq⟩ : ∃ wq, wr.alloc (.cells #[.int .i64 f0, .int .i64 f1, .int .i64 f2, .slice va f3.length vc] 44) = wq := ⟨_, rfl⟩
      have hbq : Below wr.heap.size wr wq := by rw [← hwq]; exact (Below.refl _ wr).alloc (Nat.le_refl _) _
      have hrow : wq.heap[wr.heap.size]? = some (.cells #[.int .i64 f0, .int .i64 f1, .int .i64 f2, .slice va f3.length vc] 44 (0, 0)) := by rw [← hwq]; exact heap_alloc_new wr _
      have sq : wr.heap.size < wq.heap.size := (Array.getElem?_eq_some_iff.1 hrow).1
      have HROW : Hid (wq.heap[wr.heap.size]? = some (.cells #[.int .i64 f0, .int .i64 f1, .int .i64 f2, .slice va f3.length vc] 44 (0, 0))) := hrow
      have HBQ : Hid (Below wr.heap.size wr wq) := hbq
      have q0 : wq.cell? ⟨wr.heap.size, 0, none⟩ = some (.int .i64 f0) := by rw [cell_of_row _ _ 0 _ _ (0, 0) hrow]; rfl
      obtain ⟨lt1, lt2, lt3⟩ := HBT.out.lt
      clear hrow hbq
      by_cases h3 : f0 = 3
      · subst h3
        have HF : Hid (Both w.heap.size wq q (w0.heap.size + 2) 3 50 arm nx dn rs x BX) := HBT.out.below HBQ.out
        have HFB : Hid (Below w.heap.size w wq) := HBR.out.trans (HBQ.out.mono hszr)
        clear HBT HBR
        go_wp2_with fail
        (try rw [hwq])
        refine ⟨?_, ?_⟩
        · exact ⟨k + 1, q, x, nx, dn, tn, rs, BX, arm, by omega, by go_num, rfl, rfl, rfl, by omega, by omega, HF, HFB⟩
        · simp [RowKit.intOf]; omega
      · have h3' : (f0 == 3) = false := by simpa using h3
        have hqr := HBT.out.ref.below HBQ.out
        have hokr := HBT.out.ok (by omega)
        have cf := from_any hqr
        rw [from_both] at cf
        obtain ⟨FR, hFR⟩ : ∃ FR, fromR nx rs = FR := ⟨_, rfl⟩
        rw [hFR] at cf
        have HFR : Hid (fromR nx rs = FR) := hFR
        have cc := copy_any hqr hokr (fun k hk => by have := lt3 k hk; omega)
        unfold ptrW at cf cc
        clear hqr hokr hFR
        go_wp2_with fail
        (try rw [hwq])
        refine cf.mono ?_
        rintro e5 w5' ⟨rfl, rfl⟩
        clear cf hwq y0 y1 y2 y3
        go_wp2_with fail
        refine cc.mono ?_
        rintro e5 w5 ⟨pw, Bw0, rfl, hwas, hpw, hBw0, hb5⟩
        clear cc
        have hwas' := hwas.trim
        obtain ⟨Bw, hBw⟩ : ∃ Bw, (Bw0.filter fun k => decide (k < w5.heap.size)) = Bw := ⟨_, rfl⟩
        rw [hBw] at hwas'
        have hBwb : ∀ k ∈ Bw, (k ∈ BX ∨ wr.heap.size ≤ k) ∧ k < w5.heap.size := fun k hk => by
          rw [← hBw] at hk
          obtain ⟨z1, z2⟩ := List.mem_filter.1 hk
          refine ⟨?_, by simpa using z2⟩
          rcases hBw0 k z1 with z | z
          · exact .inl z
          · right; omega
        have s5 := hb5.size
        have hpl : pw < w5.heap.size := by obtain ⟨v, z, _⟩ := hwas.body; exact (Array.getElem?_eq_some_iff.1 z).1
        have hbr5 : Below wr.heap.size wr w5 := HBQ.out.trans (hb5.mono (by omega))
        obtain ⟨Y, hY⟩ : ∃ Y, BX ++ (wr.heap.size :: pw :: Bw) = Y := ⟨_, rfl⟩
        have HB5 : Hid (Both w.heap.size w5 q (w0.heap.size + 2) 3 50 arm nx dn rs x Y) := HBT.out.holds hbr5 Y (fun k hk => by rw [← hY]; exact List.mem_append_left _ hk) (fun k hk => by
          rw [← hY] at hk
          rcases List.mem_append.1 hk with hk | hk
          · have := lt3 k hk; exact ⟨.inl hk, by omega⟩
          · rcases List.mem_cons.1 hk with rfl | hk
            · exact ⟨.inr (Nat.le_refl _), by omega⟩
            · rcases List.mem_cons.1 hk with rfl | hk
              · exact ⟨.inr (by omega), hpl⟩
              · exact hBwb k hk)
        have HYo : Hid (wr.heap.size ∈ Y) := by unfold Hid; rw [← hY]; simp
        have HYw : Hid (∀ k ∈ pw :: Bw, k ∈ Y) := fun k hk => by rw [← hY]; exact List.mem_append_right _ (List.mem_cons_of_mem _ hk)
        have ROW5 : Hid (w5.heap[wr.heap.size]? = some (.cells #[.int .i64 f0, .int .i64 f1, .int .i64 f2, .slice va f3.length vc] 44 (0, 0))) := (hb5.block _ sq).trans HROW.out
        have HWAS5 : Hid (LgAt w5 pw Bw ⟨rs, dn, 50, nx⟩) := hwas'
        have HBW5 : Hid (Below w.heap.size w w5) := HBR.out.trans (hbr5.mono hszr)
        have HR5 : Hid (RdT Bo w5 (.slice va f3.length vc) f3) := HOR.out.below hbr5
        have HSH : Hid (∀ r ∈ rs, longB r.grp = false) := HBT.out.shorts
        have t0 : w5.cell? ⟨wr.heap.size, 0, none⟩ = some (.int .i64 f0) := by rw [cell_of_row _ _ 0 _ _ (0, 0) ROW5.out]; rfl
        have t1 : w5.cell? ⟨wr.heap.size, 1, none⟩ = some (.int .i64 f1) := by rw [cell_of_row _ _ 1 _ _ (0, 0) ROW5.out]; rfl
        have t2 : w5.cell? ⟨wr.heap.size, 2, none⟩ = some (.int .i64 f2) := by rw [cell_of_row _ _ 2 _ _ (0, 0) ROW5.out]; rfl
        have t3 : w5.cell? ⟨wr.heap.size, 3, none⟩ = some (.slice va f3.length vc) := by rw [cell_of_row _ _ 3 _ _ (0, 0) ROW5.out]; rfl
        have cs := step_any HB5.out (by omega) ⟨f0, f1, f2, .slice va f3.length vc, f3, b3⟩ HOO.out Bo HR5.out HBO.out
        unfold opC at cs
        dsimp only at cs
        unfold ptrW at cs
        have hpwB : w.heap.size ≤ pw := by omega
        have HBwl : Hid (∀ k ∈ Bw, k < w5.heap.size) := fun k hk => (hBwb k hk).2
        clear hwas hwas' hBw hBw0 hBwb hb5 hbr5 hY HBT HBQ HROW q0
        go_wp2_with fail
        refine cs.mono ?_
        rintro e6 w6 ⟨hb6, hk6, ⟨rfl, nx', dn', rs', BX', hboth6, hn1, hn2, _⟩ | ⟨harm, bb, kk, nx', M, rfl, hM, hkk1, hkk2, hl6, _⟩⟩
        · have con := on_v hboth6.log
          have HBB : Hid (Both w.heap.size w6 q (w0.heap.size + 2) 3 50 arm nx' dn' rs' x BX') := hboth6
          have HBW6 : Hid (Below w.heap.size w w6) := HBW5.out.trans hb6
          unfold ptr at con
          clear hboth6 hb6 hk6 cs t0 t1 t2 t3
          go_wp2_with fail
          refine con.mono ?_
          rintro e7 w7 ⟨rfl, rfl⟩
          clear con
          go_wp2_with fail
          refine ⟨?_, ?_⟩
          · exact ⟨k + 1, q, x, nx', dn', tn, rs', BX', arm, by omega, by go_num, rfl, rfl, rfl, by omega, by omega, HBB, HBW6⟩
          · simp [RowKit.intOf]; omega
        · have HBW6 : Hid (Below w.heap.size w w6) := HBW5.out.trans hb6
          have HWAS6 : LgAt w6 pw Bw ⟨rs, dn, 50, nx⟩ := HWAS5.out.keep hb6.size (hk6 pw (HYw.out pw List.mem_cons_self)) (fun k hk _ => hk6 k (HYw.out k (List.mem_cons_of_mem _ hk)))
          have ROW6 : Hid (w6.heap[wr.heap.size]? = some (.cells #[.int .i64 f0, .int .i64 f1, .int .i64 f2, .slice va f3.length vc] 44 (0, 0))) := (hk6 _ HYo.out).trans ROW5.out
          have hl6' := hl6.sub (X' := pw :: Bw) (fun k hk => List.mem_cons_of_mem _ (HYw.out k hk))
          rw [HFR.out] at hl6'
          have con := on_left hl6'
          unfold ptr at con
          have HR6 : Hid (RdT Bo w6 (.slice va f3.length vc) f3) := HR5.out.keep hb6.size (fun k hk _ => hb6.block k (HBO.out k hk))
          have s6 := hb6.size
          have lens := HB5.out.log.lens
          have hrs1 : rs.length ≤ 50 := lens.2.1
          have HWO : Hid (dn ≤ rs.length) := lens.1
          have hnums : ∀ r ∈ rs, r.num < nx := lens.2.2.1
          have u0 : w6.cell? ⟨wr.heap.size, 0, none⟩ = some (.int .i64 f0) := by rw [cell_of_row _ _ 0 _ _ (0, 0) ROW6.out]; rfl
          clear hl6 hb6 hk6 cs t0 t1 t2 t3 lens HB5 ROW5 HWAS5 HYo HYw harm
          go_wp2_with fail
          refine con.mono ?_
          rintro e7 w7 ⟨rfl, rfl⟩
          clear con
          -- TWO CUTS
          obtain ⟨L, hL⟩ : ∃ L, groupL f3 (timesN f2) = L := ⟨_, rfl⟩
          obtain ⟨RS, hRS⟩ : ∃ RS, rs ++ moreOf nx ⟨f0, f1, f2, .slice va f3.length vc, f3, b3⟩ = RS := ⟨_, rfl⟩
          have hRSe : RS = rs ++ (if f0 = 0 then (if longB L then [] else [⟨nx, L⟩]) else []) := by rw [← hRS, ← hL]; rfl
          rw [hRS] at hl6' hkk2
          have HRS : Hid (RS = rs ++ (if f0 = 0 then (if longB L then [] else [⟨nx, L⟩]) else [])) := hRSe
          have HLf : Hid (groupL f3 (timesN f2) = L) := hL
          have HKR : Hid (kk ≤ RS.length) := hkk2
          have HL7 : Hid (LeftV w.heap.size (pw :: Bw) w7 (w0.heap.size + 2) 3 50 true false M FR nx' (List.take kk RS)) := hl6'
          have HW7 : Hid (LgAt w7 pw Bw ⟨rs, dn, 50, nx⟩) := HWAS6
          have HBL7 : Hid (∀ k ∈ Bw, k < w7.heap.size) := fun k hk => by have := HBwl.out k hk; omega
          have HNUM : Hid (∀ r ∈ rs, r.num < nx) := hnums
          clear hL hRS hRSe hl6' hkk2 HWAS6 hnums u0
          go_upto_region 21 with fail
          go_cut [109] from 101 to 109 (fun b wx => ∃ bb : Bool, b = .bool bb ∧ Hid (bb = (decide (f0 = 0) && !longB L)) ∧ Hid (LeftV w.heap.size (pw :: Bw) wx (w0.heap.size + 2) 3 50 true false M FR nx' (List.take kk RS)) ∧ Hid (LgAt wx pw Bw ⟨rs, dn, 50, nx⟩) ∧ Hid (∀ k ∈ Bw, k < wx.heap.size) ∧ Hid (wx.heap[wr.heap.size]? = some (.cells #[.int .i64 f0, .int .i64 f1, .int .i64 f2, .slice va f3.length vc] 44 (0, 0))) ∧ Hid (RdT Bo wx (.slice va f3.length vc) f3) ∧ Hid (Below w.heap.size w wx))
          case first =>
            as_aux_lemma =>
            have u0 : w7.cell? ⟨wr.heap.size, 0, none⟩ = some (.int .i64 f0) := by rw [cell_of_row _ _ 0 _ _ (0, 0) ROW6.out]; rfl
            by_cases h0 : f0 = 0
            · subst h0
              have u1 : w7.cell? ⟨wr.heap.size, 1, none⟩ = some (.int .i64 f1) := by rw [cell_of_row _ _ 1 _ _ (0, 0) ROW6.out]; rfl
              have u2 : w7.cell? ⟨wr.heap.size, 2, none⟩ = some (.int .i64 f2) := by rw [cell_of_row _ _ 2 _ _ (0, 0) ROW6.out]; rfl
              have u3 : w7.cell? ⟨wr.heap.size, 3, none⟩ = some (.slice va f3.length vc) := by rw [cell_of_row _ _ 3 _ _ (0, 0) ROW6.out]; rfl
              obtain ⟨ti1, ti2⟩ := timesN_ok f2 HOO.out.a2.1 HOO.out.a2.2
              have cg := group_at 0 f1 f2 _ f3 HR6.out (timesN f2) ti1 ti2
              rw [HLf.out] at cg
              clear ti1 ti2
              go_wp2_with fail
              refine cg.mono ?_
              rintro e8 w8 ⟨v8, B8, rfl, hr8, _, hb8⟩
              clear cg u0 u1 u2 u3
              have cl := long_both hr8 (fun y hy => by have h := HOO.out.a3; exact h y (groupL_mem (by rw [HLf.out]; exact hy)))
              obtain ⟨a8, c8, rfl, _⟩ := hr8
              have rlt := (Array.getElem?_eq_some_iff.1 ROW6.out).1
              have HC : Hid ((true && !longB L) = (decide ((0 : Int) = 0) && !longB L) ∧ LeftV w.heap.size (pw :: Bw) w8 (w0.heap.size + 2) 3 50 true false M FR nx' (List.take kk RS) ∧ LgAt w8 pw Bw ⟨rs, dn, 50, nx⟩ ∧ (∀ k ∈ Bw, k < w8.heap.size) ∧ w8.heap[wr.heap.size]? = some (.cells #[.int .i64 0, .int .i64 f1, .int .i64 f2, .slice va f3.length vc] 44 (0, 0)) ∧ RdT Bo w8 (.slice va f3.length vc) f3 ∧ Below w.heap.size w w8) := ⟨rfl, HL7.out.below hb8 _ (fun k hk => ⟨.inl hk, Nat.lt_of_lt_of_le (HL7.out.lt k hk) hb8.size⟩), HW7.out.below hb8, fun k hk => Nat.lt_of_lt_of_le (HBL7.out k hk) hb8.size, (hb8.block _ rlt).trans ROW6.out, HR6.out.below hb8, HBW6.out.trans (hb8.mono HBW6.out.size)⟩
              clear hb8 rlt HL7 HW7 HBL7 ROW6 HR6 HBW6
              generalize longB L = LB at *
              go_wp2_with fail
              refine cl.mono ?_
              rintro e9 w9 ⟨rfl, rfl⟩
              clear cl
              cases LB
              all_goals
                go_wp2_with fail
                go_meet
                exact ⟨_, rfl, HC.out.1, HC.out.2.1, HC.out.2.2.1, HC.out.2.2.2.1, HC.out.2.2.2.2.1, HC.out.2.2.2.2.2.1, HC.out.2.2.2.2.2.2⟩
            · have h0' : (f0 == 0) = false := by simpa using h0
              have HC : Hid (false = (decide (f0 = 0) && !longB L)) := by unfold Hid; rw [decide_eq_false h0]; rfl
              go_wp2_with fail
              go_meet
              exact ⟨_, rfl, HC, HL7, HW7, HBL7, ROW6, HR6, HBW6⟩
          case rest =>
            as_aux_lemma =>
            clear HL7 HW7 HBL7 ROW6 HR6 HBW6
            obtain ⟨bb, rfl, Hbb, HLc, HWc, HBLc, ROWc, HRc, HBWc⟩ := hcut
            obtain ⟨wd, hwd⟩ : ∃ wd, wd = wc := ⟨_, rfl⟩
            subst hwd
            go_upto_if 109 with fail
            go_cut [] from 110 to 113 (fun wx => TailS w (w0.heap.size + 2) pw dn FR kk M nx' RS wx)
            case first =>
              as_aux_lemma =>
              cases bb
              · have hRS0 : RS = rs := by
                  rw [HRS.out]
                  by_cases h0 : f0 = 0
                  · have hl : longB L = true := by have h := Hbb.out; rw [h0] at h; simpa using h.symm
                    rw [if_pos h0, hl, if_pos rfl, List.append_nil]
                  · rw [if_neg h0, List.append_nil]
                have HT : Hid (TailS w (w0.heap.size + 2) pw dn FR kk M nx' RS wd) := by
                  refine ⟨Bw, nx, HLc, ?_, ?_, ?_, HBWc⟩
                  · rw [hRS0]; exact HWc
                  · rw [hRS0]; exact ⟨by show nx ≤ _; omega, fun r hr => by have := HNUM.out r hr; omega, by show dn ≤ rs.length; have := HWO.out; omega, by show 50 ≤ 1000; omega, by show rs.length ≤ _; omega⟩
                  · rw [hRS0]; exact HSH
                clear HLc HWc HBLc ROWc HRc HBWc hRS0
                go_wp2_with fail
                go_meet
                exact HT.out
              · have hb := Hbb.out
                have h0 : f0 = 0 := by
                  rcases Decidable.em (f0 = 0) with h | h
                  · exact h
                  · rw [decide_eq_false h] at hb; cases hb
                subst h0
                have hl : longB L = false := by simpa using hb.symm
                have hRS1 : RS = rs ++ [⟨nx, L⟩] := by rw [HRS.out, if_pos rfl, hl]; rfl
                have u0 : wd.cell? ⟨wr.heap.size, 0, none⟩ = some (.int .i64 0) := by rw [cell_of_row _ _ 0 _ _ (0, 0) ROWc.out]; rfl
                have u1 : wd.cell? ⟨wr.heap.size, 1, none⟩ = some (.int .i64 f1) := by rw [cell_of_row _ _ 1 _ _ (0, 0) ROWc.out]; rfl
                have u2 : wd.cell? ⟨wr.heap.size, 2, none⟩ = some (.int .i64 f2) := by rw [cell_of_row _ _ 2 _ _ (0, 0) ROWc.out]; rfl
                have u3 : wd.cell? ⟨wr.heap.size, 3, none⟩ = some (.slice va f3.length vc) := by rw [cell_of_row _ _ 3 _ _ (0, 0) ROWc.out]; rfl
                obtain ⟨ti1, ti2⟩ := timesN_ok f2 HOO.out.a2.1 HOO.out.a2.2
                have cg := group_at 0 f1 f2 _ f3 HRc.out (timesN f2) ti1 ti2
                rw [HLf.out] at cg
                clear ti1 ti2 hb
                have HLG : Hid (longB L = false) := hl
                have HR1 : Hid (RS = rs ++ [⟨nx, L⟩]) := hRS1
                clear hl hRS1
                go_wp2_with fail
                refine cg.mono ?_
                rintro e8 w8 ⟨v8, B8, rfl, hr8, _, hb8⟩
                clear cg u0 u1 u2 u3
                have hW8 := HWc.out.below hb8
                have hL8 := HLc.out.below hb8 (pw :: Bw) (fun k hk => ⟨.inl hk, Nat.lt_of_lt_of_le (HLc.out.lt k hk) hb8.size⟩)
                have hB8 : Below w.heap.size w w8 := HBWc.out.trans (hb8.mono HBWc.out.size)
                have hok8 : LgOk ⟨rs, dn, 50, nx⟩ := ⟨by show nx ≤ _; omega, fun r hr => by have := HNUM.out r hr; omega, by show dn ≤ rs.length; have := HWO.out; omega, by show 50 ≤ 1000; omega, by show rs.length ≤ _; omega⟩
                have ca := append_any hW8 hok8 (fun k hk => Nat.lt_of_lt_of_le (HBLc.out k hk) hb8.size) hr8 (by have := (long_parts HLG.out).1; omega) 0 (by omega)
                obtain ⟨a8, c8, rfl, _⟩ := hr8
                unfold ptrW at ca
                have HW8 : Hid (LgAt w8 pw Bw ⟨rs, dn, 50, nx⟩) := hW8
                have HL8 : Hid (LeftV w.heap.size (pw :: Bw) w8 (w0.heap.size + 2) 3 50 true false M FR nx' (List.take kk RS)) := hL8
                have HB8 : Hid (Below w.heap.size w w8) := hB8
                clear hW8 hL8 hB8 hok8 hb8 HLc HWc HBLc ROWc HRc HBWc
                go_wp2_with fail
                refine ca.mono ?_
                rintro e9 w9 ⟨rfl, B9, hW9, hS9, hB9⟩
                clear ca
                dsimp only at hW9
                have HT : Hid (TailS w (w0.heap.size + 2) pw dn FR kk M nx' RS w9) := by
                  refine ⟨B9, 0, HL8.out.more hS9 (fun k hk => ?_) (fun k hk => ?_), ?_, ?_, ?_, ?_⟩
                  · obtain ⟨cs, t, fr, z1, z2, _⟩ := ref_type HW8.out k hk
                    exact ⟨cs, t, fr, z1, z2⟩
                  · rcases List.mem_cons.1 hk with rfl | hk
                    · exact .inl List.mem_cons_self
                    · rcases hB9 k hk with e | e
                      · exact .inl (List.mem_cons_of_mem _ e)
                      · exact .inr e
                  · rw [HR1.out]; exact hW9
                  · rw [HR1.out]
                    exact ⟨by show 0 ≤ _; omega, fun r hr => by
                      rcases List.mem_append.1 hr with hr | hr
                      · have := HNUM.out r hr; omega
                      · simp only [List.mem_singleton] at hr; subst hr; show nx ≤ _; omega, by show dn ≤ (rs ++ _).length; rw [List.length_append]; have := HWO.out; omega, by show 50 ≤ 1000; omega, by show (rs ++ _).length ≤ _; rw [List.length_append]; simp; omega⟩
                  · rw [HR1.out]
                    intro r hr
                    rcases List.mem_append.1 hr with hr | hr
                    · exact HSH.out r hr
                    · simp only [List.mem_singleton] at hr; subst hr; exact HLG.out
                  · exact hS9.belowOf HB8.out HB8.out.size (fun k hk => by simp only [List.mem_singleton] at hk; omega)
                clear hW9 hS9 hB9 HW8 HL8 HB8
                go_wp2_with fail
                go_meet
                exact HT.out
            case rest =>
              as_aux_lemma =>
              clear HLc HWc HBLc ROWc HRc HBWc Hbb HRS HLf
              obtain ⟨BW, NZ, HLT, HWT, HOKW, HSHW, HBTT⟩ := hcut
              have hkkR : kk ≤ RS.length := HKR.out
              clear HKR HNUM HSH HWO
              go_wp2_with fail
              go_loopw [13, 114] (fun s13 t wr2 => ∃ (i tm : Nat) (off arm2 : Bool), i ≤ 3 ∧ t = .int .i64 i ∧ s13 = .int .i64 tm ∧ tm = tn + i ∧ (off = true → arm2 = false) ∧ Hid (LeftV w.heap.size (pw :: BW) wr2 (w0.heap.size + 2) 3 50 off arm2 M FR nx' (List.take kk RS)) ∧ Hid (LgAt wr2 pw BW ⟨RS, dn, 50, NZ⟩) ∧ Hid (Below w.heap.size w wr2)) (fun _ t _ => 3 - (RowKit.intOf t).toNat)
              case atStart => exact ⟨0, tn, true, false, Nat.zero_le _, rfl, rfl, rfl, (fun _ => rfl), HLT, HWT, HBTT⟩
              case round =>
                clear HLT HWT HBTT
                obtain ⟨i, tm, off, arm2, hi, rfl, rfl, htm, hoa, HLV, HWV, HBV⟩ := hrel
                have HTM : Hid (tm = tn + i) := htm
                have htm9 : tm ≤ 400 := by omega
                clear htm
                obtain ⟨wv, hwv⟩ : ∃ wv, wv = wr := ⟨_, rfl⟩
                subst hwv
                by_cases hi3 : i < 3
                · have hi3I : (i : Int) < 3 := by omega
                  have cp := power_v HLV.out
                  unfold ptr at cp
                  go_wp2_with fail
                  refine cp.mono ?_
                  rintro e10 w10 ⟨rfl, k10, l10⟩
                  clear cp
                  have W10 : Hid (LgAt w10 pw BW ⟨RS, dn, 50, NZ⟩) := HWV.out.keepX k10 List.mem_cons_self (HWV.out.opened_lt) (fun k hk => List.mem_cons_of_mem _ hk)
                  have HBZ : Hid (Below w.heap.size w w10) := HBV.out.trans (k10.below HBV.out.size)
                  have L10 : Hid (LeftV w.heap.size (pw :: BW) w10 (w0.heap.size + 2) 3 50 false arm2 M FR nx' (List.take kk RS)) := l10
                  clear k10 l10 HLV HWV HBV hoa
                  by_cases h8 : tm + 1 < 8
                  · as_aux_lemma =>
                    have h8I : (tm : Int) + 1 < 8 := by omega
                    obtain ⟨hia, hial⟩ := mod_at (tm + 1) al.length hal0
                    obtain ⟨him, himl⟩ := mod_at (tm + 1) ml.length hml0
                    obtain ⟨ia, hiae⟩ : ∃ ia, (tm + 1) % al.length = ia := ⟨_, rfl⟩
                    obtain ⟨im, hime⟩ : ∃ im, (tm + 1) % ml.length = im := ⟨_, rfl⟩
                    rw [hiae] at hia hial
                    rw [hime] at him himl
                    have hia1 : al[ia]? = some al[ia] := List.getElem?_eq_getElem hial
                    have him1 : ml[im]? = some ml[im] := List.getElem?_eq_getElem himl
                    have hAb := HK1.out al[ia] (List.getElem_mem hial)
                    have hMb := HK2.out ml[im] (List.getElem_mem himl)
                    have xav : ∀ W, Low w W → W.cell? ⟨ba, oa + ia, none⟩ = some (.int .i64 al[ia]) := fun W hW => HXA.out W hW ia _ hia1
                    have xmv : ∀ W, Low w W → W.cell? ⟨mb, om + im, none⟩ = some (.string ml[im]) := fun W hW => HXM.out W hW im _ him1
                    generalize al[ia] = AV at *
                    generalize ml[im] = MV at *
                    clear hia1 him1 hiae hime
                    have hcast : (((tm + 1) : Nat) : Int) = (tm : Int) + 1 := by omega
                    rw [hcast] at hia him
                    clear hcast
                    have hiaI : (ia : Int) < al.length := by omega
                    have himI : (im : Int) < ml.length := by omega
                    obtain ⟨F6, hF6, hF6b⟩ := mod_small AV 6 (by decide) (by decide) hAb.1 hAb.2
                    have ca := arm_left (L10.out.below (below_q w10 1 w10.heap.size) (pw :: BW) (fun k hk => ⟨.inl hk, L10.out.lt k hk⟩)) F6 (by omega) (by omega) MV (by unfold maxLen; omega)
                    unfold ptr at ca
                    clear hAb hMb
                    go_wp2_with fail
                    refine wp_region_noPanic ?_
                    refine wp_region_held_drew (S := fun W : World => Low w W) (by kernel_rfl) (show Low w w10 from Low.of HBZ.out) (fun hHeld => ?_)
                    refine wpAnyH_take (i := 0) (v := .pointer (some ⟨w0.heap.size + 2, 0, none⟩)) rfl (by kernel_rfl) (by kernel_rfl) (by kernel_rfl) (fun _ _ _ h => h) (Or.inl ⟨by rfl, fun W hSw => by (try dsimp only at hSw); go_simp⟩) (by assumption) ?_
                    simp only [List.getElem_toArray, List.getElem_cons_zero, List.getElem_cons_succ, Act.put, List.setIfInBounds_toArray, List.set_cons_zero, List.set_cons_succ]
                    refine wpAnyH_take (i := 1) (v := .slice (some ⟨ba, oa, none⟩) al.length ac) rfl (by kernel_rfl) (by kernel_rfl) (by kernel_rfl) (fun _ _ _ h => h) (Or.inl ⟨by rfl, fun W hSw => by (try dsimp only at hSw); go_simp⟩) (by assumption) ?_
                    simp only [List.getElem_toArray, List.getElem_cons_zero, List.getElem_cons_succ, Act.put, List.setIfInBounds_toArray, List.set_cons_zero, List.set_cons_succ]
                    refine wpAnyH_take (i := 2) (v := .int .i64 ((tm : Int) + 1)) rfl (by kernel_rfl) (by kernel_rfl) (by kernel_rfl) (fun _ _ _ h => h) (Or.inl ⟨by rfl, fun W hSw => by (try dsimp only at hSw); go_simp⟩) (by assumption) ?_
                    simp only [List.getElem_toArray, List.getElem_cons_zero, List.getElem_cons_succ, Act.put, List.setIfInBounds_toArray, List.set_cons_zero, List.set_cons_succ]
                    refine wpAnyH_take (i := 3) (v := .slice (some ⟨ba, oa, none⟩) al.length ac) rfl (by kernel_rfl) (by kernel_rfl) (by kernel_rfl) (fun _ _ _ h => h) (Or.inl ⟨by rfl, fun W hSw => by (try dsimp only at hSw); go_simp⟩) (by assumption) ?_
                    simp only [List.getElem_toArray, List.getElem_cons_zero, List.getElem_cons_succ, Act.put, List.setIfInBounds_toArray, List.set_cons_zero, List.set_cons_succ]
                    refine wpAnyH_take (i := 4) (v := .int .i64 al.length) rfl (by kernel_rfl) (by kernel_rfl) (by kernel_rfl) (fun _ _ _ h => h) (Or.inl ⟨by rfl, fun W hSw => by (try dsimp only at hSw); go_simp⟩) (by assumption) ?_
                    simp only [List.getElem_toArray, List.getElem_cons_zero, List.getElem_cons_succ, Act.put, List.setIfInBounds_toArray, List.set_cons_zero, List.set_cons_succ]
                    refine wpAnyH_take (i := 5) (v := .int .i64 ia) rfl (by kernel_rfl) (by kernel_rfl) (by kernel_rfl) (fun _ _ _ h => h) (Or.inl ⟨by rfl, fun W hSw => by (try dsimp only at hSw); go_simp⟩) (by assumption) ?_
                    simp only [List.getElem_toArray, List.getElem_cons_zero, List.getElem_cons_succ, Act.put, List.setIfInBounds_toArray, List.set_cons_zero, List.set_cons_succ]
                    refine wpAnyH_take (i := 6) (v := .pointer (some ⟨ba, oa + ia, none⟩)) rfl (by kernel_rfl) (by kernel_rfl) (by kernel_rfl) (fun _ _ _ h => h) (Or.inl ⟨by rfl, fun W hSw => by (try dsimp only at hSw); go_simp⟩) (by assumption) ?_
                    simp only [List.getElem_toArray, List.getElem_cons_zero, List.getElem_cons_succ, Act.put, List.setIfInBounds_toArray, List.set_cons_zero, List.set_cons_succ]
                    refine wpAnyH_take (i := 7) (v := .int .i64 AV) rfl (by kernel_rfl) (by kernel_rfl) (by kernel_rfl) (fun _ _ _ h => h) (Or.inl ⟨by rfl, fun W hSw => by (try dsimp only at hSw); have z := xav W hSw; go_simp⟩) (by assumption) ?_
                    simp only [List.getElem_toArray, List.getElem_cons_zero, List.getElem_cons_succ, Act.put, List.setIfInBounds_toArray, List.set_cons_zero, List.set_cons_succ]
                    refine wpAnyH_take (i := 8) (v := .int .i64 (AV.tmod 6)) rfl (by kernel_rfl) (by kernel_rfl) (by kernel_rfl) (fun _ _ _ h => h) (Or.inl ⟨by rfl, fun W hSw => by (try dsimp only at hSw); go_simp⟩) (by assumption) ?_
                    simp only [List.getElem_toArray, List.getElem_cons_zero, List.getElem_cons_succ, Act.put, List.setIfInBounds_toArray, List.set_cons_zero, List.set_cons_succ]
                    refine wpAnyH_take (i := 9) (v := .int .i64 (wrap64 (AV.tmod 6 + 6))) rfl (by kernel_rfl) (by kernel_rfl) (by kernel_rfl) (fun _ _ _ h => h) (Or.inl ⟨by rfl, fun W hSw => by (try dsimp only at hSw); go_simp; exact Go.IntWalk.i64_left _⟩) (by assumption) ?_
                    simp only [List.getElem_toArray, List.getElem_cons_zero, List.getElem_cons_succ, Act.put, List.setIfInBounds_toArray, List.set_cons_zero, List.set_cons_succ]
                    refine wpAnyH_take (i := 10) (v := .int .i64 F6) rfl (by kernel_rfl) (by kernel_rfl) (by kernel_rfl) (fun _ _ _ h => h) (Or.inl ⟨by rfl, fun W hSw => by (try dsimp only at hSw); go_simp⟩) (by assumption) ?_
                    simp only [List.getElem_toArray, List.getElem_cons_zero, List.getElem_cons_succ, Act.put, List.setIfInBounds_toArray, List.set_cons_zero, List.set_cons_succ]
                    refine wpAnyH_take (i := 11) (v := .slice (some ⟨mb, om, none⟩) ml.length mc) rfl (by kernel_rfl) (by kernel_rfl) (by kernel_rfl) (fun _ _ _ h => h) (Or.inl ⟨by rfl, fun W hSw => by (try dsimp only at hSw); go_simp⟩) (by assumption) ?_
                    simp only [List.getElem_toArray, List.getElem_cons_zero, List.getElem_cons_succ, Act.put, List.setIfInBounds_toArray, List.set_cons_zero, List.set_cons_succ]
                    refine wpAnyH_take (i := 12) (v := .int .i64 ((tm : Int) + 1)) rfl (by kernel_rfl) (by kernel_rfl) (by kernel_rfl) (fun _ _ _ h => h) (Or.inl ⟨by rfl, fun W hSw => by (try dsimp only at hSw); go_simp⟩) (by assumption) ?_
                    simp only [List.getElem_toArray, List.getElem_cons_zero, List.getElem_cons_succ, Act.put, List.setIfInBounds_toArray, List.set_cons_zero, List.set_cons_succ]
                    refine wpAnyH_take (i := 13) (v := .slice (some ⟨mb, om, none⟩) ml.length mc) rfl (by kernel_rfl) (by kernel_rfl) (by kernel_rfl) (fun _ _ _ h => h) (Or.inl ⟨by rfl, fun W hSw => by (try dsimp only at hSw); go_simp⟩) (by assumption) ?_
                    simp only [List.getElem_toArray, List.getElem_cons_zero, List.getElem_cons_succ, Act.put, List.setIfInBounds_toArray, List.set_cons_zero, List.set_cons_succ]
                    refine wpAnyH_take (i := 14) (v := .int .i64 ml.length) rfl (by kernel_rfl) (by kernel_rfl) (by kernel_rfl) (fun _ _ _ h => h) (Or.inl ⟨by rfl, fun W hSw => by (try dsimp only at hSw); go_simp⟩) (by assumption) ?_
                    simp only [List.getElem_toArray, List.getElem_cons_zero, List.getElem_cons_succ, Act.put, List.setIfInBounds_toArray, List.set_cons_zero, List.set_cons_succ]
                    refine wpAnyH_take (i := 15) (v := .int .i64 im) rfl (by kernel_rfl) (by kernel_rfl) (by kernel_rfl) (fun _ _ _ h => h) (Or.inl ⟨by rfl, fun W hSw => by (try dsimp only at hSw); go_simp⟩) (by assumption) ?_
                    simp only [List.getElem_toArray, List.getElem_cons_zero, List.getElem_cons_succ, Act.put, List.setIfInBounds_toArray, List.set_cons_zero, List.set_cons_succ]
                    refine wpAnyH_take (i := 16) (v := .pointer (some ⟨mb, om + im, none⟩)) rfl (by kernel_rfl) (by kernel_rfl) (by kernel_rfl) (fun _ _ _ h => h) (Or.inl ⟨by rfl, fun W hSw => by (try dsimp only at hSw); go_simp⟩) (by assumption) ?_
                    simp only [List.getElem_toArray, List.getElem_cons_zero, List.getElem_cons_succ, Act.put, List.setIfInBounds_toArray, List.set_cons_zero, List.set_cons_succ]
                    refine wpAnyH_take (i := 17) (v := .string MV) rfl (by kernel_rfl) (by kernel_rfl) (by kernel_rfl) (fun _ _ _ h => h) (Or.inl ⟨by rfl, fun W hSw => by (try dsimp only at hSw); have z := xmv W hSw; go_simp⟩) (by assumption) ?_
                    simp only [List.getElem_toArray, List.getElem_cons_zero, List.getElem_cons_succ, Act.put, List.setIfInBounds_toArray, List.set_cons_zero, List.set_cons_succ]
                    refine wpAnyH_ready (rs := [18]) (by kernel_rfl) (by simp) ?_
                    refine AllReadyH.cons rfl (fun K hK => ?_) AllReadyH.nil
                    go_simp
                    go_wp2_with (go_at_call 19; refine ca.mono ?_; rintro e11 w11 ⟨rfl, k11, l11⟩)
                    have HBZ1 : Hid (Below w.heap.size w w11) := (HBZ.out.trans (below_q w10 1 _)).trans (k11.below HBZ.out.size)
                    refine hK.out _ _ (show Low w w11 from Low.of HBZ1.out) (fun hHeld2 => ?_)
                    clear hK K ca
                    try simp only [List.getElem_toArray, List.getElem_cons_zero, List.getElem_cons_succ, Act.put, List.setIfInBounds_toArray, List.set_cons_zero, List.set_cons_succ]
                    refine wpAnyH_done (by kernel_rfl) ?_ _
                    refine NoPanic.normal ?_
                    have WZ : Hid (LgAt w11 pw BW ⟨RS, dn, 50, NZ⟩) := (W10.out.below (below_q w10 1 w10.heap.size)).keepX k11 List.mem_cons_self (W10.out.opened_lt) (fun k hk => List.mem_cons_of_mem _ hk)
                    have LZ : Hid (LeftV w.heap.size (pw :: BW) w11 (w0.heap.size + 2) 3 50 false true M FR nx' (List.take kk RS)) := l11
                    clear k11 l11 HBZ W10 L10 hHeld hHeld2 xav xmv hF6 hF6b hia him hial himl hiaI himI
                    have HBZ := HBZ1
                    clear HBZ1
                    have co := open_left LZ.out (by omega)
                    unfold ptr ptrW at co
                    go_wp2_with fail
                    refine co.mono ?_
                    rintro e12 w12 ⟨k12, ⟨q12, rv, rfl, _, _, r12, l12⟩ | ⟨_, rfl, l12⟩⟩
                    · obtain ⟨a12, cap12, _, rfl, _⟩ := recs_own r12
                      have con := on_left l12
                      unfold ptr at con
                      have L12 : Hid (LeftV w.heap.size (pw :: BW) w12 (w0.heap.size + 2) 3 50 false true M FR nx' (List.take kk RS)) := l12
                      have W12 : Hid (LgAt w12 pw BW ⟨RS, dn, 50, NZ⟩) := WZ.out.keepX k12 List.mem_cons_self (WZ.out.opened_lt) (fun k hk => List.mem_cons_of_mem _ hk)
                      have B12 : Hid (Below w.heap.size w w12) := HBZ.out.trans (k12.below HBZ.out.size)
                      clear co l12 k12 r12 LZ WZ HBZ
                      go_wp2_with fail
                      refine con.mono ?_
                      rintro e13 w13 ⟨rfl, rfl⟩
                      go_wp2_with fail
                      refine con.mono ?_
                      rintro e13 w13 ⟨rfl, rfl⟩
                      clear con
                      go_wp2_with fail
                      refine ⟨?_, ?_⟩
                      · exact ⟨i + 1, tm + 1, false, true, by omega, by go_num, by go_num, by have := HTM.out; omega, (fun h => by cases h), L12, W12, B12⟩
                      · simp [RowKit.intOf]; omega
                    · have con := on_left l12
                      unfold ptr at con
                      have L12 : Hid (LeftV w.heap.size (pw :: BW) w12 (w0.heap.size + 2) 3 50 true false M FR nx' (List.take kk RS)) := l12
                      have W12 : Hid (LgAt w12 pw BW ⟨RS, dn, 50, NZ⟩) := WZ.out.keepX k12 List.mem_cons_self (WZ.out.opened_lt) (fun k hk => List.mem_cons_of_mem _ hk)
                      have B12 : Hid (Below w.heap.size w w12) := HBZ.out.trans (k12.below HBZ.out.size)
                      clear co l12 k12 LZ WZ HBZ
                      go_wp2_with fail
                      refine con.mono ?_
                      rintro e13 w13 ⟨rfl, rfl⟩
                      go_wp2_with fail
                      refine con.mono ?_
                      rintro e13 w13 ⟨rfl, rfl⟩
                      clear con
                      go_wp2_with fail
                      refine ⟨?_, ?_⟩
                      · exact ⟨i + 1, tm + 1, true, false, by omega, by go_num, by go_num, by have := HTM.out; omega, (fun _ => rfl), L12, W12, B12⟩
                      · simp [RowKit.intOf]; omega
                  · as_aux_lemma =>
                    have h8I : ¬ (tm : Int) + 1 < 8 := by omega
                    have LZ := L10
                    have WZ := W10
                    clear L10 W10
                    have co := open_left LZ.out (by omega)
                    unfold ptr ptrW at co
                    go_wp2_with fail
                    refine co.mono ?_
                    rintro e12 w12 ⟨k12, ⟨q12, rv, rfl, _, _, r12, l12⟩ | ⟨_, rfl, l12⟩⟩
                    · obtain ⟨a12, cap12, _, rfl, _⟩ := recs_own r12
                      have con := on_left l12
                      unfold ptr at con
                      have L12 : Hid (LeftV w.heap.size (pw :: BW) w12 (w0.heap.size + 2) 3 50 false arm2 M FR nx' (List.take kk RS)) := l12
                      have W12 : Hid (LgAt w12 pw BW ⟨RS, dn, 50, NZ⟩) := WZ.out.keepX k12 List.mem_cons_self (WZ.out.opened_lt) (fun k hk => List.mem_cons_of_mem _ hk)
                      have B12 : Hid (Below w.heap.size w w12) := HBZ.out.trans (k12.below HBZ.out.size)
                      clear co l12 k12 r12 LZ WZ HBZ
                      go_wp2_with fail
                      refine con.mono ?_
                      rintro e13 w13 ⟨rfl, rfl⟩
                      go_wp2_with fail
                      refine con.mono ?_
                      rintro e13 w13 ⟨rfl, rfl⟩
                      clear con
                      go_wp2_with fail
                      refine ⟨?_, ?_⟩
                      · exact ⟨i + 1, tm + 1, false, arm2, by omega, by go_num, by go_num, by have := HTM.out; omega, (fun h => by cases h), L12, W12, B12⟩
                      · simp [RowKit.intOf]; omega
                    · have con := on_left l12
                      unfold ptr at con
                      have L12 : Hid (LeftV w.heap.size (pw :: BW) w12 (w0.heap.size + 2) 3 50 true false M FR nx' (List.take kk RS)) := l12
                      have W12 : Hid (LgAt w12 pw BW ⟨RS, dn, 50, NZ⟩) := WZ.out.keepX k12 List.mem_cons_self (WZ.out.opened_lt) (fun k hk => List.mem_cons_of_mem _ hk)
                      have B12 : Hid (Below w.heap.size w w12) := HBZ.out.trans (k12.below HBZ.out.size)
                      clear co l12 k12 LZ WZ HBZ
                      go_wp2_with fail
                      refine con.mono ?_
                      rintro e13 w13 ⟨rfl, rfl⟩
                      go_wp2_with fail
                      refine con.mono ?_
                      rintro e13 w13 ⟨rfl, rfl⟩
                      clear con
                      go_wp2_with fail
                      refine ⟨?_, ?_⟩
                      · exact ⟨i + 1, tm + 1, true, false, by omega, by go_num, by go_num, by have := HTM.out; omega, (fun _ => rfl), L12, W12, B12⟩
                      · simp [RowKit.intOf]; omega
                · as_aux_lemma =>
                  have hi3I : ¬ (i : Int) < 3 := by omega
                  obtain rfl : i = 3 := by omega
                  obtain ⟨him, himl⟩ := mod_at tm ml.length hml0
                  obtain ⟨im, hime⟩ : ∃ im, tm % ml.length = im := ⟨_, rfl⟩
                  rw [hime] at him himl
                  have him1 : ml[im]? = some ml[im] := List.getElem?_eq_getElem himl
                  have hMb := HK2.out ml[im] (List.getElem_mem himl)
                  have xmv : wv.cell? ⟨mb, om + im, none⟩ = some (.string ml[im]) := HXM.out wv (Low.of HBV.out) im _ him1
                  generalize ml[im] = MV at *
                  have himI : (im : Int) < ml.length := by omega
                  have cc := cut_left_any HLV.out hoa MV (by unfold maxLen; omega)
                  unfold ptr at cc
                  clear him1 hime hMb
                  go_wp2_with fail
                  refine cc.mono ?_
                  rintro e13 w13 ⟨rfl, k13, l13⟩
                  clear cc xmv him himl himI hoa
                  have W13 : Hid (LgAt w13 pw BW ⟨RS, dn, 50, NZ⟩) := HWV.out.keepX k13 List.mem_cons_self (HWV.out.opened_lt) (fun k hk => List.mem_cons_of_mem _ hk)
                  have B13 : Hid (Below w.heap.size w w13) := HBV.out.trans (k13.below HBV.out.size)
                  have cp := power_v l13
                  unfold ptr at cp
                  clear k13 l13 HLV HWV HBV
                  go_wp2_with fail
                  refine cp.mono ?_
                  rintro e14 w14 ⟨rfl, k14, l14⟩
                  clear cp
                  have W14 : Hid (LgAt w14 pw BW ⟨RS, dn, 50, NZ⟩) := W13.out.keepX k14 List.mem_cons_self (W13.out.opened_lt) (fun k hk => List.mem_cons_of_mem _ hk)
                  have B14 : Hid (Below w.heap.size w w14) := B13.out.trans (k14.below B13.out.size)
                  obtain ⟨hfrom, hnxM⟩ := l14.parts
                  have hXlt := l14.lt
                  have co := open_left l14 (by omega)
                  unfold ptr ptrW at co
                  clear k14 l14 W13 B13
                  go_wp2_with fail
                  refine co.mono ?_
                  rintro e15 w15 ⟨k15, ⟨q15, rv, rfl, hq15, l15, r15, _⟩ | ⟨ha, _⟩⟩
                  case inr => cases ha
                  clear co
                  have hW15 := W14.out.keepX k15 List.mem_cons_self (W14.out.opened_lt) (fun k hk => List.mem_cons_of_mem _ hk)
                  have B15 : Hid (Below w.heap.size w w15) := B14.out.trans (k15.below B14.out.size)
                  have s15 := k15.size
                  have hB14 := B14.out.size
                  obtain ⟨a15, cap15, S15, rfl, z1, z2, z3, z4⟩ := recs_own r15
                  have hlk : (List.take kk RS).length = kk := by rw [List.length_take]; omega
                  rw [hlk] at z1 z3 ⊢
                  have cb := begins_eq hW15 HOKW.out hkk1 hkkR z1 z2 z3 (fun k hk hm2 => by have := (z4 k hk).1; have := hXlt k (List.mem_cons_of_mem _ hm2); omega)
                  unfold ptrW at cb
                  have hpw14 := hXlt pw List.mem_cons_self
                  have HL15 : Hid (LogV w.heap.size (pw :: BW) w15 q15 (w0.heap.size + 2) 3 50 false nx' kk (List.take kk RS)) := by rw [hlk] at l15; exact l15
                  have HZ4 : Hid (∀ k ∈ S15, w14.heap.size ≤ k ∧ k < w15.heap.size ∧ ∃ cur, w15.heap[k]? = some (.cells cur 9 (0, 0))) := z4
                  have HW15 : Hid (LgAt w15 pw BW ⟨RS, dn, 50, NZ⟩) := hW15
                  have HXLT : Hid (∀ k ∈ pw :: BW, k < w14.heap.size) := hXlt
                  unfold maxLen at z2
                  clear r15 z3 l15 k15 hW15 z4 W14 B14 hXlt
                  go_wp2_with fail
                  refine cb.mono ?_
                  rintro e16 w16 ⟨rfl, hS16⟩
                  clear cb
                  have s16 := hS16.size
                  have hl16 : LogV w.heap.size (pw :: BW) w16 q15 (w0.heap.size + 2) 3 50 false nx' kk (List.take kk RS) := HL15.out.others hS16 (fun k hk => by obtain ⟨_, _, cur, z⟩ := HZ4.out k hk; exact ⟨cur, 9, _, z, by decide, by decide, by decide, by decide, by decide⟩)
                  have hw16 : LgAt w16 pw BW ⟨RS, dn, 50, NZ⟩ := HW15.out.keep hS16.size (hS16.block _ (by omega) (fun hm2 => by have := (HZ4.out _ hm2).1; omega)) (fun k hk hl => hS16.block k hl (fun hm2 => by have := (HZ4.out k hm2).1; have := HXLT.out k (List.mem_cons_of_mem _ hk); omega))
                  have B16 : Hid (Below w.heap.size w w16) := hS16.belowOf B15.out (by omega) (fun k hk => by have := (HZ4.out k hk).1; omega)
                  have cf := from_v hl16
                  rw [hfrom] at cf
                  unfold ptrW at cf
                  have hap16 := hw16.apart
                  obtain ⟨v16, hrow16, hrd16⟩ := hw16.body
                  have HRD : Hid (RdR BW w16 v16 RS) := hrd16
                  obtain ⟨ra, rc, hv16, hc1, hc2, hc3, _⟩ := hrd16
                  subst hv16
                  have hc1 : (RS).length ≤ rc := hc1
                  unfold maxLen at hc2
                  have x0 : w16.cell? ⟨pw, 0, none⟩ = some (.slice ra (RS).length rc) := by rw [cell_of_row _ _ 0 _ _ (0, 0) hrow16]; rfl
                  have g0 := frozen_of_row w16 pw 0 _ _ hrow16
                  have hx17 := heap_setCell_same w16 pw 0 _ _ (.slice ra kk rc) hrow16
                  simp only [List.setIfInBounds_toArray, List.set_cons_zero, List.set_cons_succ] at hx17
                  obtain ⟨w17, hw17⟩ : ∃ w17, w16.setCell ⟨pw, 0, none⟩ (.slice ra kk rc) = w17 := ⟨_, rfl⟩
                  have S17 : Sole [pw] w16 w17 := by rw [← hw17]; exact Sole.setCell _ _ (by simp)
                  rw [hw17] at hx17
                  have x1 : w17.cell? ⟨pw, 1, none⟩ = some (.int .i64 dn) := by rw [cell_of_row _ _ 1 _ _ (0, 0) hx17]; rfl
                  have g1 := frozen_of_row w17 pw 1 _ _ hx17
                  have hx18 := heap_setCell_same w17 pw 1 _ _ (.int .i64 kk) hx17
                  simp only [List.setIfInBounds_toArray, List.set_cons_zero, List.set_cons_succ] at hx18
                  obtain ⟨w18, hw18⟩ : ∃ w18, w17.setCell ⟨pw, 1, none⟩ (.int .i64 kk) = w18 := ⟨_, rfl⟩
                  have S18 : Sole [pw] w17 w18 := by rw [← hw18]; exact Sole.setCell _ _ (by simp)
                  rw [hw18] at hx18
                  have x3 : w18.cell? ⟨pw, 3, none⟩ = some (.int .u64 (NZ : Nat)) := by rw [cell_of_row _ _ 3 _ _ (0, 0) hx18]; rfl
                  have g3 := frozen_of_row w18 pw 3 _ _ hx18
                  have hx19 := heap_setCell_same w18 pw 3 _ _ (.int .u64 nx') hx18
                  simp only [List.setIfInBounds_toArray, List.set_cons_zero, List.set_cons_succ] at hx19
                  obtain ⟨w19, hw19⟩ : ∃ w19, w18.setCell ⟨pw, 3, none⟩ (.int .u64 nx') = w19 := ⟨_, rfl⟩
                  have S19 : Sole [pw] w18 w19 := by rw [← hw19]; exact Sole.setCell _ _ (by simp)
                  rw [hw19] at hx19
                  have hl18 := (hl16.others S17 (ref_type hw16)).others S18 (fun k hk => by simp only [List.mem_singleton] at hk; subst hk; exact ⟨_, _, _, hx17, by decide, by decide, by decide, by decide, by decide⟩)
                  have hl19 := hl18.others S19 (fun k hk => by simp only [List.mem_singleton] at hk; subst hk; exact ⟨_, _, _, hx18, by decide, by decide, by decide, by decide, by decide⟩)
                  have S169 : Sole [pw] w16 w19 := (S17.trans S18).trans S19
                  have cn := next_v hl18
                  unfold ptrW at cn
                  have HBO19 : Hid (Both w.heap.size w19 q15 (w0.heap.size + 2) 3 50 false nx' kk (List.take kk RS) pw BW) := ⟨hl19, ⟨⟨_, hx19, by
                      have h0 := RdR.take HRD.out kk hkkR
                      rw [show (Value.slice ra kk rc) = Value.slice ra kk rc from rfl]
                      exact h0.keep S169.size (fun k hk hl => S169.block k hl (fun e => by simp only [List.mem_singleton] at e; subst e; exact hap16 hk))⟩, hap16⟩, fun r hr => HSHW.out r (List.mem_of_mem_take hr), hpwB, by decide⟩
                  have HB19 : Hid (Below w.heap.size w w19) := S169.belowOf B16.out (by omega) (fun k hk => by simp only [List.mem_singleton] at hk; omega)
                  have hkkI : (kk : Int) ≤ rc := by omega
                  clear hl16 hw16 hrow16 HRD S17 S18 S19 S169 hx17 hx18 hx19 hl18 hl19 hS16 HL15 HZ4 HW15 HXLT B15 B16 hfrom
                  go_wp2_with fail
                  refine cf.mono ?_
                  rintro e17 w17' ⟨rfl, rfl⟩
                  clear cf
                  cases ra with
                  | none =>
                    obtain rfl := hc3 rfl
                    obtain rfl : kk = 0 := by omega
                    have hw18z : w17.setCell ⟨pw, 1, none⟩ (.int .i64 0) = w18 := hw18
                    as_aux_lemma =>
                      go_wp2_with fail
                      (try rw [hw17])
                      (try rw [hw18z])
                      refine cn.mono ?_
                      rintro e18 w18' ⟨rfl, rfl⟩
                      clear cn
                      by_cases h20 : tm < 20
                      · have h20I : (tm : Int) < 20 := by omega
                        obtain ⟨hia, hial⟩ := mod_at (tm) al.length hal0
                        obtain ⟨him, himl⟩ := mod_at (tm) ml.length hml0
                        obtain ⟨ia, hiae⟩ : ∃ ia, (tm) % al.length = ia := ⟨_, rfl⟩
                        obtain ⟨im, hime⟩ : ∃ im, (tm) % ml.length = im := ⟨_, rfl⟩
                        rw [hiae] at hia hial
                        rw [hime] at him himl
                        have hia1 : al[ia]? = some al[ia] := List.getElem?_eq_getElem hial
                        have him1 : ml[im]? = some ml[im] := List.getElem?_eq_getElem himl
                        have hAb := HK1.out al[ia] (List.getElem_mem hial)
                        have hMb := HK2.out ml[im] (List.getElem_mem himl)
                        have xav : ∀ W, Low w W → W.cell? ⟨ba, oa + ia, none⟩ = some (.int .i64 al[ia]) := fun W hW => HXA.out W hW ia _ hia1
                        have xmv : ∀ W, Low w W → W.cell? ⟨mb, om + im, none⟩ = some (.string ml[im]) := fun W hW => HXM.out W hW im _ him1
                        generalize al[ia] = AV at *
                        generalize ml[im] = MV at *
                        clear hia1 him1 hiae hime
                        have hcast : (((tm) : Nat) : Int) = (tm : Int) := by omega
                        rw [hcast] at hia him
                        clear hcast
                        have hiaI : (ia : Int) < al.length := by omega
                        have himI : (im : Int) < ml.length := by omega
                        obtain ⟨F6, hF6, hF6b⟩ := mod_small AV 40 (by decide) (by decide) hAb.1 hAb.2
                        have ca := arm_v ((HBO19.out.below (below_q w19 1 w19.heap.size)).log) F6 (by omega) (by omega) MV (by unfold maxLen; omega)
                        unfold ptr at ca
                        have HBZ := HB19
                        clear hAb hMb
                        go_wp2_with fail
                        (try rw [hw19])
                        refine wp_region_noPanic ?_
                        refine wp_region_held_drew (S := fun W : World => Low w W) (by kernel_rfl) (show Low w w19 from Low.of HBZ.out) (fun hHeld => ?_)
                        refine wpAnyH_take (i := 0) (v := .pointer (some ⟨w0.heap.size + 2, 0, none⟩)) rfl (by kernel_rfl) (by kernel_rfl) (by kernel_rfl) (fun _ _ _ h => h) (Or.inl ⟨by rfl, fun W hSw => by (try dsimp only at hSw); go_simp⟩) (by assumption) ?_
                        simp only [List.getElem_toArray, List.getElem_cons_zero, List.getElem_cons_succ, Act.put, List.setIfInBounds_toArray, List.set_cons_zero, List.set_cons_succ]
                        refine wpAnyH_take (i := 1) (v := .slice (some ⟨ba, oa, none⟩) al.length ac) rfl (by kernel_rfl) (by kernel_rfl) (by kernel_rfl) (fun _ _ _ h => h) (Or.inl ⟨by rfl, fun W hSw => by (try dsimp only at hSw); go_simp⟩) (by assumption) ?_
                        simp only [List.getElem_toArray, List.getElem_cons_zero, List.getElem_cons_succ, Act.put, List.setIfInBounds_toArray, List.set_cons_zero, List.set_cons_succ]
                        refine wpAnyH_take (i := 2) (v := .int .i64 ((tm : Int))) rfl (by kernel_rfl) (by kernel_rfl) (by kernel_rfl) (fun _ _ _ h => h) (Or.inl ⟨by rfl, fun W hSw => by (try dsimp only at hSw); go_simp⟩) (by assumption) ?_
                        simp only [List.getElem_toArray, List.getElem_cons_zero, List.getElem_cons_succ, Act.put, List.setIfInBounds_toArray, List.set_cons_zero, List.set_cons_succ]
                        refine wpAnyH_take (i := 3) (v := .slice (some ⟨ba, oa, none⟩) al.length ac) rfl (by kernel_rfl) (by kernel_rfl) (by kernel_rfl) (fun _ _ _ h => h) (Or.inl ⟨by rfl, fun W hSw => by (try dsimp only at hSw); go_simp⟩) (by assumption) ?_
                        simp only [List.getElem_toArray, List.getElem_cons_zero, List.getElem_cons_succ, Act.put, List.setIfInBounds_toArray, List.set_cons_zero, List.set_cons_succ]
                        refine wpAnyH_take (i := 4) (v := .int .i64 al.length) rfl (by kernel_rfl) (by kernel_rfl) (by kernel_rfl) (fun _ _ _ h => h) (Or.inl ⟨by rfl, fun W hSw => by (try dsimp only at hSw); go_simp⟩) (by assumption) ?_
                        simp only [List.getElem_toArray, List.getElem_cons_zero, List.getElem_cons_succ, Act.put, List.setIfInBounds_toArray, List.set_cons_zero, List.set_cons_succ]
                        refine wpAnyH_take (i := 5) (v := .int .i64 ia) rfl (by kernel_rfl) (by kernel_rfl) (by kernel_rfl) (fun _ _ _ h => h) (Or.inl ⟨by rfl, fun W hSw => by (try dsimp only at hSw); go_simp⟩) (by assumption) ?_
                        simp only [List.getElem_toArray, List.getElem_cons_zero, List.getElem_cons_succ, Act.put, List.setIfInBounds_toArray, List.set_cons_zero, List.set_cons_succ]
                        refine wpAnyH_take (i := 6) (v := .pointer (some ⟨ba, oa + ia, none⟩)) rfl (by kernel_rfl) (by kernel_rfl) (by kernel_rfl) (fun _ _ _ h => h) (Or.inl ⟨by rfl, fun W hSw => by (try dsimp only at hSw); go_simp⟩) (by assumption) ?_
                        simp only [List.getElem_toArray, List.getElem_cons_zero, List.getElem_cons_succ, Act.put, List.setIfInBounds_toArray, List.set_cons_zero, List.set_cons_succ]
                        refine wpAnyH_take (i := 7) (v := .int .i64 AV) rfl (by kernel_rfl) (by kernel_rfl) (by kernel_rfl) (fun _ _ _ h => h) (Or.inl ⟨by rfl, fun W hSw => by (try dsimp only at hSw); have z := xav W hSw; go_simp⟩) (by assumption) ?_
                        simp only [List.getElem_toArray, List.getElem_cons_zero, List.getElem_cons_succ, Act.put, List.setIfInBounds_toArray, List.set_cons_zero, List.set_cons_succ]
                        refine wpAnyH_take (i := 8) (v := .int .i64 (AV.tmod 40)) rfl (by kernel_rfl) (by kernel_rfl) (by kernel_rfl) (fun _ _ _ h => h) (Or.inl ⟨by rfl, fun W hSw => by (try dsimp only at hSw); go_simp⟩) (by assumption) ?_
                        simp only [List.getElem_toArray, List.getElem_cons_zero, List.getElem_cons_succ, Act.put, List.setIfInBounds_toArray, List.set_cons_zero, List.set_cons_succ]
                        refine wpAnyH_take (i := 9) (v := .int .i64 (wrap64 (AV.tmod 40 + 40))) rfl (by kernel_rfl) (by kernel_rfl) (by kernel_rfl) (fun _ _ _ h => h) (Or.inl ⟨by rfl, fun W hSw => by (try dsimp only at hSw); go_simp; exact Go.IntWalk.i64_left _⟩) (by assumption) ?_
                        simp only [List.getElem_toArray, List.getElem_cons_zero, List.getElem_cons_succ, Act.put, List.setIfInBounds_toArray, List.set_cons_zero, List.set_cons_succ]
                        refine wpAnyH_take (i := 10) (v := .int .i64 F6) rfl (by kernel_rfl) (by kernel_rfl) (by kernel_rfl) (fun _ _ _ h => h) (Or.inl ⟨by rfl, fun W hSw => by (try dsimp only at hSw); go_simp⟩) (by assumption) ?_
                        simp only [List.getElem_toArray, List.getElem_cons_zero, List.getElem_cons_succ, Act.put, List.setIfInBounds_toArray, List.set_cons_zero, List.set_cons_succ]
                        refine wpAnyH_take (i := 11) (v := .slice (some ⟨mb, om, none⟩) ml.length mc) rfl (by kernel_rfl) (by kernel_rfl) (by kernel_rfl) (fun _ _ _ h => h) (Or.inl ⟨by rfl, fun W hSw => by (try dsimp only at hSw); go_simp⟩) (by assumption) ?_
                        simp only [List.getElem_toArray, List.getElem_cons_zero, List.getElem_cons_succ, Act.put, List.setIfInBounds_toArray, List.set_cons_zero, List.set_cons_succ]
                        refine wpAnyH_take (i := 12) (v := .int .i64 ((tm : Int))) rfl (by kernel_rfl) (by kernel_rfl) (by kernel_rfl) (fun _ _ _ h => h) (Or.inl ⟨by rfl, fun W hSw => by (try dsimp only at hSw); go_simp⟩) (by assumption) ?_
                        simp only [List.getElem_toArray, List.getElem_cons_zero, List.getElem_cons_succ, Act.put, List.setIfInBounds_toArray, List.set_cons_zero, List.set_cons_succ]
                        refine wpAnyH_take (i := 13) (v := .slice (some ⟨mb, om, none⟩) ml.length mc) rfl (by kernel_rfl) (by kernel_rfl) (by kernel_rfl) (fun _ _ _ h => h) (Or.inl ⟨by rfl, fun W hSw => by (try dsimp only at hSw); go_simp⟩) (by assumption) ?_
                        simp only [List.getElem_toArray, List.getElem_cons_zero, List.getElem_cons_succ, Act.put, List.setIfInBounds_toArray, List.set_cons_zero, List.set_cons_succ]
                        refine wpAnyH_take (i := 14) (v := .int .i64 ml.length) rfl (by kernel_rfl) (by kernel_rfl) (by kernel_rfl) (fun _ _ _ h => h) (Or.inl ⟨by rfl, fun W hSw => by (try dsimp only at hSw); go_simp⟩) (by assumption) ?_
                        simp only [List.getElem_toArray, List.getElem_cons_zero, List.getElem_cons_succ, Act.put, List.setIfInBounds_toArray, List.set_cons_zero, List.set_cons_succ]
                        refine wpAnyH_take (i := 15) (v := .int .i64 im) rfl (by kernel_rfl) (by kernel_rfl) (by kernel_rfl) (fun _ _ _ h => h) (Or.inl ⟨by rfl, fun W hSw => by (try dsimp only at hSw); go_simp⟩) (by assumption) ?_
                        simp only [List.getElem_toArray, List.getElem_cons_zero, List.getElem_cons_succ, Act.put, List.setIfInBounds_toArray, List.set_cons_zero, List.set_cons_succ]
                        refine wpAnyH_take (i := 16) (v := .pointer (some ⟨mb, om + im, none⟩)) rfl (by kernel_rfl) (by kernel_rfl) (by kernel_rfl) (fun _ _ _ h => h) (Or.inl ⟨by rfl, fun W hSw => by (try dsimp only at hSw); go_simp⟩) (by assumption) ?_
                        simp only [List.getElem_toArray, List.getElem_cons_zero, List.getElem_cons_succ, Act.put, List.setIfInBounds_toArray, List.set_cons_zero, List.set_cons_succ]
                        refine wpAnyH_take (i := 17) (v := .string MV) rfl (by kernel_rfl) (by kernel_rfl) (by kernel_rfl) (fun _ _ _ h => h) (Or.inl ⟨by rfl, fun W hSw => by (try dsimp only at hSw); have z := xmv W hSw; go_simp⟩) (by assumption) ?_
                        simp only [List.getElem_toArray, List.getElem_cons_zero, List.getElem_cons_succ, Act.put, List.setIfInBounds_toArray, List.set_cons_zero, List.set_cons_succ]
                        refine wpAnyH_ready (rs := [18]) (by kernel_rfl) (by simp) ?_
                        refine AllReadyH.cons rfl (fun K hK => ?_) AllReadyH.nil
                        go_simp
                        go_wp2_with (go_at_call 19; refine ca.mono ?_; rintro e20 w20 ⟨rfl, k20, l20⟩)
                        have HB20 : Hid (Below w.heap.size w w20) := (HB19.out.trans (below_q w19 1 _)).trans (k20.below HB19.out.size)
                        refine hK.out _ _ (show Low w w20 from Low.of HB20.out) (fun hHeld2 => ?_)
                        clear hK K ca
                        try simp only [List.getElem_toArray, List.getElem_cons_zero, List.getElem_cons_succ, Act.put, List.setIfInBounds_toArray, List.set_cons_zero, List.set_cons_succ]
                        refine wpAnyH_done (by kernel_rfl) ?_ _
                        refine NoPanic.normal ?_
                        have h19 := HBO19.out.below (below_q w19 1 w19.heap.size)
                        have HBO20 : Hid (Both w.heap.size w20 q15 (w0.heap.size + 2) 3 50 true nx' 0 (List.take 0 RS) pw BW) := ⟨l20, h19.ref.keepX k20 List.mem_cons_self h19.ref.opened_lt (fun k hk => List.mem_cons_of_mem _ hk), h19.shorts, h19.lx, h19.n1⟩
                        clear k20 l20 h19 hHeld hHeld2 xav xmv hF6 hF6b hia him hial himl hiaI himI HBZ HBO19
                        go_wp2_with fail
                        refine ⟨?_, ?_⟩
                        · exact ⟨k + 1, q15, pw, nx', 0, tm, List.take 0 RS, BW, true, by omega, by go_num, rfl, rfl, rfl, by have := HTM.out; omega, by omega, HBO20, HB20⟩
                        · simp [RowKit.intOf]; omega
                      · have h20I : ¬ (tm : Int) < 20 := by omega
                        go_wp2_with fail
                        (try rw [hw19])
                        refine ⟨?_, ?_⟩
                        · exact ⟨k + 1, q15, pw, nx', 0, tm, List.take 0 RS, BW, false, by omega, by go_num, rfl, rfl, rfl, by have := HTM.out; omega, by omega, HBO19, HB19⟩
                        · simp [RowKit.intOf]; omega
                  | some ad =>
                    obtain ⟨ab, ao, asp⟩ := ad
                    as_aux_lemma =>
                      go_wp2_with fail
                      (try rw [hw17])
                      (try rw [hw18])
                      refine cn.mono ?_
                      rintro e18 w18' ⟨rfl, rfl⟩
                      clear cn
                      by_cases h20 : tm < 20
                      · have h20I : (tm : Int) < 20 := by omega
                        obtain ⟨hia, hial⟩ := mod_at (tm) al.length hal0
                        obtain ⟨him, himl⟩ := mod_at (tm) ml.length hml0
                        obtain ⟨ia, hiae⟩ : ∃ ia, (tm) % al.length = ia := ⟨_, rfl⟩
                        obtain ⟨im, hime⟩ : ∃ im, (tm) % ml.length = im := ⟨_, rfl⟩
                        rw [hiae] at hia hial
                        rw [hime] at him himl
                        have hia1 : al[ia]? = some al[ia] := List.getElem?_eq_getElem hial
                        have him1 : ml[im]? = some ml[im] := List.getElem?_eq_getElem himl
                        have hAb := HK1.out al[ia] (List.getElem_mem hial)
                        have hMb := HK2.out ml[im] (List.getElem_mem himl)
                        have xav : ∀ W, Low w W → W.cell? ⟨ba, oa + ia, none⟩ = some (.int .i64 al[ia]) := fun W hW => HXA.out W hW ia _ hia1
                        have xmv : ∀ W, Low w W → W.cell? ⟨mb, om + im, none⟩ = some (.string ml[im]) := fun W hW => HXM.out W hW im _ him1
                        generalize al[ia] = AV at *
                        generalize ml[im] = MV at *
                        clear hia1 him1 hiae hime
                        have hcast : (((tm) : Nat) : Int) = (tm : Int) := by omega
                        rw [hcast] at hia him
                        clear hcast
                        have hiaI : (ia : Int) < al.length := by omega
                        have himI : (im : Int) < ml.length := by omega
                        obtain ⟨F6, hF6, hF6b⟩ := mod_small AV 40 (by decide) (by decide) hAb.1 hAb.2
                        have ca := arm_v ((HBO19.out.below (below_q w19 1 w19.heap.size)).log) F6 (by omega) (by omega) MV (by unfold maxLen; omega)
                        unfold ptr at ca
                        have HBZ := HB19
                        clear hAb hMb
                        go_wp2_with fail
                        (try rw [hw19])
                        refine wp_region_noPanic ?_
                        refine wp_region_held_drew (S := fun W : World => Low w W) (by kernel_rfl) (show Low w w19 from Low.of HBZ.out) (fun hHeld => ?_)
                        refine wpAnyH_take (i := 0) (v := .pointer (some ⟨w0.heap.size + 2, 0, none⟩)) rfl (by kernel_rfl) (by kernel_rfl) (by kernel_rfl) (fun _ _ _ h => h) (Or.inl ⟨by rfl, fun W hSw => by (try dsimp only at hSw); go_simp⟩) (by assumption) ?_
                        simp only [List.getElem_toArray, List.getElem_cons_zero, List.getElem_cons_succ, Act.put, List.setIfInBounds_toArray, List.set_cons_zero, List.set_cons_succ]
                        refine wpAnyH_take (i := 1) (v := .slice (some ⟨ba, oa, none⟩) al.length ac) rfl (by kernel_rfl) (by kernel_rfl) (by kernel_rfl) (fun _ _ _ h => h) (Or.inl ⟨by rfl, fun W hSw => by (try dsimp only at hSw); go_simp⟩) (by assumption) ?_
                        simp only [List.getElem_toArray, List.getElem_cons_zero, List.getElem_cons_succ, Act.put, List.setIfInBounds_toArray, List.set_cons_zero, List.set_cons_succ]
                        refine wpAnyH_take (i := 2) (v := .int .i64 ((tm : Int))) rfl (by kernel_rfl) (by kernel_rfl) (by kernel_rfl) (fun _ _ _ h => h) (Or.inl ⟨by rfl, fun W hSw => by (try dsimp only at hSw); go_simp⟩) (by assumption) ?_
                        simp only [List.getElem_toArray, List.getElem_cons_zero, List.getElem_cons_succ, Act.put, List.setIfInBounds_toArray, List.set_cons_zero, List.set_cons_succ]
                        refine wpAnyH_take (i := 3) (v := .slice (some ⟨ba, oa, none⟩) al.length ac) rfl (by kernel_rfl) (by kernel_rfl) (by kernel_rfl) (fun _ _ _ h => h) (Or.inl ⟨by rfl, fun W hSw => by (try dsimp only at hSw); go_simp⟩) (by assumption) ?_
                        simp only [List.getElem_toArray, List.getElem_cons_zero, List.getElem_cons_succ, Act.put, List.setIfInBounds_toArray, List.set_cons_zero, List.set_cons_succ]
                        refine wpAnyH_take (i := 4) (v := .int .i64 al.length) rfl (by kernel_rfl) (by kernel_rfl) (by kernel_rfl) (fun _ _ _ h => h) (Or.inl ⟨by rfl, fun W hSw => by (try dsimp only at hSw); go_simp⟩) (by assumption) ?_
                        simp only [List.getElem_toArray, List.getElem_cons_zero, List.getElem_cons_succ, Act.put, List.setIfInBounds_toArray, List.set_cons_zero, List.set_cons_succ]
                        refine wpAnyH_take (i := 5) (v := .int .i64 ia) rfl (by kernel_rfl) (by kernel_rfl) (by kernel_rfl) (fun _ _ _ h => h) (Or.inl ⟨by rfl, fun W hSw => by (try dsimp only at hSw); go_simp⟩) (by assumption) ?_
                        simp only [List.getElem_toArray, List.getElem_cons_zero, List.getElem_cons_succ, Act.put, List.setIfInBounds_toArray, List.set_cons_zero, List.set_cons_succ]
                        refine wpAnyH_take (i := 6) (v := .pointer (some ⟨ba, oa + ia, none⟩)) rfl (by kernel_rfl) (by kernel_rfl) (by kernel_rfl) (fun _ _ _ h => h) (Or.inl ⟨by rfl, fun W hSw => by (try dsimp only at hSw); go_simp⟩) (by assumption) ?_
                        simp only [List.getElem_toArray, List.getElem_cons_zero, List.getElem_cons_succ, Act.put, List.setIfInBounds_toArray, List.set_cons_zero, List.set_cons_succ]
                        refine wpAnyH_take (i := 7) (v := .int .i64 AV) rfl (by kernel_rfl) (by kernel_rfl) (by kernel_rfl) (fun _ _ _ h => h) (Or.inl ⟨by rfl, fun W hSw => by (try dsimp only at hSw); have z := xav W hSw; go_simp⟩) (by assumption) ?_
                        simp only [List.getElem_toArray, List.getElem_cons_zero, List.getElem_cons_succ, Act.put, List.setIfInBounds_toArray, List.set_cons_zero, List.set_cons_succ]
                        refine wpAnyH_take (i := 8) (v := .int .i64 (AV.tmod 40)) rfl (by kernel_rfl) (by kernel_rfl) (by kernel_rfl) (fun _ _ _ h => h) (Or.inl ⟨by rfl, fun W hSw => by (try dsimp only at hSw); go_simp⟩) (by assumption) ?_
                        simp only [List.getElem_toArray, List.getElem_cons_zero, List.getElem_cons_succ, Act.put, List.setIfInBounds_toArray, List.set_cons_zero, List.set_cons_succ]
                        refine wpAnyH_take (i := 9) (v := .int .i64 (wrap64 (AV.tmod 40 + 40))) rfl (by kernel_rfl) (by kernel_rfl) (by kernel_rfl) (fun _ _ _ h => h) (Or.inl ⟨by rfl, fun W hSw => by (try dsimp only at hSw); go_simp; exact Go.IntWalk.i64_left _⟩) (by assumption) ?_
                        simp only [List.getElem_toArray, List.getElem_cons_zero, List.getElem_cons_succ, Act.put, List.setIfInBounds_toArray, List.set_cons_zero, List.set_cons_succ]
                        refine wpAnyH_take (i := 10) (v := .int .i64 F6) rfl (by kernel_rfl) (by kernel_rfl) (by kernel_rfl) (fun _ _ _ h => h) (Or.inl ⟨by rfl, fun W hSw => by (try dsimp only at hSw); go_simp⟩) (by assumption) ?_
                        simp only [List.getElem_toArray, List.getElem_cons_zero, List.getElem_cons_succ, Act.put, List.setIfInBounds_toArray, List.set_cons_zero, List.set_cons_succ]
                        refine wpAnyH_take (i := 11) (v := .slice (some ⟨mb, om, none⟩) ml.length mc) rfl (by kernel_rfl) (by kernel_rfl) (by kernel_rfl) (fun _ _ _ h => h) (Or.inl ⟨by rfl, fun W hSw => by (try dsimp only at hSw); go_simp⟩) (by assumption) ?_
                        simp only [List.getElem_toArray, List.getElem_cons_zero, List.getElem_cons_succ, Act.put, List.setIfInBounds_toArray, List.set_cons_zero, List.set_cons_succ]
                        refine wpAnyH_take (i := 12) (v := .int .i64 ((tm : Int))) rfl (by kernel_rfl) (by kernel_rfl) (by kernel_rfl) (fun _ _ _ h => h) (Or.inl ⟨by rfl, fun W hSw => by (try dsimp only at hSw); go_simp⟩) (by assumption) ?_
                        simp only [List.getElem_toArray, List.getElem_cons_zero, List.getElem_cons_succ, Act.put, List.setIfInBounds_toArray, List.set_cons_zero, List.set_cons_succ]
                        refine wpAnyH_take (i := 13) (v := .slice (some ⟨mb, om, none⟩) ml.length mc) rfl (by kernel_rfl) (by kernel_rfl) (by kernel_rfl) (fun _ _ _ h => h) (Or.inl ⟨by rfl, fun W hSw => by (try dsimp only at hSw); go_simp⟩) (by assumption) ?_
                        simp only [List.getElem_toArray, List.getElem_cons_zero, List.getElem_cons_succ, Act.put, List.setIfInBounds_toArray, List.set_cons_zero, List.set_cons_succ]
                        refine wpAnyH_take (i := 14) (v := .int .i64 ml.length) rfl (by kernel_rfl) (by kernel_rfl) (by kernel_rfl) (fun _ _ _ h => h) (Or.inl ⟨by rfl, fun W hSw => by (try dsimp only at hSw); go_simp⟩) (by assumption) ?_
                        simp only [List.getElem_toArray, List.getElem_cons_zero, List.getElem_cons_succ, Act.put, List.setIfInBounds_toArray, List.set_cons_zero, List.set_cons_succ]
                        refine wpAnyH_take (i := 15) (v := .int .i64 im) rfl (by kernel_rfl) (by kernel_rfl) (by kernel_rfl) (fun _ _ _ h => h) (Or.inl ⟨by rfl, fun W hSw => by (try dsimp only at hSw); go_simp⟩) (by assumption) ?_
                        simp only [List.getElem_toArray, List.getElem_cons_zero, List.getElem_cons_succ, Act.put, List.setIfInBounds_toArray, List.set_cons_zero, List.set_cons_succ]
                        refine wpAnyH_take (i := 16) (v := .pointer (some ⟨mb, om + im, none⟩)) rfl (by kernel_rfl) (by kernel_rfl) (by kernel_rfl) (fun _ _ _ h => h) (Or.inl ⟨by rfl, fun W hSw => by (try dsimp only at hSw); go_simp⟩) (by assumption) ?_
                        simp only [List.getElem_toArray, List.getElem_cons_zero, List.getElem_cons_succ, Act.put, List.setIfInBounds_toArray, List.set_cons_zero, List.set_cons_succ]
                        refine wpAnyH_take (i := 17) (v := .string MV) rfl (by kernel_rfl) (by kernel_rfl) (by kernel_rfl) (fun _ _ _ h => h) (Or.inl ⟨by rfl, fun W hSw => by (try dsimp only at hSw); have z := xmv W hSw; go_simp⟩) (by assumption) ?_
                        simp only [List.getElem_toArray, List.getElem_cons_zero, List.getElem_cons_succ, Act.put, List.setIfInBounds_toArray, List.set_cons_zero, List.set_cons_succ]
                        refine wpAnyH_ready (rs := [18]) (by kernel_rfl) (by simp) ?_
                        refine AllReadyH.cons rfl (fun K hK => ?_) AllReadyH.nil
                        go_simp
                        go_wp2_with (go_at_call 19; refine ca.mono ?_; rintro e20 w20 ⟨rfl, k20, l20⟩)
                        have HB20 : Hid (Below w.heap.size w w20) := (HB19.out.trans (below_q w19 1 _)).trans (k20.below HB19.out.size)
                        refine hK.out _ _ (show Low w w20 from Low.of HB20.out) (fun hHeld2 => ?_)
                        clear hK K ca
                        try simp only [List.getElem_toArray, List.getElem_cons_zero, List.getElem_cons_succ, Act.put, List.setIfInBounds_toArray, List.set_cons_zero, List.set_cons_succ]
                        refine wpAnyH_done (by kernel_rfl) ?_ _
                        refine NoPanic.normal ?_
                        have h19 := HBO19.out.below (below_q w19 1 w19.heap.size)
                        have HBO20 : Hid (Both w.heap.size w20 q15 (w0.heap.size + 2) 3 50 true nx' kk (List.take kk RS) pw BW) := ⟨l20, h19.ref.keepX k20 List.mem_cons_self h19.ref.opened_lt (fun k hk => List.mem_cons_of_mem _ hk), h19.shorts, h19.lx, h19.n1⟩
                        clear k20 l20 h19 hHeld hHeld2 xav xmv hF6 hF6b hia him hial himl hiaI himI HBZ HBO19
                        go_wp2_with fail
                        refine ⟨?_, ?_⟩
                        · exact ⟨k + 1, q15, pw, nx', kk, tm, List.take kk RS, BW, true, by omega, by go_num, rfl, rfl, rfl, by have := HTM.out; omega, by omega, HBO20, HB20⟩
                        · simp [RowKit.intOf]; omega
                      · have h20I : ¬ (tm : Int) < 20 := by omega
                        go_wp2_with fail
                        (try rw [hw19])
                        refine ⟨?_, ?_⟩
                        · exact ⟨k + 1, q15, pw, nx', kk, tm, List.take kk RS, BW, false, by omega, by go_num, rfl, rfl, rfl, by have := HTM.out; omega, by omega, HBO19, HB19⟩
                        · simp [RowKit.intOf]; omega
    · have hltI : ¬ (k : Int) < len := by omega
      clear HBT
      go_wp2
      go_ret
      exact ⟨rfl, HBR.out⟩

/-! ### The row -/
set_option maxRecDepth 100000 in
theorem lifted (os : Os) (started : os.Started) (H : Type) (enc : TypeId × Value → H) :
    ReturnsInHanded {} Tryz.checked os 5 .any (Rows.walCutsSpec.pre6 enc Tryz.prog Tryz.f5 Rows.walCutsRow.domain false) (Rows.walCutsSpec.post enc Tryz.prog Tryz.f5 false true false false) := by
  refine returnsInHanded_of_change_sized (C := Tryz.checked) own started (by kernel_rfl) Tryz.func5
    (ChangeSpec.witness6 (enc := enc) (C := Tryz.checked) false ⟨#[], #[.slice none 0 0, .slice none 0 0, .slice none 0 0], []⟩ 8 (by kernel_rfl) (by kernel_rfl) (by kernel_rfl) (by kernel_rfl)) ?_
  intro W base args ds gs before hval0 hW hcnd hsz0 _
  have hsz : (DataW.weightsEach Tryz.prog (Tryz.f5.params.toList ++ Rows.walCutsSpec.plain.varTypes Tryz.prog) (ds ++ gs)).all (· ≤ reachBytes) = true := hsz0
  clear hsz0
  have hval : ∀ (j : Nat) t v, Tryz.f5.params[j]? = some t → args[j]? = some v → Value.okWide Tryz.prog W .any base t v := hval0
  have hW' := hW
  obtain ⟨p, q, hA0, hV, rfl, hfz, hnd⟩ := hW
  have hA : DataW.TrodAll enc Tryz.prog W 0 (fun _ => true) true Tryz.f5.params.toList args.toList ds p := hA0
  rw [Tryz.params5] at hA hval hsz
  obtain ⟨v0, vs0, d0, ds0, p0, q0, hargs, rfl, rfl, h0, r0⟩ := trodAll_cons hA
  obtain ⟨v1, vs1, d1, ds1, p1, q1, rfl, rfl, rfl, h1, r1⟩ := trodAll_cons r0
  obtain ⟨v2, vs2, d2, ds2, p2, q2, rfl, rfl, rfl, h2, r2⟩ := trodAll_cons r1
  obtain ⟨rfl, rfl, rfl⟩ := trodAll_nil r2
  obtain rfl : args = #[v0, v1, v2] := by cases args; simp_all
  obtain ⟨rfl, rfl⟩ := trodVars_none hV
  obtain ⟨a0, len0, cap0, rfl⟩ := okWide_slice Tryz.underlying37 (hval 0 37 v0 rfl rfl)
  have k0 := h0
  have lt0 : ∀ x ∈ p0, x.block < W.heap.size := by obtain ⟨m, hm⟩ := k0; exact DataW.trod_lt m _ _ _ hm
  obtain ⟨o0, w0⟩ : ∃ os, WopsAt W a0 len0 cap0 os := by
    obtain ⟨fuel, hf⟩ := h0
    exact wopsAt_of hf (fun n hn => of_decide_eq_true (List.all_eq_true.1 hsz n (DataW.weights_mem_each (j := 0) rfl rfl n hn)))
  obtain ⟨a1, len1, cap1, rfl⟩ := okWide_slice Tryz.underlying49 (hval 1 49 v1 rfl rfl)
  have k1 := h1
  have lt1 : ∀ x ∈ p1, x.block < W.heap.size := by obtain ⟨m, hm⟩ := k1; exact DataW.trod_lt m _ _ _ hm
  obtain ⟨z1, wk1, w1⟩ : ∃ l, IntsOk l ∧ RdI W (.slice a1 len1 cap1) l := by
    obtain ⟨fuel, hf⟩ := h1
    exact ints_of hf
  obtain ⟨a2, len2, cap2, rfl⟩ := okWide_slice Tryz.underlying42 (hval 2 42 v2 rfl rfl)
  have k2 := h2
  have lt2 : ∀ x ∈ p2, x.block < W.heap.size := by obtain ⟨m, hm⟩ := k2; exact DataW.trod_lt m _ _ _ hm
  obtain ⟨z2, b2, wk2, w2, wl2⟩ : ∃ l b, TxsOk l ∧ RdT [b] W (.slice a2 len2 cap2) l ∧ (0 < l.length → b < W.heap.size) := by
    obtain ⟨fuel, hf⟩ := h2
    obtain ⟨l, b, q1, q2, q3, _⟩ := texts_of hf (fun n hn => of_decide_eq_true (List.all_eq_true.1 hsz n (DataW.weights_mem_each (j := 2) rfl rfl n hn)))
    exact ⟨l, b, q1, q2, q3⟩
  clear hA0 hval0
  refine (walk a0 len0 cap0 o0 (.slice a1 len1 cap1) z1 (.slice a2 len2 cap2) z2 b2 W w0 w1 wk1 w2 wk2 wl2).mono fun e W' ⟨he, bel⟩ => ?_
  subst he
  exact ⟨_, rfl, _, _, _, [], _, [], hW', trodAll_mk1 (shut_bool Tryz.underlying4 _), (trodAll_cons_mk (Below.trod laidOut (by kernel_rfl) (of_decide_eq_true (by kernel_rfl)) k0 bel lt0) (trodAll_cons_mk (Below.trod laidOut (by kernel_rfl) (of_decide_eq_true (by kernel_rfl)) k1 bel lt1) (trodAll_cons_mk (Below.trod laidOut (by kernel_rfl) (of_decide_eq_true (by kernel_rfl)) k2 bel lt2) trodAll_mk0))), rfl, bel.frame _, fun h => by cases h⟩

theorem over : Rows.walCutsRow.holds Tryz.pinned (OpenSpec.ofChange Rows.walCutsSpec) :=
  OpenClaim.holds_of_wide 5 Tryz.f5 rfl rfl rfl rfl rfl rfl rfl ⟨rfl, rfl, rfl, rfl, rfl⟩ rfl rfl rfl rfl rfl (by kernel_rfl) Tryz.func5 (by kernel_rfl)
    (of_decide_eq_true (by kernel_rfl)) (by unfold Func.isWrapper; first | (rw [if_pos (by decide +kernel)]; kernel_rfl) | (rw [if_neg (by decide +kernel)]; exact ⟨rfl, rfl⟩))
    (fun os started H enc _ => lifted os started H enc)

end Go.Proofs.YtckcdmkgmbicfaaGreat.walCuts

namespace Go.Proofs.YtckcdmkgmbicfaaGreat
/-- The statement. -/
theorem walCuts_proved : Rows.WalCutsSaid := walCuts.over
#print axioms walCuts_proved
end Go.Proofs.YtckcdmkgmbicfaaGreat
