/- Proved: WalGoes: whatever is done, a log answers, and has, what it must; opened anew it has what was synced, and what was not, too; for every input, without a condition. -/
import Derived.Test.YtmchpckjlmmfmaaGreatMW13
import Derived.Test.YtmchpckjlmmfmaaGreatWOps
import Derived.Deep.RegionHeld3
import Derived.BigQuiet
import Derived.Deep.QuietTactic
import Derived.WalkSmall
import Derived.ProofKit
import Derived.OpenShut
import Derived.ShutString
import Derived.ChangeOld
import Derived.Below
import Derived.Carry
import Derived.SizedLaws
namespace Go.Proofs.YtmchpckjlmmfmaaGreat.walGoes
open Go.ChangeShapes Go.WideShapes Go.ChangeAt Go.RowKit
open Go.ChangeMaps (open_string shut_string)
set_option linter.unusedVariables false
set_option linter.unusedSimpArgs false

theorem own : ownKnob Tryz.prog.godebug = none := by kernel_rfl
theorem laidOut : laidOutB Tryz.prog = true := by kernel_rfl

theorem mod_small (x m : Int) (hm : 0 < m) (hm2 : m ≤ 1000) (h1 : -9223372036854775808 ≤ x) (h2 : x ≤ 9223372036854775807) : ∃ r : Nat, (wrap64 (x.tmod m + m)).tmod m = (r : Int) ∧ (r : Int) < m := by
  obtain ⟨y, hy⟩ : ∃ y, x.tmod m = y := ⟨_, rfl⟩
  have hy1 : y < m := by rw [← hy]; exact Int.tmod_lt_of_pos _ hm
  have hy2 : -m < y := by rw [← hy]; have := Int.lt_tmod_of_pos x hm; omega
  have e1 : wrap64 (y + m) = y + m := by unfold wrap64; omega
  rw [hy, e1]
  have h3 : 0 ≤ (y + m).tmod m := Int.tmod_nonneg _ (by omega)
  have h4 : (y + m).tmod m < m := Int.tmod_lt_of_pos _ hm
  exact ⟨((y + m).tmod m).toNat, by omega, by omega⟩

set_option maxRecDepth 100000 in
set_option maxHeartbeats 8000000 in
theorem walk (first count : Int) (a : Option Addr) (len cap : Nat) (os : List WopV) (w : World) (hf : (Lit.int .i64 first).wf = true) (hc : (Lit.int .i64 count).wf = true) (ho : WopsAt w a len cap os) :
    Calls Tryz.prog 4 #[.int .i64 first, .int .i64 count, .slice a len cap] w fun e w' => e = .returned (.bool true) ∧ Below w.heap.size w w' := by
  obtain ⟨hf0, hf1⟩ := bounds_i64 hf
  obtain ⟨hc0, hc1⟩ := bounds_i64 hc
  clear hf hc
  have hlc := ho.2.1
  have hcm := ho.2.2.1
  unfold maxLen at hcm
  have HO : Hid (WopsAt w a len cap os) := ho
  clear ho
  obtain ⟨F, hF, hF20⟩ := mod_small first 20 (by decide) (by decide) hf0 hf1
  obtain ⟨C, hC, hC60⟩ := mod_small count 60 (by decide) (by decide) hc0 hc1
  obtain ⟨N, hN⟩ : ∃ N, 4 + C = N := ⟨_, rfl⟩
  have hwN : wrap64 (4 + (C : Int)) = (N : Int) := by rw [← hN]; unfold wrap64; omega
  have HF : Hid _ := hF
  have HC : Hid _ := hC
  have HN : Hid _ := hwN
  have hN4 : 4 ≤ N := by omega
  have hN63 : N ≤ 63 := by omega
  have cl := live_any w
  clear hF hC hwN hN hf0 hf1 hc0 hc1 hC60
  go_enter Tryz.func4, Tryz.ntmps4
  go_wp2_with fail
  refine cl.mono ?_
  rintro e0 w0 ⟨rfl, b0⟩
  clear cl
  have s0 := b0.size
  have c1 := disk_New w0 100 (by decide) (by decide)
  unfold ptr at c1
  go_wp2_with fail
  (try rw [HF.out])
  (try rw [HC.out])
  (try rw [HN.out])
  refine c1.mono ?_
  rintro f1 w1 ⟨rfl, d1, b1, s1⟩
  clear c1
  have c2 := make_v (B := w.heap.size) (X := []) d1 rfl rfl F N (by omega) hN4 (by omega) (by show (F : Int) + N ≤ 100; omega) (by omega) (by omega) (by omega) (by omega) (fun k hk => by cases hk)
  unfold ptr ptrW at c2
  go_wp2_with fail
  refine c2.mono ?_
  rintro f2 w2 ⟨k2, q, rfl, q2, l2⟩
  clear c2
  have hB2 : Below w.heap.size w w2 := (b0.trans (b1.mono s0)).trans (k2.below (by omega))
  have s2 := k2.size
  obtain ⟨w3, hw3⟩ : ∃ w3, w2.alloc (.cells #[.slice none 0 0, .int .i64 0, .int .i64 N, .int .u64 0] 41) = w3 := ⟨_, rfl⟩
  have hb3 : Below w2.heap.size w2 w3 := by rw [← hw3]; exact (Below.refl _ w2).alloc (Nat.le_refl _) _
  have hr3 : w3.heap[w2.heap.size]? = some (.cells #[.slice none 0 0, .int .i64 0, .int .i64 N, .int .u64 0] 41 (0, 0)) := by rw [← hw3]; exact heap_alloc_new w2 _
  have s3 := hb3.size
  have s3' : w2.heap.size < w3.heap.size := (Array.getElem?_eq_some_iff.1 hr3).1
  have HB3 : Hid (Below w.heap.size w w3) := hB2.trans (hb3.mono (by omega))
  have HBO3 : Hid (Both w.heap.size w3 q (w0.heap.size + 2) F N false 0 0 [] w2.heap.size []) := ⟨l2.below hb3 _ (fun k hk => by simp only [List.mem_singleton] at hk; subst hk; exact ⟨.inr (Nat.le_refl _), s3'⟩), ⟨⟨_, hr3, none, 0, rfl, Nat.le_refl _, Nat.zero_le _, (fun _ => rfl), fun h => by cases h⟩, by simp⟩, (fun r hr => by cases hr), by omega, by omega⟩
  clear d1 b0 b1 k2 l2 hB2 hb3 hr3
  by_cases hmany : 100 < len
  · have hmI : (100 : Int) < len := by omega
    go_wp2
    (try rw [hw3])
    go_ret
    exact ⟨rfl, HB3.out⟩
  have hmI : ¬ (100 : Int) < len := by omega
  have hl100 : len ≤ 100 := by omega
  clear hmany
  go_wp2_with fail
  (try rw [hw3])
  clear hw3
  go_loopw [10, 66] (fun s10 t wr => ∃ (k q nx dn : Nat) (rs : List Rc) (BX : List Nat), k ≤ len ∧ t = .int .i64 k ∧ s10 = .pointer (some ⟨q, 0, none⟩) ∧ nx ≤ 9 * k ∧ Hid (Both w.heap.size wr q (w0.heap.size + 2) F N false nx dn rs w2.heap.size BX) ∧ Hid (Below w.heap.size w wr)) (fun _ t _ => len - (RowKit.intOf t).toNat)
  case atStart => exact ⟨0, q, 0, 0, [], [], Nat.zero_le _, rfl, rfl, Nat.zero_le _, HBO3, HB3⟩
  case round =>
    clear HBO3 HB3
    obtain ⟨k, q, nx, dn, rs, BX, hk, rfl, rfl, hnx, HBT, HBR⟩ := hrel
    by_cases hlt : k < len
    · have hltI : (k : Int) < len := by omega
      obtain ⟨b, off, o, Bo, rfl, hoo, hoa, hor, hob, _⟩ := wop_at HO.out HBR.out k hlt
      have y0 := hoa.c0
      have y1 := hoa.c1
      have y2 := hoa.c2
      have y3 := hoa.c3
      have HOO : Hid (WopOk o) := hoo
      have HOR : Hid (RdT Bo wr o.v3 o.f3) := hor
      have HBO : Hid (∀ j ∈ Bo, j < w.heap.size) := hob
      clear hoo hoa hor hob
      obtain ⟨f0, f1, f2, v3, f3, b3⟩ := o
      dsimp only at *
      obtain ⟨va, vc, hv3, _⟩ := id HOR.out
      subst hv3
      have hszr := HBR.out.size
      obtain ⟨wq, hwq⟩ : ∃ wq, wr.alloc (.cells #[.int .i64 f0, .int .i64 f1, .int .i64 f2, .slice va f3.length vc] 44) = wq := ⟨_, rfl⟩
      have hbq : Below wr.heap.size wr wq := by rw [← hwq]; exact (Below.refl _ wr).alloc (Nat.le_refl _) _
      have hrow : wq.heap[wr.heap.size]? = some (.cells #[.int .i64 f0, .int .i64 f1, .int .i64 f2, .slice va f3.length vc] 44 (0, 0)) := by rw [← hwq]; exact heap_alloc_new wr _
      have sq : wr.heap.size < wq.heap.size := (Array.getElem?_eq_some_iff.1 hrow).1
      have HQ : Hid (Both w.heap.size wq q (w0.heap.size + 2) F N false nx dn rs w2.heap.size (BX ++ [wr.heap.size])) := HBT.out.hold hbq wr.heap.size (Nat.le_refl _) sq
      have HROW : Hid _ := hrow
      have HRQ : Hid (RdT Bo wq (.slice va f3.length vc) f3) := HOR.out.below hbq
      have HBQ : Hid (Below w.heap.size w wq) := HBR.out.trans (hbq.mono hszr)
      have q0 : wq.cell? ⟨wr.heap.size, 0, none⟩ = some (.int .i64 f0) := by rw [cell_of_row _ _ 0 _ _ (0, 0) hrow]; rfl
      clear hrow hbq HOR HBT
      by_cases h3 : f0 = 3
      · subst h3
        have hXx : w2.heap.size ∈ w2.heap.size :: (BX ++ [wr.heap.size]) := List.mem_cons_self
        obtain ⟨m1, m2, m3⟩ := HQ.out.lt
        have hs := sync_one HQ.out.log
        unfold ptrW at hs
        go_wp2_with fail
        (try rw [hwq])
        refine hs.mono ?_
        rintro e4 w4 ⟨rfl, k4, l4⟩
        clear hs hwq
        have s4 := k4.size
        have href4 : LgAt w4 w2.heap.size (BX ++ [wr.heap.size]) ⟨rs, dn, N, nx⟩ := HQ.out.ref.keepX k4 hXx (by omega) (fun k hk => List.mem_cons_of_mem _ hk)
        have ROW4 : Hid (w4.heap[wr.heap.size]? = some (.cells #[.int .i64 3, .int .i64 f1, .int .i64 f2, .slice va f3.length vc] 44 (0, 0))) := (k4.block _ sq (.inr (List.mem_cons_of_mem _ (List.mem_append_right _ (by simp))))).trans HROW.out
        have HR4 : Hid (RdT Bo w4 (.slice va f3.length vc) f3) := HRQ.out.keep k4.size (fun k hk hl => k4.block k hl (.inl (HBO.out k hk)))
        have HBW4 : Hid (Below w.heap.size w w4) := HBQ.out.trans (k4.below (by omega))
        have hap := href4.apart
        obtain ⟨v, hrx, hrd⟩ := href4.body
        have HRD : Hid (RdR (BX ++ [wr.heap.size]) w4 v rs) := hrd
        obtain ⟨ra, rc, hv, _⟩ := hrd
        subst hv
        have x0 : w4.cell? ⟨w2.heap.size, 0, none⟩ = some (.slice ra rs.length rc) := by rw [cell_of_row _ _ 0 _ _ (0, 0) hrx]; rfl
        have x1 : w4.cell? ⟨w2.heap.size, 1, none⟩ = some (.int .i64 dn) := by rw [cell_of_row _ _ 1 _ _ (0, 0) hrx]; rfl
        have fz := frozen_of_row w4 w2.heap.size 1 _ _ hrx
        have hx5 := heap_setCell_same w4 w2.heap.size 1 _ _ (.int .i64 rs.length) hrx
        obtain ⟨w5, hw5⟩ : ∃ w5, w4.setCell ⟨w2.heap.size, 1, none⟩ (.int .i64 rs.length) = w5 := ⟨_, rfl⟩
        have hS5 : Sole [w2.heap.size] w4 w5 := by rw [← hw5]; exact Sole.setCell _ _ (by simp)
        rw [hw5] at hx5
        have s5 := hS5.size
        have hn5 : ∀ k ∈ BX ++ [wr.heap.size], k ∉ [w2.heap.size] := fun k hk e => by simp only [List.mem_singleton] at e; subst e; exact hap hk
        have href5 : LgAt w5 w2.heap.size (BX ++ [wr.heap.size]) ⟨rs, rs.length, N, nx⟩ := ⟨⟨_, hx5, HRD.out.keep hS5.size (fun k hk hl => hS5.block k hl (hn5 k hk))⟩, hap⟩
        have l5 := l4.others hS5 (ref_type href4)
        have ROW5 : Hid (w5.heap[wr.heap.size]? = some (.cells #[.int .i64 3, .int .i64 f1, .int .i64 f2, .slice va f3.length vc] 44 (0, 0))) := (hS5.block _ (by omega) (hn5 _ (List.mem_append_right _ (by simp)))).trans ROW4.out
        have HR5 : Hid (RdT Bo w5 (.slice va f3.length vc) f3) := HR4.out.keep hS5.size (fun k hk hl => hS5.block k hl (fun e => by simp only [List.mem_singleton] at e; have := HBO.out k hk; omega))
        have HBW5 : Hid (Below w.heap.size w w5) := hS5.belowOf HBW4.out (by omega) (fun k hk => by simp only [List.mem_singleton] at hk; omega)
        have cf := from_any href5
        rw [from_both] at cf
        have co := open_v l5 (by omega)
        have HREF5 : Hid _ := href5
        obtain ⟨FR0, hFR0⟩ : ∃ FR0, fromR nx rs = FR0 := ⟨_, rfl⟩
        rw [hFR0] at cf co
        unfold ptrW at cf co
        unfold ptr at co
        clear l4 l5 href4 href5 hrx hx5 hS5 HRD ROW4 HR4 HBW4 k4 hFR0
        go_wp2_with fail
        (try rw [hw5])
        refine cf.mono ?_
        rintro e5 w5' ⟨rfl, rfl⟩
        clear cf hw5 x0 x1 fz
        go_wp2_with fail
        refine co.mono ?_
        rintro e6 w6 ⟨k6, _, q6, rv, rfl, hq6, l6, r6⟩
        clear co
        have s6 := k6.size
        obtain ⟨a6, cap6, S6, rfl, z1, z2, z3, z4⟩ := recs_own r6
        have href6 := HREF5.out.keepX k6 hXx (by omega) (fun k hk => List.mem_cons_of_mem _ hk)
        obtain ⟨ra6, rc6, u0, _, _, _, _, _, _, _, hrd6, _⟩ := href6.opened
        have u0 : w6.cell? ⟨w2.heap.size, 0, none⟩ = some (.slice ra6 rs.length rc6) := u0
        have hSB : ∀ k ∈ S6, k ∉ BX ++ [wr.heap.size] := fun k hk hm => by have := (z4 k hk).1; have := m3 k hm; omega
        have ck := known_eq z1 z2 z3 hrd6 hSB
        have ROW6 : Hid (w6.heap[wr.heap.size]? = some (.cells #[.int .i64 3, .int .i64 f1, .int .i64 f2, .slice va f3.length vc] 44 (0, 0))) := (k6.block _ (by omega) (.inr (List.mem_cons_of_mem _ (List.mem_append_right _ (by simp))))).trans ROW5.out
        have HR6 : Hid (RdT Bo w6 (.slice va f3.length vc) f3) := HR5.out.keep k6.size (fun k hk hl => k6.block k hl (.inl (HBO.out k hk)))
        have HBW6 : Hid (Below w.heap.size w w6) := HBW5.out.trans (k6.below (by omega))
        have HREF6 : Hid _ := href6
        have HZ4 : Hid _ := z4
        have HL6 : Hid (LogV w.heap.size (w2.heap.size :: (BX ++ [wr.heap.size])) w6 q6 (w0.heap.size + 2) F N false nx rs.length rs) := l6
        have HSB : Hid _ := hSB
        clear r6 z3 z4 hrd6 href6 l6 k6 ROW5 HR5 HBW5 HREF5 hSB
        go_wp2_with fail
        refine ck.mono ?_
        rintro e7 w7 ⟨rfl, hS7⟩
        clear ck u0
        have s7 := hS7.size
        have HB7 : Hid (Both w.heap.size w7 q6 (w0.heap.size + 2) F N false nx rs.length rs w2.heap.size (BX ++ [wr.heap.size])) := ⟨HL6.out.others hS7 (fun k hk => by obtain ⟨_, _, cur, z⟩ := HZ4.out k hk; exact ⟨cur, 9, _, z, by decide, by decide, by decide, by decide, by decide⟩), HREF6.out.keep hS7.size (hS7.block _ (by omega) (fun hm => by have := (HZ4.out _ hm).1; omega)) (fun k hk hl => hS7.block k hl (fun hm => HSB.out k hm hk)), HQ.out.shorts, HQ.out.lx, HQ.out.n1⟩
        have ROW7 : Hid (w7.heap[wr.heap.size]? = some (.cells #[.int .i64 3, .int .i64 f1, .int .i64 f2, .slice va f3.length vc] 44 (0, 0))) := (hS7.block _ (by omega) (fun hm => by have := (HZ4.out _ hm).1; omega)).trans ROW6.out
        have HR7 : Hid (RdT Bo w7 (.slice va f3.length vc) f3) := HR6.out.keep hS7.size (fun k hk hl => hS7.block k hl (fun hm => by have := (HZ4.out k hm).1; have := HBO.out k hk; omega))
        have HBW7 : Hid (Below w.heap.size w w7) := hS7.belowOf HBW6.out (by omega) (fun k hk => by have := (HZ4.out k hk).1; omega)
        clear hS7 HZ4 HL6 HSB HREF6 ROW6 HR6 HBW6 HQ HRQ HROW HBQ q0
        have hbX := below_q w7 1 w7.heap.size
        have hS0 : ∀ W : World, W.heap[wr.heap.size]? = some (.cells #[.int .i64 3, .int .i64 f1, .int .i64 f2, .slice va f3.length vc] 44 (0, 0)) → W.cell? ⟨wr.heap.size, 0, none⟩ = some (.int .i64 3) ∧ W.cell? ⟨wr.heap.size, 1, none⟩ = some (.int .i64 f1) ∧ W.cell? ⟨wr.heap.size, 2, none⟩ = some (.int .i64 f2) ∧ W.cell? ⟨wr.heap.size, 3, none⟩ = some (.slice va f3.length vc) := fun W hW => ⟨by rw [cell_of_row _ _ 0 _ _ (0, 0) hW]; rfl, by rw [cell_of_row _ _ 1 _ _ (0, 0) hW]; rfl, by rw [cell_of_row _ _ 2 _ _ (0, 0) hW]; rfl, by rw [cell_of_row _ _ 3 _ _ (0, 0) hW]; rfl⟩
        have cs := step_any (HB7.out.below hbX) (by omega) ⟨3, f1, f2, .slice va f3.length vc, f3, b3⟩ HOO.out Bo (HR7.out.below hbX) HBO.out
        unfold opC at cs
        dsimp only at cs
        have HOB : Hid (wr.heap.size ∈ BX ++ [wr.heap.size]) := List.mem_append_right _ (by simp)
        unfold ptrW at cs
        go_wp2_with fail
        refine wp_region_noPanic ?_
        refine wp_region_held_drew (S := fun W : World => W.heap[wr.heap.size]? = some (.cells #[.int .i64 3, .int .i64 f1, .int .i64 f2, .slice va f3.length vc] 44 (0, 0))) (by kernel_rfl) ROW7.out (fun hHeld => ?_)
        refine wpAnyH_take (i := 0) (v := .pointer (some ⟨q6, 0, none⟩)) rfl (by kernel_rfl) (by kernel_rfl) (by kernel_rfl) (fun _ _ _ h => h) (Or.inl ⟨by rfl, fun W hSw => by (try dsimp only at hSw); go_simp⟩) (by assumption) ?_
        simp only [List.getElem_toArray, List.getElem_cons_zero, List.getElem_cons_succ, Act.put, List.setIfInBounds_toArray, List.set_cons_zero, List.set_cons_succ]
        refine wpAnyH_take (i := 1) (v := .pointer (some ⟨w2.heap.size, 0, none⟩)) rfl (by kernel_rfl) (by kernel_rfl) (by kernel_rfl) (fun _ _ _ h => h) (Or.inl ⟨by rfl, fun W hSw => by (try dsimp only at hSw); go_simp⟩) (by assumption) ?_
        simp only [List.getElem_toArray, List.getElem_cons_zero, List.getElem_cons_succ, Act.put, List.setIfInBounds_toArray, List.set_cons_zero, List.set_cons_succ]
        refine wpAnyH_take (i := 2) (v := .agg #[.int .i64 3, .int .i64 f1, .int .i64 f2, .slice va f3.length vc]) rfl (by kernel_rfl) (by kernel_rfl) (by kernel_rfl) (fun _ _ _ h => h) (Or.inl ⟨by rfl, fun W hSw => by (try dsimp only at hSw); obtain ⟨y0, y1, y2, y3⟩ := hS0 W hSw; go_simp⟩) (by assumption) ?_
        simp only [List.getElem_toArray, List.getElem_cons_zero, List.getElem_cons_succ, Act.put, List.setIfInBounds_toArray, List.set_cons_zero, List.set_cons_succ]
        refine wpAnyH_ready (rs := [3]) (by kernel_rfl) (by simp) ?_
        refine AllReadyH.cons rfl (fun K hK => ?_) AllReadyH.nil
        go_simp
        go_wp2_with (go_at_call 17; refine cs.mono ?_; rintro e8 w8 ⟨hb8, hk8, ⟨rfl, nx', dn', rs', BX', hboth8, hn1, hn2, hBX8⟩ | ⟨ha, _⟩⟩; case inr => cases ha)
        have row8 : w8.heap[wr.heap.size]? = some (.cells #[.int .i64 3, .int .i64 f1, .int .i64 f2, .slice va f3.length vc] 44 (0, 0)) := (hk8 _ HOB.out).trans ROW7.out
        refine hK.out _ _ row8 (fun hHeld2 => ?_)
        clear hK K cs
        try simp only [List.getElem_toArray, List.getElem_cons_zero, List.getElem_cons_succ, Act.put, List.setIfInBounds_toArray, List.set_cons_zero, List.set_cons_succ]
        have B8 : Hid (Below w.heap.size w w8) := (HBW7.out.trans (below_q w7 1 _)).trans hb8
        have cf := from_v hboth8.log
        have cx := from_any hboth8.ref
        rw [from_both] at cx
        have cn := next_v hboth8.log
        obtain ⟨FR, hFR⟩ : ∃ FR, fromR nx' rs' = FR := ⟨_, rfl⟩
        rw [hFR] at cf cx
        obtain ⟨_, _, _, _, _, z3, _⟩ := hboth8.ref.opened
        have z3 : w8.cell? ⟨w2.heap.size, 3, none⟩ = some (.int .u64 nx') := z3
        have HBB : Hid _ := hboth8
        unfold ptrW at cf cx cn
        clear hboth8 hb8 hk8 hBX8 hbX hFR
        refine wpAnyH_take (i := 4) (v := .bool false) rfl (by kernel_rfl) (by kernel_rfl) (by kernel_rfl) (fun _ _ _ h => h) (Or.inl ⟨by rfl, fun W hSw => by (try dsimp only at hSw); go_simp⟩) (by assumption) ?_
        simp only [List.getElem_toArray, List.getElem_cons_zero, List.getElem_cons_succ, Act.put, List.setIfInBounds_toArray, List.set_cons_zero, List.set_cons_succ]
        refine wpAnyH_take (i := 5) (v := .bool false) rfl (by kernel_rfl) (by kernel_rfl) (by kernel_rfl) (fun _ _ _ h => h) (Or.inl ⟨by rfl, fun W hSw => by (try dsimp only at hSw); go_simp⟩) (by assumption) ?_
        simp only [List.getElem_toArray, List.getElem_cons_zero, List.getElem_cons_succ, Act.put, List.setIfInBounds_toArray, List.set_cons_zero, List.set_cons_succ]
        refine wpAnyH_take (i := 6) (v := .pointer (some ⟨q6, 0, none⟩)) rfl (by kernel_rfl) (by kernel_rfl) (by kernel_rfl) (fun _ _ _ h => h) (Or.inl ⟨by rfl, fun W hSw => by (try dsimp only at hSw); go_simp⟩) (by assumption) ?_
        simp only [List.getElem_toArray, List.getElem_cons_zero, List.getElem_cons_succ, Act.put, List.setIfInBounds_toArray, List.set_cons_zero, List.set_cons_succ]
        refine wpAnyH_take (i := 8) (v := .pointer (some ⟨w2.heap.size, 0, none⟩)) rfl (by kernel_rfl) (by kernel_rfl) (by kernel_rfl) (fun _ _ _ h => h) (Or.inl ⟨by rfl, fun W hSw => by (try dsimp only at hSw); go_simp⟩) (by assumption) ?_
        simp only [List.getElem_toArray, List.getElem_cons_zero, List.getElem_cons_succ, Act.put, List.setIfInBounds_toArray, List.set_cons_zero, List.set_cons_succ]
        refine wpAnyH_ready (rs := [7]) (by kernel_rfl) (by simp) ?_
        refine AllReadyH.cons rfl (fun K hK => ?_) AllReadyH.nil
        go_simp
        go_wp2_with (go_at_call 18; refine cf.mono ?_; rintro e9 w9 ⟨rfl, rfl⟩)
        refine hK.out _ _ (by assumption) (fun hHeld3 => ?_)
        clear hK K cf
        try simp only [List.getElem_toArray, List.getElem_cons_zero, List.getElem_cons_succ, Act.put, List.setIfInBounds_toArray, List.set_cons_zero, List.set_cons_succ]
        refine wpAnyH_ready (rs := [9]) (by kernel_rfl) (by simp) ?_
        refine AllReadyH.cons rfl (fun K hK => ?_) AllReadyH.nil
        go_simp
        go_wp2_with (go_at_call 15; refine cx.mono ?_; rintro e10 w10 ⟨rfl, rfl⟩)
        refine hK.out _ _ (by assumption) (fun hHeld4 => ?_)
        clear hK K cx
        try simp only [List.getElem_toArray, List.getElem_cons_zero, List.getElem_cons_succ, Act.put, List.setIfInBounds_toArray, List.set_cons_zero, List.set_cons_succ]
        refine wpAnyH_take (i := 10) (v := .bool false) rfl (by kernel_rfl) (by kernel_rfl) (by kernel_rfl) (fun _ _ _ h => h) (Or.inl ⟨by rfl, fun W hSw => by (try dsimp only at hSw); go_simp⟩) (by assumption) ?_
        simp only [List.getElem_toArray, List.getElem_cons_zero, List.getElem_cons_succ, Act.put, List.setIfInBounds_toArray, List.set_cons_zero, List.set_cons_succ]
        refine wpAnyH_take (i := 11) (v := .bool false) rfl (by kernel_rfl) (by kernel_rfl) (by kernel_rfl) (fun _ _ _ h => h) (Or.inl ⟨by rfl, fun W hSw => by (try dsimp only at hSw); go_simp⟩) (by assumption) ?_
        simp only [List.getElem_toArray, List.getElem_cons_zero, List.getElem_cons_succ, Act.put, List.setIfInBounds_toArray, List.set_cons_zero, List.set_cons_succ]
        refine wpAnyH_take (i := 12) (v := .bool false) rfl (by kernel_rfl) (by kernel_rfl) (by kernel_rfl) (fun _ _ _ h => h) (Or.inl ⟨by rfl, fun W hSw => by (try dsimp only at hSw); go_simp⟩) (by assumption) ?_
        simp only [List.getElem_toArray, List.getElem_cons_zero, List.getElem_cons_succ, Act.put, List.setIfInBounds_toArray, List.set_cons_zero, List.set_cons_succ]
        refine wpAnyH_take (i := 13) (v := .pointer (some ⟨q6, 0, none⟩)) rfl (by kernel_rfl) (by kernel_rfl) (by kernel_rfl) (fun _ _ _ h => h) (Or.inl ⟨by rfl, fun W hSw => by (try dsimp only at hSw); go_simp⟩) (by assumption) ?_
        simp only [List.getElem_toArray, List.getElem_cons_zero, List.getElem_cons_succ, Act.put, List.setIfInBounds_toArray, List.set_cons_zero, List.set_cons_succ]
        refine wpAnyH_take (i := 15) (v := .pointer (some ⟨w2.heap.size, 0, none⟩)) rfl (by kernel_rfl) (by kernel_rfl) (by kernel_rfl) (fun _ _ _ h => h) (Or.inl ⟨by rfl, fun W hSw => by (try dsimp only at hSw); go_simp⟩) (by assumption) ?_
        simp only [List.getElem_toArray, List.getElem_cons_zero, List.getElem_cons_succ, Act.put, List.setIfInBounds_toArray, List.set_cons_zero, List.set_cons_succ]
        refine wpAnyH_take (i := 16) (v := .pointer (some ⟨w2.heap.size, 0, none⟩)) rfl (by kernel_rfl) (by kernel_rfl) (by kernel_rfl) (fun _ _ _ h => h) (Or.inl ⟨by rfl, fun W hSw => by (try dsimp only at hSw); go_simp⟩) (by assumption) ?_
        simp only [List.getElem_toArray, List.getElem_cons_zero, List.getElem_cons_succ, Act.put, List.setIfInBounds_toArray, List.set_cons_zero, List.set_cons_succ]
        refine wpAnyH_take (i := 17) (v := .pointer (some ⟨w2.heap.size, 3, none⟩)) rfl (by kernel_rfl) (by kernel_rfl) (by kernel_rfl) (fun _ _ _ h => h) (Or.inl ⟨by rfl, fun W hSw => by (try dsimp only at hSw); go_simp⟩) (by assumption) ?_
        simp only [List.getElem_toArray, List.getElem_cons_zero, List.getElem_cons_succ, Act.put, List.setIfInBounds_toArray, List.set_cons_zero, List.set_cons_succ]
        refine wpAnyH_ready (rs := [14, 18]) (by kernel_rfl) (by simp) ?_
        refine AllReadyH.cons rfl (fun K hK => ?_) (AllReadyH.cons rfl (fun K hK => ?_) AllReadyH.nil)
        · go_simp
          go_wp2_with (go_at_call 13; refine cn.mono ?_; rintro e11 w11 ⟨rfl, rfl⟩)
          refine hK.out _ _ (by assumption) (fun hHeld5 => ?_)
          clear hK K cn
          try simp only [List.getElem_toArray, List.getElem_cons_zero, List.getElem_cons_succ, Act.put, List.setIfInBounds_toArray, List.set_cons_zero, List.set_cons_succ]
          refine wpAnyH_ready (rs := [18]) (by kernel_rfl) (by simp) ?_
          refine AllReadyH.cons rfl (fun K hK => ?_) AllReadyH.nil
          go_simp
          go_wp2
          refine hK.out _ _ (by assumption) (fun hHeld6 => ?_)
          clear hK K
          try simp only [List.getElem_toArray, List.getElem_cons_zero, List.getElem_cons_succ, Act.put, List.setIfInBounds_toArray, List.set_cons_zero, List.set_cons_succ]
          refine wpAnyH_take (i := 19) (v := .bool false) rfl (by kernel_rfl) (by kernel_rfl) (by kernel_rfl) (fun _ _ _ h => h) (Or.inl ⟨by rfl, fun W hSw => by (try dsimp only at hSw); go_simp⟩) (by assumption) ?_
          simp only [List.getElem_toArray, List.getElem_cons_zero, List.getElem_cons_succ, Act.put, List.setIfInBounds_toArray, List.set_cons_zero, List.set_cons_succ]
          refine wpAnyH_take (i := 20) (v := .bool false) rfl (by kernel_rfl) (by kernel_rfl) (by kernel_rfl) (fun _ _ _ h => h) (Or.inl ⟨by rfl, fun W hSw => by (try dsimp only at hSw); go_simp⟩) (by assumption) ?_
          simp only [List.getElem_toArray, List.getElem_cons_zero, List.getElem_cons_succ, Act.put, List.setIfInBounds_toArray, List.set_cons_zero, List.set_cons_succ]
          refine wpAnyH_done (by kernel_rfl) ?_ _
          refine NoPanic.normal ?_
          clear hS0 hHeld hHeld2 hHeld3 hHeld4 hHeld5 hHeld6 row8 z3
          go_wp2_with fail
          refine ⟨⟨k + 1, q6, nx', dn', rs', BX', by omega, by go_num, rfl, by omega, HBB, B8⟩, ?_⟩
          simp [RowKit.intOf]; omega
        · go_simp
          go_wp2
          refine hK.out _ _ (by assumption) (fun hHeld5 => ?_)
          clear hK K
          try simp only [List.getElem_toArray, List.getElem_cons_zero, List.getElem_cons_succ, Act.put, List.setIfInBounds_toArray, List.set_cons_zero, List.set_cons_succ]
          refine wpAnyH_ready (rs := [14]) (by kernel_rfl) (by simp) ?_
          refine AllReadyH.cons rfl (fun K hK => ?_) AllReadyH.nil
          go_simp
          go_wp2_with (go_at_call 13; refine cn.mono ?_; rintro e11 w11 ⟨rfl, rfl⟩)
          refine hK.out _ _ (by assumption) (fun hHeld6 => ?_)
          clear hK K cn
          try simp only [List.getElem_toArray, List.getElem_cons_zero, List.getElem_cons_succ, Act.put, List.setIfInBounds_toArray, List.set_cons_zero, List.set_cons_succ]
          refine wpAnyH_take (i := 19) (v := .bool false) rfl (by kernel_rfl) (by kernel_rfl) (by kernel_rfl) (fun _ _ _ h => h) (Or.inl ⟨by rfl, fun W hSw => by (try dsimp only at hSw); go_simp⟩) (by assumption) ?_
          simp only [List.getElem_toArray, List.getElem_cons_zero, List.getElem_cons_succ, Act.put, List.setIfInBounds_toArray, List.set_cons_zero, List.set_cons_succ]
          refine wpAnyH_take (i := 20) (v := .bool false) rfl (by kernel_rfl) (by kernel_rfl) (by kernel_rfl) (fun _ _ _ h => h) (Or.inl ⟨by rfl, fun W hSw => by (try dsimp only at hSw); go_simp⟩) (by assumption) ?_
          simp only [List.getElem_toArray, List.getElem_cons_zero, List.getElem_cons_succ, Act.put, List.setIfInBounds_toArray, List.set_cons_zero, List.set_cons_succ]
          refine wpAnyH_done (by kernel_rfl) ?_ _
          refine NoPanic.normal ?_
          clear hS0 hHeld hHeld2 hHeld3 hHeld4 hHeld5 hHeld6 row8 z3
          go_wp2_with fail
          refine ⟨⟨k + 1, q6, nx', dn', rs', BX', by omega, by go_num, rfl, by omega, HBB, B8⟩, ?_⟩
          simp [RowKit.intOf]; omega
      · have h3' : (f0 == 3) = false := by simpa using h3
        have hbX := below_q wq 1 wq.heap.size
        have hS0 : ∀ W : World, W.heap[wr.heap.size]? = some (.cells #[.int .i64 f0, .int .i64 f1, .int .i64 f2, .slice va f3.length vc] 44 (0, 0)) → W.cell? ⟨wr.heap.size, 0, none⟩ = some (.int .i64 f0) ∧ W.cell? ⟨wr.heap.size, 1, none⟩ = some (.int .i64 f1) ∧ W.cell? ⟨wr.heap.size, 2, none⟩ = some (.int .i64 f2) ∧ W.cell? ⟨wr.heap.size, 3, none⟩ = some (.slice va f3.length vc) := fun W hW => ⟨by rw [cell_of_row _ _ 0 _ _ (0, 0) hW]; rfl, by rw [cell_of_row _ _ 1 _ _ (0, 0) hW]; rfl, by rw [cell_of_row _ _ 2 _ _ (0, 0) hW]; rfl, by rw [cell_of_row _ _ 3 _ _ (0, 0) hW]; rfl⟩
        have cs := step_any (HQ.out.below hbX) (by omega) ⟨f0, f1, f2, .slice va f3.length vc, f3, b3⟩ HOO.out Bo (HRQ.out.below hbX) HBO.out
        unfold opC at cs
        dsimp only at cs
        have HOB : Hid (wr.heap.size ∈ BX ++ [wr.heap.size]) := List.mem_append_right _ (by simp)
        unfold ptrW at cs
        go_wp2_with fail
        refine wp_region_noPanic ?_
        refine wp_region_held_drew (S := fun W : World => W.heap[wr.heap.size]? = some (.cells #[.int .i64 f0, .int .i64 f1, .int .i64 f2, .slice va f3.length vc] 44 (0, 0))) (by kernel_rfl) HROW.out (fun hHeld => ?_)
        refine wpAnyH_take (i := 0) (v := .pointer (some ⟨q, 0, none⟩)) rfl (by kernel_rfl) (by kernel_rfl) (by kernel_rfl) (fun _ _ _ h => h) (Or.inl ⟨by rfl, fun W hSw => by (try dsimp only at hSw); go_simp⟩) (by assumption) ?_
        simp only [List.getElem_toArray, List.getElem_cons_zero, List.getElem_cons_succ, Act.put, List.setIfInBounds_toArray, List.set_cons_zero, List.set_cons_succ]
        refine wpAnyH_take (i := 1) (v := .pointer (some ⟨w2.heap.size, 0, none⟩)) rfl (by kernel_rfl) (by kernel_rfl) (by kernel_rfl) (fun _ _ _ h => h) (Or.inl ⟨by rfl, fun W hSw => by (try dsimp only at hSw); go_simp⟩) (by assumption) ?_
        simp only [List.getElem_toArray, List.getElem_cons_zero, List.getElem_cons_succ, Act.put, List.setIfInBounds_toArray, List.set_cons_zero, List.set_cons_succ]
        refine wpAnyH_take (i := 2) (v := .agg #[.int .i64 f0, .int .i64 f1, .int .i64 f2, .slice va f3.length vc]) rfl (by kernel_rfl) (by kernel_rfl) (by kernel_rfl) (fun _ _ _ h => h) (Or.inl ⟨by rfl, fun W hSw => by (try dsimp only at hSw); obtain ⟨y0, y1, y2, y3⟩ := hS0 W hSw; go_simp⟩) (by assumption) ?_
        simp only [List.getElem_toArray, List.getElem_cons_zero, List.getElem_cons_succ, Act.put, List.setIfInBounds_toArray, List.set_cons_zero, List.set_cons_succ]
        refine wpAnyH_ready (rs := [3]) (by kernel_rfl) (by simp) ?_
        refine AllReadyH.cons rfl (fun K hK => ?_) AllReadyH.nil
        go_simp
        go_wp2_with (go_at_call 17; refine cs.mono ?_; rintro e8 w8 ⟨hb8, hk8, ⟨rfl, nx', dn', rs', BX', hboth8, hn1, hn2, hBX8⟩ | ⟨ha, _⟩⟩; case inr => cases ha)
        have row8 : w8.heap[wr.heap.size]? = some (.cells #[.int .i64 f0, .int .i64 f1, .int .i64 f2, .slice va f3.length vc] 44 (0, 0)) := (hk8 _ HOB.out).trans HROW.out
        refine hK.out _ _ row8 (fun hHeld2 => ?_)
        clear hK K cs
        try simp only [List.getElem_toArray, List.getElem_cons_zero, List.getElem_cons_succ, Act.put, List.setIfInBounds_toArray, List.set_cons_zero, List.set_cons_succ]
        have B8 : Hid (Below w.heap.size w w8) := (HBQ.out.trans (below_q wq 1 _)).trans hb8
        have cf := from_v hboth8.log
        have cx := from_any hboth8.ref
        rw [from_both] at cx
        have cn := next_v hboth8.log
        obtain ⟨FR, hFR⟩ : ∃ FR, fromR nx' rs' = FR := ⟨_, rfl⟩
        rw [hFR] at cf cx
        obtain ⟨_, _, _, _, _, z3, _⟩ := hboth8.ref.opened
        have z3 : w8.cell? ⟨w2.heap.size, 3, none⟩ = some (.int .u64 nx') := z3
        have HBB : Hid _ := hboth8
        unfold ptrW at cf cx cn
        clear hboth8 hb8 hk8 hBX8 hbX hFR
        refine wpAnyH_take (i := 4) (v := .bool false) rfl (by kernel_rfl) (by kernel_rfl) (by kernel_rfl) (fun _ _ _ h => h) (Or.inl ⟨by rfl, fun W hSw => by (try dsimp only at hSw); go_simp⟩) (by assumption) ?_
        simp only [List.getElem_toArray, List.getElem_cons_zero, List.getElem_cons_succ, Act.put, List.setIfInBounds_toArray, List.set_cons_zero, List.set_cons_succ]
        refine wpAnyH_take (i := 5) (v := .bool false) rfl (by kernel_rfl) (by kernel_rfl) (by kernel_rfl) (fun _ _ _ h => h) (Or.inl ⟨by rfl, fun W hSw => by (try dsimp only at hSw); go_simp⟩) (by assumption) ?_
        simp only [List.getElem_toArray, List.getElem_cons_zero, List.getElem_cons_succ, Act.put, List.setIfInBounds_toArray, List.set_cons_zero, List.set_cons_succ]
        refine wpAnyH_take (i := 6) (v := .pointer (some ⟨q, 0, none⟩)) rfl (by kernel_rfl) (by kernel_rfl) (by kernel_rfl) (fun _ _ _ h => h) (Or.inl ⟨by rfl, fun W hSw => by (try dsimp only at hSw); go_simp⟩) (by assumption) ?_
        simp only [List.getElem_toArray, List.getElem_cons_zero, List.getElem_cons_succ, Act.put, List.setIfInBounds_toArray, List.set_cons_zero, List.set_cons_succ]
        refine wpAnyH_take (i := 8) (v := .pointer (some ⟨w2.heap.size, 0, none⟩)) rfl (by kernel_rfl) (by kernel_rfl) (by kernel_rfl) (fun _ _ _ h => h) (Or.inl ⟨by rfl, fun W hSw => by (try dsimp only at hSw); go_simp⟩) (by assumption) ?_
        simp only [List.getElem_toArray, List.getElem_cons_zero, List.getElem_cons_succ, Act.put, List.setIfInBounds_toArray, List.set_cons_zero, List.set_cons_succ]
        refine wpAnyH_ready (rs := [7]) (by kernel_rfl) (by simp) ?_
        refine AllReadyH.cons rfl (fun K hK => ?_) AllReadyH.nil
        go_simp
        go_wp2_with (go_at_call 18; refine cf.mono ?_; rintro e9 w9 ⟨rfl, rfl⟩)
        refine hK.out _ _ (by assumption) (fun hHeld3 => ?_)
        clear hK K cf
        try simp only [List.getElem_toArray, List.getElem_cons_zero, List.getElem_cons_succ, Act.put, List.setIfInBounds_toArray, List.set_cons_zero, List.set_cons_succ]
        refine wpAnyH_ready (rs := [9]) (by kernel_rfl) (by simp) ?_
        refine AllReadyH.cons rfl (fun K hK => ?_) AllReadyH.nil
        go_simp
        go_wp2_with (go_at_call 15; refine cx.mono ?_; rintro e10 w10 ⟨rfl, rfl⟩)
        refine hK.out _ _ (by assumption) (fun hHeld4 => ?_)
        clear hK K cx
        try simp only [List.getElem_toArray, List.getElem_cons_zero, List.getElem_cons_succ, Act.put, List.setIfInBounds_toArray, List.set_cons_zero, List.set_cons_succ]
        refine wpAnyH_take (i := 10) (v := .bool false) rfl (by kernel_rfl) (by kernel_rfl) (by kernel_rfl) (fun _ _ _ h => h) (Or.inl ⟨by rfl, fun W hSw => by (try dsimp only at hSw); go_simp⟩) (by assumption) ?_
        simp only [List.getElem_toArray, List.getElem_cons_zero, List.getElem_cons_succ, Act.put, List.setIfInBounds_toArray, List.set_cons_zero, List.set_cons_succ]
        refine wpAnyH_take (i := 11) (v := .bool false) rfl (by kernel_rfl) (by kernel_rfl) (by kernel_rfl) (fun _ _ _ h => h) (Or.inl ⟨by rfl, fun W hSw => by (try dsimp only at hSw); go_simp⟩) (by assumption) ?_
        simp only [List.getElem_toArray, List.getElem_cons_zero, List.getElem_cons_succ, Act.put, List.setIfInBounds_toArray, List.set_cons_zero, List.set_cons_succ]
        refine wpAnyH_take (i := 12) (v := .bool false) rfl (by kernel_rfl) (by kernel_rfl) (by kernel_rfl) (fun _ _ _ h => h) (Or.inl ⟨by rfl, fun W hSw => by (try dsimp only at hSw); go_simp⟩) (by assumption) ?_
        simp only [List.getElem_toArray, List.getElem_cons_zero, List.getElem_cons_succ, Act.put, List.setIfInBounds_toArray, List.set_cons_zero, List.set_cons_succ]
        refine wpAnyH_take (i := 13) (v := .pointer (some ⟨q, 0, none⟩)) rfl (by kernel_rfl) (by kernel_rfl) (by kernel_rfl) (fun _ _ _ h => h) (Or.inl ⟨by rfl, fun W hSw => by (try dsimp only at hSw); go_simp⟩) (by assumption) ?_
        simp only [List.getElem_toArray, List.getElem_cons_zero, List.getElem_cons_succ, Act.put, List.setIfInBounds_toArray, List.set_cons_zero, List.set_cons_succ]
        refine wpAnyH_take (i := 15) (v := .pointer (some ⟨w2.heap.size, 0, none⟩)) rfl (by kernel_rfl) (by kernel_rfl) (by kernel_rfl) (fun _ _ _ h => h) (Or.inl ⟨by rfl, fun W hSw => by (try dsimp only at hSw); go_simp⟩) (by assumption) ?_
        simp only [List.getElem_toArray, List.getElem_cons_zero, List.getElem_cons_succ, Act.put, List.setIfInBounds_toArray, List.set_cons_zero, List.set_cons_succ]
        refine wpAnyH_take (i := 16) (v := .pointer (some ⟨w2.heap.size, 0, none⟩)) rfl (by kernel_rfl) (by kernel_rfl) (by kernel_rfl) (fun _ _ _ h => h) (Or.inl ⟨by rfl, fun W hSw => by (try dsimp only at hSw); go_simp⟩) (by assumption) ?_
        simp only [List.getElem_toArray, List.getElem_cons_zero, List.getElem_cons_succ, Act.put, List.setIfInBounds_toArray, List.set_cons_zero, List.set_cons_succ]
        refine wpAnyH_take (i := 17) (v := .pointer (some ⟨w2.heap.size, 3, none⟩)) rfl (by kernel_rfl) (by kernel_rfl) (by kernel_rfl) (fun _ _ _ h => h) (Or.inl ⟨by rfl, fun W hSw => by (try dsimp only at hSw); go_simp⟩) (by assumption) ?_
        simp only [List.getElem_toArray, List.getElem_cons_zero, List.getElem_cons_succ, Act.put, List.setIfInBounds_toArray, List.set_cons_zero, List.set_cons_succ]
        refine wpAnyH_ready (rs := [14, 18]) (by kernel_rfl) (by simp) ?_
        refine AllReadyH.cons rfl (fun K hK => ?_) (AllReadyH.cons rfl (fun K hK => ?_) AllReadyH.nil)
        · go_simp
          go_wp2_with (go_at_call 13; refine cn.mono ?_; rintro e11 w11 ⟨rfl, rfl⟩)
          refine hK.out _ _ (by assumption) (fun hHeld5 => ?_)
          clear hK K cn
          try simp only [List.getElem_toArray, List.getElem_cons_zero, List.getElem_cons_succ, Act.put, List.setIfInBounds_toArray, List.set_cons_zero, List.set_cons_succ]
          refine wpAnyH_ready (rs := [18]) (by kernel_rfl) (by simp) ?_
          refine AllReadyH.cons rfl (fun K hK => ?_) AllReadyH.nil
          go_simp
          go_wp2
          refine hK.out _ _ (by assumption) (fun hHeld6 => ?_)
          clear hK K
          try simp only [List.getElem_toArray, List.getElem_cons_zero, List.getElem_cons_succ, Act.put, List.setIfInBounds_toArray, List.set_cons_zero, List.set_cons_succ]
          refine wpAnyH_take (i := 19) (v := .bool false) rfl (by kernel_rfl) (by kernel_rfl) (by kernel_rfl) (fun _ _ _ h => h) (Or.inl ⟨by rfl, fun W hSw => by (try dsimp only at hSw); go_simp⟩) (by assumption) ?_
          simp only [List.getElem_toArray, List.getElem_cons_zero, List.getElem_cons_succ, Act.put, List.setIfInBounds_toArray, List.set_cons_zero, List.set_cons_succ]
          refine wpAnyH_take (i := 20) (v := .bool false) rfl (by kernel_rfl) (by kernel_rfl) (by kernel_rfl) (fun _ _ _ h => h) (Or.inl ⟨by rfl, fun W hSw => by (try dsimp only at hSw); go_simp⟩) (by assumption) ?_
          simp only [List.getElem_toArray, List.getElem_cons_zero, List.getElem_cons_succ, Act.put, List.setIfInBounds_toArray, List.set_cons_zero, List.set_cons_succ]
          refine wpAnyH_done (by kernel_rfl) ?_ _
          refine NoPanic.normal ?_
          clear hS0 hHeld hHeld2 hHeld3 hHeld4 hHeld5 hHeld6 row8 z3
          go_wp2_with fail
          refine ⟨⟨k + 1, q, nx', dn', rs', BX', by omega, by go_num, rfl, by omega, HBB, B8⟩, ?_⟩
          simp [RowKit.intOf]; omega
        · go_simp
          go_wp2
          refine hK.out _ _ (by assumption) (fun hHeld5 => ?_)
          clear hK K
          try simp only [List.getElem_toArray, List.getElem_cons_zero, List.getElem_cons_succ, Act.put, List.setIfInBounds_toArray, List.set_cons_zero, List.set_cons_succ]
          refine wpAnyH_ready (rs := [14]) (by kernel_rfl) (by simp) ?_
          refine AllReadyH.cons rfl (fun K hK => ?_) AllReadyH.nil
          go_simp
          go_wp2_with (go_at_call 13; refine cn.mono ?_; rintro e11 w11 ⟨rfl, rfl⟩)
          refine hK.out _ _ (by assumption) (fun hHeld6 => ?_)
          clear hK K cn
          try simp only [List.getElem_toArray, List.getElem_cons_zero, List.getElem_cons_succ, Act.put, List.setIfInBounds_toArray, List.set_cons_zero, List.set_cons_succ]
          refine wpAnyH_take (i := 19) (v := .bool false) rfl (by kernel_rfl) (by kernel_rfl) (by kernel_rfl) (fun _ _ _ h => h) (Or.inl ⟨by rfl, fun W hSw => by (try dsimp only at hSw); go_simp⟩) (by assumption) ?_
          simp only [List.getElem_toArray, List.getElem_cons_zero, List.getElem_cons_succ, Act.put, List.setIfInBounds_toArray, List.set_cons_zero, List.set_cons_succ]
          refine wpAnyH_take (i := 20) (v := .bool false) rfl (by kernel_rfl) (by kernel_rfl) (by kernel_rfl) (fun _ _ _ h => h) (Or.inl ⟨by rfl, fun W hSw => by (try dsimp only at hSw); go_simp⟩) (by assumption) ?_
          simp only [List.getElem_toArray, List.getElem_cons_zero, List.getElem_cons_succ, Act.put, List.setIfInBounds_toArray, List.set_cons_zero, List.set_cons_succ]
          refine wpAnyH_done (by kernel_rfl) ?_ _
          refine NoPanic.normal ?_
          clear hS0 hHeld hHeld2 hHeld3 hHeld4 hHeld5 hHeld6 row8 z3
          go_wp2_with fail
          refine ⟨⟨k + 1, q, nx', dn', rs', BX', by omega, by go_num, rfl, by omega, HBB, B8⟩, ?_⟩
          simp [RowKit.intOf]; omega
    · have hltI : ¬ (k : Int) < len := by omega
      clear HBT
      go_wp2
      go_ret
      exact ⟨rfl, HBR.out⟩

/-! ### The row -/
set_option maxRecDepth 100000 in
theorem lifted (os : Os) (started : os.Started) (H : Type) (enc : TypeId × Value → H) :
    ReturnsInHanded {} Tryz.checked os 4 .any (Rows.walGoesSpec.pre6 enc Tryz.prog Tryz.f4 Rows.walGoesRow.domain false) (Rows.walGoesSpec.post enc Tryz.prog Tryz.f4 false true false false) := by
  refine returnsInHanded_of_change_sized (C := Tryz.checked) own started (by kernel_rfl) Tryz.func4
    (ChangeSpec.witness6 (enc := enc) (C := Tryz.checked) false ⟨#[], #[.int .i64 0, .int .i64 0, .slice none 0 0], []⟩ 8 (by kernel_rfl) (by kernel_rfl) (by kernel_rfl) (by kernel_rfl)) ?_
  intro W base args ds gs before hval0 hW hcnd hsz0 _
  have hsz : (DataW.weightsEach Tryz.prog (Tryz.f4.params.toList ++ Rows.walGoesSpec.plain.varTypes Tryz.prog) (ds ++ gs)).all (· ≤ reachBytes) = true := hsz0
  clear hsz0
  have hval : ∀ (j : Nat) t v, Tryz.f4.params[j]? = some t → args[j]? = some v → Value.okWide Tryz.prog W .any base t v := hval0
  have hW' := hW
  obtain ⟨p, q, hA0, hV, rfl, hfz, hnd⟩ := hW
  have hA : DataW.TrodAll enc Tryz.prog W 0 (fun _ => true) true Tryz.f4.params.toList args.toList ds p := hA0
  rw [Tryz.params4] at hA hval hsz
  obtain ⟨v0, vs0, d0, ds0, p0, q0, hargs, rfl, rfl, h0, r0⟩ := trodAll_cons hA
  obtain ⟨v1, vs1, d1, ds1, p1, q1, rfl, rfl, rfl, h1, r1⟩ := trodAll_cons r0
  obtain ⟨v2, vs2, d2, ds2, p2, q2, rfl, rfl, rfl, h2, r2⟩ := trodAll_cons r1
  obtain ⟨rfl, rfl, rfl⟩ := trodAll_nil r2
  obtain rfl : args = #[v0, v1, v2] := by cases args; simp_all
  obtain ⟨rfl, rfl⟩ := trodVars_none hV
  obtain ⟨a0, rfl, rfl, rfl, w0⟩ := open_int Tryz.underlying3 (hval 0 3 v0 rfl rfl) h0
  obtain ⟨a1, rfl, rfl, rfl, w1⟩ := open_int Tryz.underlying3 (hval 1 3 v1 rfl rfl) h1
  obtain ⟨a2, len2, cap2, rfl⟩ := okWide_slice Tryz.underlying37 (hval 2 37 v2 rfl rfl)
  have k2 := h2
  have lt2 : ∀ x ∈ p2, x.block < W.heap.size := by obtain ⟨m, hm⟩ := k2; exact DataW.trod_lt m _ _ _ hm
  obtain ⟨o2, w2⟩ : ∃ os, WopsAt W a2 len2 cap2 os := by
    obtain ⟨fuel, hf⟩ := h2
    exact wopsAt_of hf (fun n hn => of_decide_eq_true (List.all_eq_true.1 hsz n (DataW.weights_mem_each (j := 2) rfl rfl n hn)))
  clear hA0 hval0
  refine (walk a0 a1 a2 len2 cap2 o2 W w0 w1 w2).mono fun e W' ⟨he, bel⟩ => ?_
  subst he
  exact ⟨_, rfl, _, _, _, [], _, [], hW', trodAll_mk1 (shut_bool Tryz.underlying4 _), (trodAll_cons_mk (shut_int Tryz.underlying3 w0) (trodAll_cons_mk (shut_int Tryz.underlying3 w1) (trodAll_cons_mk (Below.trod laidOut (by kernel_rfl) (of_decide_eq_true (by kernel_rfl)) k2 bel lt2) trodAll_mk0))), rfl, bel.frame _, fun h => by cases h⟩

theorem over : Rows.walGoesRow.holds Tryz.pinned (OpenSpec.ofChange Rows.walGoesSpec) :=
  OpenClaim.holds_of_wide 4 Tryz.f4 rfl rfl rfl rfl rfl rfl rfl ⟨rfl, rfl, rfl, rfl, rfl⟩ rfl rfl rfl rfl rfl (by kernel_rfl) Tryz.func4 (by kernel_rfl)
    (of_decide_eq_true (by kernel_rfl)) (by unfold Func.isWrapper; first | (rw [if_pos (by decide +kernel)]; kernel_rfl) | (rw [if_neg (by decide +kernel)]; exact ⟨rfl, rfl⟩))
    (fun os started H enc _ => lifted os started H enc)

end Go.Proofs.YtmchpckjlmmfmaaGreat.walGoes

namespace Go.Proofs.YtmchpckjlmmfmaaGreat
/-- The statement. -/
theorem walGoes_proved : Rows.WalGoesSaid := walGoes.over
#print axioms walGoes_proved
end Go.Proofs.YtmchpckjlmmfmaaGreat
