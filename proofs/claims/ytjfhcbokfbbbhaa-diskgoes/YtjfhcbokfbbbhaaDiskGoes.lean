/- Proved: DiskGoes, for every number of blocks and every slice of calls, with no condition: it answers true, and the slice reads as it did. -/
import Derived.Test.YtjfhcbokfbbbhaaSame
import Derived.Test.YtjfhcbokfbbbhaaRWrite
import Derived.Test.YtjfhcbokfbbbhaaRNew
import Derived.Test.YtjfhcbokfbbbhaaOps
import Derived.WalkSmall
import Derived.ProofKit
import Derived.OpenShut
import Derived.ShutString
import Derived.ChangeOld
import Derived.Below
import Derived.Carry
namespace Go.Proofs.Ytjfhcbokfbbbhaa.diskGoes
open Go.ChangeShapes Go.WideShapes Go.ChangeAt Go.RowKit Go.Maps
open Go.ChangeMaps (open_string shut_string)
set_option linter.unusedVariables false

theorem own : ownKnob Try.prog.godebug = none := by kernel_rfl
theorem laidOut : laidOutB Try.prog = true := by kernel_rfl

/-- A disk and the document's answer lie apart. -/
theorem disjoint_at {w : World} {p bs bp q gs gl : Nat} {s s' : St} (hd : DiskAt w p bs bp s) (hx : RefAt w q gs gl s') : q ∉ [p, bs, bp] ∧ gs ∉ [p, bs, bp] ∧ gl ∉ [p, bs, bp] := by
  obtain ⟨n, cs, cl, mask, _, _, _, _, _, _, _, hr⟩ := hx.row
  obtain ⟨xs, h1, _⟩ := hx.safe
  obtain ⟨ys, h2, _⟩ := hx.late
  obtain ⟨M, hM, _⟩ := hd.safe
  obtain ⟨es, c, hm⟩ := hM.is
  obtain ⟨es', c', hm'⟩ := hd.pend.is
  have hp := hd.row
  have key : ∀ (k : Nat) (cs : Array Value) (t : TypeId), w.heap[k]? = some (.cells cs t (0, 0)) → t ≠ 61 → k ∉ [p, bs, bp] := by
    intro k cs t hk ht
    simp only [List.mem_cons, List.not_mem_nil, or_false, not_or]
    refine ⟨?_, ?_, ?_⟩
    · intro e; subst e; rw [hk] at hp; exact ht (Obj.cells.inj (Option.some.inj hp)).2.1
    · intro e; subst e; rw [hk] at hm; cases hm
    · intro e; subst e; rw [hk] at hm'; cases hm'
  exact ⟨key q _ _ hr (by decide), key gs _ _ h1 (by decide), key gl _ _ h2 (by decide)⟩

theorem own_kept {w w' : World} {base : Nat} {v : Value} {xs : List Int} (h : Own w base v xs) {S : List Nat} (hS : Sole S w w') (hk : ∀ k ∈ S, k < base) : Own w' base v xs := by
  obtain ⟨h1, h2⟩ := h
  refine ⟨h1, ?_⟩
  rcases h2 with h2 | ⟨g, cap, cur, hv, hb, hg, r⟩
  · exact .inl h2
  · exact .inr ⟨g, cap, cur, hv, hb, (hS.block g (Array.getElem?_eq_some_iff.1 hg).1 (fun e => by have := hk g e; omega)).trans hg, r⟩

set_option maxRecDepth 100000 in
set_option maxHeartbeats 64000000 in
theorem walk (n : Int) (a : Option Addr) (len cap : Nat) (os : List OpV) (w : World) (hn : (Lit.int .i64 n).wf = true) (ho : OpsAt w a len cap os) :
    Calls Try.prog 3 #[.int .i64 n, .slice a len cap] w fun e w' => e = .returned (.bool true) ∧ Below w.heap.size w w' := by
  obtain ⟨hn0, hn1⟩ := bounds_i64 hn
  obtain ⟨hol, hlc, hcm, hok, hoc⟩ := ho
  have HOK : Hid (∀ o ∈ os, OpOk o) := hok
  have HOC : Hid (0 < len → ∃ b off, a = some ⟨b, off, none⟩ ∧ b < w.heap.size ∧ ∀ i, i < len → OpAt w b (off + i * 6) (os.getD i op0)) := hoc
  unfold maxLen at hcm
  clear hok hoc hn
  by_cases hbad : n < 1 ∨ 1024 < n
  · go_enter Try.func3, Try.ntmps3
    go_wp2_with fail
    refine (law_live w).mono ?_
    rintro e w1 ⟨rfl, hb1⟩
    go_wp2_with fail
    refine (disk_New_bad w1 n hbad).mono ?_
    rintro e w2 ⟨rfl, rfl⟩
    go_wp2_with fail
    refine (ref_New_bad _ n hbad).mono ?_
    rintro e w3 ⟨rfl, rfl⟩
    go_wp2_with fail
    go_ret
    exact ⟨rfl, hb1⟩
  have hg0 : 1 ≤ n := by omega
  have hg1 : n ≤ 1024 := by omega
  clear hbad
  go_enter Try.func3, Try.ntmps3
  go_wp2_with fail
  refine (law_live w).mono ?_
  rintro e w1 ⟨rfl, hb1⟩
  go_wp2_with fail
  refine (law_disk_New (w := w1) hg0 hg1).mono ?_
  rintro e w2 ⟨p0, bs0, bp0, rfl, hd2, hb2, hp, hbs, hbp⟩
  unfold ptr
  go_wp2_with fail
  refine (ref_New w2 n hg0 hg1).mono ?_
  rintro e w3 ⟨q, gs, gl, rfl, hx3, hb3, hq, hgs, hgl⟩
  have hd3 := hd2.below hb3
  have hs1 := hb1.size
  have hs2 := hb2.size
  have hb03 := (hb1.trans (hb2.mono hb1.size)).trans (hb3.mono (Nat.le_trans hb1.size hb2.size))
  have hP0 : w.heap.size ≤ p0 ∧ w.heap.size ≤ bs0 ∧ w.heap.size ≤ bp0 := by omega
  have HQ : Hid (w.heap.size ≤ q ∧ w.heap.size ≤ gs ∧ w.heap.size ≤ gl) := by unfold Hid; omega
  unfold ptr
  clear hb1 hb2 hb3 hd2 hp hbs hbp hq hgs hgl hs1 hs2
  by_cases hbig : (16 : Int) < n
  · go_wp2_with fail
    go_ret
    exact ⟨rfl, hb03⟩
  by_cases hlong : (80 : Int) < len
  · go_wp2_with fail
    go_ret
    exact ⟨rfl, hb03⟩
  go_wp2_with fail
  go_loopw [6, 52] (fun dv t wr => ∃ (k p bs bp : Nat) (s : St), k ≤ len ∧ t = .int .i64 k ∧ dv = .pointer (some ⟨p, 0, none⟩) ∧ DiskAt wr p bs bp s ∧ RefAt wr q gs gl s ∧ w.heap.size ≤ p ∧ w.heap.size ≤ bs ∧ w.heap.size ≤ bp ∧ Below w.heap.size w wr) (fun _ t _ => len - (RowKit.intOf t).toNat)
  case atStart => exact ⟨0, p0, bs0, bp0, freshSt n, Nat.zero_le _, rfl, rfl, hd3, hx3, hP0.1, hP0.2.1, hP0.2.2, hb03⟩
  case round =>
    obtain ⟨k, p, bs, bp, s, hk, rfl, rfl, hd, hx, hp1, hp2, hp3, hbr⟩ := hrel
    clear hd3 hx3 hP0 hb03
    have hP : w.heap.size ≤ p ∧ w.heap.size ≤ bs ∧ w.heap.size ≤ bp := ⟨hp1, hp2, hp3⟩
    have HS3 : Hid (∀ k ∈ [p, bs, bp], w.heap.size ≤ k) := by unfold Hid; simp; omega
    have HR3 : Hid (∀ k ∈ [q, gs, gl], w.heap.size ≤ k) := by have := HQ.out; unfold Hid; simp; omega
    clear hp1 hp2 hp3
    by_cases hkl : k < len
    · obtain ⟨b, off, rfl, hbl, hat⟩ := HOC.out (by omega)
      have ho := (hat k hkl).same (hbr.block b hbl)
      have hoo : OpOk (os.getD k op0) := HOK.out _ (by rw [List.getD_eq_getElem?_getD, List.getElem?_eq_getElem (by omega)]; exact List.getElem_mem _)
      generalize os.getD k op0 = o at *
      have c0 := ho.c0
      have c1 := ho.c1
      have c2 := ho.c2
      have c3 := ho.c3
      have c4 := ho.c4
      have c5 := ho.c5
      have a1 := hoo.a1
      have a2 := hoo.a2
      have a3 := hoo.a3
      have a4 := hoo.a4
      clear hat ho
      obtain ⟨wq, hwq⟩ : ∃ wq, wr.alloc (.cells #[.int .i64 o.f0, .int .i64 o.f1, .int .i64 o.f2, .int .u8 o.f3, .string o.f4, .bool o.f5] 32) = wq := ⟨_, rfl⟩
      have hbq : Below wr.heap.size wr wq := by rw [← hwq]; exact (Below.refl _ wr).alloc (Nat.le_refl _) _
      have hdq := hd.below hbq
      have hxq := hx.below hbq
      have hb0q := hbr.trans (hbq.mono hbr.size)
      have hrow : wq.heap[wr.heap.size]? = some (.cells #[.int .i64 o.f0, .int .i64 o.f1, .int .i64 o.f2, .int .u8 o.f3, .string o.f4, .bool o.f5] 32 (0, 0)) := by rw [← hwq]; exact heap_alloc_new wr _
      have q0 : wq.cell? ⟨wr.heap.size, 0, none⟩ = some (.int .i64 o.f0) := by rw [cell_of_row _ _ 0 _ _ (0, 0) hrow]; rfl
      have q1 : wq.cell? ⟨wr.heap.size, 1, none⟩ = some (.int .i64 o.f1) := by rw [cell_of_row _ _ 1 _ _ (0, 0) hrow]; rfl
      have q2 : wq.cell? ⟨wr.heap.size, 2, none⟩ = some (.int .i64 o.f2) := by rw [cell_of_row _ _ 2 _ _ (0, 0) hrow]; rfl
      have q3 : wq.cell? ⟨wr.heap.size, 3, none⟩ = some (.int .u8 o.f3) := by rw [cell_of_row _ _ 3 _ _ (0, 0) hrow]; rfl
      have q4 : wq.cell? ⟨wr.heap.size, 4, none⟩ = some (.string o.f4) := by rw [cell_of_row _ _ 4 _ _ (0, 0) hrow]; rfl
      have hdj := disjoint_at hdq hxq
      have hltd := hd.lt
      have hltx := hx.lt
      have hnb : Hid (wr.heap.size ∉ [p, bs, bp] ∧ wr.heap.size ∉ [q, gs, gl]) := ⟨by simp; omega, by simp; omega⟩
      have hdj2 : Hid (p ∉ [q, gs, gl] ∧ bs ∉ [q, gs, gl] ∧ bp ∉ [q, gs, gl]) := by
        obtain ⟨d1, d2, d3⟩ := hdj
        simp at d1 d2 d3
        unfold Hid
        simp
        omega
      have hdj1 : Hid (q ∉ [p, bs, bp] ∧ gs ∉ [p, bs, bp] ∧ gl ∉ [p, bs, bp]) := hdj
      clear hltd hltx hd hx hbr hbq hdj
      by_cases h2 : o.f0 = 2
      · have hba := disk_Barrier hdq
        obtain ⟨fe, s5, hbo⟩ : ∃ fe s5, barOut s = (fe, s5) := ⟨_, _, rfl⟩
        rw [hbo] at hba
        dsimp only at hba
        unfold ptr at hba
        rw [h2] at c0 q0
        have hwq2 : wr.alloc (.cells #[.int .i64 2, .int .i64 o.f1, .int .i64 o.f2, .int .u8 o.f3, .string o.f4, .bool o.f5] 32) = wq := by rw [← hwq, h2]
        clear hwq h2
        go_wp2_with fail
        clear c0 c1 c2 c3 c4 c5 hwq2 q0 q1 q2 q3 q4
        refine hba.mono ?_
        rintro e w4 ⟨rfl, hd4, hS4⟩
        have hx4 := hxq.other hS4 hdj1.out.1 hdj1.out.2.1 hdj1.out.2.2
        have hb04 : Below w.heap.size w w4 := hS4.belowOf hb0q hb0q.size HS3.out
        have hbx4 : w4.heap[wr.heap.size]? = some (.cells #[.int .i64 o.f0, .int .i64 o.f1, .int .i64 o.f2, .int .u8 o.f3, .string o.f4, .bool o.f5] 32 (0, 0)) := (hS4.block _ (Array.getElem?_eq_some_iff.1 hrow).1 hnb.out.1).trans hrow
        have hrb := ref_Barrier hx4
        rw [hbo] at hrb
        dsimp only at hrb
        unfold ptr at hrb
        clear hba hdq hxq hb0q hS4 hrow hbo
        go_wp2_with fail
        refine hrb.mono ?_
        rintro e w5 ⟨rfl, hx5, hS5⟩
        have hd5 := hd4.other hS5 hdj2.out.1 hdj2.out.2.1 hdj2.out.2.2
        have hb05 : Below w.heap.size w w5 := hS5.belowOf hb04 hb04.size HR3.out
        have hbx5 : w5.heap[wr.heap.size]? = some (.cells #[.int .i64 o.f0, .int .i64 o.f1, .int .i64 o.f2, .int .u8 o.f3, .string o.f4, .bool o.f5] 32 (0, 0)) := (hS5.block _ (Array.getElem?_eq_some_iff.1 hbx4).1 hnb.out.2).trans hbx4
        clear hrb hd4 hx4 hb04 hbx4 hS5
        have hsm := law_same hd5 hx5
        unfold ptr at hsm
        go_wp2_with fail
        refine hsm.mono ?_
        rintro e w6 ⟨rfl, hb6⟩
        have hd6 := hd5.below hb6
        have hx6 := hx5.below hb6
        have hb06 := hb05.trans (hb6.mono hb05.size)
        have hbx6 : w6.heap[wr.heap.size]? = some (.cells #[.int .i64 o.f0, .int .i64 o.f1, .int .i64 o.f2, .int .u8 o.f3, .string o.f4, .bool o.f5] 32 (0, 0)) := (hb6.block _ (Array.getElem?_eq_some_iff.1 hbx5).1).trans hbx5
        have k5 : w6.cell? ⟨wr.heap.size, 5, none⟩ = some (.bool o.f5) := by rw [cell_of_row _ _ 5 _ _ (0, 0) hbx6]; rfl
        clear hsm hd5 hx5 hb05 hbx5 hb6 hbx6
        cases hcl : o.f5
        · rw [hcl] at k5
          clear hcl
          go_wp2_with fail
          go_roundw
          case rel => exact ⟨k + 1, p, bs, bp, s5, by omega, by go_num, rfl, hd6, hx6, hP.1, hP.2.1, hP.2.2, hb06⟩
          case measure => simp [RowKit.intOf]; omega
        · rw [hcl] at k5
          clear hcl
          have hcn := disk_Clone hd6
          unfold ptr at hcn
          go_wp2_with fail
          refine hcn.mono ?_
          rintro e w7 ⟨rfl, hc7, hb7⟩
          have hd7 := hd6.below hb7
          have hx7 := hx6.below hb7
          have hb07 := hb06.trans (hb7.mono hb06.size)
          have hl6 := hd6.lt
          have hs6 := hb06.size
          obtain ⟨n6, hn6⟩ : ∃ n6, w6.heap.size = n6 := ⟨_, rfl⟩
          rw [hn6] at hc7 hl6 hs6 ⊢
          clear hcn hd6 hx6 hb06 hb7 hn6 k5
          go_wp2_with fail
          refine (law_full_rd _ 99 (by decide) (by decide)).mono ?_
          rintro e w8 ⟨u8, rfl, hr8, hb8⟩
          have hd8 := hd7.below hb8
          have hx8 := hx7.below hb8
          have hc8 := hc7.below hb8
          have hb08 := hb07.trans (hb8.mono hb07.size)
          have hw9 := disk_Write hd8 0 (by decide) (by decide) hr8 (fullB_blk 99).2
          generalize writeOut s5 0 (fullB 99) = wo at *
          obtain ⟨f9, s9⟩ := wo
          dsimp only at hw9
          unfold ptr at hw9
          clear hd7 hx7 hc7 hb07 hb8 hr8
          go_wp2_with fail
          refine hw9.mono ?_
          rintro e w9 ⟨rfl, hd9, hS9⟩
          have hdj := disjoint_at hd8 hx8
          have hx9 := hx8.other hS9 hdj.1 hdj.2.1 hdj.2.2
          have hc9 := hc8.other hS9 (by simp; omega) (by simp; omega) (by simp; omega)
          have hb09 : Below w.heap.size w w9 := hS9.belowOf hb08 hb08.size (by simp; omega)
          have hw10 := disk_Barrier hd9
          generalize barOut s9 = bo at *
          obtain ⟨f10, s10⟩ := bo
          dsimp only at hw10
          unfold ptr at hw10
          clear hw9 hd8 hx8 hc8 hb08 hS9
          go_wp2_with fail
          refine hw10.mono ?_
          rintro e w10 ⟨rfl, hd10, hS10⟩
          have hx10 := hx9.other hS10 hdj.1 hdj.2.1 hdj.2.2
          have hc10 := hc9.other hS10 (by simp; omega) (by simp; omega) (by simp; omega)
          have hb010 : Below w.heap.size w w10 := hS10.belowOf hb09 hb09.size (by simp; omega)
          clear hw10 hd9 hx9 hc9 hb09 hS10 hd10
          go_wp2_with fail
          go_roundw
          case rel => exact ⟨k + 1, n6, n6 + 1, n6 + 2, s5, by omega, by go_num, rfl, hc10, hx10, by omega, by omega, by omega, hb010⟩
          case measure => simp [RowKit.intOf]; omega
      · by_cases h3 : o.f0 = 3
        · have hba := disk_Arm hdq o.f1 a1.1 a1.2 o.f4 a4
          obtain ⟨s5, hs5⟩ : ∃ s5, armSt s o.f1 o.f4 = s5 := ⟨_, rfl⟩
          rw [hs5] at hba
          unfold ptr at hba
          rw [h3] at c0 q0
          have hwq2 : wr.alloc (.cells #[.int .i64 3, .int .i64 o.f1, .int .i64 o.f2, .int .u8 o.f3, .string o.f4, .bool o.f5] 32) = wq := by rw [← hwq, h3]
          clear hwq h3
          go_wp2_with fail
          clear c0 c1 c2 c3 c4 c5 hwq2 q0 q1 q2 q3 q4
          refine hba.mono ?_
          rintro e w4 ⟨rfl, hd4, hS4', _⟩
          have hS4 : Sole [p, bs, bp] wq w4 := hS4'.mono (by simp)
          have hx4 := hxq.other hS4 hdj1.out.1 hdj1.out.2.1 hdj1.out.2.2
          have hb04 : Below w.heap.size w w4 := hS4.belowOf hb0q hb0q.size HS3.out
          have hbx4 : w4.heap[wr.heap.size]? = some (.cells #[.int .i64 o.f0, .int .i64 o.f1, .int .i64 o.f2, .int .u8 o.f3, .string o.f4, .bool o.f5] 32 (0, 0)) := (hS4.block _ (Array.getElem?_eq_some_iff.1 hrow).1 hnb.out.1).trans hrow
          have q1 : w4.cell? ⟨wr.heap.size, 1, none⟩ = some (.int .i64 o.f1) := by rw [cell_of_row _ _ 1 _ _ (0, 0) hbx4]; rfl
          have q4 : w4.cell? ⟨wr.heap.size, 4, none⟩ = some (.string o.f4) := by rw [cell_of_row _ _ 4 _ _ (0, 0) hbx4]; rfl
          have hrb := ref_Arm hx4 o.f1 a1.1 a1.2 o.f4 a4
          rw [hs5] at hrb
          unfold ptr at hrb
          clear hba hdq hxq hb0q hS4 hS4' hrow hs5
          go_wp2_with fail
          refine hrb.mono ?_
          rintro e w5 ⟨rfl, hx5, hS5'⟩
          have hS5 : Sole [q, gs, gl] w4 w5 := hS5'.mono (by simp)
          have hd5 := hd4.other hS5 hdj2.out.1 hdj2.out.2.1 hdj2.out.2.2
          have hb05 : Below w.heap.size w w5 := hS5.belowOf hb04 hb04.size HR3.out
          have hbx5 : w5.heap[wr.heap.size]? = some (.cells #[.int .i64 o.f0, .int .i64 o.f1, .int .i64 o.f2, .int .u8 o.f3, .string o.f4, .bool o.f5] 32 (0, 0)) := (hS5.block _ (Array.getElem?_eq_some_iff.1 hbx4).1 hnb.out.2).trans hbx4
          clear hrb hd4 hx4 hb04 hbx4 hS5 hS5' q1 q4
          have hsm := law_same hd5 hx5
          unfold ptr at hsm
          go_wp2_with fail
          refine hsm.mono ?_
          rintro e w6 ⟨rfl, hb6⟩
          have hd6 := hd5.below hb6
          have hx6 := hx5.below hb6
          have hb06 := hb05.trans (hb6.mono hb05.size)
          have hbx6 : w6.heap[wr.heap.size]? = some (.cells #[.int .i64 o.f0, .int .i64 o.f1, .int .i64 o.f2, .int .u8 o.f3, .string o.f4, .bool o.f5] 32 (0, 0)) := (hb6.block _ (Array.getElem?_eq_some_iff.1 hbx5).1).trans hbx5
          have k5 : w6.cell? ⟨wr.heap.size, 5, none⟩ = some (.bool o.f5) := by rw [cell_of_row _ _ 5 _ _ (0, 0) hbx6]; rfl
          clear hsm hd5 hx5 hb05 hbx5 hb6 hbx6
          cases hcl : o.f5
          · rw [hcl] at k5
            clear hcl
            go_wp2_with fail
            go_roundw
            case rel => exact ⟨k + 1, p, bs, bp, s5, by omega, by go_num, rfl, hd6, hx6, hP.1, hP.2.1, hP.2.2, hb06⟩
            case measure => simp [RowKit.intOf]; omega
          · rw [hcl] at k5
            clear hcl
            have hcn := disk_Clone hd6
            unfold ptr at hcn
            go_wp2_with fail
            refine hcn.mono ?_
            rintro e w7 ⟨rfl, hc7, hb7⟩
            have hd7 := hd6.below hb7
            have hx7 := hx6.below hb7
            have hb07 := hb06.trans (hb7.mono hb06.size)
            have hl6 := hd6.lt
            have hs6 := hb06.size
            obtain ⟨n6, hn6⟩ : ∃ n6, w6.heap.size = n6 := ⟨_, rfl⟩
            rw [hn6] at hc7 hl6 hs6 ⊢
            clear hcn hd6 hx6 hb06 hb7 hn6 k5
            go_wp2_with fail
            refine (law_full_rd _ 99 (by decide) (by decide)).mono ?_
            rintro e w8 ⟨u8, rfl, hr8, hb8⟩
            have hd8 := hd7.below hb8
            have hx8 := hx7.below hb8
            have hc8 := hc7.below hb8
            have hb08 := hb07.trans (hb8.mono hb07.size)
            have hw9 := disk_Write hd8 0 (by decide) (by decide) hr8 (fullB_blk 99).2
            generalize writeOut s5 0 (fullB 99) = wo at *
            obtain ⟨f9, s9⟩ := wo
            dsimp only at hw9
            unfold ptr at hw9
            clear hd7 hx7 hc7 hb07 hb8 hr8
            go_wp2_with fail
            refine hw9.mono ?_
            rintro e w9 ⟨rfl, hd9, hS9⟩
            have hdj := disjoint_at hd8 hx8
            have hx9 := hx8.other hS9 hdj.1 hdj.2.1 hdj.2.2
            have hc9 := hc8.other hS9 (by simp; omega) (by simp; omega) (by simp; omega)
            have hb09 : Below w.heap.size w w9 := hS9.belowOf hb08 hb08.size (by simp; omega)
            have hw10 := disk_Barrier hd9
            generalize barOut s9 = bo at *
            obtain ⟨f10, s10⟩ := bo
            dsimp only at hw10
            unfold ptr at hw10
            clear hw9 hd8 hx8 hc8 hb08 hS9
            go_wp2_with fail
            refine hw10.mono ?_
            rintro e w10 ⟨rfl, hd10, hS10⟩
            have hx10 := hx9.other hS10 hdj.1 hdj.2.1 hdj.2.2
            have hc10 := hc9.other hS10 (by simp; omega) (by simp; omega) (by simp; omega)
            have hb010 : Below w.heap.size w w10 := hS10.belowOf hb09 hb09.size (by simp; omega)
            clear hw10 hd9 hx9 hc9 hb09 hS10 hd10
            go_wp2_with fail
            go_roundw
            case rel => exact ⟨k + 1, n6, n6 + 1, n6 + 2, s5, by omega, by go_num, rfl, hc10, hx10, by omega, by omega, by omega, hb010⟩
            case measure => simp [RowKit.intOf]; omega
        · by_cases h4 : o.f0 = 4
          · have hba := disk_Cut hdq o.f4 a4
            obtain ⟨s5, hs5⟩ : ∃ s5, cutOut s o.f4 = s5 := ⟨_, rfl⟩
            rw [hs5] at hba
            unfold ptr at hba
            rw [h4] at c0 q0
            have hwq2 : wr.alloc (.cells #[.int .i64 4, .int .i64 o.f1, .int .i64 o.f2, .int .u8 o.f3, .string o.f4, .bool o.f5] 32) = wq := by rw [← hwq, h4]
            clear hwq h4
            go_wp2_with fail
            clear c0 c1 c2 c3 c4 c5 hwq2 q0 q1 q2 q3 q4
            refine hba.mono ?_
            rintro e w4 ⟨rfl, hd4, hS4'⟩
            have hS4 : Sole [p, bs, bp] wq w4 := hS4'.mono (by simp)
            have hx4 := hxq.other hS4 hdj1.out.1 hdj1.out.2.1 hdj1.out.2.2
            have hb04 : Below w.heap.size w w4 := hS4.belowOf hb0q hb0q.size HS3.out
            have hbx4 : w4.heap[wr.heap.size]? = some (.cells #[.int .i64 o.f0, .int .i64 o.f1, .int .i64 o.f2, .int .u8 o.f3, .string o.f4, .bool o.f5] 32 (0, 0)) := (hS4.block _ (Array.getElem?_eq_some_iff.1 hrow).1 hnb.out.1).trans hrow
            have q1 : w4.cell? ⟨wr.heap.size, 1, none⟩ = some (.int .i64 o.f1) := by rw [cell_of_row _ _ 1 _ _ (0, 0) hbx4]; rfl
            have q4 : w4.cell? ⟨wr.heap.size, 4, none⟩ = some (.string o.f4) := by rw [cell_of_row _ _ 4 _ _ (0, 0) hbx4]; rfl
            have hrb := ref_Cut hx4 o.f4 a4
            rw [hs5] at hrb
            unfold ptr at hrb
            clear hba hdq hxq hb0q hS4 hS4' hrow hs5
            go_wp2_with fail
            refine hrb.mono ?_
            rintro e w5 ⟨rfl, hx5, hS5'⟩
            have hS5 : Sole [q, gs, gl] w4 w5 := hS5'.mono (by simp)
            have hd5 := hd4.other hS5 hdj2.out.1 hdj2.out.2.1 hdj2.out.2.2
            have hb05 : Below w.heap.size w w5 := hS5.belowOf hb04 hb04.size HR3.out
            have hbx5 : w5.heap[wr.heap.size]? = some (.cells #[.int .i64 o.f0, .int .i64 o.f1, .int .i64 o.f2, .int .u8 o.f3, .string o.f4, .bool o.f5] 32 (0, 0)) := (hS5.block _ (Array.getElem?_eq_some_iff.1 hbx4).1 hnb.out.2).trans hbx4
            clear hrb hd4 hx4 hb04 hbx4 hS5 hS5' q1 q4
            have hsm := law_same hd5 hx5
            unfold ptr at hsm
            go_wp2_with fail
            refine hsm.mono ?_
            rintro e w6 ⟨rfl, hb6⟩
            have hd6 := hd5.below hb6
            have hx6 := hx5.below hb6
            have hb06 := hb05.trans (hb6.mono hb05.size)
            have hbx6 : w6.heap[wr.heap.size]? = some (.cells #[.int .i64 o.f0, .int .i64 o.f1, .int .i64 o.f2, .int .u8 o.f3, .string o.f4, .bool o.f5] 32 (0, 0)) := (hb6.block _ (Array.getElem?_eq_some_iff.1 hbx5).1).trans hbx5
            have k5 : w6.cell? ⟨wr.heap.size, 5, none⟩ = some (.bool o.f5) := by rw [cell_of_row _ _ 5 _ _ (0, 0) hbx6]; rfl
            clear hsm hd5 hx5 hb05 hbx5 hb6 hbx6
            cases hcl : o.f5
            · rw [hcl] at k5
              clear hcl
              go_wp2_with fail
              go_roundw
              case rel => exact ⟨k + 1, p, bs, bp, s5, by omega, by go_num, rfl, hd6, hx6, hP.1, hP.2.1, hP.2.2, hb06⟩
              case measure => simp [RowKit.intOf]; omega
            · rw [hcl] at k5
              clear hcl
              have hcn := disk_Clone hd6
              unfold ptr at hcn
              go_wp2_with fail
              refine hcn.mono ?_
              rintro e w7 ⟨rfl, hc7, hb7⟩
              have hd7 := hd6.below hb7
              have hx7 := hx6.below hb7
              have hb07 := hb06.trans (hb7.mono hb06.size)
              have hl6 := hd6.lt
              have hs6 := hb06.size
              obtain ⟨n6, hn6⟩ : ∃ n6, w6.heap.size = n6 := ⟨_, rfl⟩
              rw [hn6] at hc7 hl6 hs6 ⊢
              clear hcn hd6 hx6 hb06 hb7 hn6 k5
              go_wp2_with fail
              refine (law_full_rd _ 99 (by decide) (by decide)).mono ?_
              rintro e w8 ⟨u8, rfl, hr8, hb8⟩
              have hd8 := hd7.below hb8
              have hx8 := hx7.below hb8
              have hc8 := hc7.below hb8
              have hb08 := hb07.trans (hb8.mono hb07.size)
              have hw9 := disk_Write hd8 0 (by decide) (by decide) hr8 (fullB_blk 99).2
              generalize writeOut s5 0 (fullB 99) = wo at *
              obtain ⟨f9, s9⟩ := wo
              dsimp only at hw9
              unfold ptr at hw9
              clear hd7 hx7 hc7 hb07 hb8 hr8
              go_wp2_with fail
              refine hw9.mono ?_
              rintro e w9 ⟨rfl, hd9, hS9⟩
              have hdj := disjoint_at hd8 hx8
              have hx9 := hx8.other hS9 hdj.1 hdj.2.1 hdj.2.2
              have hc9 := hc8.other hS9 (by simp; omega) (by simp; omega) (by simp; omega)
              have hb09 : Below w.heap.size w w9 := hS9.belowOf hb08 hb08.size (by simp; omega)
              have hw10 := disk_Barrier hd9
              generalize barOut s9 = bo at *
              obtain ⟨f10, s10⟩ := bo
              dsimp only at hw10
              unfold ptr at hw10
              clear hw9 hd8 hx8 hc8 hb08 hS9
              go_wp2_with fail
              refine hw10.mono ?_
              rintro e w10 ⟨rfl, hd10, hS10⟩
              have hx10 := hx9.other hS10 hdj.1 hdj.2.1 hdj.2.2
              have hc10 := hc9.other hS10 (by simp; omega) (by simp; omega) (by simp; omega)
              have hb010 : Below w.heap.size w w10 := hS10.belowOf hb09 hb09.size (by simp; omega)
              clear hw10 hd9 hx9 hc9 hb09 hS10 hd10
              go_wp2_with fail
              go_roundw
              case rel => exact ⟨k + 1, n6, n6 + 1, n6 + 2, s5, by omega, by go_num, rfl, hc10, hx10, by omega, by omega, by omega, hb010⟩
              case measure => simp [RowKit.intOf]; omega
          · by_cases h5 : o.f0 = 5
            · have hba := disk_Power hdq
              obtain ⟨s5, hs5⟩ : ∃ s5 : St, { s with off := false } = s5 := ⟨_, rfl⟩
              rw [hs5] at hba
              unfold ptr at hba
              rw [h5] at c0 q0
              have hwq2 : wr.alloc (.cells #[.int .i64 5, .int .i64 o.f1, .int .i64 o.f2, .int .u8 o.f3, .string o.f4, .bool o.f5] 32) = wq := by rw [← hwq, h5]
              clear hwq h5
              go_wp2_with fail
              clear c0 c1 c2 c3 c4 c5 hwq2 q0 q1 q2 q3 q4
              refine hba.mono ?_
              rintro e w4 ⟨rfl, hd4, hS4'⟩
              have hS4 : Sole [p, bs, bp] wq w4 := hS4'.mono (by simp)
              have hx4 := hxq.other hS4 hdj1.out.1 hdj1.out.2.1 hdj1.out.2.2
              have hb04 : Below w.heap.size w w4 := hS4.belowOf hb0q hb0q.size HS3.out
              have hbx4 : w4.heap[wr.heap.size]? = some (.cells #[.int .i64 o.f0, .int .i64 o.f1, .int .i64 o.f2, .int .u8 o.f3, .string o.f4, .bool o.f5] 32 (0, 0)) := (hS4.block _ (Array.getElem?_eq_some_iff.1 hrow).1 hnb.out.1).trans hrow
              obtain ⟨w5, hw5⟩ : ∃ w5, w4.setCell ⟨q, 4, none⟩ (.bool false) = w5 := ⟨_, rfl⟩
              have hS5' : Sole [q] w4 w5 := by rw [← hw5]; exact Sole.setCell _ _ (by simp)
              obtain ⟨nb, cs, cl, mk, b1, b2, b3, b4, b5, b6, b7, hr4⟩ := hx4.row
              have r4 := (rcells hr4).c4
              have f4 := (rcells hr4).fr 4
              have hx5 : RefAt w5 q gs gl s5 := by
                rw [← hs5]
                refine hx4.turn hS5' ⟨nb, cs, cl, mk, b1, b2, b3, b4, b5, b6, b7, ?_⟩ rfl rfl rfl ⟨hx4.good.b0, hx4.good.b1, hx4.good.safe, hx4.good.pend, hx4.good.l0, hx4.good.l1, hx4.good.w0, hx4.good.w1, hx4.good.mz⟩
                rw [← hw5, heap_setCell_same w4 q 4 _ _ _ hr4]
                simp [cellsR, leftR]
              have hS5 : Sole [q, gs, gl] w4 w5 := hS5'.mono (by simp)
              have hd5 := hd4.other hS5 hdj2.out.1 hdj2.out.2.1 hdj2.out.2.2
              have hb05 : Below w.heap.size w w5 := hS5.belowOf hb04 hb04.size HR3.out
              have hbx5 : w5.heap[wr.heap.size]? = some (.cells #[.int .i64 o.f0, .int .i64 o.f1, .int .i64 o.f2, .int .u8 o.f3, .string o.f4, .bool o.f5] 32 (0, 0)) := (hS5.block _ (Array.getElem?_eq_some_iff.1 hbx4).1 hnb.out.2).trans hbx4
              clear hba hdq hxq hb0q hS4 hS4' hrow hs5 hd4 hx4 hb04 hbx4 hS5 hS5' hr4 b7
              have hsm := law_same hd5 hx5
              unfold ptr at hsm
              go_wp2_with fail
              refine hsm.mono ?_
              rintro e w6 ⟨rfl, hb6⟩
              have hd6 := hd5.below hb6
              have hx6 := hx5.below hb6
              have hb06 := hb05.trans (hb6.mono hb05.size)
              have hbx6 : w6.heap[wr.heap.size]? = some (.cells #[.int .i64 o.f0, .int .i64 o.f1, .int .i64 o.f2, .int .u8 o.f3, .string o.f4, .bool o.f5] 32 (0, 0)) := (hb6.block _ (Array.getElem?_eq_some_iff.1 hbx5).1).trans hbx5
              have k5 : w6.cell? ⟨wr.heap.size, 5, none⟩ = some (.bool o.f5) := by rw [cell_of_row _ _ 5 _ _ (0, 0) hbx6]; rfl
              clear hsm hd5 hx5 hb05 hbx5 hb6 hbx6
              cases hcl : o.f5
              · rw [hcl] at k5
                clear hcl
                go_wp2_with fail
                go_roundw
                case rel => exact ⟨k + 1, p, bs, bp, s5, by omega, by go_num, rfl, hd6, hx6, hP.1, hP.2.1, hP.2.2, hb06⟩
                case measure => simp [RowKit.intOf]; omega
              · rw [hcl] at k5
                clear hcl
                have hcn := disk_Clone hd6
                unfold ptr at hcn
                go_wp2_with fail
                refine hcn.mono ?_
                rintro e w7 ⟨rfl, hc7, hb7⟩
                have hd7 := hd6.below hb7
                have hx7 := hx6.below hb7
                have hb07 := hb06.trans (hb7.mono hb06.size)
                have hl6 := hd6.lt
                have hs6 := hb06.size
                obtain ⟨n6, hn6⟩ : ∃ n6, w6.heap.size = n6 := ⟨_, rfl⟩
                rw [hn6] at hc7 hl6 hs6 ⊢
                clear hcn hd6 hx6 hb06 hb7 hn6 k5
                go_wp2_with fail
                refine (law_full_rd _ 99 (by decide) (by decide)).mono ?_
                rintro e w8 ⟨u8, rfl, hr8, hb8⟩
                have hd8 := hd7.below hb8
                have hx8 := hx7.below hb8
                have hc8 := hc7.below hb8
                have hb08 := hb07.trans (hb8.mono hb07.size)
                have hw9 := disk_Write hd8 0 (by decide) (by decide) hr8 (fullB_blk 99).2
                generalize writeOut s5 0 (fullB 99) = wo at *
                obtain ⟨f9, s9⟩ := wo
                dsimp only at hw9
                unfold ptr at hw9
                clear hd7 hx7 hc7 hb07 hb8 hr8
                go_wp2_with fail
                refine hw9.mono ?_
                rintro e w9 ⟨rfl, hd9, hS9⟩
                have hdj := disjoint_at hd8 hx8
                have hx9 := hx8.other hS9 hdj.1 hdj.2.1 hdj.2.2
                have hc9 := hc8.other hS9 (by simp; omega) (by simp; omega) (by simp; omega)
                have hb09 : Below w.heap.size w w9 := hS9.belowOf hb08 hb08.size (by simp; omega)
                have hw10 := disk_Barrier hd9
                generalize barOut s9 = bo at *
                obtain ⟨f10, s10⟩ := bo
                dsimp only at hw10
                unfold ptr at hw10
                clear hw9 hd8 hx8 hc8 hb08 hS9
                go_wp2_with fail
                refine hw10.mono ?_
                rintro e w10 ⟨rfl, hd10, hS10⟩
                have hx10 := hx9.other hS10 hdj.1 hdj.2.1 hdj.2.2
                have hc10 := hc9.other hS10 (by simp; omega) (by simp; omega) (by simp; omega)
                have hb010 : Below w.heap.size w w10 := hS10.belowOf hb09 hb09.size (by simp; omega)
                clear hw10 hd9 hx9 hc9 hb09 hS10 hd10
                go_wp2_with fail
                go_roundw
                case rel => exact ⟨k + 1, n6, n6 + 1, n6 + 2, s5, by omega, by go_num, rfl, hc10, hx10, by omega, by omega, by omega, hb010⟩
                case measure => simp [RowKit.intOf]; omega
            · by_cases h01 : o.f0 = 0 ∨ o.f0 = 1
              · rcases h01 with h0 | h0
                · have hh := trivial
                  have hwq2 : wr.alloc (.cells #[.int .i64 0, .int .i64 o.f1, .int .i64 o.f2, .int .u8 o.f3, .string o.f4, .bool o.f5] 32) = wq := by rw [← hwq, h0]
                  rw [h0] at c0 q0
                  clear hwq
                  go_wp2_with fail
                  clear c0 c1 c2 c3 c4 c5 hwq2
                  refine (law_full wq o.f3 a3.1 a3.2).mono ?_
                  rintro e w4 ⟨rfl, hw4⟩
                  have hB4 : Below wq.heap.size wq w4 := by rw [hw4]; exact (Below.refl _ wq).alloc (Nat.le_refl _) _
                  have hrowb : w4.heap[wq.heap.size]? = some (.cells (bytesV (fullB o.f3)) 5 (0, 0)) := by rw [hw4]; exact heap_alloc_new wq _
                  have hxl : (fullB o.f3).length = 512 := fullB_len _
                  have hxb : Byt (fullB o.f3) := (fullB_blk _).2
                  have hbx4 : w4.heap[wr.heap.size]? = some (.cells #[.int .i64 o.f0, .int .i64 o.f1, .int .i64 o.f2, .int .u8 o.f3, .string o.f4, .bool o.f5] 32 (0, 0)) := (hB4.block _ (Array.getElem?_eq_some_iff.1 hrow).1).trans hrow
                  have hgb : wq.heap.size ≤ wq.heap.size := Nat.le_refl _
                  have z0 : w4.cell? ⟨wr.heap.size, 0, none⟩ = some (.int .i64 0) := by rw [cell_of_row _ _ 0 _ _ (0, 0) hbx4, h0]; rfl
                  obtain ⟨gb, hgbe⟩ : ∃ gb, wq.heap.size = gb := ⟨_, rfl⟩
                  have HGE : Hid (wq.heap.size = gb) := hgbe
                  obtain ⟨m, hme⟩ : ∃ m : Nat, 512 = m := ⟨_, rfl⟩
                  have hm : m ≤ 1030 := by omega
                  generalize fullB o.f3 = xs at *
                  rw [hgbe] at hrowb ⊢
                  rw [hme] at hxl ⊢
                  have hgb : wq.heap.size ≤ gb := by omega
                  clear hw4 h0 q0 q1 q2 q3 q4 hme hgbe
                  have hrdb : Rd w4 (.slice (some ⟨gb, 0, none⟩) m m) xs := by
                    refine ⟨_, m, by rw [hxl], by omega, by unfold maxLen; omega, (by intro e; cases e), fun _ => ⟨gb, 0, rfl, (Array.getElem?_eq_some_iff.1 hrowb).1, fun i hi => ?_⟩⟩
                    exact cells_row hrowb i hi
                  have HRB : Hid (Rd w4 (.slice (some ⟨gb, 0, none⟩) m m) xs) := hrdb
                  clear hrdb
                  go_wp2_with (refine wpList_append_rd rfl _ _ rfl w4.heap.size (.slice none 0 0) [] rfl (Own.nil _ _) (.slice (some ⟨gb, 0, none⟩) m m) xs rfl HRB.out (by simp; omega) (Nat.le_refl _) ?_; intro vc w5 hoc hg5)
                  have hB5 : Below w4.heap.size w4 w5 := (Below.refl _ w4).grown hg5 (Nat.le_refl _) (fun k hk => by cases hk)
                  have hd5 := (hdq.below hB4).below hB5
                  have hx5 := (hxq.below hB4).below hB5
                  have hb05 := (hb0q.trans (hB4.mono hb0q.size)).trans (hB5.mono (Nat.le_trans hb0q.size hB4.size))
                  have hbx5 : w5.heap[wr.heap.size]? = some (.cells #[.int .i64 o.f0, .int .i64 o.f1, .int .i64 o.f2, .int .u8 o.f3, .string o.f4, .bool o.f5] 32 (0, 0)) := (hB5.block _ (Array.getElem?_eq_some_iff.1 hbx4).1).trans hbx4
                  have hrowb5 : w5.heap[gb]? = some (.cells (bytesV xs) 5 (0, 0)) := (hB5.block _ (Array.getElem?_eq_some_iff.1 hrowb).1).trans hrowb
                  have hob : Own w5 wq.heap.size (.slice (some ⟨gb, 0, none⟩) m m) xs := by
                    refine ⟨by simp, .inr ⟨gb, m, _, by rw [hxl], hgb, hrowb5, by omega, by unfold maxLen; omega, by simp [bytesV, hxl], ?_⟩⟩
                    rw [hxl]
                    simp only [bytesV, Nat.mul_one]
                    exact List.take_of_length_le (by simp; omega)
                  rw [List.nil_append] at hoc
                  have hld := hdq.lt
                  have hlx := hxq.lt
                  have hl4 := hB4.size
                  have hbl5 : wr.heap.size < w5.heap.size := (Array.getElem?_eq_some_iff.1 hbx5).1
                  have cb : ∀ W, Sole [p, bs, bp, q, gs, gl] w5 W → (convert 33 9 (.slice (some ⟨gb, 0, none⟩) m m)).run Try.prog W = .ok (.string (strOfNums xs)) W := fun W hW => (own_kept hob hW (by simp; omega)).rd.conv
                  have cc : ∀ W, Sole [p, bs, bp, q, gs, gl] w5 W → (convert 33 9 vc).run Try.prog W = .ok (.string (strOfNums xs)) W := fun W hW => (own_kept hoc hW (by simp; omega)).rd.conv
                  have hn6 : wr.heap.size ∉ [p, bs, bp, q, gs, gl] := by
                    have h1 := hnb.out.1
                    have h2 := hnb.out.2
                    simp at h1 h2 ⊢
                    omega
                  have qF : ∀ W, Sole [p, bs, bp, q, gs, gl] w5 W → W.cell? ⟨wr.heap.size, 1, none⟩ = some (.int .i64 o.f1) := fun W hW => by
                    rw [World.cell?_of_block (w := w5) (a := ⟨wr.heap.size, 1, none⟩) (hW.block _ hbl5 hn6), cell_of_row _ _ 1 _ _ (0, 0) hbx5]; rfl
                  have hWd := disk_Write (w := w5.drew) (hd5.below (Below.refl _ _).drew) o.f1 a1.1 a1.2 (own_kept hob (Sole.drew w5 []) (by simp)).rd hxb
                  have hWr : ∀ W, RefAt W q gs gl s → Sole [p, bs, bp, q, gs, gl] w5 W → Calls Try.prog 14 #[ptr q, .int .i64 o.f1, vc] W fun e w' => e = .returned (.int .i64 (writeOut s o.f1 xs).1) ∧ RefAt w' q gs gl (writeOut s o.f1 xs).2 ∧ Sole [q, gs, gl] W w' := fun W hxW hW => ref_Write hxW o.f1 a1.1 a1.2 (fun W' hW' => (own_kept hoc (hW.trans (hW'.mono (by simp))) (by simp; omega)).rd) hxb
                  obtain ⟨fe, s5, hwo⟩ : ∃ fe s5, writeOut s o.f1 xs = (fe, s5) := ⟨_, _, rfl⟩
                  rw [hwo] at hWd hWr
                  dsimp only at hWd hWr
                  unfold ptr at hWd hWr
                  have HX : Hid (∀ W, Sole [p, bs, bp] w5.drew W → RefAt W q gs gl s) := fun W hW => (hx5.below (Below.refl _ _).drew).other hW hdj1.out.1 hdj1.out.2.1 hdj1.out.2.2
                  have HRW : Hid (w5.heap[gb]? = some (.cells (bytesV xs) 5 (0, 0)) ∧ gb ∉ [p, bs, bp, q, gs, gl]) := ⟨hrowb5, by simp; omega⟩
                  have HB5 : Hid _ := hbx5
                  have HGB : Hid (w.heap.size ≤ gb ∧ wr.heap.size ≠ gb) := by
                    have h1 := hb0q.size
                    have h2 := (Array.getElem?_eq_some_iff.1 hrow).1
                    unfold Hid
                    omega
                  clear hob hoc hg5 hB4 hB5 hwo hrowb hrowb5 hbx4 hdq hxq hb0q hrow hd5 hx5 hbx5
                  go_wp2_with fail
                  refine wp_region_noPanic ?_
                  go_region_held (fun W => Sole [p, bs, bp, q, gs, gl] w5 W) (first | assumption | exact Sole.drew _ _)
                    (first
                      | (go_at_call 13; refine hWd.mono ?_; rintro e w6 ⟨rfl, hd6, hS6⟩; have hT6 : Sole [p, bs, bp, q, gs, gl] w5 w6 := (Sole.drew _ _).trans (hS6.mono (by simp)); have hx6 := HX.out _ hS6)
                      | (go_at_call 14; refine (hWr _ hx6 hT6).mono ?_; rintro e w7 ⟨rfl, hx7, hS7⟩; have hT7 : Sole [p, bs, bp, q, gs, gl] w5 w7 := hT6.trans (hS7.mono (by simp))))
                  refine NoPanic.normal ?_
                  have hd7 := hd6.other hS7 hdj2.out.1 hdj2.out.2.1 hdj2.out.2.2
                  have hb07 : Below w.heap.size w w7 := hT7.belowOf hb05 hb05.size (by have h1 := HQ.out; simp; omega)
                  have hbx7 : w7.heap[wr.heap.size]? = some (.cells #[.int .i64 o.f0, .int .i64 o.f1, .int .i64 o.f2, .int .u8 o.f3, .string o.f4, .bool o.f5] 32 (0, 0)) := (hT7.block _ hbl5 hn6).trans HB5.out
                  have hrb7 : w7.heap[gb]? = some (.cells (bytesV xs) 5 (0, 0)) := (hT7.block _ (Array.getElem?_eq_some_iff.1 HRW.out.1).1 HRW.out.2).trans HRW.out.1
                  obtain ⟨bx, hbx⟩ : ∃ bx, wr.heap.size = bx := ⟨_, rfl⟩
                  rw [hbx] at hbx7 hnb HGB ⊢
                  have hgp : Hid (p ≠ gb ∧ bs ≠ gb ∧ bp ≠ gb ∧ q ≠ gb ∧ gs ≠ gb ∧ gl ≠ gb) := by
                    have := HRW.out.2
                    simp at this
                    unfold Hid
                    omega
                  clear cb cc qF hWd hWr hd6 hS6 hT6 hx6 hS7 hT7 hb05 HX HB5 hbl5 hn6 hld hlx hl4 hbx
                  go_wp2_with fail
                  go_loopw [93] (fun t wz => ∃ (j : Nat) (ys : List Int), j ≤ m ∧ t = .int .i64 j ∧ ys.length = m ∧ wz.heap[gb]? = some (.cells (bytesV ys) 5 (0, 0)) ∧ Sole [gb] w7 wz) (fun t _ => m - (RowKit.intOf t).toNat)
                  case atStart => exact ⟨0, xs, Nat.zero_le _, rfl, hxl, hrb7, Sole.refl _ _⟩
                  case round =>
                    obtain ⟨j, ys, hj, rfl, hyl, hyr, hSz⟩ := hrel
                    by_cases hjm : j < m
                    · have hjI : (j : Int) < (m : Int) := by omega
                      have kc := cells_row hyr j (by omega)
                      rw [Nat.zero_add] at kc
                      have kf : wr.frozen? ⟨gb, j, none⟩ = false := by simp [World.frozen?, hyr]
                      go_wp2_with fail
                      go_roundw
                      case rel => exact ⟨j + 1, ys.set j 255, by omega, by go_num, by simpa using hyl, bytes_set hyr j 255, hSz.trans (Sole.setCell _ _ (by simp))⟩
                      case measure => simp [RowKit.intOf]; omega
                    · have hjI : ¬ (j : Int) < (m : Int) := by omega
                      obtain ⟨w5', hw5'⟩ : ∃ w5', wr = w5' := ⟨_, rfl⟩
                      have hg := hgp.out
                      have hd5 := hd7.other hSz (by simp; omega) (by simp; omega) (by simp; omega)
                      have hx5 := hx7.other hSz (by simp; omega) (by simp; omega) (by simp; omega)
                      have hb05 : Below w.heap.size w wr := hSz.belowOf hb07 hb07.size (by have := HGB.out; simp; omega)
                      have hbx5 : wr.heap[bx]? = some (.cells #[.int .i64 o.f0, .int .i64 o.f1, .int .i64 o.f2, .int .u8 o.f3, .string o.f4, .bool o.f5] 32 (0, 0)) := (hSz.block _ (Array.getElem?_eq_some_iff.1 hbx7).1 (by have := HGB.out; simp; omega)).trans hbx7
                      clear hd7 hx7 hb07 hbx7 hrb7 hSz hyr hw5' hg
                      have hsm := law_same hd5 hx5
                      unfold ptr at hsm
                      go_wp2_with fail
                      refine hsm.mono ?_
                      rintro e w6 ⟨rfl, hb6⟩
                      have hd6 := hd5.below hb6
                      have hx6 := hx5.below hb6
                      have hb06 := hb05.trans (hb6.mono hb05.size)
                      have hbx6 : w6.heap[bx]? = some (.cells #[.int .i64 o.f0, .int .i64 o.f1, .int .i64 o.f2, .int .u8 o.f3, .string o.f4, .bool o.f5] 32 (0, 0)) := (hb6.block _ (Array.getElem?_eq_some_iff.1 hbx5).1).trans hbx5
                      have k5 : w6.cell? ⟨bx, 5, none⟩ = some (.bool o.f5) := by rw [cell_of_row _ _ 5 _ _ (0, 0) hbx6]; rfl
                      clear hsm hd5 hx5 hb05 hbx5 hb6 hbx6
                      cases hcl : o.f5
                      · rw [hcl] at k5
                        clear hcl
                        go_wp2_with fail
                        go_roundw
                        case rel => exact ⟨k + 1, p, bs, bp, s5, by omega, by go_num, rfl, hd6, hx6, hP.1, hP.2.1, hP.2.2, hb06⟩
                        case measure => simp [RowKit.intOf]; omega
                      · rw [hcl] at k5
                        clear hcl
                        have hcn := disk_Clone hd6
                        unfold ptr at hcn
                        go_wp2_with fail
                        refine hcn.mono ?_
                        rintro e w7 ⟨rfl, hc7, hb7⟩
                        have hd7 := hd6.below hb7
                        have hx7 := hx6.below hb7
                        have hb07 := hb06.trans (hb7.mono hb06.size)
                        have hl6 := hd6.lt
                        have hs6 := hb06.size
                        obtain ⟨n6, hn6⟩ : ∃ n6, w6.heap.size = n6 := ⟨_, rfl⟩
                        rw [hn6] at hc7 hl6 hs6 ⊢
                        clear hcn hd6 hx6 hb06 hb7 hn6 k5
                        go_wp2_with fail
                        refine (law_full_rd _ 99 (by decide) (by decide)).mono ?_
                        rintro e w8 ⟨u8, rfl, hr8, hb8⟩
                        have hd8 := hd7.below hb8
                        have hx8 := hx7.below hb8
                        have hc8 := hc7.below hb8
                        have hb08 := hb07.trans (hb8.mono hb07.size)
                        have hw9 := disk_Write hd8 0 (by decide) (by decide) hr8 (fullB_blk 99).2
                        generalize writeOut s5 0 (fullB 99) = wo at *
                        obtain ⟨f9, s9⟩ := wo
                        dsimp only at hw9
                        unfold ptr at hw9
                        clear hd7 hx7 hc7 hb07 hb8 hr8
                        go_wp2_with fail
                        refine hw9.mono ?_
                        rintro e w9 ⟨rfl, hd9, hS9⟩
                        have hdj := disjoint_at hd8 hx8
                        have hx9 := hx8.other hS9 hdj.1 hdj.2.1 hdj.2.2
                        have hc9 := hc8.other hS9 (by simp; omega) (by simp; omega) (by simp; omega)
                        have hb09 : Below w.heap.size w w9 := hS9.belowOf hb08 hb08.size (by simp; omega)
                        have hw10 := disk_Barrier hd9
                        generalize barOut s9 = bo at *
                        obtain ⟨f10, s10⟩ := bo
                        dsimp only at hw10
                        unfold ptr at hw10
                        clear hw9 hd8 hx8 hc8 hb08 hS9
                        go_wp2_with fail
                        refine hw10.mono ?_
                        rintro e w10 ⟨rfl, hd10, hS10⟩
                        have hx10 := hx9.other hS10 hdj.1 hdj.2.1 hdj.2.2
                        have hc10 := hc9.other hS10 (by simp; omega) (by simp; omega) (by simp; omega)
                        have hb010 : Below w.heap.size w w10 := hS10.belowOf hb09 hb09.size (by simp; omega)
                        clear hw10 hd9 hx9 hc9 hb09 hS10 hd10
                        go_wp2_with fail
                        go_roundw
                        case rel => exact ⟨k + 1, n6, n6 + 1, n6 + 2, s5, by omega, by go_num, rfl, hc10, hx10, by omega, by omega, by omega, hb010⟩
                        case measure => simp [RowKit.intOf]; omega
                · have hh := trivial
                  have hwq2 : wr.alloc (.cells #[.int .i64 1, .int .i64 o.f1, .int .i64 o.f2, .int .u8 o.f3, .string o.f4, .bool o.f5] 32) = wq := by rw [← hwq, h0]
                  rw [h0] at c0 q0
                  clear hwq
                  go_wp2_with fail
                  clear c0 c1 c2 c3 c4 c5 hwq2
                  refine (law_full wq o.f3 a3.1 a3.2).mono ?_
                  rintro e w3' ⟨rfl, hw3'⟩
                  have hB3 : Below wq.heap.size wq w3' := by rw [hw3']; exact (Below.refl _ wq).alloc (Nat.le_refl _) _
                  have hbx3 : w3'.heap[wr.heap.size]? = some (.cells #[.int .i64 o.f0, .int .i64 o.f1, .int .i64 o.f2, .int .u8 o.f3, .string o.f4, .bool o.f5] 32 (0, 0)) := (hB3.block _ (Array.getElem?_eq_some_iff.1 hrow).1).trans hrow
                  have z0 : w3'.cell? ⟨wr.heap.size, 0, none⟩ = some (.int .i64 1) := by rw [cell_of_row _ _ 0 _ _ (0, 0) hbx3, h0]; rfl
                  have z2 : w3'.cell? ⟨wr.heap.size, 2, none⟩ = some (.int .i64 o.f2) := by rw [cell_of_row _ _ 2 _ _ (0, 0) hbx3]; rfl
                  clear hw3' q0 q1 q2 q3 q4
                  go_wp2_with fail
                  refine (law_short w3' o.f2 a2.1 a2.2).mono ?_
                  rintro e w3x ⟨rfl, rfl⟩
                  have hsn := shortN_in o.f2
                  obtain ⟨m, hme⟩ : ∃ m : Nat, shortN o.f2 = (m : Int) := ⟨(shortN o.f2).toNat, by omega⟩
                  rw [hme] at hsn ⊢
                  have hm : m ≤ 1030 := by omega
                  have hmk : (Instr.makeSlice 33 (.int .i64 (m : Int)) (.int .i64 (m : Int))).run Try.prog w3x = .ok (.slice (some ⟨w3x.heap.size, 0, none⟩) m m) (w3x.alloc (.cells (List.replicate m (Value.int .u8 0)).toArray 5)) := make_bytes w3x (m : Int) m rfl (by omega)
                  obtain ⟨w4, hw4⟩ : ∃ w4, w3x.alloc (.cells (List.replicate m (Value.int .u8 0)).toArray 5) = w4 := ⟨_, rfl⟩
                  rw [hw4] at hmk
                  have hB34 : Below w3x.heap.size w3x w4 := by rw [← hw4]; exact (Below.refl _ w3x).alloc (Nat.le_refl _) _
                  have hB4 : Below wq.heap.size wq w4 := hB3.trans (hB34.mono hB3.size)
                  have hrowb : w4.heap[w3x.heap.size]? = some (.cells (bytesV (List.replicate m 0)) 5 (0, 0)) := by rw [← hw4, heap_alloc_new]; simp [bytesV]
                  have hxl : (List.replicate m (0 : Int)).length = m := List.length_replicate
                  have hxb : Byt (List.replicate m (0 : Int)) := fun x hx => by rw [List.eq_of_mem_replicate hx]; omega
                  have hbx4 : w4.heap[wr.heap.size]? = some (.cells #[.int .i64 o.f0, .int .i64 o.f1, .int .i64 o.f2, .int .u8 o.f3, .string o.f4, .bool o.f5] 32 (0, 0)) := (hB34.block _ (Array.getElem?_eq_some_iff.1 hbx3).1).trans hbx3
                  have hgb : wq.heap.size ≤ w3x.heap.size := hB3.size
                  obtain ⟨gb, hgbe⟩ : ∃ gb, w3x.heap.size = gb := ⟨_, rfl⟩
                  generalize List.replicate m (0 : Int) = xs at *
                  rw [hgbe] at hrowb hgb hmk
                  clear hw4 h0 hme hgbe hB3 hB34 hbx3 z0 z2
                  have hrdb : Rd w4 (.slice (some ⟨gb, 0, none⟩) m m) xs := by
                    refine ⟨_, m, by rw [hxl], by omega, by unfold maxLen; omega, (by intro e; cases e), fun _ => ⟨gb, 0, rfl, (Array.getElem?_eq_some_iff.1 hrowb).1, fun i hi => ?_⟩⟩
                    exact cells_row hrowb i hi
                  have HRB : Hid (Rd w4 (.slice (some ⟨gb, 0, none⟩) m m) xs) := hrdb
                  clear hrdb
                  go_wp2_with (refine wpList_append_rd rfl _ _ rfl w4.heap.size (.slice none 0 0) [] rfl (Own.nil _ _) (.slice (some ⟨gb, 0, none⟩) m m) xs rfl HRB.out (by simp; omega) (Nat.le_refl _) ?_; intro vc w5 hoc hg5)
                  have hB5 : Below w4.heap.size w4 w5 := (Below.refl _ w4).grown hg5 (Nat.le_refl _) (fun k hk => by cases hk)
                  have hd5 := (hdq.below hB4).below hB5
                  have hx5 := (hxq.below hB4).below hB5
                  have hb05 := (hb0q.trans (hB4.mono hb0q.size)).trans (hB5.mono (Nat.le_trans hb0q.size hB4.size))
                  have hbx5 : w5.heap[wr.heap.size]? = some (.cells #[.int .i64 o.f0, .int .i64 o.f1, .int .i64 o.f2, .int .u8 o.f3, .string o.f4, .bool o.f5] 32 (0, 0)) := (hB5.block _ (Array.getElem?_eq_some_iff.1 hbx4).1).trans hbx4
                  have hrowb5 : w5.heap[gb]? = some (.cells (bytesV xs) 5 (0, 0)) := (hB5.block _ (Array.getElem?_eq_some_iff.1 hrowb).1).trans hrowb
                  have hob : Own w5 wq.heap.size (.slice (some ⟨gb, 0, none⟩) m m) xs := by
                    refine ⟨by simp, .inr ⟨gb, m, _, by rw [hxl], hgb, hrowb5, by omega, by unfold maxLen; omega, by simp [bytesV, hxl], ?_⟩⟩
                    rw [hxl]
                    simp only [bytesV, Nat.mul_one]
                    exact List.take_of_length_le (by simp; omega)
                  rw [List.nil_append] at hoc
                  have hld := hdq.lt
                  have hlx := hxq.lt
                  have hl4 := hB4.size
                  have hbl5 : wr.heap.size < w5.heap.size := (Array.getElem?_eq_some_iff.1 hbx5).1
                  have cb : ∀ W, Sole [p, bs, bp, q, gs, gl] w5 W → (convert 33 9 (.slice (some ⟨gb, 0, none⟩) m m)).run Try.prog W = .ok (.string (strOfNums xs)) W := fun W hW => (own_kept hob hW (by simp; omega)).rd.conv
                  have cc : ∀ W, Sole [p, bs, bp, q, gs, gl] w5 W → (convert 33 9 vc).run Try.prog W = .ok (.string (strOfNums xs)) W := fun W hW => (own_kept hoc hW (by simp; omega)).rd.conv
                  have hn6 : wr.heap.size ∉ [p, bs, bp, q, gs, gl] := by
                    have h1 := hnb.out.1
                    have h2 := hnb.out.2
                    simp at h1 h2 ⊢
                    omega
                  have qF : ∀ W, Sole [p, bs, bp, q, gs, gl] w5 W → W.cell? ⟨wr.heap.size, 1, none⟩ = some (.int .i64 o.f1) := fun W hW => by
                    rw [World.cell?_of_block (w := w5) (a := ⟨wr.heap.size, 1, none⟩) (hW.block _ hbl5 hn6), cell_of_row _ _ 1 _ _ (0, 0) hbx5]; rfl
                  have hWd := disk_Write (w := w5.drew) (hd5.below (Below.refl _ _).drew) o.f1 a1.1 a1.2 (own_kept hob (Sole.drew w5 []) (by simp)).rd hxb
                  have hWr : ∀ W, RefAt W q gs gl s → Sole [p, bs, bp, q, gs, gl] w5 W → Calls Try.prog 14 #[ptr q, .int .i64 o.f1, vc] W fun e w' => e = .returned (.int .i64 (writeOut s o.f1 xs).1) ∧ RefAt w' q gs gl (writeOut s o.f1 xs).2 ∧ Sole [q, gs, gl] W w' := fun W hxW hW => ref_Write hxW o.f1 a1.1 a1.2 (fun W' hW' => (own_kept hoc (hW.trans (hW'.mono (by simp))) (by simp; omega)).rd) hxb
                  obtain ⟨fe, s5, hwo⟩ : ∃ fe s5, writeOut s o.f1 xs = (fe, s5) := ⟨_, _, rfl⟩
                  rw [hwo] at hWd hWr
                  dsimp only at hWd hWr
                  unfold ptr at hWd hWr
                  have HX : Hid (∀ W, Sole [p, bs, bp] w5.drew W → RefAt W q gs gl s) := fun W hW => (hx5.below (Below.refl _ _).drew).other hW hdj1.out.1 hdj1.out.2.1 hdj1.out.2.2
                  have HRW : Hid (w5.heap[gb]? = some (.cells (bytesV xs) 5 (0, 0)) ∧ gb ∉ [p, bs, bp, q, gs, gl]) := ⟨hrowb5, by simp; omega⟩
                  have HB5 : Hid _ := hbx5
                  have HGB : Hid (w.heap.size ≤ gb ∧ wr.heap.size ≠ gb) := by
                    have h1 := hb0q.size
                    have h2 := (Array.getElem?_eq_some_iff.1 hrow).1
                    unfold Hid
                    omega
                  clear hob hoc hg5 hB4 hB5 hwo hrowb hrowb5 hbx4 hdq hxq hb0q hrow hd5 hx5 hbx5
                  go_wp2_with fail
                  refine wp_region_noPanic ?_
                  go_region_held (fun W => Sole [p, bs, bp, q, gs, gl] w5 W) (first | assumption | exact Sole.drew _ _)
                    (first
                      | (go_at_call 13; refine hWd.mono ?_; rintro e w6 ⟨rfl, hd6, hS6⟩; have hT6 : Sole [p, bs, bp, q, gs, gl] w5 w6 := (Sole.drew _ _).trans (hS6.mono (by simp)); have hx6 := HX.out _ hS6)
                      | (go_at_call 14; refine (hWr _ hx6 hT6).mono ?_; rintro e w7 ⟨rfl, hx7, hS7⟩; have hT7 : Sole [p, bs, bp, q, gs, gl] w5 w7 := hT6.trans (hS7.mono (by simp))))
                  refine NoPanic.normal ?_
                  have hd7 := hd6.other hS7 hdj2.out.1 hdj2.out.2.1 hdj2.out.2.2
                  have hb07 : Below w.heap.size w w7 := hT7.belowOf hb05 hb05.size (by have h1 := HQ.out; simp; omega)
                  have hbx7 : w7.heap[wr.heap.size]? = some (.cells #[.int .i64 o.f0, .int .i64 o.f1, .int .i64 o.f2, .int .u8 o.f3, .string o.f4, .bool o.f5] 32 (0, 0)) := (hT7.block _ hbl5 hn6).trans HB5.out
                  have hrb7 : w7.heap[gb]? = some (.cells (bytesV xs) 5 (0, 0)) := (hT7.block _ (Array.getElem?_eq_some_iff.1 HRW.out.1).1 HRW.out.2).trans HRW.out.1
                  obtain ⟨bx, hbx⟩ : ∃ bx, wr.heap.size = bx := ⟨_, rfl⟩
                  rw [hbx] at hbx7 hnb HGB ⊢
                  have hgp : Hid (p ≠ gb ∧ bs ≠ gb ∧ bp ≠ gb ∧ q ≠ gb ∧ gs ≠ gb ∧ gl ≠ gb) := by
                    have := HRW.out.2
                    simp at this
                    unfold Hid
                    omega
                  clear cb cc qF hWd hWr hd6 hS6 hT6 hx6 hS7 hT7 hb05 HX HB5 hbl5 hn6 hld hlx hl4 hbx
                  go_wp2_with fail
                  go_loopw [93] (fun t wz => ∃ (j : Nat) (ys : List Int), j ≤ m ∧ t = .int .i64 j ∧ ys.length = m ∧ wz.heap[gb]? = some (.cells (bytesV ys) 5 (0, 0)) ∧ Sole [gb] w7 wz) (fun t _ => m - (RowKit.intOf t).toNat)
                  case atStart => exact ⟨0, xs, Nat.zero_le _, rfl, hxl, hrb7, Sole.refl _ _⟩
                  case round =>
                    obtain ⟨j, ys, hj, rfl, hyl, hyr, hSz⟩ := hrel
                    by_cases hjm : j < m
                    · have hjI : (j : Int) < (m : Int) := by omega
                      have kc := cells_row hyr j (by omega)
                      rw [Nat.zero_add] at kc
                      have kf : wr.frozen? ⟨gb, j, none⟩ = false := by simp [World.frozen?, hyr]
                      go_wp2_with fail
                      go_roundw
                      case rel => exact ⟨j + 1, ys.set j 255, by omega, by go_num, by simpa using hyl, bytes_set hyr j 255, hSz.trans (Sole.setCell _ _ (by simp))⟩
                      case measure => simp [RowKit.intOf]; omega
                    · have hjI : ¬ (j : Int) < (m : Int) := by omega
                      obtain ⟨w5', hw5'⟩ : ∃ w5', wr = w5' := ⟨_, rfl⟩
                      have hg := hgp.out
                      have hd5 := hd7.other hSz (by simp; omega) (by simp; omega) (by simp; omega)
                      have hx5 := hx7.other hSz (by simp; omega) (by simp; omega) (by simp; omega)
                      have hb05 : Below w.heap.size w wr := hSz.belowOf hb07 hb07.size (by have := HGB.out; simp; omega)
                      have hbx5 : wr.heap[bx]? = some (.cells #[.int .i64 o.f0, .int .i64 o.f1, .int .i64 o.f2, .int .u8 o.f3, .string o.f4, .bool o.f5] 32 (0, 0)) := (hSz.block _ (Array.getElem?_eq_some_iff.1 hbx7).1 (by have := HGB.out; simp; omega)).trans hbx7
                      clear hd7 hx7 hb07 hbx7 hrb7 hSz hyr hw5' hg
                      have hsm := law_same hd5 hx5
                      unfold ptr at hsm
                      go_wp2_with fail
                      refine hsm.mono ?_
                      rintro e w6 ⟨rfl, hb6⟩
                      have hd6 := hd5.below hb6
                      have hx6 := hx5.below hb6
                      have hb06 := hb05.trans (hb6.mono hb05.size)
                      have hbx6 : w6.heap[bx]? = some (.cells #[.int .i64 o.f0, .int .i64 o.f1, .int .i64 o.f2, .int .u8 o.f3, .string o.f4, .bool o.f5] 32 (0, 0)) := (hb6.block _ (Array.getElem?_eq_some_iff.1 hbx5).1).trans hbx5
                      have k5 : w6.cell? ⟨bx, 5, none⟩ = some (.bool o.f5) := by rw [cell_of_row _ _ 5 _ _ (0, 0) hbx6]; rfl
                      clear hsm hd5 hx5 hb05 hbx5 hb6 hbx6
                      cases hcl : o.f5
                      · rw [hcl] at k5
                        clear hcl
                        go_wp2_with fail
                        go_roundw
                        case rel => exact ⟨k + 1, p, bs, bp, s5, by omega, by go_num, rfl, hd6, hx6, hP.1, hP.2.1, hP.2.2, hb06⟩
                        case measure => simp [RowKit.intOf]; omega
                      · rw [hcl] at k5
                        clear hcl
                        have hcn := disk_Clone hd6
                        unfold ptr at hcn
                        go_wp2_with fail
                        refine hcn.mono ?_
                        rintro e w7 ⟨rfl, hc7, hb7⟩
                        have hd7 := hd6.below hb7
                        have hx7 := hx6.below hb7
                        have hb07 := hb06.trans (hb7.mono hb06.size)
                        have hl6 := hd6.lt
                        have hs6 := hb06.size
                        obtain ⟨n6, hn6⟩ : ∃ n6, w6.heap.size = n6 := ⟨_, rfl⟩
                        rw [hn6] at hc7 hl6 hs6 ⊢
                        clear hcn hd6 hx6 hb06 hb7 hn6 k5
                        go_wp2_with fail
                        refine (law_full_rd _ 99 (by decide) (by decide)).mono ?_
                        rintro e w8 ⟨u8, rfl, hr8, hb8⟩
                        have hd8 := hd7.below hb8
                        have hx8 := hx7.below hb8
                        have hc8 := hc7.below hb8
                        have hb08 := hb07.trans (hb8.mono hb07.size)
                        have hw9 := disk_Write hd8 0 (by decide) (by decide) hr8 (fullB_blk 99).2
                        generalize writeOut s5 0 (fullB 99) = wo at *
                        obtain ⟨f9, s9⟩ := wo
                        dsimp only at hw9
                        unfold ptr at hw9
                        clear hd7 hx7 hc7 hb07 hb8 hr8
                        go_wp2_with fail
                        refine hw9.mono ?_
                        rintro e w9 ⟨rfl, hd9, hS9⟩
                        have hdj := disjoint_at hd8 hx8
                        have hx9 := hx8.other hS9 hdj.1 hdj.2.1 hdj.2.2
                        have hc9 := hc8.other hS9 (by simp; omega) (by simp; omega) (by simp; omega)
                        have hb09 : Below w.heap.size w w9 := hS9.belowOf hb08 hb08.size (by simp; omega)
                        have hw10 := disk_Barrier hd9
                        generalize barOut s9 = bo at *
                        obtain ⟨f10, s10⟩ := bo
                        dsimp only at hw10
                        unfold ptr at hw10
                        clear hw9 hd8 hx8 hc8 hb08 hS9
                        go_wp2_with fail
                        refine hw10.mono ?_
                        rintro e w10 ⟨rfl, hd10, hS10⟩
                        have hx10 := hx9.other hS10 hdj.1 hdj.2.1 hdj.2.2
                        have hc10 := hc9.other hS10 (by simp; omega) (by simp; omega) (by simp; omega)
                        have hb010 : Below w.heap.size w w10 := hS10.belowOf hb09 hb09.size (by simp; omega)
                        clear hw10 hd9 hx9 hc9 hb09 hS10 hd10
                        go_wp2_with fail
                        go_roundw
                        case rel => exact ⟨k + 1, n6, n6 + 1, n6 + 2, s5, by omega, by go_num, rfl, hc10, hx10, by omega, by omega, by omega, hb010⟩
                        case measure => simp [RowKit.intOf]; omega
              · have hn0 : ¬ o.f0 = 0 := fun e => h01 (.inl e)
                have hn1' : ¬ o.f0 = 1 := fun e => h01 (.inr e)
                clear h01
                have hd5 := hdq
                have hx5 := hxq
                have hb05 := hb0q
                have hbx5 := hrow
                obtain ⟨s5, hs5⟩ : ∃ s5, s = s5 := ⟨_, rfl⟩
                rw [hs5] at hd5 hx5
                clear hdq hxq hb0q hrow hs5
                have hsm := law_same hd5 hx5
                unfold ptr at hsm
                go_wp2_with fail
                refine hsm.mono ?_
                rintro e w6 ⟨rfl, hb6⟩
                have hd6 := hd5.below hb6
                have hx6 := hx5.below hb6
                have hb06 := hb05.trans (hb6.mono hb05.size)
                have hbx6 : w6.heap[wr.heap.size]? = some (.cells #[.int .i64 o.f0, .int .i64 o.f1, .int .i64 o.f2, .int .u8 o.f3, .string o.f4, .bool o.f5] 32 (0, 0)) := (hb6.block _ (Array.getElem?_eq_some_iff.1 hbx5).1).trans hbx5
                have k5 : w6.cell? ⟨wr.heap.size, 5, none⟩ = some (.bool o.f5) := by rw [cell_of_row _ _ 5 _ _ (0, 0) hbx6]; rfl
                clear hsm hd5 hx5 hb05 hbx5 hb6 hbx6
                cases hcl : o.f5
                · rw [hcl] at k5
                  clear hcl
                  go_wp2_with fail
                  go_roundw
                  case rel => exact ⟨k + 1, p, bs, bp, s5, by omega, by go_num, rfl, hd6, hx6, hP.1, hP.2.1, hP.2.2, hb06⟩
                  case measure => simp [RowKit.intOf]; omega
                · rw [hcl] at k5
                  clear hcl
                  have hcn := disk_Clone hd6
                  unfold ptr at hcn
                  go_wp2_with fail
                  refine hcn.mono ?_
                  rintro e w7 ⟨rfl, hc7, hb7⟩
                  have hd7 := hd6.below hb7
                  have hx7 := hx6.below hb7
                  have hb07 := hb06.trans (hb7.mono hb06.size)
                  have hl6 := hd6.lt
                  have hs6 := hb06.size
                  obtain ⟨n6, hn6⟩ : ∃ n6, w6.heap.size = n6 := ⟨_, rfl⟩
                  rw [hn6] at hc7 hl6 hs6 ⊢
                  clear hcn hd6 hx6 hb06 hb7 hn6 k5
                  go_wp2_with fail
                  refine (law_full_rd _ 99 (by decide) (by decide)).mono ?_
                  rintro e w8 ⟨u8, rfl, hr8, hb8⟩
                  have hd8 := hd7.below hb8
                  have hx8 := hx7.below hb8
                  have hc8 := hc7.below hb8
                  have hb08 := hb07.trans (hb8.mono hb07.size)
                  have hw9 := disk_Write hd8 0 (by decide) (by decide) hr8 (fullB_blk 99).2
                  generalize writeOut s5 0 (fullB 99) = wo at *
                  obtain ⟨f9, s9⟩ := wo
                  dsimp only at hw9
                  unfold ptr at hw9
                  clear hd7 hx7 hc7 hb07 hb8 hr8
                  go_wp2_with fail
                  refine hw9.mono ?_
                  rintro e w9 ⟨rfl, hd9, hS9⟩
                  have hdj := disjoint_at hd8 hx8
                  have hx9 := hx8.other hS9 hdj.1 hdj.2.1 hdj.2.2
                  have hc9 := hc8.other hS9 (by simp; omega) (by simp; omega) (by simp; omega)
                  have hb09 : Below w.heap.size w w9 := hS9.belowOf hb08 hb08.size (by simp; omega)
                  have hw10 := disk_Barrier hd9
                  generalize barOut s9 = bo at *
                  obtain ⟨f10, s10⟩ := bo
                  dsimp only at hw10
                  unfold ptr at hw10
                  clear hw9 hd8 hx8 hc8 hb08 hS9
                  go_wp2_with fail
                  refine hw10.mono ?_
                  rintro e w10 ⟨rfl, hd10, hS10⟩
                  have hx10 := hx9.other hS10 hdj.1 hdj.2.1 hdj.2.2
                  have hc10 := hc9.other hS10 (by simp; omega) (by simp; omega) (by simp; omega)
                  have hb010 : Below w.heap.size w w10 := hS10.belowOf hb09 hb09.size (by simp; omega)
                  clear hw10 hd9 hx9 hc9 hb09 hS10 hd10
                  go_wp2_with fail
                  go_roundw
                  case rel => exact ⟨k + 1, n6, n6 + 1, n6 + 2, s5, by omega, by go_num, rfl, hc10, hx10, by omega, by omega, by omega, hb010⟩
                  case measure => simp [RowKit.intOf]; omega
    · obtain rfl : k = len := by omega
      go_wp2_with fail
      go_ret
      exact ⟨rfl, hbr⟩

/-! ### The row -/
set_option maxRecDepth 100000 in
theorem lifted (os : Os) (started : os.Started) (H : Type) (enc : TypeId × Value → H) :
    ReturnsInHanded {} Try.checked os 3 .any (Rows.diskGoesSpec.pre6 enc Try.prog Try.f3 Rows.diskGoesRow.domain false) (Rows.diskGoesSpec.post enc Try.prog Try.f3 false true false false) := by
  refine returnsInHanded_of_change (C := Try.checked) own started (by kernel_rfl) Try.func3
    (ChangeSpec.witness6 (enc := enc) (C := Try.checked) false ⟨#[], #[.int .i64 0, .slice none 0 0], []⟩ 8 (by kernel_rfl) (by kernel_rfl) (by kernel_rfl) (by kernel_rfl)) ?_
  intro W base args ds gs before hval0 hW hcnd _
  have hval : ∀ (j : Nat) t v, Try.f3.params[j]? = some t → args[j]? = some v → Value.okWide Try.prog W .any base t v := hval0
  have hW' := hW
  obtain ⟨p, q, hA0, hV, rfl, hfz, hnd⟩ := hW
  have hA : DataW.TrodAll enc Try.prog W 0 (fun _ => true) true Try.f3.params.toList args.toList ds p := hA0
  rw [Try.params3] at hA hval
  obtain ⟨v0, vs0, d0, ds0, p0, q0, hargs, rfl, rfl, h0, r0⟩ := trodAll_cons hA
  obtain ⟨v1, vs1, d1, ds1, p1, q1, rfl, rfl, rfl, h1, r1⟩ := trodAll_cons r0
  obtain ⟨rfl, rfl, rfl⟩ := trodAll_nil r1
  obtain rfl : args = #[v0, v1] := by cases args; simp_all
  obtain ⟨rfl, rfl⟩ := trodVars_none hV
  obtain ⟨a0, rfl, rfl, rfl, w0⟩ := open_int Try.underlying3 (hval 0 3 v0 rfl rfl) h0
  obtain ⟨a1, len1, cap1, rfl⟩ := okWide_slice Try.underlying22 (hval 1 22 v1 rfl rfl)
  have k1 := h1
  have lt1 : ∀ x ∈ p1, x.block < W.heap.size := by obtain ⟨m, hm⟩ := k1; exact DataW.trod_lt m _ _ _ hm
  obtain ⟨o1, w1⟩ : ∃ os, OpsAt W a1 len1 cap1 os := by
    obtain ⟨fuel, hf⟩ := h1
    exact opsAt_of hf
  clear hA0 hval0
  refine (walk a0 a1 len1 cap1 o1 W w0 w1).mono fun e W' ⟨he, bel⟩ => ?_
  subst he
  exact ⟨_, rfl, _, _, _, [], _, [], hW', trodAll_mk1 (shut_bool Try.underlying4 _), (trodAll_cons_mk (shut_int Try.underlying3 w0) (trodAll_cons_mk (Below.trod laidOut (by kernel_rfl) (of_decide_eq_true (by kernel_rfl)) k1 bel lt1) trodAll_mk0)), rfl, bel.frame _, fun h => by cases h⟩

theorem over : Rows.diskGoesRow.holds Try.pinned (OpenSpec.ofChange Rows.diskGoesSpec) :=
  OpenClaim.holds_of_wide 3 Try.f3 rfl rfl rfl rfl rfl rfl rfl ⟨rfl, rfl, rfl, rfl, rfl⟩ rfl rfl rfl rfl rfl (by kernel_rfl) Try.func3 (by kernel_rfl)
    (of_decide_eq_true (by kernel_rfl)) (by unfold Func.isWrapper; first | (rw [if_pos (by decide +kernel)]; kernel_rfl) | (rw [if_neg (by decide +kernel)]; exact ⟨rfl, rfl⟩))
    (fun os started H enc _ => lifted os started H enc)

end Go.Proofs.Ytjfhcbokfbbbhaa.diskGoes

namespace Go.Proofs.Ytjfhcbokfbbbhaa
/-- The statement. -/
theorem diskGoes_proved : Rows.DiskGoesSaid := diskGoes.over
#print axioms diskGoes_proved
end Go.Proofs.Ytjfhcbokfbbbhaa
