/- Proved: DiskArmed, for every number and every slice of calls, with no condition: it answers true, and the slice reads as it did. -/
import Derived.Test.YtjfhcbokfbbbhaaArmedMath
import Derived.Test.YtjfhcbokfbbbhaaLive
import Derived.Test.YtjfhcbokfbbbhaaOps
import Derived.Deep.RegionHeld3
import Derived.BigQuiet
import Derived.Deep.QuietTactic
import Derived.WalkSmall
import Derived.ProofKit
import Derived.OpenShut
import Derived.ShutString
import Derived.ChangeOld
import Derived.Below
import Derived.Carry
namespace Go.Proofs.Ytjfhcbokfbbbhaa.diskArmed
open Go.ChangeShapes Go.WideShapes Go.ChangeAt Go.RowKit Go.Maps
open Go.ChangeMaps (open_string shut_string)
set_option linter.unusedVariables false

theorem own : ownKnob Try.prog.godebug = none := by kernel_rfl
theorem laidOut : laidOutB Try.prog = true := by kernel_rfl

set_option maxRecDepth 100000 in
set_option maxHeartbeats 16000000 in
theorem walk (n : Int) (a : Option Addr) (len cap : Nat) (os : List OpV) (w : World) (hn : (Lit.int .i64 n).wf = true) (ho : OpsAt w a len cap os) :
    Calls Try.prog 5 #[.int .i64 n, .slice a len cap] w fun e w' => e = .returned (.bool true) ∧ Below w.heap.size w w' := by
  obtain ⟨hn0, hn1⟩ := bounds_i64 hn
  clear hn
  go_enter Try.func5, Try.ntmps5
  go_wp2_with fail
  refine (law_live w).mono ?_
  rintro e w1 ⟨rfl, hb1⟩
  go_wp2_with fail
  refine (law_disk_New (w := w1) (by decide) (by decide)).mono ?_
  rintro e w2 ⟨p, bs, bp, rfl, hd2, hb2, hp, hbs, hbp⟩
  have hb02 := hb1.trans (hb2.mono hb1.size)
  have hs1 := hb1.size
  have HS3 : Hid (∀ k ∈ [p, bs, bp], w.heap.size ≤ k) := by unfold Hid; simp; omega
  unfold ptr
  clear hb1 hb2
  go_wp2_with fail
  refine (law_short w2 n hn0 hn1).mono ?_
  rintro e w2' ⟨rfl, rfl⟩
  have hm := shortN_in n
  generalize shortN n = m at *
  go_wp2_with fail
  have hw3 := disk_Arm hd2 m (by omega) (by omega) ⟨#[]⟩ (Nat.zero_le _)
  have hI3 := arm_start hm.1 (show m ≤ 1030 by omega)
  generalize armSt (freshSt 8) m ⟨#[]⟩ = s3 at *
  unfold ptr at hw3
  refine hw3.mono ?_
  rintro e w3 ⟨rfl, hd3, hS3, hs3⟩
  have hb03 : Below w.heap.size w w3 := hS3.belowOf hb02 hb02.size (fun k hk => HS3.out k (by simp at hk ⊢; omega))
  obtain ⟨hol, hlc, hcm, hok, hoc⟩ := ho
  unfold maxLen at hcm
  clear hw3 hd2 hb02 hS3 hs3
  go_wp2_with fail
  have HB : Hid (w.heap.size ≤ p ∧ w.heap.size ≤ bs ∧ w.heap.size ≤ bp) := by unfold Hid; omega
  clear hs1 hp hbs hbp
  go_loopw [8, 31] (fun d t wr => ∃ (k : Nat) (dn : Int) (s : St), k ≤ len ∧ t = .int .i64 k ∧ d = .int .i64 dn ∧ Arm m dn s ∧ DiskAt wr p bs bp s ∧ Below w.heap.size w wr) (fun _ t _ => len - (RowKit.intOf t).toNat)
  case atStart => exact ⟨0, 0, s3, Nat.zero_le _, rfl, rfl, hI3, hd3, hb03⟩
  case round =>
    obtain ⟨k, dn, s, hk, rfl, rfl, hI, hd, hbr⟩ := hrel
    clear hI3 hd3 hb03
    by_cases hkl : k < len
    · obtain ⟨b, off, rfl, hbl, hat⟩ := hoc (by omega)
      have ho := (hat k hkl).same (hbr.block b hbl)
      have hoo : OpOk (os.getD k op0) := hok _ (by rw [List.getD_eq_getElem?_getD, List.getElem?_eq_getElem (by omega)]; exact List.getElem_mem _)
      generalize os.getD k op0 = o at *
      have c0 := ho.c0
      have c1 := ho.c1
      have c2 := ho.c2
      have c3 := ho.c3
      have c4 := ho.c4
      have c5 := ho.c5
      have a1 := hoo.a1
      have a3 := hoo.a3
      clear hat hoc hok ho
      have hdn0 := hI.d0
      have hdn1 := hI.d1
      have hn1' := hI.n1
      by_cases h2 : o.f0 = 2
      · go_wp2_with fail
        have hba := disk_Barrier (w := wr.alloc (.cells #[.int .i64 2, .int .i64 o.f1, .int .i64 o.f2, .int .u8 o.f3, .string o.f4, .bool o.f5] 32)) (hd.below ((Below.refl _ wr).alloc (Nat.le_refl _) _))
        obtain ⟨hI', hcase⟩ := arm_bar hI
        obtain ⟨fe, s', hbo⟩ : ∃ fe s', barOut s = (fe, s') := ⟨_, _, rfl⟩
        rw [hbo] at hba hI' hcase
        dsimp only at hba hI' hcase
        unfold ptr at hba
        refine hba.mono ?_
        rintro e w5 ⟨rfl, hd5, hS5⟩
        have hb5 : Below w.heap.size w w5 := hS5.belowOf (hbr.alloc hbr.size _) (Nat.le_trans hbr.size (by simp)) HS3.out
        have hon := disk_On hd5
        unfold ptr at hon
        clear hba hbo hS5
        rcases hcase with ⟨rfl, hlt, hof⟩ | ⟨rfl, hof⟩
        · rw [hof] at hon
          clear hof
          go_wp2_with fail
          refine hon.mono ?_
          rintro e w6 ⟨rfl, rfl⟩
          go_wp2_with fail
          go_roundw
          case rel => exact ⟨k + 1, dn, s', by omega, by go_num, rfl, hI', hd5, hb5⟩
          case measure => simp [RowKit.intOf]; omega
        · rw [hof] at hon
          clear hof
          by_cases hlt : dn < m
          · go_wp2_with fail
            refine hon.mono ?_
            rintro e w6 ⟨rfl, rfl⟩
            go_wp2_with fail
            go_roundw
            case rel => exact ⟨k + 1, dn, s', by omega, by go_num, rfl, hI', hd5, hb5⟩
            case measure => simp [RowKit.intOf]; omega
          · go_wp2_with fail
            go_roundw
            case rel => exact ⟨k + 1, dn, s', by omega, by go_num, rfl, hI', hd5, hb5⟩
            case measure => simp [RowKit.intOf]; omega
      · obtain ⟨wq, hwq⟩ : ∃ wq, wr.alloc (.cells #[.int .i64 o.f0, .int .i64 o.f1, .int .i64 o.f2, .int .u8 o.f3, .string o.f4, .bool o.f5] 32) = wq := ⟨_, rfl⟩
        have hbq : Below wr.heap.size wr wq := by rw [← hwq]; exact (Below.refl _ wr).alloc (Nat.le_refl _) _
        have hdq := hd.below hbq
        have hrow : wq.heap[wr.heap.size]? = some (.cells #[.int .i64 o.f0, .int .i64 o.f1, .int .i64 o.f2, .int .u8 o.f3, .string o.f4, .bool o.f5] 32 (0, 0)) := by rw [← hwq]; exact heap_alloc_new wr _
        have hlt := hd.lt
        have hnot : wr.heap.size ∉ [p, bs, bp] := by simp; omega
        have hqs : wr.heap.size < wq.heap.size := by rw [← hwq]; simp
        have hb0q : Below w.heap.size w wq := hbr.trans (hbq.mono hbr.size)
        have q0 : wq.cell? ⟨wr.heap.size, 0, none⟩ = some (.int .i64 o.f0) := by rw [cell_of_row _ _ 0 _ _ (0, 0) hrow]; rfl
        have q1 : ∀ W, Sole [p, bs, bp] wq W → W.cell? ⟨wr.heap.size, 1, none⟩ = some (.int .i64 o.f1) := fun W hW => by
          rw [World.cell?_of_block (w := wq) (a := ⟨wr.heap.size, 1, none⟩) (hW.block _ hqs hnot), cell_of_row _ _ 1 _ _ (0, 0) hrow]; rfl
        have q3 : ∀ W, Sole [p, bs, bp] wq W → W.cell? ⟨wr.heap.size, 3, none⟩ = some (.int .u8 o.f3) := fun W hW => by
          rw [World.cell?_of_block (w := wq) (a := ⟨wr.heap.size, 3, none⟩) (hW.block _ hqs hnot), cell_of_row _ _ 3 _ _ (0, 0) hrow]; rfl
        have hmod := mod8_in o.f1
        have t1 := Int.tmod_lt_of_pos o.f1 (show (0 : Int) < 8 by decide)
        have t2 : -8 < o.f1.tmod 8 := by
          have := Int.lt_tmod_of_pos o.f1 (show (0 : Int) < 8 by decide)
          omega
        have hez : (IntKind.i64.wrap (o.f1.tmod 8 + 8)).tmod 8 = (o.f1.tmod 8 + 8) % 8 := by
          have e : IntKind.i64.wrap (o.f1.tmod 8 + 8) = o.f1.tmod 8 + 8 := by
            rw [IntKind.wrap_i64]; omega
          rw [e, Int.tmod_eq_emod_of_nonneg (by omega)]
        obtain ⟨iz, hiz⟩ : ∃ iz, (o.f1.tmod 8 + 8) % 8 = iz := ⟨_, rfl⟩
        rw [hiz] at hez hmod
        have EZ : Hid ((IntKind.i64.wrap (o.f1.tmod 8 + 8)).tmod 8 = iz) := hez
        have hcase := arm_write hI hmod.1 hmod.2 (fullB_len o.f3)
        have hWr : ∀ (W : World) (v : Value), DiskAt W p bs bp s → Rd W v (fullB o.f3) → Calls Try.prog 13 #[ptr p, .int .i64 iz, v] W fun e w' => e = .returned (.int .i64 (writeOut s iz (fullB o.f3)).1) ∧ DiskAt w' p bs bp (writeOut s iz (fullB o.f3)).2 ∧ Sole [p, bs, bp] W w' :=
          fun W v hdW hrW => disk_Write hdW iz (by omega) (by omega) hrW (fullB_blk o.f3).2
        obtain ⟨fe, s', hwo⟩ : ∃ fe s', writeOut s iz (fullB o.f3) = (fe, s') := ⟨_, _, rfl⟩
        rw [hwo] at hcase hWr
        dsimp only at hcase hWr
        unfold ptr at hWr
        have HC : Hid _ := hcase
        clear hez hiz hwo hcase
        clear hrow hlt hnot hd hbr hbq hqs hI
        go_wp2_with fail
        clear c0 c1 c2 c3 c4 c5 q0 hwq
        refine wp_region_noPanic ?_
        go_region_held (fun W => Sole [p, bs, bp] wq W) (first | assumption | exact Sole.drew _ _ | exact Sole.trans (by assumption) (Sole.of_below (by assumption) _) | exact Sole.trans (by assumption) (by assumption))
          (first
            | (go_at_call 11; refine (law_full_rd _ o.f3 a3.1 a3.2).mono ?_; rintro e w5 ⟨u5, rfl, hr5, hb5⟩; have hd5 := hdq.below ((Below.refl _ _).drew.trans hb5))
            | (go_at_call 13; rw [EZ.out]; refine (hWr _ _ hd5 hr5).mono ?_; rintro e w6 ⟨rfl, hd6, hS6⟩))
        refine NoPanic.normal ?_
        have hSq : Sole [p, bs, bp] wq w6 := by assumption
        have hb6 : Below w.heap.size w w6 := hSq.belowOf hb0q hb0q.size HS3.out
        have hon := disk_On hd6
        unfold ptr at hon
        clear q1 q3 hWr hdq hd5 hr5 hb5 hS6 hSq
        rcases HC.out with ⟨rfl, hlt, hI'⟩ | ⟨rfl, hof, hI'⟩
        · go_wp2_with fail
          go_roundw
          case rel => exact ⟨k + 1, dn + 1, s', by omega, by go_num, by go_num, hI', hd6, hb6⟩
          case measure => simp [RowKit.intOf]; omega
        · rw [hof] at hon
          clear hof
          go_wp2_with fail
          refine hon.mono ?_
          rintro e w7 ⟨rfl, rfl⟩
          go_wp2_with fail
          go_roundw
          case rel => exact ⟨k + 1, dn, s', by omega, by go_num, rfl, hI', hd6, hb6⟩
          case measure => simp [RowKit.intOf]; omega
    · obtain rfl : k = len := by omega
      have hd1' := hI.d1
      have hwr := disk_Writes hd
      rw [hI.w] at hwr
      unfold ptr at hwr
      clear hoc hok
      go_wp2_with fail
      refine hwr.mono ?_
      rintro e w7 ⟨rfl, rfl⟩
      go_wp2_with fail
      go_ret
      exact ⟨rfl, hbr⟩

/-! ### The row -/
set_option maxRecDepth 100000 in
theorem lifted (os : Os) (started : os.Started) (H : Type) (enc : TypeId × Value → H) :
    ReturnsInHanded {} Try.checked os 5 .any (Rows.diskArmedSpec.pre6 enc Try.prog Try.f5 Rows.diskArmedRow.domain false) (Rows.diskArmedSpec.post enc Try.prog Try.f5 false true false false) := by
  refine returnsInHanded_of_change (C := Try.checked) own started (by kernel_rfl) Try.func5
    (ChangeSpec.witness6 (enc := enc) (C := Try.checked) false ⟨#[], #[.int .i64 0, .slice none 0 0], []⟩ 8 (by kernel_rfl) (by kernel_rfl) (by kernel_rfl) (by kernel_rfl)) ?_
  intro W base args ds gs before hval0 hW hcnd _
  have hval : ∀ (j : Nat) t v, Try.f5.params[j]? = some t → args[j]? = some v → Value.okWide Try.prog W .any base t v := hval0
  have hW' := hW
  obtain ⟨p, q, hA0, hV, rfl, hfz, hnd⟩ := hW
  have hA : DataW.TrodAll enc Try.prog W 0 (fun _ => true) true Try.f5.params.toList args.toList ds p := hA0
  rw [Try.params5] at hA hval
  obtain ⟨v0, vs0, d0, ds0, p0, q0, hargs, rfl, rfl, h0, r0⟩ := trodAll_cons hA
  obtain ⟨v1, vs1, d1, ds1, p1, q1, rfl, rfl, rfl, h1, r1⟩ := trodAll_cons r0
  obtain ⟨rfl, rfl, rfl⟩ := trodAll_nil r1
  obtain rfl : args = #[v0, v1] := by cases args; simp_all
  obtain ⟨rfl, rfl⟩ := trodVars_none hV
  obtain ⟨a0, rfl, rfl, rfl, w0⟩ := open_int Try.underlying3 (hval 0 3 v0 rfl rfl) h0
  obtain ⟨a1, len1, cap1, rfl⟩ := okWide_slice Try.underlying22 (hval 1 22 v1 rfl rfl)
  have k1 := h1
  have lt1 : ∀ x ∈ p1, x.block < W.heap.size := by obtain ⟨m, hm⟩ := k1; exact DataW.trod_lt m _ _ _ hm
  obtain ⟨o1, w1⟩ : ∃ os, OpsAt W a1 len1 cap1 os := by
    obtain ⟨fuel, hf⟩ := h1
    exact opsAt_of hf
  clear hA0 hval0
  refine (walk a0 a1 len1 cap1 o1 W w0 w1).mono fun e W' ⟨he, bel⟩ => ?_
  subst he
  exact ⟨_, rfl, _, _, _, [], _, [], hW', trodAll_mk1 (shut_bool Try.underlying4 _), (trodAll_cons_mk (shut_int Try.underlying3 w0) (trodAll_cons_mk (Below.trod laidOut (by kernel_rfl) (of_decide_eq_true (by kernel_rfl)) k1 bel lt1) trodAll_mk0)), rfl, bel.frame _, fun h => by cases h⟩

theorem over : Rows.diskArmedRow.holds Try.pinned (OpenSpec.ofChange Rows.diskArmedSpec) :=
  OpenClaim.holds_of_wide 5 Try.f5 rfl rfl rfl rfl rfl rfl rfl ⟨rfl, rfl, rfl, rfl, rfl⟩ rfl rfl rfl rfl rfl (by kernel_rfl) Try.func5 (by kernel_rfl)
    (of_decide_eq_true (by kernel_rfl)) (by unfold Func.isWrapper; first | (rw [if_pos (by decide +kernel)]; kernel_rfl) | (rw [if_neg (by decide +kernel)]; exact ⟨rfl, rfl⟩))
    (fun os started H enc _ => lifted os started H enc)

end Go.Proofs.Ytjfhcbokfbbbhaa.diskArmed

namespace Go.Proofs.Ytjfhcbokfbbbhaa
/-- The statement. -/
theorem diskArmed_proved : Rows.DiskArmedSaid := diskArmed.over
#print axioms diskArmed_proved
end Go.Proofs.Ytjfhcbokfbbbhaa
