/- Proved: WalRound: a log from which all is let go, again and again, always has room for what it had room for at first; for every input, without a condition. -/
import Derived.Test.YtmchpckjlmmfmaaGreatMW1
import Derived.Test.YtmchpckjlmmfmaaGreatMW11
import Derived.Deep.RegionHeld3
import Derived.BigQuiet
import Derived.Deep.QuietTactic
import Derived.WalkSmall
import Derived.ProofKit
import Derived.OpenShut
import Derived.ShutString
import Derived.ChangeOld
import Derived.Below
import Derived.Carry
namespace Go.Proofs.YtmchpckjlmmfmaaGreat.walRound
open Go.ChangeShapes Go.WideShapes Go.ChangeAt Go.RowKit
open Go.ChangeMaps (open_string shut_string)
set_option linter.unusedVariables false
set_option linter.unusedSimpArgs false

theorem own : ownKnob Tryz.prog.godebug = none := by kernel_rfl
theorem laidOut : laidOutB Tryz.prog = true := by kernel_rfl

theorem mod_small (x m : Int) (hm : 0 < m) (hm2 : m ≤ 1000) (h1 : -9223372036854775808 ≤ x) (h2 : x ≤ 9223372036854775807) : ∃ r : Nat, (wrap64 (x.tmod m + m)).tmod m = (r : Int) ∧ (r : Int) < m := by
  obtain ⟨y, hy⟩ : ∃ y, x.tmod m = y := ⟨_, rfl⟩
  have hy1 : y < m := by rw [← hy]; exact Int.tmod_lt_of_pos _ hm
  have hy2 : -m < y := by rw [← hy]; have := Int.lt_tmod_of_pos x hm; omega
  have e1 : wrap64 (y + m) = y + m := by unfold wrap64; omega
  rw [hy, e1]
  have h3 : 0 ≤ (y + m).tmod m := Int.tmod_nonneg _ (by omega)
  have h4 : (y + m).tmod m < m := Int.tmod_lt_of_pos _ hm
  exact ⟨((y + m).tmod m).toNat, by omega, by omega⟩

theorem rep_size (s : ByteArray) (hs : s.size ≤ 255) : ∀ n, n ≤ 14 → longB (List.replicate n s) = false ∧ piecesN (layL (List.replicate n s)).length ≤ 9 := fun n hn => by
  have hl : ∀ n, lenG (List.replicate n s) = n * (2 + s.size) := by
    intro n
    induction n with
    | zero => simp [lenG]
    | succ n ih => rw [List.replicate_succ]; show (2 + s.size) + lenG _ = _; rw [ih, Nat.add_mul, Nat.one_mul, Nat.add_comm]
  have h1 : longB (List.replicate n s) = false := by
    unfold longB
    have h2 : n * (2 + s.size) ≤ 14 * 257 := Nat.mul_le_mul hn (by omega)
    simp only [Bool.or_eq_false_iff, decide_eq_false_iff_not, Nat.not_lt, List.any_eq_false, decide_eq_true_eq, List.length_replicate, hl]
    refine ⟨⟨by omega, by omega⟩, fun x hx => ?_⟩
    rw [List.eq_of_mem_replicate hx]
    exact hs
  exact ⟨h1, long_pieces h1⟩

set_option maxRecDepth 100000 in
set_option maxHeartbeats 8000000 in
theorem walk (s : ByteArray) (times turns : Int) (w : World) (hs : s.size ≤ maxLen) (ht : (Lit.int .i64 times).wf = true) (hu : (Lit.int .i64 turns).wf = true) :
    Calls Tryz.prog 6 #[.string s, .int .i64 times, .int .i64 turns] w fun e w' => e = .returned (.bool true) ∧ Below w.heap.size w w' := by
  obtain ⟨ht0, ht1⟩ := bounds_i64 ht
  obtain ⟨hu0, hu1⟩ := bounds_i64 hu
  unfold maxLen at hs
  clear ht hu
  obtain ⟨n, hn, hn15⟩ := mod_small times 15 (by decide) (by decide) ht0 ht1
  obtain ⟨m, hm, hm20⟩ := mod_small turns 20 (by decide) (by decide) hu0 hu1
  have cl := live_any w
  go_enter Tryz.func6, Tryz.ntmps6
  go_wp2_with fail
  refine cl.mono ?_
  rintro e0 w0 ⟨rfl, b0⟩
  clear cl
  have s0 := b0.size
  have c1 := disk_New w0 20 (by decide) (by decide)
  unfold ptr at c1
  go_wp2_with fail
  refine c1.mono ?_
  rintro f1 w1 ⟨rfl, d1, b1, s1⟩
  clear c1
  have c2 := make_v (B := w.heap.size) (X := []) d1 rfl rfl 0 16 (by decide) (by decide) (by decide) (by decide) (by omega) (by omega) (by omega) (by omega) (fun k hk => by cases hk)
  unfold ptr ptrW at c2
  go_wp2_with fail
  refine c2.mono ?_
  rintro f2 w2 ⟨k2, q, rfl, q2, l2⟩
  clear c2
  have hB2 : Below w.heap.size w w2 := (b0.trans (b1.mono s0)).trans (k2.below (by omega))
  have s2 := k2.size
  clear d1 b1 k2
  by_cases hbig : 255 < s.size
  · have hbI : (255 : Int) < s.size := by omega
    clear hn hm l2
    go_wp2
    go_ret
    exact ⟨rfl, hB2⟩
  have hbI : ¬ (255 : Int) < s.size := by omega
  have HS : Hid (s.size ≤ 255) := by unfold Hid; omega
  have HL2 : Hid (LogV w.heap.size [] w2 q (w0.heap.size + 2) 0 16 false 0 0 []) := l2
  have HB2 : Hid (Below w.heap.size w w2) := hB2
  have HN : Hid _ := hn
  have HM : Hid _ := hm
  clear hbig l2 hB2 hn hm
  go_wp2_with fail
  (try rw [HN.out])
  go_loopw [12, 54] (fun v t wr => ∃ (i : Nat) (a' : Option Addr) (c' : Nat), i ≤ n ∧ t = .int .i64 i ∧ v = .slice a' i c' ∧ Hid (wr.ownsRow w2.heap.size 9 1 (.slice a' i c') i (strC (List.replicate i s))) ∧ Hid (Below w2.heap.size w2 wr)) (fun _ t _ => n - (RowKit.intOf t).toNat)
  case atStart => exact ⟨0, none, 0, Nat.zero_le _, rfl, rfl, World.ownsRow_nil _ _ _ _, Below.refl _ _⟩
  case round =>
    obtain ⟨i, a', c', hi, rfl, rfl, hown, HB⟩ := hrel
    obtain ⟨wA, hA⟩ : ∃ wA, wA = wr := ⟨_, rfl⟩
    subst hA
    by_cases hil : i < n
    · have hiI : (i : Int) < n := by omega
      have hbr : Below wA.heap.size wA (wA.alloc (.cells #[Value.string s] 9)) := (Below.refl _ wA).alloc (Nat.le_refl _) _
      have hsr := HB.out.size
      have hrA := rdT_row (l := [s]) (heap_alloc_new wA (.cells #[Value.string s] 9)) rfl (by show 1 ≤ maxLen; decide)
      have hox := own_keep hown.out hbr.size (fun k _ hl => hbr.block k hl)
      have HBX : Hid (Below w2.heap.size w2 (wA.alloc (.cells #[Value.string s] 9))) := HB.out.trans (hbr.mono hsr)
      have hln : (List.replicate i s).length = i := List.length_replicate
      clear hown HB hbr
      go_wp2_with (at_builtin; refine wpList_append_strs rfl _ _ rfl w2.heap.size _ (List.replicate i s) rfl (by rw [hln]; exact hox) _ _ [s] rfl hrA (by rw [hln]; simp; omega) HBX.out.size ?_; intro v3 w3 ho3 hg3; obtain ⟨a3, c3, rfl⟩ := rowS_slice ho3)
      have hb3 : Hid (Below w2.heap.size w2 w3) := HBX.out.grown hg3 HBX.out.size (fun q hq => (World.ownsRow.lt hox q hq).1)
      have e1 : List.replicate i s ++ [s] = List.replicate (i + 1) s := by rw [List.replicate_succ']
      rw [e1, List.length_replicate] at ho3
      have HO3 : Hid _ := ho3
      clear hg3 hrA hox ho3
      (try rw [show (List.replicate i s ++ [s]).length = i + 1 from by simp])
      (try go_wp2_with fail)
      (try go_roundw)
      case rel => exact ⟨i + 1, a3, c3, by omega, by go_num, rfl, HO3, hb3⟩
      case measure => simp [RowKit.intOf]; omega
    · obtain rfl : i = n := by omega
      have hiI : ¬ (i : Int) < i := by omega
      have hB3 : Hid (Below w.heap.size w wA) := HB2.out.trans (HB.out.mono (by omega))
      obtain ⟨r1, r2⟩ := rdT_own (l := List.replicate i s) (by rw [List.length_replicate]; exact hown.out)
      have HR : Hid (RdT (ownB (.slice a' i c')) wA (.slice a' i c') (List.replicate i s)) := r1
      have HL3 : Hid (LogV w.heap.size (ownB (.slice a' i c')) wA q (w0.heap.size + 2) 0 16 false 0 0 []) := HL2.out.below HB.out _ (fun k hk => ⟨.inr (r2 k hk).1, (r2 k hk).2⟩)
      have hsA := HB.out.size
      clear HL2 HB2 HB hown r1 r2
      go_wp2_with fail
      (try rw [HM.out])
      have hw1 : wrap64 (1 + (m : Int)) = ((1 + m : Nat) : Int) := by unfold wrap64; omega
      (try rw [hw1])
      obtain ⟨X, hX⟩ : ∃ X, ownB (.slice a' i c') = X := ⟨_, rfl⟩
      rw [hX] at HR HL3
      have HP := rep_size s HS.out i (by omega)
      generalize hG : List.replicate i s = G at *
      obtain ⟨P, hP⟩ : ∃ P, piecesN (layL G).length = P := ⟨_, rfl⟩
      have hP9 : P ≤ 9 := by rw [← hP]; exact HP.2
      have HLG : Hid (longB G = false) := HP.1
      have HPP : Hid (piecesN (layL G).length = P) := hP
      clear HP hP hG hX hw1 hs ht0 ht1 hu0 hu1 HN HM hi hil hn15 hbI
      go_loopw [66] (fun t wr => ∃ (j nx : Nat), j ≤ 1 + m ∧ t = .int .i64 j ∧ nx ≤ 9 * j ∧ Hid (LogV w.heap.size X wr q (w0.heap.size + 2) 0 16 false nx 0 []) ∧ Hid (RdT X wr (.slice a' i c') G) ∧ Hid (Below w.heap.size w wr)) (fun t _ => 1 + m - (RowKit.intOf t).toNat)
      case atStart => exact ⟨0, 0, Nat.zero_le _, rfl, Nat.zero_le _, HL3, HR, hB3⟩
      case round =>
        clear HL3 HR hB3
        obtain ⟨j, nx, hj, rfl, hnx, HL, HRD, HBR⟩ := hrel
        obtain ⟨wA', hA'⟩ : ∃ wA', wA' = wr := ⟨_, rfl⟩
        subst hA'
        have hsz := HBR.out.size
        by_cases hjl : j < 1 + m
        · have hjI : (j : Int) < ((1 + m : Nat) : Int) := by omega
          have ca := append_one HL.out (by omega) HRD.out HLG.out (by rw [HPP.out]; show P + 0 + 2 ≤ 16; omega)
          rw [HPP.out] at ca
          unfold ptrW at ca
          clear HL
          go_wp2_with fail
          refine ca.mono ?_
          rintro e4 w4 ⟨rfl, k4, l4⟩
          clear ca
          have R4 : Hid (RdT X w4 (.slice a' i c') G) := HRD.out.keep k4.size (fun k hk hl => k4.block k hl (.inr hk))
          have B4 : Hid (Below w.heap.size w w4) := HBR.out.trans (k4.below hsz)
          have s4 := k4.size
          clear HRD HBR k4
          have cf := from_v l4
          rw [show fromR (nx + P) ([] ++ [(⟨nx, G⟩ : Rc)]) = nx from rfl] at cf
          have cs := sync_one l4
          have HL4 : Hid _ := l4
          unfold ptrW at cf cs
          clear l4
          go_wp2_with fail
          refine cf.mono ?_
          rintro e5 w5 ⟨rfl, rfl⟩
          clear cf
          go_wp2_with fail
          refine cs.mono ?_
          rintro e6 w6 ⟨rfl, k6, l6⟩
          clear cs HL4
          have R6 : Hid (RdT X w6 (.slice a' i c') G) := R4.out.keep k6.size (fun k hk hl => k6.block k hl (.inr hk))
          have B6 : Hid (Below w.heap.size w w6) := B4.out.trans (k6.below (by omega))
          have s6 := k6.size
          clear R4 B4 k6
          have cx := next_v l6
          have ct := let_v l6 (by omega) (nx + P)
          rw [show (((nx + P : Nat) : Nat) : Int) = (nx : Int) + P from by omega] at cx
          simp only [if_true] at ct
          unfold ptrW at cx ct
          have hcast : (((nx + P : Nat) : Nat) : Int) = (nx : Int) + P := by omega
          rw [hcast] at ct
          clear l6
          go_wp2_with fail
          refine cx.mono ?_
          rintro e7 w7 ⟨rfl, rfl⟩
          clear cx
          go_wp2_with fail
          refine ct.mono ?_
          rintro e8 w8 ⟨k8, rfl, l8⟩
          clear ct
          have R8 : Hid (RdT X w8 (.slice a' i c') G) := R6.out.keep k8.size (fun k hk hl => k8.block k hl (.inr hk))
          have B8 : Hid (Below w.heap.size w w8) := B6.out.trans (k8.below (by omega))
          have L8 : Hid _ := l8
          clear R6 B6 k8 l8
          go_wp2_with fail
          refine ⟨?_, ?measure⟩
          (repeat apply Exists.intro)
          refine ⟨?rel, rfl⟩
          case rel => exact ⟨j + 1, nx + P, by omega, by go_num, by omega, L8, R8, B8⟩
          case measure => simp [RowKit.intOf]; omega
        · obtain rfl : j = 1 + m := by omega
          have hjI : ¬ (((1 + m : Nat) : Int)) < ((1 + m : Nat) : Int) := by omega
          have cf := from_v HL.out
          rw [show fromR nx [] = nx from rfl] at cf
          have co := open_v HL.out (by omega)
          rw [show fromR nx [] = nx from rfl] at co
          have HBF := HBR
          unfold ptrW at cf co
          unfold ptr at co
          clear HL HRD HBR
          go_wp2_with fail
          refine cf.mono ?_
          rintro e5 w5 ⟨rfl, rfl⟩
          clear cf
          go_wp2_with fail
          refine co.mono ?_
          rintro e6 w6 ⟨k6, ⟨tv, fv, l, lo6, hl6⟩, q', rv, rfl, hq', l6, r6⟩
          clear co
          have B6 : Hid (Below w.heap.size w w6) := HBF.out.trans (k6.below hsz)
          obtain ⟨a, cap, S, rfl, z1, z2, _, _⟩ := recs_own r6
          rw [show ([] : List Rc).length = 0 from rfl]
          have cn := next_v l6
          have cm := lnext_any lo6
          rw [hl6] at cm
          unfold ptrW at cn
          clear l6 lo6 r6 k6 HBF
          go_wp2_with fail
          refine cn.mono ?_
          rintro e7 w7 ⟨rfl, rfl⟩
          clear cn
          go_wp2_with fail
          refine cm.mono ?_
          rintro e8 w8 ⟨rfl, rfl⟩
          clear cm
          go_wp2_with fail
          go_ret
          exact ⟨rfl, B6.out⟩

/-! ### The row -/
set_option maxRecDepth 100000 in
theorem lifted (os : Os) (started : os.Started) (H : Type) (enc : TypeId × Value → H) :
    ReturnsInHanded {} Tryz.checked os 6 .any (Rows.walRoundSpec.pre6 enc Tryz.prog Tryz.f6 Rows.walRoundRow.domain false) (Rows.walRoundSpec.post enc Tryz.prog Tryz.f6 false true false false) := by
  refine returnsInHanded_of_change (C := Tryz.checked) own started (by kernel_rfl) Tryz.func6
    (ChangeSpec.witness6 (enc := enc) (C := Tryz.checked) false ⟨#[], #[.string ByteArray.empty, .int .i64 0, .int .i64 0], []⟩ 8 (by kernel_rfl) (by kernel_rfl) (by kernel_rfl) (by kernel_rfl)) ?_
  intro W base args ds gs before hval0 hW hcnd _
  have hval : ∀ (j : Nat) t v, Tryz.f6.params[j]? = some t → args[j]? = some v → Value.okWide Tryz.prog W .any base t v := hval0
  have hW' := hW
  obtain ⟨p, q, hA0, hV, rfl, hfz, hnd⟩ := hW
  have hA : DataW.TrodAll enc Tryz.prog W 0 (fun _ => true) true Tryz.f6.params.toList args.toList ds p := hA0
  rw [Tryz.params6] at hA hval
  obtain ⟨v0, vs0, d0, ds0, p0, q0, hargs, rfl, rfl, h0, r0⟩ := trodAll_cons hA
  obtain ⟨v1, vs1, d1, ds1, p1, q1, rfl, rfl, rfl, h1, r1⟩ := trodAll_cons r0
  obtain ⟨v2, vs2, d2, ds2, p2, q2, rfl, rfl, rfl, h2, r2⟩ := trodAll_cons r1
  obtain ⟨rfl, rfl, rfl⟩ := trodAll_nil r2
  obtain rfl : args = #[v0, v1, v2] := by cases args; simp_all
  obtain ⟨rfl, rfl⟩ := trodVars_none hV
  obtain ⟨a0, rfl, rfl, rfl, w0⟩ := open_string Tryz.underlying9 (hval 0 9 v0 rfl rfl) h0
  obtain ⟨a1, rfl, rfl, rfl, w1⟩ := open_int Tryz.underlying3 (hval 1 3 v1 rfl rfl) h1
  obtain ⟨a2, rfl, rfl, rfl, w2⟩ := open_int Tryz.underlying3 (hval 2 3 v2 rfl rfl) h2
  clear hA0 hval0
  refine (walk a0 a1 a2 W w0 w1 w2).mono fun e W' ⟨he, bel⟩ => ?_
  subst he
  exact ⟨_, rfl, _, _, _, [], _, [], hW', trodAll_mk1 (shut_bool Tryz.underlying4 _), (trodAll_cons_mk (shut_string Tryz.underlying9 w0) (trodAll_cons_mk (shut_int Tryz.underlying3 w1) (trodAll_cons_mk (shut_int Tryz.underlying3 w2) trodAll_mk0))), rfl, bel.frame _, fun h => by cases h⟩

theorem over : Rows.walRoundRow.holds Tryz.pinned (OpenSpec.ofChange Rows.walRoundSpec) :=
  OpenClaim.holds_of_wide 6 Tryz.f6 rfl rfl rfl rfl rfl rfl rfl ⟨rfl, rfl, rfl, rfl, rfl⟩ rfl rfl rfl rfl rfl (by kernel_rfl) Tryz.func6 (by kernel_rfl)
    (of_decide_eq_true (by kernel_rfl)) (by unfold Func.isWrapper; first | (rw [if_pos (by decide +kernel)]; kernel_rfl) | (rw [if_neg (by decide +kernel)]; exact ⟨rfl, rfl⟩))
    (fun os started H enc _ => lifted os started H enc)

end Go.Proofs.YtmchpckjlmmfmaaGreat.walRound

namespace Go.Proofs.YtmchpckjlmmfmaaGreat
/-- The statement. -/
theorem walRound_proved : Rows.WalRoundSaid := walRound.over
#print axioms walRound_proved
end Go.Proofs.YtmchpckjlmmfmaaGreat
