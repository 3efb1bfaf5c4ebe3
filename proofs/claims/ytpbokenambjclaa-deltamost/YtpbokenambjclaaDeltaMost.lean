/- Proved: armoirelaw13.DeltaMost in full: for every most and every calls there are never more places than most, a place that is there may always be written again, and what was put in may be. -/
import Derived.Test.YtpbokenambjclaaDlLaw
import Derived.Test.YtpbokenambjclaaDOps
import Derived.Deep.RegionHeld3
import Derived.BigQuiet
import Derived.Deep.QuietTactic
import Derived.WalkSmall
import Derived.ProofKit
import Derived.OpenShut
import Derived.ShutString
import Derived.ChangeOld
import Derived.Below
import Derived.Carry
namespace Go.Proofs.Ytpbokenambjclaa.deltaMost
open Go.ChangeShapes Go.WideShapes Go.ChangeAt Go.RowKit
open Go.ChangeMaps (open_string shut_string)
set_option linter.unusedVariables false
set_option linter.unusedSimpArgs false

theorem own : ownKnob Try.prog.godebug = none := by kernel_rfl
theorem laidOut : laidOutB Try.prog = true := by kernel_rfl

set_option maxHeartbeats 8000000 in
set_option maxRecDepth 100000 in
theorem walk (a0 : Int) (a : Option Addr) (len cap : Nat) (os : List Dop) (w : World) (h0 : (Lit.int .i64 a0).wf = true) (ho : DopsAt w a len cap os) :
    Calls Try.prog 6 #[.int .i64 a0, .slice a len cap] w fun e w' => e = .returned (.bool true) ∧ Below w.heap.size w w' := by
  have hlc := ho.2.1
  have hcm := ho.2.2.1
  unfold maxLen at hcm
  have HO : Hid (DopsAt w a len cap os) := ho
  clear ho
  have hz := zeroCg
  have hzd := zeroDop
  have al : ∀ (A : World) (o : Obj), Below A.heap.size A (A.alloc o) := fun A o => (Below.refl _ A).alloc (Nat.le_refl _) o
  obtain ⟨M, hM⟩ : ∃ M, Int.tmod (Int.tmod a0 10 + 10) 10 = M := ⟨_, rfl⟩
  have hr0 : -10 < Int.tmod a0 10 ∧ Int.tmod a0 10 < 10 := tm_bd a0
  have hMb : 0 ≤ M ∧ M < 10 := by rw [← hM]; exact tm_pos (by omega)
  obtain ⟨r, hr⟩ : ∃ r, Int.tmod a0 10 = r := ⟨_, rfl⟩
  rw [hr] at hM hr0
  have hw10 : IntKind.i64.wrap (r + 10) = r + 10 := Go.IntWalk.i64_in (r + 10) (by omega)
  have cl := live_any w
  go_enter Try.func6, Try.ntmps6
  go_wp2_with fail
  refine cl.mono ?_
  rintro e w1 ⟨rfl, hb1⟩
  clear cl
  have cn := DlN.new w1 M (by omega)
  go_wp2_with fail
  refine cn.mono ?_
  rintro e w2 ⟨p, b, rfl, hD2, hnb⟩
  clear cn
  have hB2 : Below w.heap.size w w2 := thenB hb1 hD2.bel
  by_cases hmany : 80 < len
  · have hmI : (80 : Int) < len := by omega
    clear hD2
    go_wp2
    go_ret
    exact ⟨rfl, hB2⟩
  have hmI : ¬ (80 : Int) < len := by omega
  have hl80 : len ≤ 80 := by omega
  clear hmany
  have H2 : Hid (DlN w1.heap.size w1 w2 p b (newS M)) := hD2
  have HB1 : Hid (Below w.heap.size w w1) := hb1
  have hs1 := hb1.size
  clear hD2 hb1 hB2
  go_wp2_with fail
  go_loopw [8, 9, 10, 11, 33] (fun _ _ _ _ t wr => ∃ (k : Nat) (s : Dl), k ≤ len ∧ t = .int .i64 k ∧ Hid (s.most = M ∧ (s.L.length : Int) ≤ s.most ∧ s.pus.length ≤ k) ∧ Hid (DlN w1.heap.size w1 wr p b s)) (fun _ _ _ _ t _ => len - (intOf t).toNat)
  case atStart => exact ⟨0, newS M, Nat.zero_le _, rfl, ⟨by unfold newS; dsimp only; omega, by unfold newS; dsimp only [List.length_nil]; omega, Nat.le_refl _⟩, H2⟩
  case round =>
    clear H2
    obtain ⟨k, s, hk, rfl, HK, HD⟩ := hrel
    have hB : Below w.heap.size w wr := thenB HB1.out HD.out.bel
    by_cases hlt : k < len
    · have hltI : (k : Int) < len := by omega
      obtain ⟨bk, off, rfl, hok, hld⟩ := dop_at HO.out hB k hlt
      obtain ⟨o, hoe⟩ : ∃ o, os.getD k dop0 = o := ⟨_, rfl⟩
      rw [hoe] at hok hld
      clear hoe
      have HL : Hid (o.c.pt.bytes.length = 32) := hok.c.pt.ch.1
      have HLD : Hid _ := hld
      clear hld
      have hz3 := heap_alloc_new wr (.cells (dopC dop0) 44)
      have hb3 := alloc_row (A := wr) (.cells (dopC dop0) 44) (dopC o)
      have hd3 : DoAt ((wr.alloc (.cells (dopC dop0) 44)).setRow wr.heap.size (dopC o)) wr.heap.size o := ⟨setRow_heap _ _ _ _ _ _ hz3⟩
      obtain ⟨w3, hw3⟩ : ∃ w3, (wr.alloc (.cells (dopC dop0) 44)).setRow wr.heap.size (dopC o) = w3 := ⟨_, rfl⟩
      rw [hw3] at hb3 hd3
      have hD3 := HD.out.below hb3
      have nb3 : wr.heap.size ≠ b := fun e => by obtain ⟨v, hd, _⟩ := HD.out.d; have := hd.mp.lt; omega
      have hp3 : Hid _ := hd3.loadP
      go_wp2_with (first
        | (refine wpList_loadG rfl 44 _ rfl _ rfl _ HLD.out ?_)
        | (refine wpList_store_row rfl 44 _ _ rfl wr.heap.size (dopC o) rfl rfl 44 _ hz3 (by rw [dopC_size HL.out]; exact size_dop) (by rw [dopC_size HL.out]; rfl) (one_dop o) ?_; rw [hw3])
        | (refine wpList_loadG rfl 24 _ rfl _ rfl _ hp3.out ?_))
      refine (hD3.get o.c.pl hok.c.pl).mono ?_
      rintro e w4 ⟨rfl, hb4⟩
      have hD4 := hD3.below hb4
      have hd4 := hd3.below hb4
      have HA : Hid ((wasX s o.c.pl).pt.bytes.length = 32) := by
        obtain ⟨v, hd, _⟩ := HD.out.d
        exact (getL_ok hd.ok.L o.c.pl).pt.ch.1
      have hn5 := CgAt.laid w4 cg0
      have hb5 := alloc_row (A := w4) (.cells (cgC cg0) 31) (cgC (wasX s o.c.pl))
      obtain ⟨w5, hw5⟩ : ∃ w5, (w4.alloc (.cells (cgC cg0) 31)).setRow w4.heap.size (cgC (wasX s o.c.pl)) = w5 := ⟨_, rfl⟩
      rw [hw5] at hb5
      have hD5 := hD4.below hb5
      have hd5 := hd4.below hb5
      have hc5 : Hid _ := hd5.loadC HL.out
      go_wp2_with (first
        | (refine wpList_storeG rfl _ _ rfl w4.heap.size (wasX s o.c.pl) cg0 rfl rfl HA.out len0 hn5 ?_; rw [hw5])
        | (refine wpList_loadG rfl 31 _ rfl _ rfl _ hc5.out ?_))
      have hsok : DlOk s := by obtain ⟨v, hd, _⟩ := HD.out.d; exact hd.ok
      have hkk := HK.out
      obtain ⟨hm1, hm2, hm3⟩ := hkk
      refine (hD5.put o.c hok.c (by omega) (by omega)).mono ?_
      rintro e w6 ⟨rfl, hD6, hK6⟩
      have hd6 := hd5.keep nb3 hK6
      obtain ⟨p1, p2, p3, p4⟩ := putS_len hsok hok.c hm2
      have HK' : Hid ((putS s o.c).most = M ∧ ((putS s o.c).L.length : Int) ≤ (putS s o.c).most ∧ (putS s o.c).pus.length ≤ k + 1) := ⟨by omega, by omega, by omega⟩
      have HN : Hid (((putS s o.c).L.length : Int) ≤ M) := by unfold Hid; omega
      have H6 : Hid (DlN w1.heap.size w1 w6 p b (putS s o.c)) := hD6
      have HER : Hid ((putX s o.c).2 = 201 → isX s o.c.pl = false ∧ M ≤ ((putS s o.c).L.length : Int)) := fun h => by
        obtain ⟨q1, q2⟩ := put_big h
        rw [putS_err (by omega)]
        exact ⟨q1, by omega⟩
      have HEZ : Hid ((putX s o.c).2 = 0 → ckOk o.c = true) := fun h => put_zero h
      obtain ⟨er, her⟩ : ∃ er, (putX s o.c).2 = er := ⟨_, rfl⟩
      rw [her] at HER HEZ
      rw [her]
      obtain ⟨n6, hn6⟩ : ∃ n6, (putS s o.c).L.length = n6 := ⟨_, rfl⟩
      rw [hn6] at HER HN
      have ct := hD6.count
      rw [hn6] at ct
      have hc6 : Hid _ := hd6.loadC HL.out
      have hN := HN.out
      clear her hn6 p1 p2 p3 p4 hm1 hm2 hm3 hD6 hK6 hD5 hd5 hb5 hn5 hb4 hD4 hd4 hb3 hd3 hD3 hz3 HK HD hc5 hp3 HLD HA
      have hgt : ¬ (M < (n6 : Int)) := by omega
      go_wp2_with fail
      refine ct.mono ?_
      rintro e w7 ⟨rfl, rfl⟩
      by_cases h201 : er = 201
      · subst h201
        obtain ⟨q1, q2⟩ := HER.out rfl
        rw [q1]
        have hlt6 : ¬ ((n6 : Int) < M) := by omega
        go_wp2_with fail
        refine ct.mono ?_
        rintro e w8 ⟨rfl, rfl⟩
        clear ct
        go_wp2_with fail
        go_roundw
        case rel => exact ⟨k + 1, _, by omega, by go_num, HK', H6⟩
        case measure => simp [intOf]; omega
      · by_cases hz0 : er = 0
        · subst hz0
          have hck := dcheck_any w7 o.c hok.c
          rw [ckE_0 (HEZ.out rfl)] at hck
          go_wp2_with (refine wpList_loadG rfl 31 _ rfl _ rfl _ hc6.out ?_)
          refine hck.mono ?_
          rintro e w8 ⟨rfl, hb8⟩
          have H8 : Hid (DlN w1.heap.size w1 w8 p b (putS s o.c)) := H6.out.below hb8
          clear ct hck
          go_wp2_with fail
          go_roundw
          case rel => exact ⟨k + 1, _, by omega, by go_num, HK', H8⟩
          case measure => simp [intOf]; omega
        · clear ct
          go_wp2_with fail
          go_roundw
          case rel => exact ⟨k + 1, _, by omega, by go_num, HK', H6⟩
          case measure => simp [intOf]; omega
    · obtain rfl : k = len := by omega
      have hltI : ¬ (k : Int) < k := by omega
      clear HD
      go_wp2
      go_ret
      exact ⟨rfl, hB⟩

/-! ### The row -/
set_option maxRecDepth 100000 in
theorem lifted (os : Os) (started : os.Started) (H : Type) (enc : TypeId × Value → H) :
    ReturnsInHanded {} Try.checked os 6 .any (Rows.deltaMostSpec.pre6 enc Try.prog Try.f6 Rows.deltaMostRow.domain false) (Rows.deltaMostSpec.post enc Try.prog Try.f6 false true false false) := by
  refine returnsInHanded_of_change (C := Try.checked) own started (by kernel_rfl) Try.func6
    (ChangeSpec.witness6 (enc := enc) (C := Try.checked) false ⟨#[], #[.int .i64 0, .slice none 0 0], []⟩ 8 (by kernel_rfl) (by kernel_rfl) (by kernel_rfl) (by kernel_rfl)) ?_
  intro W base args ds gs before hval0 hW hcnd _
  have hval : ∀ (j : Nat) t v, Try.f6.params[j]? = some t → args[j]? = some v → Value.okWide Try.prog W .any base t v := hval0
  have hW' := hW
  obtain ⟨p, q, hA0, hV, rfl, hfz, hnd⟩ := hW
  have hA : DataW.TrodAll enc Try.prog W 0 (fun _ => true) true Try.f6.params.toList args.toList ds p := hA0
  rw [Try.params6] at hA hval
  obtain ⟨v0, vs0, d0, ds0, p0, q0, hargs, rfl, rfl, h0, r0⟩ := trodAll_cons hA
  obtain ⟨v1, vs1, d1, ds1, p1, q1, rfl, rfl, rfl, h1, r1⟩ := trodAll_cons r0
  obtain ⟨rfl, rfl, rfl⟩ := trodAll_nil r1
  obtain rfl : args = #[v0, v1] := by cases args; simp_all
  obtain ⟨rfl, rfl⟩ := trodVars_none hV
  obtain ⟨a0, rfl, rfl, rfl, w0⟩ := open_int Try.underlying3 (hval 0 3 v0 rfl rfl) h0
  obtain ⟨a1, len1, cap1, rfl⟩ := okWide_slice Try.underlying38 (hval 1 38 v1 rfl rfl)
  have k1 := h1
  have lt1 : ∀ x ∈ p1, x.block < W.heap.size := by obtain ⟨m, hm⟩ := k1; exact DataW.trod_lt m _ _ _ hm
  obtain ⟨o1, w1⟩ : ∃ os, DopsAt W a1 len1 cap1 os := by
    obtain ⟨fuel, hf⟩ := h1
    exact dopsAt_of hf
  clear hA0 hval0
  refine (walk a0 a1 len1 cap1 o1 W w0 w1).mono fun e W' ⟨he, bel⟩ => ?_
  subst he
  exact ⟨_, rfl, _, _, _, [], _, [], hW', trodAll_mk1 (shut_bool Try.underlying4 _), (trodAll_cons_mk (shut_int Try.underlying3 w0) (trodAll_cons_mk (Below.trod laidOut (by kernel_rfl) (of_decide_eq_true (by kernel_rfl)) k1 bel lt1) trodAll_mk0)), rfl, bel.frame _, fun h => by cases h⟩

theorem over : Rows.deltaMostRow.holds Try.pinned (OpenSpec.ofChange Rows.deltaMostSpec) :=
  OpenClaim.holds_of_wide 6 Try.f6 rfl rfl rfl rfl rfl rfl rfl ⟨rfl, rfl, rfl, rfl, rfl⟩ rfl rfl rfl rfl rfl (by kernel_rfl) Try.func6 (by kernel_rfl)
    (of_decide_eq_true (by kernel_rfl)) (by unfold Func.isWrapper; first | (rw [if_pos (by decide +kernel)]; kernel_rfl) | (rw [if_neg (by decide +kernel)]; exact ⟨rfl, rfl⟩))
    (fun os started H enc _ => lifted os started H enc)

end Go.Proofs.Ytpbokenambjclaa.deltaMost

namespace Go.Proofs.Ytpbokenambjclaa
/-- The statement. -/
theorem deltaMost_proved : Rows.DeltaMostSaid := deltaMost.over
#print axioms deltaMost_proved
end Go.Proofs.Ytpbokenambjclaa
