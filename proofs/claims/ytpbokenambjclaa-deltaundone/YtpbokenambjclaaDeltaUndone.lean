/- Proved: puts undone -/
import Derived.Test.YtpbokenambjclaaDlBk
import Derived.Test.YtpbokenambjclaaCgRef
import Derived.Test.YtpbokenambjclaaDOpsZ
import Derived.Deep.RegionHeld3
import Derived.BigQuiet
import Derived.Deep.QuietTactic
import Derived.WalkSmall
import Derived.ProofKit
import Derived.OpenShut
import Derived.ShutString
import Derived.ChangeOld
import Derived.Below
import Derived.Carry
namespace Go.Proofs.Ytpbokenambjclaa.deltaUndone
open Go.ChangeShapes Go.WideShapes Go.ChangeAt Go.RowKit Go.Maps
open Go.ChangeMaps (open_string shut_string)
set_option linter.unusedVariables false
set_option linter.unusedSimpArgs false

theorem own : ownKnob Try.prog.godebug = none := by kernel_rfl
theorem laidOut : laidOutB Try.prog = true := by kernel_rfl

set_option maxHeartbeats 8000000 in
set_option maxRecDepth 100000 in
theorem walk (a0 : Int) (a : Option Addr) (len cap : Nat) (os : List Dop) (a' : Option Addr) (len2 cap2 : Nat) (os2 : List Dop) (w : World) (h0 : (Lit.int .i64 a0).wf = true) (ho : DopsAt w a len cap os) (hs : len ≤ 17592186043904) (ho2 : DopsAt w a' len2 cap2 os2) (hs2 : len2 ≤ 17592186043904) :
    Calls Try.prog 5 #[.int .i64 a0, .slice a len cap, .slice a' len2 cap2] w fun e w' => e = .returned (.bool true) ∧ Below w.heap.size w w' := by
  have hlc := ho.2.1
  have hcm := ho.2.2.1
  have hlc2 := ho2.2.1
  have hcm2 := ho2.2.2.1
  unfold maxLen at hcm hcm2
  have HO : Hid (DopsAt w a len cap os) := ho
  have HO2 : Hid (DopsAt w a' len2 cap2 os2) := ho2
  clear ho ho2
  have hz := zeroCg
  have hzd := zeroDop
  have ha0 := bounds_i64 h0
  have hT : IntKind.i64.wrap ((len : Int) + (len2 : Int)) = (len : Int) + (len2 : Int) := Go.IntWalk.i64_in _ (by omega)
  have cl := live_any w
  go_enter Try.func5, Try.ntmps5
  go_wp2_with fail
  refine cl.mono ?_
  rintro e w1 ⟨rfl, hb1⟩
  clear cl
  have cn := DlN.new w1 a0 ha0.2
  go_wp2_with fail
  refine cn.mono ?_
  rintro e w2 ⟨p, b, rfl, hD2, hnb⟩
  clear cn
  have hB2 : Below w.heap.size w w2 := thenB hb1 hD2.bel
  by_cases hmany : (80 : Int) < (len : Int) + (len2 : Int)
  · clear hD2
    go_wp2
    go_ret
    exact ⟨rfl, hB2⟩
  have H2 : Hid (DlN w1.heap.size w1 w2 p b (newS a0)) := hD2
  have HB1 : Hid (Below w.heap.size w w1) := hb1
  have hs1 := hb1.size
  clear hD2 hb1 hB2
  go_wp2_with fail
  have HS80 : Hid (len + len2 ≤ 80) := by unfold Hid; omega
  clear hmany hT hs hs2
  go_loopw [10, 40] (fun _ t wr => ∃ (k : Nat) (s : Dl), k ≤ len ∧ t = .int .i64 k ∧ Hid (s.L.length ≤ k ∧ s.pus.length ≤ k) ∧ Hid (DlN w1.heap.size w1 wr p b s)) (fun _ t _ => len - (intOf t).toNat)
  case atStart => exact ⟨0, newS a0, Nat.zero_le _, rfl, ⟨Nat.le_refl _, Nat.le_refl _⟩, H2⟩
  case round =>
    clear H2
    obtain ⟨k, s, hk, rfl, HK, HD⟩ := hrel
    have hB : Below w.heap.size w wr := thenB HB1.out HD.out.bel
    have hsok : DlOk s := by obtain ⟨v, hd, _⟩ := HD.out.d; exact hd.ok
    have h80 := HS80.out
    by_cases hlt : k < len
    · have hltI : (k : Int) < len := by omega
      obtain ⟨bk, off, rfl, hok, hld⟩ := dop_at HO.out hB k hlt
      obtain ⟨o, hoe⟩ : ∃ o, os.getD k dop0 = o := ⟨_, rfl⟩
      rw [hoe] at hok hld
      clear hoe
      have HL : Hid (o.c.pt.bytes.length = 32) := hok.c.pt.ch.1
      have HLD : Hid _ := hld
      clear hld
      have hz3 := heap_alloc_new wr (.cells (dopC dop0) 44)
      have hb3 := alloc_row (A := wr) (.cells (dopC dop0) 44) (dopC o)
      have hd3 : DoAt ((wr.alloc (.cells (dopC dop0) 44)).setRow wr.heap.size (dopC o)) wr.heap.size o := ⟨setRow_heap _ _ _ _ _ _ hz3⟩
      obtain ⟨w3, hw3⟩ : ∃ w3, (wr.alloc (.cells (dopC dop0) 44)).setRow wr.heap.size (dopC o) = w3 := ⟨_, rfl⟩
      rw [hw3] at hb3 hd3
      have hD3 := HD.out.below hb3
      have hc3 : Hid _ := hd3.loadC HL.out
      go_wp2_with (first
        | (refine wpList_loadG rfl 44 _ rfl _ rfl _ HLD.out ?_)
        | (refine wpList_store_row rfl 44 _ _ rfl wr.heap.size (dopC o) rfl rfl 44 _ hz3 (by rw [dopC_size HL.out]; exact size_dop) (by rw [dopC_size HL.out]; rfl) (one_dop o) ?_; rw [hw3])
        | (refine wpList_loadG rfl 31 _ rfl _ rfl _ hc3.out ?_))
      obtain ⟨hm1, hm2⟩ := HK.out
      refine (hD3.put o.c hok.c (by omega) (by omega)).mono ?_
      rintro e w4 ⟨rfl, hD4, hK4⟩
      obtain ⟨p1, p2, p3⟩ := putS_lens (s := s) (c := o.c)
      have HK' : Hid ((putS s o.c).L.length ≤ k + 1 ∧ (putS s o.c).pus.length ≤ k + 1) := ⟨by omega, by omega⟩
      have H4 : Hid (DlN w1.heap.size w1 w4 p b (putS s o.c)) := hD4
      clear p1 p2 p3 hm1 hm2 hD4 hK4 hD3 hd3 hb3 hz3 HK HD hc3 HLD
      go_wp2_with fail
      go_roundw
      case rel => exact ⟨k + 1, _, by omega, by go_num, HK', H4⟩
      case measure => simp [intOf]; omega
    · obtain rfl : k = len := by omega
      have hltI : ¬ (k : Int) < k := by omega
      obtain ⟨hm1, hm2⟩ := HK.out
      have ca := HD.out.all (by omega)
      have HN : Hid (s.L.length ≤ k ∧ s.pus.length ≤ k) := ⟨hm1, hm2⟩
      have hbl : b < wr.heap.size := by obtain ⟨v, hd, _⟩ := HD.out.d; exact hd.mp.lt
      clear hm1 hm2 HK hB
      go_wp2_with fail
      refine ca.mono ?_
      rintro e w4 ⟨u, rfl, hu, hb4⟩
      clear ca
      obtain ⟨ua, uc, rfl, hrow⟩ := rowT_of hsok.L.ok hbl hu
      have HR4 : Hid (RowT b w4 ua s.L) := hrow
      have HD4 : Hid (DlN w1.heap.size w1 w4 p b s) := HD.out.below hb4
      obtain ⟨n, hn⟩ : ∃ n, s.L.length = n := ⟨_, rfl⟩
      obtain ⟨m, hm⟩ : ∃ m, s.pus.length = m := ⟨_, rfl⟩
      have HNN : Hid (s.L.length = n) := hn
      have HMM : Hid (s.pus.length = m) := hm
      rw [hn]
      have cm := HD4.out.mark
      rw [hm] at cm
      clear hn hm hu hb4 HD hrow hbl
      go_wp2_with fail
      refine cm.mono ?_
      rintro e w5 ⟨rfl, rfl⟩
      clear cm
      go_wp2_with fail
      go_loopw [14, 55] (fun _ t wr => ∃ (j : Nat) (s2 : Dl), j ≤ len2 ∧ t = .int .i64 j ∧ Hid (s2.L.length ≤ k + j ∧ s2.pus.length ≤ k + j) ∧ Hid (DlN w1.heap.size w1 wr p b s2) ∧ Hid (Back s s2) ∧ Hid (RowT b wr ua s.L)) (fun _ t _ => len2 - (intOf t).toNat)
      case atStart => exact ⟨0, s, Nat.zero_le _, rfl, HN, HD4, Back.refl s, HR4⟩
      case round =>
        clear HD4 HR4
        obtain ⟨j, s2, hj, rfl, HK, HD, HBK, HR⟩ := hrel
        have hB : Below w.heap.size w wr := thenB HB1.out HD.out.bel
        have hsok2 : DlOk s2 := by obtain ⟨v, hd, _⟩ := HD.out.d; exact hd.ok
        by_cases hlt : j < len2
        · have hltI : (j : Int) < len2 := by omega
          obtain ⟨bk, off, rfl, hok, hld⟩ := dop_at HO2.out hB j hlt
          obtain ⟨o, hoe⟩ : ∃ o, os2.getD j dop0 = o := ⟨_, rfl⟩
          rw [hoe] at hok hld
          clear hoe
          have HL : Hid (o.c.pt.bytes.length = 32) := hok.c.pt.ch.1
          have HLD : Hid _ := hld
          clear hld
          have hz3 := heap_alloc_new wr (.cells (dopC dop0) 44)
          have hb3 := alloc_row (A := wr) (.cells (dopC dop0) 44) (dopC o)
          have hd3 : DoAt ((wr.alloc (.cells (dopC dop0) 44)).setRow wr.heap.size (dopC o)) wr.heap.size o := ⟨setRow_heap _ _ _ _ _ _ hz3⟩
          obtain ⟨w3, hw3⟩ : ∃ w3, (wr.alloc (.cells (dopC dop0) 44)).setRow wr.heap.size (dopC o) = w3 := ⟨_, rfl⟩
          rw [hw3] at hb3 hd3
          have hD3 := HD.out.below hb3
          have hc3 : Hid _ := hd3.loadC HL.out
          go_wp2_with (first
            | (refine wpList_loadG rfl 44 _ rfl _ rfl _ HLD.out ?_)
            | (refine wpList_store_row rfl 44 _ _ rfl wr.heap.size (dopC o) rfl rfl 44 _ hz3 (by rw [dopC_size HL.out]; exact size_dop) (by rw [dopC_size HL.out]; rfl) (one_dop o) ?_; rw [hw3])
            | (refine wpList_loadG rfl 31 _ rfl _ rfl _ hc3.out ?_))
          obtain ⟨hm1, hm2⟩ := HK.out
          refine (hD3.put o.c hok.c (by omega) (by omega)).mono ?_
          rintro e w4 ⟨rfl, hD4, hK4⟩
          obtain ⟨p1, p2, p3⟩ := putS_lens (s := s2) (c := o.c)
          have HK' : Hid ((putS s2 o.c).L.length ≤ k + (j + 1) ∧ (putS s2 o.c).pus.length ≤ k + (j + 1)) := ⟨by omega, by omega⟩
          have H4 : Hid (DlN w1.heap.size w1 w4 p b (putS s2 o.c)) := hD4
          have HB4 : Hid (Back s (putS s2 o.c)) := HBK.out.put hsok2 hok.c
          have HR4 : Hid (RowT b w4 ua s.L) := (HR.out.below hb3).keep hK4
          clear p1 p2 p3 hm1 hm2 hD4 hK4 hD3 hd3 hb3 hz3 HK HD hc3 HLD HR HBK
          go_wp2_with fail
          go_roundw
          case rel => exact ⟨j + 1, _, by omega, by go_num, HK', H4, HB4, HR4⟩
          case measure => simp [intOf]; omega
        · obtain rfl : j = len2 := by omega
          have hltI : ¬ (j : Int) < j := by omega
          obtain ⟨hm1, hm2⟩ := HK.out
          have HN2 : Hid (s2.L.length + s2.pus.length ≤ 1000) := by unfold Hid; omega
          have HM2' : Hid (s2.pus.length ≤ 80) := by unfold Hid; omega
          have HN1 : Hid (n ≤ 80) := by have := HN.out.1; rw [HNN.out] at this; unfold Hid; omega
          obtain ⟨m2, hme⟩ : ∃ m2, s2.pus.length = m2 := ⟨_, rfl⟩
          have HMM2 : Hid (s2.pus.length = m2) := hme
          have hm80 : m2 ≤ 80 := by rw [← hme]; exact HM2'.out
          have cm := HD.out.mark
          rw [hme] at cm
          have hwp : IntKind.i64.wrap ((m2 : Int) + 1) = (m2 : Int) + 1 := Go.IntWalk.i64_in _ (by omega)
          have cb := HD.out.bad ((m2 : Int) + 1) (Or.inr (by rw [hme]; omega))
          clear hm1 hm2 HK hB hme
          go_wp2_with fail
          refine cm.mono ?_
          rintro e w6 ⟨rfl, rfl⟩
          clear cm
          go_wp2_with fail
          refine cb.mono ?_
          rintro e w7 ⟨rfl, hb7⟩
          clear cb
          have hD7 := HD.out.below hb7
          have HR7 : Hid (RowT b w7 ua s.L) := HR.out.below hb7
          have cu := hD7.undo m (by rw [← HMM.out]; exact HBK.out.le) HN2.out
          rw [show undoS s2 m = s from by rw [← HMM.out]; exact HBK.out.is] at cu
          clear hD7 hb7 HD HR
          go_wp2_with fail
          refine cu.mono ?_
          rintro e w8 ⟨rfl, hD8, hK8⟩
          clear cu
          have HR8 : Hid (RowT b w8 ua s.L) := HR7.out.keep hK8
          have HD8 : Hid (DlN w1.heap.size w1 w8 p b s) := hD8
          have hbl : b < w8.heap.size := by obtain ⟨v, hd, _⟩ := hD8.d; exact hd.mp.lt
          have ca := hD8.all (by rw [HNN.out]; have := HN1.out; omega)
          clear hK8 hD8 HR7
          go_wp2_with fail
          refine ca.mono ?_
          rintro e w9 ⟨u, rfl, hu, hb9⟩
          clear ca
          obtain ⟨ub, ud, rfl, hrow⟩ := rowT_of hsok.L.ok hbl hu
          have HQ9 : Hid (RowT b w9 ub s.L) := hrow
          have HR9 : Hid (RowT b w9 ua s.L) := HR8.out.below hb9
          have HD9 : Hid (DlN w1.heap.size w1 w9 p b s) := HD8.out.below hb9
          rw [HNN.out]
          have cm := HD9.out.mark
          rw [HMM.out] at cm
          clear hu hb9 hrow hbl HD8 HR8
          go_wp2_with fail
          refine cm.mono ?_
          rintro e w10 ⟨rfl, rfl⟩
          clear cm
          have hn80 := HN1.out
          go_wp2_with fail
          go_loopw [19, 96] (fun _ t wr => ∃ (i : Nat), i ≤ n ∧ t = .int .i64 i ∧ Hid (Below w10.heap.size w10 wr)) (fun _ t _ => n - (intOf t).toNat)
          case atStart => exact ⟨0, Nat.zero_le _, rfl, Below.refl _ _⟩
          case round =>
            obtain ⟨i, hi, rfl, HBQ⟩ := hrel
            by_cases hil : i < n
            · have hilI : (i : Int) < n := by omega
              obtain ⟨g, rfl, hg, _⟩ := (HR9.out.below HBQ.out).at_ (by rw [HNN.out]; omega)
              obtain ⟨g2, rfl, hg2, _⟩ := (HQ9.out.below HBQ.out).at_ (by rw [HNN.out]; omega)
              have hil' : i < s.L.length := by rw [HNN.out]; exact hil
              have hcok := hsok.L.ok _ (getD_mem hil')
              have HLA : Hid (∀ W, Below wr.heap.size wr W → (Instr.loadAt 31 (.pointer (some ⟨g, i * 46, none⟩))).run Try.prog W = .ok (.agg (cgC (s.L.getD i cg0))) W) := fun W h => (hg.below h).load hil' hcok
              have HLB : Hid (∀ W, Below wr.heap.size wr W → (Instr.loadAt 31 (.pointer (some ⟨g2, i * 46, none⟩))).run Try.prog W = .ok (.agg (cgC (s.L.getD i cg0))) W) := fun W h => (hg2.below h).load hil' hcok
              obtain ⟨c, hce⟩ : ∃ c, s.L.getD i cg0 = c := ⟨_, rfl⟩
              rw [hce] at hcok HLA HLB
              clear hce hil' hg hg2
              have HL : Hid (c.pt.bytes.length = 32) := hcok.pt.ch.1
              have hne := fun W => ne_cgs W (x := c) (y := c) HL.out HL.out
              rw [cgEq_self] at hne
              clear hcok
              go_wp2_with fail
              refine wp_region_noPanic ?_
              refine wp_region_held_drew (S := fun W => Below wr.heap.size wr W) (by kernel_rfl) (Below.refl _ wr).drew (fun hHeld => ?_)
              refine wpAnyH_take (i := 0) (v := .slice (some ⟨g, 0, none⟩) n uc) rfl (by kernel_rfl) (by kernel_rfl) (by kernel_rfl) (fun _ _ _ h => h) (Or.inl ⟨by rfl, fun W hSw => by (try dsimp only at hSw); go_simp⟩) (by assumption) ?_
              try simp only [List.getElem_toArray, List.getElem_cons_zero, List.getElem_cons_succ, Act.put, List.setIfInBounds_toArray, List.set_cons_zero, List.set_cons_succ]
              refine wpAnyH_take (i := 1) (v := .int .i64 i) rfl (by kernel_rfl) (by kernel_rfl) (by kernel_rfl) (fun _ _ _ h => h) (Or.inl ⟨by rfl, fun W hSw => by (try dsimp only at hSw); go_simp⟩) (by assumption) ?_
              try simp only [List.getElem_toArray, List.getElem_cons_zero, List.getElem_cons_succ, Act.put, List.setIfInBounds_toArray, List.set_cons_zero, List.set_cons_succ]
              refine wpAnyH_take (i := 2) (v := .pointer (some ⟨g, i * 46, none⟩)) rfl (by kernel_rfl) (by kernel_rfl) (by kernel_rfl) (fun _ _ _ h => h) (Or.inl ⟨by rfl, fun W hSw => by (try dsimp only at hSw); go_simp⟩) (by assumption) ?_
              try simp only [List.getElem_toArray, List.getElem_cons_zero, List.getElem_cons_succ, Act.put, List.setIfInBounds_toArray, List.set_cons_zero, List.set_cons_succ]
              refine wpAnyH_take (i := 3) (v := .agg (cgC c)) rfl (by kernel_rfl) (by kernel_rfl) (by kernel_rfl) (fun _ _ _ h => h) (yields_load (by rfl) _ _ rfl _ rfl _ (fun W h => HLA.out W h)) (by assumption) ?_
              try simp only [List.getElem_toArray, List.getElem_cons_zero, List.getElem_cons_succ, Act.put, List.setIfInBounds_toArray, List.set_cons_zero, List.set_cons_succ]
              refine wpAnyH_take (i := 4) (v := .slice (some ⟨g2, 0, none⟩) n ud) rfl (by kernel_rfl) (by kernel_rfl) (by kernel_rfl) (fun _ _ _ h => h) (Or.inl ⟨by rfl, fun W hSw => by (try dsimp only at hSw); go_simp⟩) (by assumption) ?_
              try simp only [List.getElem_toArray, List.getElem_cons_zero, List.getElem_cons_succ, Act.put, List.setIfInBounds_toArray, List.set_cons_zero, List.set_cons_succ]
              refine wpAnyH_take (i := 5) (v := .int .i64 i) rfl (by kernel_rfl) (by kernel_rfl) (by kernel_rfl) (fun _ _ _ h => h) (Or.inl ⟨by rfl, fun W hSw => by (try dsimp only at hSw); go_simp⟩) (by assumption) ?_
              try simp only [List.getElem_toArray, List.getElem_cons_zero, List.getElem_cons_succ, Act.put, List.setIfInBounds_toArray, List.set_cons_zero, List.set_cons_succ]
              refine wpAnyH_take (i := 6) (v := .pointer (some ⟨g2, i * 46, none⟩)) rfl (by kernel_rfl) (by kernel_rfl) (by kernel_rfl) (fun _ _ _ h => h) (Or.inl ⟨by rfl, fun W hSw => by (try dsimp only at hSw); go_simp⟩) (by assumption) ?_
              try simp only [List.getElem_toArray, List.getElem_cons_zero, List.getElem_cons_succ, Act.put, List.setIfInBounds_toArray, List.set_cons_zero, List.set_cons_succ]
              refine wpAnyH_take (i := 7) (v := .agg (cgC c)) rfl (by kernel_rfl) (by kernel_rfl) (by kernel_rfl) (fun _ _ _ h => h) (yields_load (by rfl) _ _ rfl _ rfl _ (fun W h => HLB.out W h)) (by assumption) ?_
              try simp only [List.getElem_toArray, List.getElem_cons_zero, List.getElem_cons_succ, Act.put, List.setIfInBounds_toArray, List.set_cons_zero, List.set_cons_succ]
              refine wpAnyH_take (i := 8) (v := .bool false) rfl (by kernel_rfl) (by kernel_rfl) (by kernel_rfl) (fun _ _ _ h => h) (Or.inl ⟨by rfl, fun W hSw => by (try dsimp only at hSw); go_simp⟩) (by assumption) ?_
              try simp only [List.getElem_toArray, List.getElem_cons_zero, List.getElem_cons_succ, Act.put, List.setIfInBounds_toArray, List.set_cons_zero, List.set_cons_succ]
              refine wpAnyH_done (by kernel_rfl) ?_ _
              refine NoPanic.normal ?_
              have HBN : Hid (Below w10.heap.size w10 wr.drew) := HBQ.out.drew
              clear hHeld HLA HLB hne
              go_wp2_with fail
              go_roundw
              case rel => exact ⟨i + 1, by omega, by go_num, HBN⟩
              case measure => simp [intOf]; omega
            · obtain rfl : i = n := by omega
              have hilI : ¬ (i : Int) < i := by omega
              have HBF : Hid (Below w.heap.size w wr) := thenB HB1.out (HD9.out.below HBQ.out).bel
              clear HD9 HR9 HQ9 HBQ
              go_wp2
              go_ret
              exact ⟨rfl, HBF.out⟩

/-! ### The row -/
set_option maxRecDepth 100000 in
theorem lifted (os : Os) (started : os.Started) (H : Type) (enc : TypeId × Value → H) :
    ReturnsInHanded {} Try.checked os 5 .any (Rows.deltaUndoneSpec.pre6 enc Try.prog Try.f5 Rows.deltaUndoneRow.domain false) (Rows.deltaUndoneSpec.post enc Try.prog Try.f5 false true false false) := by
  refine returnsInHanded_of_change_sized (C := Try.checked) own started (by kernel_rfl) Try.func5
    (ChangeSpec.witness6 (enc := enc) (C := Try.checked) false ⟨#[], #[.int .i64 0, .slice none 0 0, .slice none 0 0], []⟩ 8 (by kernel_rfl) (by kernel_rfl) (by kernel_rfl) (by kernel_rfl)) ?_
  intro W base args ds gs before hval0 hW hcnd hsz0 _
  have hsz : (DataW.weightsEach Try.prog (Try.f5.params.toList ++ Rows.deltaUndoneSpec.plain.varTypes Try.prog) (ds ++ gs)).all (· ≤ reachBytes) = true := hsz0
  clear hsz0
  have hval : ∀ (j : Nat) t v, Try.f5.params[j]? = some t → args[j]? = some v → Value.okWide Try.prog W .any base t v := hval0
  have hW' := hW
  obtain ⟨p, q, hA0, hV, rfl, hfz, hnd⟩ := hW
  have hA : DataW.TrodAll enc Try.prog W 0 (fun _ => true) true Try.f5.params.toList args.toList ds p := hA0
  rw [Try.params5] at hA hval hsz
  obtain ⟨v0, vs0, d0, ds0, p0, q0, hargs, rfl, rfl, h0, r0⟩ := trodAll_cons hA
  obtain ⟨v1, vs1, d1, ds1, p1, q1, rfl, rfl, rfl, h1, r1⟩ := trodAll_cons r0
  obtain ⟨v2, vs2, d2, ds2, p2, q2, rfl, rfl, rfl, h2, r2⟩ := trodAll_cons r1
  obtain ⟨rfl, rfl, rfl⟩ := trodAll_nil r2
  obtain rfl : args = #[v0, v1, v2] := by cases args; simp_all
  obtain ⟨rfl, rfl⟩ := trodVars_none hV
  obtain ⟨a0, rfl, rfl, rfl, w0⟩ := open_int Try.underlying3 (hval 0 3 v0 rfl rfl) h0
  obtain ⟨a1, len1, cap1, rfl⟩ := okWide_slice Try.underlying38 (hval 1 38 v1 rfl rfl)
  have k1 := h1
  have lt1 : ∀ x ∈ p1, x.block < W.heap.size := by obtain ⟨m, hm⟩ := k1; exact DataW.trod_lt m _ _ _ hm
  obtain ⟨o1, w1, ws1⟩ : ∃ os, DopsAt W a1 len1 cap1 os ∧ len1 ≤ 17592186043904 := by
    obtain ⟨fuel, hf⟩ := h1
    obtain ⟨os, hos⟩ := dopsAt_of hf
    exact ⟨os, hos, dops_sized hf hsz (j := 1) rfl rfl⟩
  obtain ⟨a2, len2, cap2, rfl⟩ := okWide_slice Try.underlying38 (hval 2 38 v2 rfl rfl)
  have k2 := h2
  have lt2 : ∀ x ∈ p2, x.block < W.heap.size := by obtain ⟨m, hm⟩ := k2; exact DataW.trod_lt m _ _ _ hm
  obtain ⟨o2, w2, ws2⟩ : ∃ os, DopsAt W a2 len2 cap2 os ∧ len2 ≤ 17592186043904 := by
    obtain ⟨fuel, hf⟩ := h2
    obtain ⟨os, hos⟩ := dopsAt_of hf
    exact ⟨os, hos, dops_sized hf hsz (j := 2) rfl rfl⟩
  clear hA0 hval0
  refine (walk a0 a1 len1 cap1 o1 a2 len2 cap2 o2 W w0 w1 ws1 w2 ws2).mono fun e W' ⟨he, bel⟩ => ?_
  subst he
  exact ⟨_, rfl, _, _, _, [], _, [], hW', trodAll_mk1 (shut_bool Try.underlying4 _), (trodAll_cons_mk (shut_int Try.underlying3 w0) (trodAll_cons_mk (Below.trod laidOut (by kernel_rfl) (of_decide_eq_true (by kernel_rfl)) k1 bel lt1) (trodAll_cons_mk (Below.trod laidOut (by kernel_rfl) (of_decide_eq_true (by kernel_rfl)) k2 bel lt2) trodAll_mk0))), rfl, bel.frame _, fun h => by cases h⟩

theorem over : Rows.deltaUndoneRow.holds Try.pinned (OpenSpec.ofChange Rows.deltaUndoneSpec) :=
  OpenClaim.holds_of_wide 5 Try.f5 rfl rfl rfl rfl rfl rfl rfl ⟨rfl, rfl, rfl, rfl, rfl⟩ rfl rfl rfl rfl rfl (by kernel_rfl) Try.func5 (by kernel_rfl)
    (of_decide_eq_true (by kernel_rfl)) (by unfold Func.isWrapper; first | (rw [if_pos (by decide +kernel)]; kernel_rfl) | (rw [if_neg (by decide +kernel)]; exact ⟨rfl, rfl⟩))
    (fun os started H enc _ => lifted os started H enc)

end Go.Proofs.Ytpbokenambjclaa.deltaUndone

namespace Go.Proofs.Ytpbokenambjclaa
/-- The statement. -/
theorem deltaUndone_proved : Rows.DeltaUndoneSaid := deltaUndone.over
#print axioms deltaUndone_proved
end Go.Proofs.Ytpbokenambjclaa
