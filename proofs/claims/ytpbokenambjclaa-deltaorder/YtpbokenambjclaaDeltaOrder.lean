/- Proved: armoirelaw13.DeltaOrder in full: for every calls All tells each place that was written once, rising, with what Get tells. -/
import Derived.Test.YtpbokenambjclaaDlSet
import Derived.Test.YtpbokenambjclaaCgRef
import Derived.Test.YtpbokenambjclaaDOps
import Derived.Deep.RegionHeld3
import Derived.BigQuiet
import Derived.Deep.QuietTactic
import Derived.WalkSmall
import Derived.ProofKit
import Derived.OpenShut
import Derived.ShutString
import Derived.ChangeOld
import Derived.Below
import Derived.Carry
namespace Go.Proofs.Ytpbokenambjclaa.deltaOrder
open Go.ChangeShapes Go.WideShapes Go.ChangeAt Go.RowKit Go.Maps
open Go.ChangeMaps (open_string shut_string)
set_option linter.unusedVariables false
set_option linter.unusedSimpArgs false

theorem own : ownKnob Try.prog.godebug = none := by kernel_rfl
theorem laidOut : laidOutB Try.prog = true := by kernel_rfl

/-- What a round of the second loop reads. -/
structure OrdS (W1 W : World) (b2 g g1 g2 : Nat) (L : List Cg) (c : Cg) : Prop where
  st : StAt W b2 L
  row : RowG W g L
  cc : CgAt W g1 c
  x : CgAt W g2 c
  bel : Below W1.heap.size W1 W
theorem OrdS.below {W1 W W' : World} {b2 g g1 g2 : Nat} {L : List Cg} {c : Cg} (h : OrdS W1 W b2 g g1 g2 L c) (hb : Below W.heap.size W W') : OrdS W1 W' b2 g g1 g2 L c := ⟨h.st.keep (hb.block _ h.st.lt), h.row.below hb, h.cc.below hb, h.x.below hb, h.bel.trans (hb.mono h.bel.size)⟩
theorem OrdS.drew {W1 W : World} {b2 g g1 g2 : Nat} {L : List Cg} {c : Cg} (h : OrdS W1 W b2 g g1 g2 L c) : OrdS W1 W.drew b2 g g1 g2 L c := h.below (Below.refl _ W).drew

set_option maxHeartbeats 8000000 in
set_option maxRecDepth 100000 in
theorem walk (a : Option Addr) (len cap : Nat) (os : List Dop) (w : World) (ho : DopsAt w a len cap os) :
    Calls Try.prog 7 #[.slice a len cap] w fun e w' => e = .returned (.bool true) ∧ Below w.heap.size w w' := by
  have hlc := ho.2.1
  have hcm := ho.2.2.1
  unfold maxLen at hcm
  have HO : Hid (DopsAt w a len cap os) := ho
  clear ho
  have hz := zeroCg
  have hzd := zeroDop
  have hmm := @run_makeMap Try.prog
  have al : ∀ (A : World) (o : Obj), Below A.heap.size A (A.alloc o) := fun A o => (Below.refl _ A).alloc (Nat.le_refl _) o
  have cl := live_any w
  go_enter Try.func7, Try.ntmps7
  go_wp2_with fail
  refine cl.mono ?_
  rintro e w1 ⟨rfl, hb1⟩
  clear cl
  have cn := DlN.new w1 64 (by decide)
  go_wp2_with fail
  refine cn.mono ?_
  rintro e w2 ⟨p, b, rfl, hD2, hnb⟩
  clear cn
  have hB2 : Below w.heap.size w w2 := thenB hb1 hD2.bel
  by_cases hmany : 80 < len
  · have hmI : (80 : Int) < len := by omega
    clear hD2
    go_wp2
    go_ret
    exact ⟨rfl, hB2⟩
  have hmI : ¬ (80 : Int) < len := by omega
  have hl80 : len ≤ 80 := by omega
  clear hmany
  have hbl : b < w2.heap.size := by obtain ⟨v, hd, _⟩ := hD2.d; exact hd.mp.lt
  have nb2 : w2.heap.size ≠ b := by omega
  have hw12 : w1.heap.size ≤ w2.heap.size := hD2.le
  obtain ⟨b2, hb2⟩ : ∃ b2, w2.heap.size = b2 := ⟨_, rfl⟩
  have H3 : Hid (DlN w1.heap.size w1 (w2.alloc (.map #[] 0)) p b (newS 64)) := hD2.below (al _ _)
  have HS3 : Hid (StAt (w2.alloc (.map #[] 0)) b2 (newS 64).L) := by rw [← hb2]; exact StAt.made w2
  have HB1 : Hid (Below w.heap.size w w1) := hb1
  have hs1 := hb1.size
  rw [hb2] at nb2 hw12
  clear hD2 hb1 hB2 hbl
  go_wp2_with fail
  try rw [hb2]
  clear hb2
  go_loopw [7, 30] (fun _ t wr => ∃ (k : Nat) (s : Dl), k ≤ len ∧ t = .int .i64 k ∧ Hid (s.L.length ≤ k ∧ s.pus.length ≤ k) ∧ Hid (DlN w1.heap.size w1 wr p b s) ∧ Hid (StAt wr b2 s.L)) (fun _ t _ => len - (intOf t).toNat)
  case atStart => exact ⟨0, newS 64, Nat.zero_le _, rfl, ⟨Nat.le_refl _, Nat.le_refl _⟩, H3, HS3⟩
  case round =>
    clear H3 HS3
    obtain ⟨k, s, hk, rfl, HK, HD, HS⟩ := hrel
    have hB : Below w.heap.size w wr := thenB HB1.out HD.out.bel
    have hsok : DlOk s := by obtain ⟨v, hd, _⟩ := HD.out.d; exact hd.ok
    by_cases hlt : k < len
    · have hltI : (k : Int) < len := by omega
      obtain ⟨bk, off, rfl, hok, hld⟩ := dop_at HO.out hB k hlt
      obtain ⟨o, hoe⟩ : ∃ o, os.getD k dop0 = o := ⟨_, rfl⟩
      rw [hoe] at hok hld
      clear hoe
      have HL : Hid (o.c.pt.bytes.length = 32) := hok.c.pt.ch.1
      have HLD : Hid _ := hld
      clear hld
      have hz3 := heap_alloc_new wr (.cells (dopC dop0) 44)
      have hb3 := alloc_row (A := wr) (.cells (dopC dop0) 44) (dopC o)
      have hd3 : DoAt ((wr.alloc (.cells (dopC dop0) 44)).setRow wr.heap.size (dopC o)) wr.heap.size o := ⟨setRow_heap _ _ _ _ _ _ hz3⟩
      obtain ⟨w3, hw3⟩ : ∃ w3, (wr.alloc (.cells (dopC dop0) 44)).setRow wr.heap.size (dopC o) = w3 := ⟨_, rfl⟩
      rw [hw3] at hb3 hd3
      have hD3 := HD.out.below hb3
      have hS3 := HS.out.keep (hb3.block _ HS.out.lt)
      have nb3 : wr.heap.size ≠ b := fun e => by obtain ⟨v, hd, _⟩ := HD.out.d; have := hd.mp.lt; omega
      have hc3 : Hid _ := hd3.loadC HL.out
      go_wp2_with (first
        | (refine wpList_loadG rfl 44 _ rfl _ rfl _ HLD.out ?_)
        | (refine wpList_store_row rfl 44 _ _ rfl wr.heap.size (dopC o) rfl rfl 44 _ hz3 (by rw [dopC_size HL.out]; exact size_dop) (by rw [dopC_size HL.out]; rfl) (one_dop o) ?_; rw [hw3])
        | (refine wpList_loadG rfl 31 _ rfl _ rfl _ hc3.out ?_))
      obtain ⟨hm1, hm2⟩ := HK.out
      refine (hD3.put o.c hok.c (by omega) (by omega)).mono ?_
      rintro e w4 ⟨rfl, hD4, hK4⟩
      have hd4 := hd3.keep nb3 hK4
      have hS4 := hS3.keepD hK4 nb2
      obtain ⟨p1, p2, p3⟩ := putS_lens (s := s) (c := o.c)
      have HK' : Hid ((putS s o.c).L.length ≤ k + 1 ∧ (putS s o.c).pus.length ≤ k + 1) := ⟨by omega, by omega⟩
      have HT : Hid ((putX s o.c).2 = 0 → (putS s o.c).L = setL s.L (putX s o.c).1 ∧ (putX s o.c).1.pl = o.c.pl) := fun h => ⟨by unfold putS; rw [if_pos h], putX_pl h⟩
      have HF : Hid ((putX s o.c).2 ≠ 0 → (putS s o.c).L = s.L) := fun h => by rw [putS_err h]
      have hxok := putX_ok hsok hok.c
      obtain ⟨er, her⟩ : ∃ er, (putX s o.c).2 = er := ⟨_, rfl⟩
      rw [her] at HT HF
      rw [her]
      have H4 : Hid (DlN w1.heap.size w1 w4 p b (putS s o.c)) := hD4
      have HS4 : Hid (StAt w4 b2 s.L) := hS4
      have hp4 : Hid _ := hd4.loadP
      have HM : Hid (s.L.length ≤ 80) := by unfold Hid; omega
      clear her p1 p2 p3 hm1 hm2 hD4 hS4 hK4 hD3 hS3 hd3 hb3 hz3 HK HD HS hc3 HLD hd4
      by_cases hz0 : er = 0
      · subst hz0
        obtain ⟨e1, e2⟩ := HT.out rfl
        obtain ⟨w5, hmu, hS5, ht5⟩ := HS4.out.put hsok.L (by have := HM.out; unfold maxLen; omega) hxok
        rw [e2] at hmu
        have H5 : Hid (DlN w1.heap.size w1 w5 p b (putS s o.c)) := H4.out.turned ht5 nb2 hw12
        have HS5 : Hid (StAt w5 b2 (putS s o.c).L) := by unfold Hid; rw [e1]; exact hS5
        clear e1 e2 hS5 ht5 hxok
        go_wp2_with (refine wpList_loadG rfl 24 _ rfl _ rfl _ hp4.out ?_)
        go_roundw
        case rel => exact ⟨k + 1, _, by omega, by go_num, HK', H5, HS5⟩
        case measure => simp [intOf]; omega
      · have HS5 : Hid (StAt w4 b2 (putS s o.c).L) := by unfold Hid; rw [HF.out hz0]; exact HS4.out
        clear hxok
        go_wp2_with fail
        go_roundw
        case rel => exact ⟨k + 1, _, by omega, by go_num, HK', H4, HS5⟩
        case measure => simp [intOf]; omega
    · obtain rfl : k = len := by omega
      have hltI : ¬ (k : Int) < k := by omega
      obtain ⟨hm1, hm2⟩ := HK.out
      have ca := HD.out.all (by omega)
      have HN : Hid (s.L.length ≤ 80) := by unfold Hid; omega
      clear hm1 hm2 HK hB
      go_wp2_with fail
      refine ca.mono ?_
      rintro e w4 ⟨u, rfl, hu, hb4⟩
      clear ca
      have HD4 : Hid (DlN w1.heap.size w1 w4 p b s) := HD.out.below hb4
      have HS4 : Hid (StAt w4 b2 s.L) := HS.out.keep (hb4.block _ HS.out.lt)
      obtain ⟨ua, uc, rfl, hrow⟩ := row_of hsok.L.ok hu
      have HROW : Hid (0 < s.L.length → ∃ g, ua = some ⟨g, 0, none⟩ ∧ RowG w4 g s.L) := fun h => by obtain ⟨g, h1, h2, _⟩ := hrow h; exact ⟨g, h1, h2⟩
      obtain ⟨n, hn⟩ : ∃ n, s.L.length = n := ⟨_, rfl⟩
      have HNN : Hid (s.L.length = n) := hn
      rw [hn] at HROW HN
      rw [hn]
      have hn80 := HN.out
      clear hn hu hb4 HD HS hrow
      go_wp2_with fail
      go_loopw [9, 10, 11, 12, 48] (fun _ _ _ _ t wr => ∃ (i : Nat), i ≤ n ∧ t = .int .i64 i ∧ Hid (Below w4.heap.size w4 wr)) (fun _ _ _ _ t _ => n - (intOf t).toNat)
      case atStart => exact ⟨0, Nat.zero_le _, rfl, Below.refl _ _⟩
      case round =>
        obtain ⟨i, hi, rfl, HBQ⟩ := hrel
        by_cases hil : i < n
        · have hilI : (i : Int) < n := by omega
          obtain ⟨g, rfl, hrow4⟩ := HROW.out (by omega)
          have hil' : i < s.L.length := by rw [HNN.out]; exact hil
          have hrw := hrow4.below HBQ.out
          have hmem := getD_mem hil'
          have hcok := hsok.L.ok _ hmem
          have hld := hrw.load hil' hcok
          have hrs : 0 < i → cmpP (s.L.getD (i - 1) cg0).pl (s.L.getD i cg0).pl = -1 := fun h => getD_rise hsok.L.rise (by omega) hil'
          have hok1 : 0 < i → CgOk (s.L.getD (i - 1) cg0) := fun h => hsok.L.ok _ (getD_mem (by omega))
          have hld1 : ∀ W, RowG W g s.L → 0 < i → (Instr.loadAt 24 (.pointer (some ⟨g, (i - 1) * 46, none⟩))).run Try.prog W = .ok (plV (s.L.getD (i - 1) cg0).pl) W := fun W h hi0 => h.loadP (by omega)
          have hStq := HS4.out.keep (HBQ.out.block _ HS4.out.lt)
          have hDq := HD4.out.below HBQ.out
          have hlk : ∀ W, StAt W b2 s.L → (Instr.lookup 57 (.map (some b2)) (plV (s.L.getD i cg0).pl) false).run Try.prog W = .ok (.bool true) W := fun W h => h.look hsok.L hmem
          have hwas : wasX s (s.L.getD i cg0).pl = s.L.getD i cg0 := by unfold wasX; rw [(getL_some hsok.L.rise).2 ⟨hmem, rfl⟩]; rfl
          have his : isX s (s.L.getD i cg0).pl = true := by unfold isX; rw [(getL_some hsok.L.rise).2 ⟨hmem, rfl⟩]; rfl
          obtain ⟨c, hce⟩ : ∃ c, s.L.getD i cg0 = c := ⟨_, rfl⟩
          obtain ⟨c1, hce1⟩ : ∃ c1, s.L.getD (i - 1) cg0 = c1 := ⟨_, rfl⟩
          rw [hce] at hcok hld hrs hlk hwas his
          rw [hce1] at hrs hok1 hld1
          clear hce hce1 hmem
          have HL : Hid (c.pt.bytes.length = 32) := hcok.pt.ch.1
          have HLD : Hid _ := hld
          have HRS : Hid (0 < i → cmpP c1.pl c.pl = -1) := hrs
          have hn5 := CgAt.laid wr cg0
          have hb5 := alloc_row (A := wr) (.cells (cgC cg0) 31) (cgC c)
          have hx5 := hn5.setRow c
          obtain ⟨w5, hw5⟩ : ∃ w5, (wr.alloc (.cells (cgC cg0) 31)).setRow wr.heap.size (cgC c) = w5 := ⟨_, rfl⟩
          rw [hw5] at hb5 hx5
          have hp5 : Hid _ := hx5.loadP
          have cg := (hDq.below hb5).get c.pl hcok.pl
          rw [hwas, his] at cg
          clear hwas his hrs hld hil'
          go_wp2_with (first
            | (refine wpList_loadG rfl 31 _ rfl _ rfl _ HLD.out ?_)
            | (refine wpList_storeG rfl _ _ rfl wr.heap.size c cg0 rfl rfl HL.out len0 hn5 ?_; rw [hw5])
            | (refine wpList_loadG rfl 24 _ rfl _ rfl _ hp5.out ?_))
          refine cg.mono ?_
          rintro e w6 ⟨rfl, hb6⟩
          clear cg
          have hn6 := CgAt.laid w6 cg0
          have hb7 := alloc_row (A := w6) (.cells (cgC cg0) 31) (cgC c)
          have hx7 := hn6.setRow c
          obtain ⟨w7, hw7⟩ : ∃ w7, (w6.alloc (.cells (cgC cg0) 31)).setRow w6.heap.size (cgC c) = w7 := ⟨_, rfl⟩
          rw [hw7] at hb7 hx7
          have hbq7 : Below wr.heap.size wr w7 := thenB (thenB hb5 hb6) hb7
          have hS7 : OrdS w4 w7 b2 g wr.heap.size w6.heap.size s.L c := ⟨hStq.keep (hbq7.block _ hStq.lt), hrw.below hbq7, (hx5.below hb6).below hb7, hx7, HBQ.out.trans (hbq7.mono HBQ.out.size)⟩
          have hne := fun W => ne_cgs W (x := c) (y := c) HL.out HL.out
          rw [cgEq_self] at hne
          clear hrw hStq hDq hn5 hb5 hx5 hp5 hb6 hb7 hx7 hbq7 HLD hrow4
          go_wp2_with (refine wpList_storeG rfl _ _ rfl w6.heap.size c cg0 rfl rfl HL.out len0 hn6 ?_; rw [hw7])
          refine wp_region_noPanic ?_
          refine wp_region_held_drew (S := fun W => OrdS w4 W b2 g wr.heap.size w6.heap.size s.L c) (by kernel_rfl) hS7.drew (fun hHeld => ?_)
          by_cases hi0 : 0 < i
          · have hi0I : (0 : Int) < (i : Int) := by omega
            have hcmp := HRS.out hi0
            have hk1 := hok1 hi0
            have hw1' : IntKind.i64.wrap ((i : Int) - 1) = ((i - 1 : Nat) : Int) := by rw [Go.IntWalk.i64_in _ (by omega)]; omega
            have hin : ((i - 1 : Nat) : Int) < (n : Int) := by omega
            have cr := fun W => refCompare_any W c1.pl c.pl
            rw [hcmp] at cr
            refine wpAnyH_take (i := 0) (v := .bool true) rfl (by kernel_rfl) (by kernel_rfl) (by kernel_rfl) (fun _ _ _ h => h) (Or.inl ⟨by rfl, fun W hSw => by (try dsimp only at hSw); go_simp⟩) (by assumption) ?_
            try simp only [List.getElem_toArray, List.getElem_cons_zero, List.getElem_cons_succ, Act.put, List.setIfInBounds_toArray, List.set_cons_zero, List.set_cons_succ]
            refine wpAnyH_take (i := 1) (v := .bool false) rfl (by kernel_rfl) (by kernel_rfl) (by kernel_rfl) (fun _ _ _ h => h) (Or.inl ⟨by rfl, fun W hSw => by (try dsimp only at hSw); go_simp⟩) (by assumption) ?_
            try simp only [List.getElem_toArray, List.getElem_cons_zero, List.getElem_cons_succ, Act.put, List.setIfInBounds_toArray, List.set_cons_zero, List.set_cons_succ]
            refine wpAnyH_take (i := 2) (v := .bool false) rfl (by kernel_rfl) (by kernel_rfl) (by kernel_rfl) (fun _ _ _ h => h) (Or.inl ⟨by rfl, fun W hSw => by (try dsimp only at hSw); go_simp⟩) (by assumption) ?_
            try simp only [List.getElem_toArray, List.getElem_cons_zero, List.getElem_cons_succ, Act.put, List.setIfInBounds_toArray, List.set_cons_zero, List.set_cons_succ]
            refine wpAnyH_take (i := 3) (v := .agg (cgC c)) rfl (by kernel_rfl) (by kernel_rfl) (by kernel_rfl) (fun _ _ _ h => h) (yields_load (by rfl) _ _ rfl _ rfl _ (fun W h => h.x.load HL.out)) (by assumption) ?_
            try simp only [List.getElem_toArray, List.getElem_cons_zero, List.getElem_cons_succ, Act.put, List.setIfInBounds_toArray, List.set_cons_zero, List.set_cons_succ]
            refine wpAnyH_take (i := 4) (v := .agg (cgC c)) rfl (by kernel_rfl) (by kernel_rfl) (by kernel_rfl) (fun _ _ _ h => h) (yields_load (by rfl) _ _ rfl _ rfl _ (fun W h => h.cc.load HL.out)) (by assumption) ?_
            try simp only [List.getElem_toArray, List.getElem_cons_zero, List.getElem_cons_succ, Act.put, List.setIfInBounds_toArray, List.set_cons_zero, List.set_cons_succ]
            refine wpAnyH_take (i := 5) (v := .bool false) rfl (by kernel_rfl) (by kernel_rfl) (by kernel_rfl) (fun _ _ _ h => h) (Or.inl ⟨by rfl, fun W hSw => by (try dsimp only at hSw); go_simp⟩) (by assumption) ?_
            try simp only [List.getElem_toArray, List.getElem_cons_zero, List.getElem_cons_succ, Act.put, List.setIfInBounds_toArray, List.set_cons_zero, List.set_cons_succ]
            refine wpAnyH_take (i := 6) (v := .bool false) rfl (by kernel_rfl) (by kernel_rfl) (by kernel_rfl) (fun _ _ _ h => h) (Or.inl ⟨by rfl, fun W hSw => by (try dsimp only at hSw); go_simp⟩) (by assumption) ?_
            try simp only [List.getElem_toArray, List.getElem_cons_zero, List.getElem_cons_succ, Act.put, List.setIfInBounds_toArray, List.set_cons_zero, List.set_cons_succ]
            refine wpAnyH_take (i := 7) (v := .bool false) rfl (by kernel_rfl) (by kernel_rfl) (by kernel_rfl) (fun _ _ _ h => h) (Or.inl ⟨by rfl, fun W hSw => by (try dsimp only at hSw); go_simp⟩) (by assumption) ?_
            try simp only [List.getElem_toArray, List.getElem_cons_zero, List.getElem_cons_succ, Act.put, List.setIfInBounds_toArray, List.set_cons_zero, List.set_cons_succ]
            refine wpAnyH_take (i := 8) (v := .map (some b2)) rfl (by kernel_rfl) (by kernel_rfl) (by kernel_rfl) (fun _ _ _ h => h) (Or.inl ⟨by rfl, fun W hSw => by (try dsimp only at hSw); go_simp⟩) (by assumption) ?_
            try simp only [List.getElem_toArray, List.getElem_cons_zero, List.getElem_cons_succ, Act.put, List.setIfInBounds_toArray, List.set_cons_zero, List.set_cons_succ]
            refine wpAnyH_take (i := 9) (v := .pointer (some ⟨wr.heap.size, 0, none⟩)) rfl (by kernel_rfl) (by kernel_rfl) (by kernel_rfl) (fun _ _ _ h => h) (Or.inl ⟨by rfl, fun W hSw => by (try dsimp only at hSw); go_simp⟩) (by assumption) ?_
            try simp only [List.getElem_toArray, List.getElem_cons_zero, List.getElem_cons_succ, Act.put, List.setIfInBounds_toArray, List.set_cons_zero, List.set_cons_succ]
            refine wpAnyH_take (i := 10) (v := plV c.pl) rfl (by kernel_rfl) (by kernel_rfl) (by kernel_rfl) (fun _ _ _ h => h) (yields_load (by rfl) _ _ rfl _ rfl _ (fun W h => h.cc.loadP)) (by assumption) ?_
            try simp only [List.getElem_toArray, List.getElem_cons_zero, List.getElem_cons_succ, Act.put, List.setIfInBounds_toArray, List.set_cons_zero, List.set_cons_succ]
            refine wpAnyH_take (i := 11) (v := .bool true) rfl (by kernel_rfl) (by kernel_rfl) (by kernel_rfl) (fun _ _ _ h => h) (Or.inl ⟨by rfl, fun W hSw => by (try dsimp only at hSw); have hq := hlk W hSw.st; go_simp⟩) (by assumption) ?_
            try simp only [List.getElem_toArray, List.getElem_cons_zero, List.getElem_cons_succ, Act.put, List.setIfInBounds_toArray, List.set_cons_zero, List.set_cons_succ]
            refine wpAnyH_take (i := 12) (v := .bool false) rfl (by kernel_rfl) (by kernel_rfl) (by kernel_rfl) (fun _ _ _ h => h) (Or.inl ⟨by rfl, fun W hSw => by (try dsimp only at hSw); go_simp⟩) (by assumption) ?_
            try simp only [List.getElem_toArray, List.getElem_cons_zero, List.getElem_cons_succ, Act.put, List.setIfInBounds_toArray, List.set_cons_zero, List.set_cons_succ]
            refine wpAnyH_take (i := 13) (v := .bool false) rfl (by kernel_rfl) (by kernel_rfl) (by kernel_rfl) (fun _ _ _ h => h) (Or.inl ⟨by rfl, fun W hSw => by (try dsimp only at hSw); go_simp⟩) (by assumption) ?_
            try simp only [List.getElem_toArray, List.getElem_cons_zero, List.getElem_cons_succ, Act.put, List.setIfInBounds_toArray, List.set_cons_zero, List.set_cons_succ]
            refine wpAnyH_take (i := 14) (v := .bool false) rfl (by kernel_rfl) (by kernel_rfl) (by kernel_rfl) (fun _ _ _ h => h) (Or.inl ⟨by rfl, fun W hSw => by (try dsimp only at hSw); go_simp⟩) (by assumption) ?_
            try simp only [List.getElem_toArray, List.getElem_cons_zero, List.getElem_cons_succ, Act.put, List.setIfInBounds_toArray, List.set_cons_zero, List.set_cons_succ]
            refine wpAnyH_take (i := 15) (v := .int .i64 i) rfl (by kernel_rfl) (by kernel_rfl) (by kernel_rfl) (fun _ _ _ h => h) (Or.inl ⟨by rfl, fun W hSw => by (try dsimp only at hSw); go_simp⟩) (by assumption) ?_
            try simp only [List.getElem_toArray, List.getElem_cons_zero, List.getElem_cons_succ, Act.put, List.setIfInBounds_toArray, List.set_cons_zero, List.set_cons_succ]
            refine wpAnyH_take (i := 16) (v := .bool true) rfl (by kernel_rfl) (by kernel_rfl) (by kernel_rfl) (fun _ _ _ h => h) (Or.inl ⟨by rfl, fun W hSw => by (try dsimp only at hSw); go_simp⟩) (by assumption) ?_
            try simp only [List.getElem_toArray, List.getElem_cons_zero, List.getElem_cons_succ, Act.put, List.setIfInBounds_toArray, List.set_cons_zero, List.set_cons_succ]
            refine wpAnyH_take (i := 17) (v := .bool true) rfl (by kernel_rfl) (by kernel_rfl) (by kernel_rfl) (fun _ _ _ h => h) (Or.inl ⟨by rfl, fun W hSw => by (try dsimp only at hSw); go_simp⟩) (by assumption) ?_
            try simp only [List.getElem_toArray, List.getElem_cons_zero, List.getElem_cons_succ, Act.put, List.setIfInBounds_toArray, List.set_cons_zero, List.set_cons_succ]
            refine wpAnyH_take (i := 18) (v := .slice (some ⟨g, 0, none⟩) n uc) rfl (by kernel_rfl) (by kernel_rfl) (by kernel_rfl) (fun _ _ _ h => h) (Or.inl ⟨by rfl, fun W hSw => by (try dsimp only at hSw); go_simp⟩) (by assumption) ?_
            try simp only [List.getElem_toArray, List.getElem_cons_zero, List.getElem_cons_succ, Act.put, List.setIfInBounds_toArray, List.set_cons_zero, List.set_cons_succ]
            refine wpAnyH_take (i := 19) (v := .int .i64 i) rfl (by kernel_rfl) (by kernel_rfl) (by kernel_rfl) (fun _ _ _ h => h) (Or.inl ⟨by rfl, fun W hSw => by (try dsimp only at hSw); go_simp⟩) (by assumption) ?_
            try simp only [List.getElem_toArray, List.getElem_cons_zero, List.getElem_cons_succ, Act.put, List.setIfInBounds_toArray, List.set_cons_zero, List.set_cons_succ]
            refine wpAnyH_take (i := 20) (v := .int .i64 ((i - 1 : Nat) : Int)) rfl (by kernel_rfl) (by kernel_rfl) (by kernel_rfl) (fun _ _ _ h => h) (Or.inl ⟨by rfl, fun W hSw => by (try dsimp only at hSw); go_simp⟩) (by assumption) ?_
            try simp only [List.getElem_toArray, List.getElem_cons_zero, List.getElem_cons_succ, Act.put, List.setIfInBounds_toArray, List.set_cons_zero, List.set_cons_succ]
            refine wpAnyH_take (i := 21) (v := .pointer (some ⟨g, (i - 1) * 46, none⟩)) rfl (by kernel_rfl) (by kernel_rfl) (by kernel_rfl) (fun _ _ _ h => h) (Or.inl ⟨by rfl, fun W hSw => by (try dsimp only at hSw); go_simp⟩) (by assumption) ?_
            try simp only [List.getElem_toArray, List.getElem_cons_zero, List.getElem_cons_succ, Act.put, List.setIfInBounds_toArray, List.set_cons_zero, List.set_cons_succ]
            refine wpAnyH_take (i := 22) (v := .pointer (some ⟨g, (i - 1) * 46, none⟩)) rfl (by kernel_rfl) (by kernel_rfl) (by kernel_rfl) (fun _ _ _ h => h) (Or.inl ⟨by rfl, fun W hSw => by (try dsimp only at hSw); go_simp⟩) (by assumption) ?_
            try simp only [List.getElem_toArray, List.getElem_cons_zero, List.getElem_cons_succ, Act.put, List.setIfInBounds_toArray, List.set_cons_zero, List.set_cons_succ]
            refine wpAnyH_take (i := 23) (v := plV c1.pl) rfl (by kernel_rfl) (by kernel_rfl) (by kernel_rfl) (fun _ _ _ h => h) (yields_load (by rfl) _ _ rfl _ rfl _ (fun W h => hld1 W h.row hi0)) (by assumption) ?_
            try simp only [List.getElem_toArray, List.getElem_cons_zero, List.getElem_cons_succ, Act.put, List.setIfInBounds_toArray, List.set_cons_zero, List.set_cons_succ]
            refine wpAnyH_take (i := 24) (v := .pointer (some ⟨wr.heap.size, 0, none⟩)) rfl (by kernel_rfl) (by kernel_rfl) (by kernel_rfl) (fun _ _ _ h => h) (Or.inl ⟨by rfl, fun W hSw => by (try dsimp only at hSw); go_simp⟩) (by assumption) ?_
            try simp only [List.getElem_toArray, List.getElem_cons_zero, List.getElem_cons_succ, Act.put, List.setIfInBounds_toArray, List.set_cons_zero, List.set_cons_succ]
            refine wpAnyH_take (i := 25) (v := plV c.pl) rfl (by kernel_rfl) (by kernel_rfl) (by kernel_rfl) (fun _ _ _ h => h) (yields_load (by rfl) _ _ rfl _ rfl _ (fun W h => h.cc.loadP)) (by assumption) ?_
            try simp only [List.getElem_toArray, List.getElem_cons_zero, List.getElem_cons_succ, Act.put, List.setIfInBounds_toArray, List.set_cons_zero, List.set_cons_succ]
            refine wpAnyH_ready (rs := [26]) (by kernel_rfl) (by simp) ?_
            refine AllReadyH.cons rfl (fun K hK => ?_) AllReadyH.nil
            go_simp
            go_wp2_with (go_at_call 25; refine (cr _).mono ?_; rintro e w8 ⟨rfl, hb_w8⟩)
            refine hK.out _ _ (hHeld.below hb_w8) (fun hHeld2 => ?_)
            clear hK K
            refine wpAnyH_take (i := 27) (v := .bool false) rfl (by kernel_rfl) (by kernel_rfl) (by kernel_rfl) (fun _ _ _ h => h) (Or.inl ⟨by rfl, fun W hSw => by (try dsimp only at hSw); go_simp⟩) (by assumption) ?_
            try simp only [List.getElem_toArray, List.getElem_cons_zero, List.getElem_cons_succ, Act.put, List.setIfInBounds_toArray, List.set_cons_zero, List.set_cons_succ]
            refine wpAnyH_take (i := 28) (v := .bool false) rfl (by kernel_rfl) (by kernel_rfl) (by kernel_rfl) (fun _ _ _ h => h) (Or.inl ⟨by rfl, fun W hSw => by (try dsimp only at hSw); go_simp⟩) (by assumption) ?_
            try simp only [List.getElem_toArray, List.getElem_cons_zero, List.getElem_cons_succ, Act.put, List.setIfInBounds_toArray, List.set_cons_zero, List.set_cons_succ]
            refine wpAnyH_take (i := 29) (v := .bool false) rfl (by kernel_rfl) (by kernel_rfl) (by kernel_rfl) (fun _ _ _ h => h) (Or.inl ⟨by rfl, fun W hSw => by (try dsimp only at hSw); go_simp⟩) (by assumption) ?_
            try simp only [List.getElem_toArray, List.getElem_cons_zero, List.getElem_cons_succ, Act.put, List.setIfInBounds_toArray, List.set_cons_zero, List.set_cons_succ]
            refine wpAnyH_done (by kernel_rfl) ?_ _
            refine NoPanic.normal ?_
            have HBN : Hid (Below w4.heap.size w4 w8) := hHeld2.bel
            clear hHeld hHeld2 hS7 hlk hld1 cr hne
            go_wp2_with fail
            go_roundw
            case rel => exact ⟨i + 1, by omega, by go_num, HBN⟩
            case measure => simp [intOf]; omega
          · obtain rfl : i = 0 := by omega
            refine wpAnyH_take (i := 0) (v := .bool true) rfl (by kernel_rfl) (by kernel_rfl) (by kernel_rfl) (fun _ _ _ h => h) (Or.inl ⟨by rfl, fun W hSw => by (try dsimp only at hSw); go_simp⟩) (by assumption) ?_
            try simp only [List.getElem_toArray, List.getElem_cons_zero, List.getElem_cons_succ, Act.put, List.setIfInBounds_toArray, List.set_cons_zero, List.set_cons_succ]
            refine wpAnyH_take (i := 1) (v := .bool false) rfl (by kernel_rfl) (by kernel_rfl) (by kernel_rfl) (fun _ _ _ h => h) (Or.inl ⟨by rfl, fun W hSw => by (try dsimp only at hSw); go_simp⟩) (by assumption) ?_
            try simp only [List.getElem_toArray, List.getElem_cons_zero, List.getElem_cons_succ, Act.put, List.setIfInBounds_toArray, List.set_cons_zero, List.set_cons_succ]
            refine wpAnyH_take (i := 2) (v := .bool false) rfl (by kernel_rfl) (by kernel_rfl) (by kernel_rfl) (fun _ _ _ h => h) (Or.inl ⟨by rfl, fun W hSw => by (try dsimp only at hSw); go_simp⟩) (by assumption) ?_
            try simp only [List.getElem_toArray, List.getElem_cons_zero, List.getElem_cons_succ, Act.put, List.setIfInBounds_toArray, List.set_cons_zero, List.set_cons_succ]
            refine wpAnyH_take (i := 3) (v := .agg (cgC c)) rfl (by kernel_rfl) (by kernel_rfl) (by kernel_rfl) (fun _ _ _ h => h) (yields_load (by rfl) _ _ rfl _ rfl _ (fun W h => h.x.load HL.out)) (by assumption) ?_
            try simp only [List.getElem_toArray, List.getElem_cons_zero, List.getElem_cons_succ, Act.put, List.setIfInBounds_toArray, List.set_cons_zero, List.set_cons_succ]
            refine wpAnyH_take (i := 4) (v := .agg (cgC c)) rfl (by kernel_rfl) (by kernel_rfl) (by kernel_rfl) (fun _ _ _ h => h) (yields_load (by rfl) _ _ rfl _ rfl _ (fun W h => h.cc.load HL.out)) (by assumption) ?_
            try simp only [List.getElem_toArray, List.getElem_cons_zero, List.getElem_cons_succ, Act.put, List.setIfInBounds_toArray, List.set_cons_zero, List.set_cons_succ]
            refine wpAnyH_take (i := 5) (v := .bool false) rfl (by kernel_rfl) (by kernel_rfl) (by kernel_rfl) (fun _ _ _ h => h) (Or.inl ⟨by rfl, fun W hSw => by (try dsimp only at hSw); go_simp⟩) (by assumption) ?_
            try simp only [List.getElem_toArray, List.getElem_cons_zero, List.getElem_cons_succ, Act.put, List.setIfInBounds_toArray, List.set_cons_zero, List.set_cons_succ]
            refine wpAnyH_take (i := 6) (v := .bool false) rfl (by kernel_rfl) (by kernel_rfl) (by kernel_rfl) (fun _ _ _ h => h) (Or.inl ⟨by rfl, fun W hSw => by (try dsimp only at hSw); go_simp⟩) (by assumption) ?_
            try simp only [List.getElem_toArray, List.getElem_cons_zero, List.getElem_cons_succ, Act.put, List.setIfInBounds_toArray, List.set_cons_zero, List.set_cons_succ]
            refine wpAnyH_take (i := 7) (v := .bool false) rfl (by kernel_rfl) (by kernel_rfl) (by kernel_rfl) (fun _ _ _ h => h) (Or.inl ⟨by rfl, fun W hSw => by (try dsimp only at hSw); go_simp⟩) (by assumption) ?_
            try simp only [List.getElem_toArray, List.getElem_cons_zero, List.getElem_cons_succ, Act.put, List.setIfInBounds_toArray, List.set_cons_zero, List.set_cons_succ]
            refine wpAnyH_take (i := 8) (v := .map (some b2)) rfl (by kernel_rfl) (by kernel_rfl) (by kernel_rfl) (fun _ _ _ h => h) (Or.inl ⟨by rfl, fun W hSw => by (try dsimp only at hSw); go_simp⟩) (by assumption) ?_
            try simp only [List.getElem_toArray, List.getElem_cons_zero, List.getElem_cons_succ, Act.put, List.setIfInBounds_toArray, List.set_cons_zero, List.set_cons_succ]
            refine wpAnyH_take (i := 9) (v := .pointer (some ⟨wr.heap.size, 0, none⟩)) rfl (by kernel_rfl) (by kernel_rfl) (by kernel_rfl) (fun _ _ _ h => h) (Or.inl ⟨by rfl, fun W hSw => by (try dsimp only at hSw); go_simp⟩) (by assumption) ?_
            try simp only [List.getElem_toArray, List.getElem_cons_zero, List.getElem_cons_succ, Act.put, List.setIfInBounds_toArray, List.set_cons_zero, List.set_cons_succ]
            refine wpAnyH_take (i := 10) (v := plV c.pl) rfl (by kernel_rfl) (by kernel_rfl) (by kernel_rfl) (fun _ _ _ h => h) (yields_load (by rfl) _ _ rfl _ rfl _ (fun W h => h.cc.loadP)) (by assumption) ?_
            try simp only [List.getElem_toArray, List.getElem_cons_zero, List.getElem_cons_succ, Act.put, List.setIfInBounds_toArray, List.set_cons_zero, List.set_cons_succ]
            refine wpAnyH_take (i := 11) (v := .bool true) rfl (by kernel_rfl) (by kernel_rfl) (by kernel_rfl) (fun _ _ _ h => h) (Or.inl ⟨by rfl, fun W hSw => by (try dsimp only at hSw); have hq := hlk W hSw.st; go_simp⟩) (by assumption) ?_
            try simp only [List.getElem_toArray, List.getElem_cons_zero, List.getElem_cons_succ, Act.put, List.setIfInBounds_toArray, List.set_cons_zero, List.set_cons_succ]
            refine wpAnyH_take (i := 12) (v := .bool false) rfl (by kernel_rfl) (by kernel_rfl) (by kernel_rfl) (fun _ _ _ h => h) (Or.inl ⟨by rfl, fun W hSw => by (try dsimp only at hSw); go_simp⟩) (by assumption) ?_
            try simp only [List.getElem_toArray, List.getElem_cons_zero, List.getElem_cons_succ, Act.put, List.setIfInBounds_toArray, List.set_cons_zero, List.set_cons_succ]
            refine wpAnyH_take (i := 13) (v := .bool false) rfl (by kernel_rfl) (by kernel_rfl) (by kernel_rfl) (fun _ _ _ h => h) (Or.inl ⟨by rfl, fun W hSw => by (try dsimp only at hSw); go_simp⟩) (by assumption) ?_
            try simp only [List.getElem_toArray, List.getElem_cons_zero, List.getElem_cons_succ, Act.put, List.setIfInBounds_toArray, List.set_cons_zero, List.set_cons_succ]
            refine wpAnyH_take (i := 14) (v := .bool false) rfl (by kernel_rfl) (by kernel_rfl) (by kernel_rfl) (fun _ _ _ h => h) (Or.inl ⟨by rfl, fun W hSw => by (try dsimp only at hSw); go_simp⟩) (by assumption) ?_
            try simp only [List.getElem_toArray, List.getElem_cons_zero, List.getElem_cons_succ, Act.put, List.setIfInBounds_toArray, List.set_cons_zero, List.set_cons_succ]
            refine wpAnyH_take (i := 15) (v := .int .i64 0) rfl (by kernel_rfl) (by kernel_rfl) (by kernel_rfl) (fun _ _ _ h => h) (Or.inl ⟨by rfl, fun W hSw => by (try dsimp only at hSw); go_simp⟩) (by assumption) ?_
            try simp only [List.getElem_toArray, List.getElem_cons_zero, List.getElem_cons_succ, Act.put, List.setIfInBounds_toArray, List.set_cons_zero, List.set_cons_succ]
            refine wpAnyH_take (i := 16) (v := .bool false) rfl (by kernel_rfl) (by kernel_rfl) (by kernel_rfl) (fun _ _ _ h => h) (Or.inl ⟨by rfl, fun W hSw => by (try dsimp only at hSw); go_simp⟩) (by assumption) ?_
            try simp only [List.getElem_toArray, List.getElem_cons_zero, List.getElem_cons_succ, Act.put, List.setIfInBounds_toArray, List.set_cons_zero, List.set_cons_succ]
            refine wpAnyH_take (i := 17) (v := .bool false) rfl (by kernel_rfl) (by kernel_rfl) (by kernel_rfl) (fun _ _ _ h => h) (Or.inl ⟨by rfl, fun W hSw => by (try dsimp only at hSw); go_simp⟩) (by assumption) ?_
            try simp only [List.getElem_toArray, List.getElem_cons_zero, List.getElem_cons_succ, Act.put, List.setIfInBounds_toArray, List.set_cons_zero, List.set_cons_succ]
            refine wpAnyH_take (i := 18) (v := undef) rfl (by kernel_rfl) (by kernel_rfl) (by kernel_rfl) (fun _ _ _ h => h) (Or.inr ⟨by rfl, rfl⟩) (by assumption) ?_
            try simp only [List.getElem_toArray, List.getElem_cons_zero, List.getElem_cons_succ, Act.put, List.setIfInBounds_toArray, List.set_cons_zero, List.set_cons_succ]
            refine wpAnyH_take (i := 19) (v := undef) rfl (by kernel_rfl) (by kernel_rfl) (by kernel_rfl) (fun _ _ _ h => h) (Or.inr ⟨by rfl, rfl⟩) (by assumption) ?_
            try simp only [List.getElem_toArray, List.getElem_cons_zero, List.getElem_cons_succ, Act.put, List.setIfInBounds_toArray, List.set_cons_zero, List.set_cons_succ]
            refine wpAnyH_take (i := 20) (v := undef) rfl (by kernel_rfl) (by kernel_rfl) (by kernel_rfl) (fun _ _ _ h => h) (Or.inr ⟨by rfl, rfl⟩) (by assumption) ?_
            try simp only [List.getElem_toArray, List.getElem_cons_zero, List.getElem_cons_succ, Act.put, List.setIfInBounds_toArray, List.set_cons_zero, List.set_cons_succ]
            refine wpAnyH_take (i := 21) (v := undef) rfl (by kernel_rfl) (by kernel_rfl) (by kernel_rfl) (fun _ _ _ h => h) (Or.inr ⟨by rfl, rfl⟩) (by assumption) ?_
            try simp only [List.getElem_toArray, List.getElem_cons_zero, List.getElem_cons_succ, Act.put, List.setIfInBounds_toArray, List.set_cons_zero, List.set_cons_succ]
            refine wpAnyH_take (i := 22) (v := undef) rfl (by kernel_rfl) (by kernel_rfl) (by kernel_rfl) (fun _ _ _ h => h) (Or.inr ⟨by rfl, rfl⟩) (by assumption) ?_
            try simp only [List.getElem_toArray, List.getElem_cons_zero, List.getElem_cons_succ, Act.put, List.setIfInBounds_toArray, List.set_cons_zero, List.set_cons_succ]
            refine wpAnyH_take (i := 23) (v := undef) rfl (by kernel_rfl) (by kernel_rfl) (by kernel_rfl) (fun _ _ _ h => h) (Or.inr ⟨by rfl, rfl⟩) (by assumption) ?_
            try simp only [List.getElem_toArray, List.getElem_cons_zero, List.getElem_cons_succ, Act.put, List.setIfInBounds_toArray, List.set_cons_zero, List.set_cons_succ]
            refine wpAnyH_take (i := 24) (v := undef) rfl (by kernel_rfl) (by kernel_rfl) (by kernel_rfl) (fun _ _ _ h => h) (Or.inr ⟨by rfl, rfl⟩) (by assumption) ?_
            try simp only [List.getElem_toArray, List.getElem_cons_zero, List.getElem_cons_succ, Act.put, List.setIfInBounds_toArray, List.set_cons_zero, List.set_cons_succ]
            refine wpAnyH_take (i := 25) (v := undef) rfl (by kernel_rfl) (by kernel_rfl) (by kernel_rfl) (fun _ _ _ h => h) (Or.inr ⟨by rfl, rfl⟩) (by assumption) ?_
            try simp only [List.getElem_toArray, List.getElem_cons_zero, List.getElem_cons_succ, Act.put, List.setIfInBounds_toArray, List.set_cons_zero, List.set_cons_succ]
            refine wpAnyH_take (i := 26) (v := undef) rfl (by kernel_rfl) (by kernel_rfl) (by kernel_rfl) (fun _ _ _ h => h) (Or.inr ⟨by rfl, rfl⟩) (by assumption) ?_
            try simp only [List.getElem_toArray, List.getElem_cons_zero, List.getElem_cons_succ, Act.put, List.setIfInBounds_toArray, List.set_cons_zero, List.set_cons_succ]
            refine wpAnyH_take (i := 27) (v := undef) rfl (by kernel_rfl) (by kernel_rfl) (by kernel_rfl) (fun _ _ _ h => h) (Or.inr ⟨by rfl, rfl⟩) (by assumption) ?_
            try simp only [List.getElem_toArray, List.getElem_cons_zero, List.getElem_cons_succ, Act.put, List.setIfInBounds_toArray, List.set_cons_zero, List.set_cons_succ]
            refine wpAnyH_take (i := 28) (v := .bool false) rfl (by kernel_rfl) (by kernel_rfl) (by kernel_rfl) (fun _ _ _ h => h) (Or.inl ⟨by rfl, fun W hSw => by (try dsimp only at hSw); go_simp⟩) (by assumption) ?_
            try simp only [List.getElem_toArray, List.getElem_cons_zero, List.getElem_cons_succ, Act.put, List.setIfInBounds_toArray, List.set_cons_zero, List.set_cons_succ]
            refine wpAnyH_take (i := 29) (v := .bool false) rfl (by kernel_rfl) (by kernel_rfl) (by kernel_rfl) (fun _ _ _ h => h) (Or.inl ⟨by rfl, fun W hSw => by (try dsimp only at hSw); go_simp⟩) (by assumption) ?_
            try simp only [List.getElem_toArray, List.getElem_cons_zero, List.getElem_cons_succ, Act.put, List.setIfInBounds_toArray, List.set_cons_zero, List.set_cons_succ]
            refine wpAnyH_done (by kernel_rfl) ?_ _
            refine NoPanic.normal ?_
            have HBN : Hid (Below w4.heap.size w4 w7.drew) := hHeld.bel
            clear hHeld hS7 hlk hld1 hne
            go_wp2_with fail
            go_roundw
            case rel => exact ⟨0 + 1, by omega, by go_num, HBN⟩
            case measure => simp [intOf]; omega
        · obtain rfl : i = n := by omega
          have hilI : ¬ (i : Int) < i := by omega
          have hDq := HD4.out.below HBQ.out
          have hStq := HS4.out.keep (HBQ.out.block _ HS4.out.lt)
          have hlen := fun ty => hStq.len ty
          have hct := hDq.count
          rw [HNN.out] at hlen hct
          have HBF : Hid (Below w.heap.size w wr) := thenB HB1.out hDq.bel
          clear HD4 HS4 hDq hStq HBQ HROW
          go_wp2_with fail
          refine hct.mono ?_
          rintro e w9 ⟨rfl, rfl⟩
          go_wp2
          go_ret
          exact ⟨rfl, HBF.out⟩

/-! ### The row -/
set_option maxRecDepth 100000 in
theorem lifted (os : Os) (started : os.Started) (H : Type) (enc : TypeId × Value → H) :
    ReturnsInHanded {} Try.checked os 7 .any (Rows.deltaOrderSpec.pre6 enc Try.prog Try.f7 Rows.deltaOrderRow.domain false) (Rows.deltaOrderSpec.post enc Try.prog Try.f7 false true false false) := by
  refine returnsInHanded_of_change (C := Try.checked) own started (by kernel_rfl) Try.func7
    (ChangeSpec.witness6 (enc := enc) (C := Try.checked) false ⟨#[], #[.slice none 0 0], []⟩ 8 (by kernel_rfl) (by kernel_rfl) (by kernel_rfl) (by kernel_rfl)) ?_
  intro W base args ds gs before hval0 hW hcnd _
  have hval : ∀ (j : Nat) t v, Try.f7.params[j]? = some t → args[j]? = some v → Value.okWide Try.prog W .any base t v := hval0
  have hW' := hW
  obtain ⟨p, q, hA0, hV, rfl, hfz, hnd⟩ := hW
  have hA : DataW.TrodAll enc Try.prog W 0 (fun _ => true) true Try.f7.params.toList args.toList ds p := hA0
  rw [Try.params7] at hA hval
  obtain ⟨v0, vs0, d0, ds0, p0, q0, hargs, rfl, rfl, h0, r0⟩ := trodAll_cons hA
  obtain ⟨rfl, rfl, rfl⟩ := trodAll_nil r0
  obtain rfl : args = #[v0] := by cases args; simp_all
  obtain ⟨rfl, rfl⟩ := trodVars_none hV
  obtain ⟨a0, len0, cap0, rfl⟩ := okWide_slice Try.underlying38 (hval 0 38 v0 rfl rfl)
  have k0 := h0
  have lt0 : ∀ x ∈ p0, x.block < W.heap.size := by obtain ⟨m, hm⟩ := k0; exact DataW.trod_lt m _ _ _ hm
  obtain ⟨o0, w0⟩ : ∃ os, DopsAt W a0 len0 cap0 os := by
    obtain ⟨fuel, hf⟩ := h0
    exact dopsAt_of hf
  clear hA0 hval0
  refine (walk a0 len0 cap0 o0 W w0).mono fun e W' ⟨he, bel⟩ => ?_
  subst he
  exact ⟨_, rfl, _, _, _, [], _, [], hW', trodAll_mk1 (shut_bool Try.underlying4 _), (trodAll_cons_mk (Below.trod laidOut (by kernel_rfl) (of_decide_eq_true (by kernel_rfl)) k0 bel lt0) trodAll_mk0), rfl, bel.frame _, fun h => by cases h⟩

theorem over : Rows.deltaOrderRow.holds Try.pinned (OpenSpec.ofChange Rows.deltaOrderSpec) :=
  OpenClaim.holds_of_wide 7 Try.f7 rfl rfl rfl rfl rfl rfl rfl ⟨rfl, rfl, rfl, rfl, rfl⟩ rfl rfl rfl rfl rfl (by kernel_rfl) Try.func7 (by kernel_rfl)
    (of_decide_eq_true (by kernel_rfl)) (by unfold Func.isWrapper; first | (rw [if_pos (by decide +kernel)]; kernel_rfl) | (rw [if_neg (by decide +kernel)]; exact ⟨rfl, rfl⟩))
    (fun os started H enc _ => lifted os started H enc)

end Go.Proofs.Ytpbokenambjclaa.deltaOrder

namespace Go.Proofs.Ytpbokenambjclaa
/-- The statement. -/
theorem deltaOrder_proved : Rows.DeltaOrderSaid := deltaOrder.over
#print axioms deltaOrder_proved
end Go.Proofs.Ytpbokenambjclaa
