/- Proved: whatever is put into a delta and undone, it answers and has just what the document's delta does, for every most, list of calls and place -/
import Derived.Test.YtmifpeocgikbeabMF
import Derived.Test.YtmifpeocgikbeabMG
import Derived.Deep.RegionHeld3
import Derived.BigQuiet
import Derived.Deep.QuietTactic
import Derived.WalkSmall
import Derived.ProofKit
import Derived.OpenShut
import Derived.ShutString
import Derived.ChangeOld
import Derived.Below
import Derived.Carry
import Derived.Deep.CutRange
import Derived.Deep.CutBlock
namespace Go.Proofs.Ytmifpeocgikbeab.deltaGoes
open Go.ChangeShapes Go.WideShapes Go.ChangeAt Go.RowKit
open Go.ChangeMaps (open_string shut_string)
set_option linter.unusedVariables false
set_option linter.unusedSimpArgs false

theorem own : ownKnob Try.prog.godebug = none := by kernel_rfl
theorem laidOut : laidOutB Try.prog = true := by kernel_rfl

set_option maxHeartbeats 8000000 in
set_option maxRecDepth 100000 in
theorem walk (a0 : Int) (a : Option Addr) (len cap : Nat) (os : List Dop) (z : Pl) (w : World) (h0 : (Lit.int .i64 a0).wf = true) (ho : DopsAt w a len cap os) (hp : PlOk z) :
    Calls Try.prog 3 #[.int .i64 a0, .slice a len cap, plV z] w fun e w' => e = .returned (.bool true) ∧ Below w.heap.size w w' := by
  have hlc := ho.2.1
  have hcm := ho.2.2.1
  unfold maxLen at hcm
  have HO : Hid (DopsAt w a len cap os) := ho
  clear ho
  have hz := zeroCg
  have hzd := zeroDop
  have len0 : cg0.pt.bytes.length = 32 := cg0_ok.pt.ch.1
  obtain ⟨ha0, ha1⟩ := bounds_i64 h0
  have hP0 := PlAt.laid w z
  have hb0 : Below w.heap.size w (w.alloc (.cells (plCells z) 25)) := (Below.refl _ w).alloc (Nat.le_refl _) _
  obtain ⟨wb, hwb⟩ : ∃ wb, w.alloc (.cells (plCells z) 25) = wb := ⟨_, rfl⟩
  rw [hwb] at hP0 hb0
  have cl := live_any wb
  rw [show plV z = .agg (plCells z) from rfl]
  go_enter Try.func3, Try.ntmps3
  go_wp2_with fail
  refine cl.mono ?_
  rintro e w1 ⟨rfl, hb1⟩
  clear cl
  have hP1 := hP0.below hb1
  have hB1 : Below w.heap.size w w1 := thenB hb0 hb1
  have cn := DlN.new w1 a0 ha1
  go_wp2_with fail
  refine cn.mono ?_
  rintro e w2 ⟨p, b, rfl, hD2, hnb⟩
  clear cn
  have cx := xnew_any w2 a0
  go_wp2_with fail
  refine cx.mono ?_
  rintro e w3 ⟨rfl, hX3, hb3⟩
  clear cx
  have hB3 : Below w.heap.size w w3 := thenB (thenB hB1 hD2.bel) hb3
  have hq2 := hD2.le
  have HE : Hid (Both w1.heap.size w1 w3 p b w2.heap.size (newS a0) []) := ⟨hD2.below hb3, ⟨_, hX3⟩, hq2, Rel.new a0⟩
  obtain ⟨q, hq⟩ : ∃ q, w2.heap.size = q := ⟨_, rfl⟩
  rw [hq] at HE
  rw [hq]
  clear hX3 hD2 hnb hq2 hq hb3
  by_cases hmany : 60 < len
  · have hmI : (60 : Int) < len := by omega
    go_wp2
    go_ret
    exact ⟨rfl, hB3⟩
  have hmI : ¬ (60 : Int) < len := by omega
  have hl60 : len ≤ 60 := by omega
  have HB1 : Hid (Below w.heap.size w w1) := hB1
  have HP1 : Hid (PlAt w1 w.heap.size z) := hP1
  have hs1 := hB1.size
  clear hmany hB1 hb0 hb1 hP0 hP1 hB3 hwb
  go_wp2_with fail
  go_loopw [11, 12, 13, 14, 15, 16, 17, 37] (fun _ _ _ _ _ _ _ t wr => ∃ (k : Nat) (s : Dl) (xs : List Cg), k ≤ len ∧ t = .int .i64 k ∧ Hid (xs.length ≤ k) ∧ Hid (Both w1.heap.size w1 wr p b q s xs)) (fun _ _ _ _ _ _ _ t _ => len - (intOf t).toNat)
  case atStart => exact ⟨0, newS a0, [], Nat.zero_le _, rfl, Nat.le_refl _, HE⟩
  case round =>
    clear HE
    obtain ⟨k, s, xs, hk, rfl, HK, HB⟩ := hrel
    have hB : Below w.heap.size w wr := thenB HB1.out HB.out.d.bel
    have hkx := HK.out
    have hlL := HB.out.r.lenL HB.out.ok
    by_cases hlt : k < len
    · have hltI : (k : Int) < len := by omega
      obtain ⟨bk, off, rfl, hok, hld⟩ := dop_at HO.out hB k hlt
      obtain ⟨o, hoe⟩ : ∃ o, os.getD k dop0 = o := ⟨_, rfl⟩
      rw [hoe] at hok hld
      clear hoe
      have HL : Hid (o.c.pt.bytes.length = 32) := hok.c.pt.ch.1
      have HLD : Hid _ := hld
      clear hld
      have hz3 := heap_alloc_new wr (.cells (dopC dop0) 39)
      have hb3 := alloc_row (A := wr) (.cells (dopC dop0) 39) (dopC o)
      have hd3 : DoAt ((wr.alloc (.cells (dopC dop0) 39)).setRow wr.heap.size (dopC o)) wr.heap.size o := ⟨setRow_heap _ _ _ _ _ _ hz3⟩
      obtain ⟨w4, hw4⟩ : ∃ w4, (wr.alloc (.cells (dopC dop0) 39)).setRow wr.heap.size (dopC o) = w4 := ⟨_, rfl⟩
      rw [hw4] at hb3 hd3
      have HB4 : Hid (Both w1.heap.size w1 w4 p b q s xs) := HB.out.below hb3
      have nb3 : wr.heap.size ≠ b := fun e => by obtain ⟨v, hd, _⟩ := HB.out.d.d; have := hd.mp.lt; omega
      have nq3 : wr.heap.size ≠ q := fun e => by obtain ⟨v, hv⟩ := HB.out.x; have := hv.lt; omega
      have cc0 := hd3.c0
      have cc1 := hd3.c1
      have HD4 : Hid (DoAt w4 wr.heap.size o) := hd3
      obtain ⟨xa, xc, hxl⟩ := HB4.out.len
      go_upto_if 45 with (first
        | (refine wpList_loadG rfl 39 _ rfl _ rfl _ HLD.out ?_)
        | (refine wpList_store_row rfl 39 _ _ rfl wr.heap.size (dopC o) rfl rfl 39 _ hz3 (by rw [dopC_size HL.out]; exact size_dop) (by rw [dopC_size HL.out]; rfl) (one_dop o) ?_; rw [hw4]))
      obtain ⟨f0, hf0⟩ : ∃ f0, o.f0 = f0 := ⟨_, rfl⟩
      obtain ⟨f1, hf1⟩ : ∃ f1, o.f1 = f1 := ⟨_, rfl⟩
      have HF0 : Hid (o.f0 = f0) := hf0
      have HF1 : Hid (o.f1 = f1) := hf1
      rw [hf0] at cc0
      rw [hf1] at cc1
      try rw [hf0]
      try rw [hf1]
      clear hf0 hf1 HLD hz3 hd3
      go_cut [12] from 46 to 56 (fun nn wx => ∃ nv : Int, nn = .int .i64 nv ∧ Hid (Below w4.heap.size w4 wx))
      case first =>
        by_cases h1 : f0 = 1
        · subst h1
          go_wp2_with fail
          go_quiet (fail)
          have HBQ : Hid (Below w4.heap.size w4 (w4.drewN nq)) := belowQ _ _ _
          clear HB4 HD4 HB
          go_wp2_with fail
          go_meet
          case rel => exact ⟨_, rfl, HBQ⟩
        · go_wp2_with fail
          go_meet
          case rel => exact ⟨f1, rfl, Below.refl _ _⟩
      case rest =>
        obtain ⟨nv, rfl, HBC⟩ := hcut
        have HBc : Hid (Both w1.heap.size w1 wc p b q s xs) := HB4.out.below HBC.out
        have HDc : Hid (DoAt wc wr.heap.size o) := HD4.out.below HBC.out
        have dc0 := HDc.out.c0
        rw [HF0.out] at dc0
        clear cc0 cc1 hxl HBC HB4 HD4 HB hb3 hw4
        obtain ⟨w5, rfl⟩ : ∃ w5, w5 = wc := ⟨_, rfl⟩
        go_upto_if 59 with fail
        obtain ⟨bb, hbb⟩ : ∃ bb, (f0 == 0) = bb := ⟨_, rfl⟩
        rw [hbb]
        clear hbb
        go_cut [13] from 60 to 75 (fun ok wx => ok = .bool true ∧ ∃ (s' : Dl) (xs' : List Cg), Hid (Both w1.heap.size w1 wx p b q s' xs') ∧ Hid (xs'.length ≤ xs.length + 1))
        case first =>
          cases bb
          rotate_left
          · have cd := (HBc.out.below (Below.refl _ w5).drew).dput (by omega) (by omega) o.c hok.c
            go_wp2_with fail
            refine wp_region_noPanic ?_
            refine wp_region_held_drew (S := fun W => DoAt W wr.heap.size o) (by kernel_rfl) (HDc.out.below (Below.refl _ _).drew) (fun hHeld => ?_)
            refine wpAnyH_take (i := 0) (v := .pointer (some ⟨p, 0, none⟩)) rfl (by kernel_rfl) (by kernel_rfl) (by kernel_rfl) (fun _ _ _ h => h) (Or.inl ⟨by rfl, fun W hSw => by (try dsimp only at hSw); go_simp⟩) (by assumption) ?_
            try simp only [List.getElem_toArray, List.getElem_cons_zero, List.getElem_cons_succ, Act.put, List.setIfInBounds_toArray, List.set_cons_zero, List.set_cons_succ]
            refine wpAnyH_take (i := 1) (v := .pointer (some ⟨wr.heap.size, 2, none⟩)) rfl (by kernel_rfl) (by kernel_rfl) (by kernel_rfl) (fun _ _ _ h => h) (Or.inl ⟨by rfl, fun W hSw => by (try dsimp only at hSw); go_simp⟩) (by assumption) ?_
            try simp only [List.getElem_toArray, List.getElem_cons_zero, List.getElem_cons_succ, Act.put, List.setIfInBounds_toArray, List.set_cons_zero, List.set_cons_succ]
            refine wpAnyH_take (i := 2) (v := .agg (cgC o.c)) rfl (by kernel_rfl) (by kernel_rfl) (by kernel_rfl) (fun _ _ _ h => h) (yields_load (by rfl) _ _ rfl _ rfl _ (fun W h => h.loadC HL.out)) (by assumption) ?_
            try simp only [List.getElem_toArray, List.getElem_cons_zero, List.getElem_cons_succ, Act.put, List.setIfInBounds_toArray, List.set_cons_zero, List.set_cons_succ]
            refine wpAnyH_take (i := 4) (v := .pointer (some ⟨q, 0, none⟩)) rfl (by kernel_rfl) (by kernel_rfl) (by kernel_rfl) (fun _ _ _ h => h) (Or.inl ⟨by rfl, fun W hSw => by (try dsimp only at hSw); go_simp⟩) (by assumption) ?_
            try simp only [List.getElem_toArray, List.getElem_cons_zero, List.getElem_cons_succ, Act.put, List.setIfInBounds_toArray, List.set_cons_zero, List.set_cons_succ]
            refine wpAnyH_take (i := 5) (v := .pointer (some ⟨wr.heap.size, 2, none⟩)) rfl (by kernel_rfl) (by kernel_rfl) (by kernel_rfl) (fun _ _ _ h => h) (Or.inl ⟨by rfl, fun W hSw => by (try dsimp only at hSw); go_simp⟩) (by assumption) ?_
            try simp only [List.getElem_toArray, List.getElem_cons_zero, List.getElem_cons_succ, Act.put, List.setIfInBounds_toArray, List.set_cons_zero, List.set_cons_succ]
            refine wpAnyH_take (i := 6) (v := .agg (cgC o.c)) rfl (by kernel_rfl) (by kernel_rfl) (by kernel_rfl) (fun _ _ _ h => h) (yields_load (by rfl) _ _ rfl _ rfl _ (fun W h => h.loadC HL.out)) (by assumption) ?_
            try simp only [List.getElem_toArray, List.getElem_cons_zero, List.getElem_cons_succ, Act.put, List.setIfInBounds_toArray, List.set_cons_zero, List.set_cons_succ]
            refine wpAnyH_ready (rs := [3]) (by kernel_rfl) (by simp) ?_
            refine AllReadyH.cons rfl (fun K hK => ?_) AllReadyH.nil
            go_simp
            go_wp2_with (go_at_call 7; refine cd.mono ?_; rintro e w6 ⟨rfl, hH6, hK6⟩)
            refine hK.out _ _ (hHeld.keep nb3 hK6) (fun hHeld2 => ?_)
            clear hK K cd
            try simp only [List.getElem_toArray, List.getElem_cons_zero, List.getElem_cons_succ, Act.put, List.setIfInBounds_toArray, List.set_cons_zero, List.set_cons_succ]
            have cx := Half.xput o.c hok.c hH6 (by omega) (by omega)
            refine wpAnyH_ready (rs := [7]) (by kernel_rfl) (by simp) ?_
            refine AllReadyH.cons rfl (fun K hK => ?_) AllReadyH.nil
            go_simp
            go_wp2_with (go_at_call 8; refine cx.mono ?_; rintro e w7 ⟨rfl, ⟨xs', hB7, hl7⟩, hK7⟩)
            refine hK.out _ _ ⟨(hK7.block _ hHeld2.lt nq3).trans hHeld2.row⟩ (fun hHeld3 => ?_)
            clear hK K cx
            try simp only [List.getElem_toArray, List.getElem_cons_zero, List.getElem_cons_succ, Act.put, List.setIfInBounds_toArray, List.set_cons_zero, List.set_cons_succ]
            refine wpAnyH_take (i := 8) (v := .bool true) rfl (by kernel_rfl) (by kernel_rfl) (by kernel_rfl) (fun _ _ _ h => h) (Or.inl ⟨by rfl, fun W hSw => by (try dsimp only at hSw); go_simp⟩) (by assumption) ?_
            try simp only [List.getElem_toArray, List.getElem_cons_zero, List.getElem_cons_succ, Act.put, List.setIfInBounds_toArray, List.set_cons_zero, List.set_cons_succ]
            refine wpAnyH_take (i := 9) (v := .bool true) rfl (by kernel_rfl) (by kernel_rfl) (by kernel_rfl) (fun _ _ _ h => h) (Or.inl ⟨by rfl, fun W hSw => by (try dsimp only at hSw); go_simp⟩) (by assumption) ?_
            try simp only [List.getElem_toArray, List.getElem_cons_zero, List.getElem_cons_succ, Act.put, List.setIfInBounds_toArray, List.set_cons_zero, List.set_cons_succ]
            refine wpAnyH_done (by kernel_rfl) ?_ _
            refine NoPanic.normal ?_
            have HB7 : Hid (Both w1.heap.size w1 w7 p b q (putS s o.c) xs') := hB7
            have HL7 : Hid (xs'.length ≤ xs.length + 1) := hl7
            clear hHeld hHeld2 hHeld3 hH6 hK6 hB7 hl7 hK7
            go_wp2_with fail
            go_meet
            case rel => exact ⟨rfl, _, xs', HB7, HL7⟩
          · by_cases hin : 0 ≤ nv ∧ nv ≤ xs.length
            · obtain ⟨m, rfl⟩ : ∃ m : Nat, nv = m := ⟨nv.toNat, by omega⟩
              have hml : m ≤ xs.length := by omega
              have cd := HBc.out.dundo m hml (by omega)
              go_wp2_with fail
              refine cd.mono ?_
              rintro e w6 ⟨rfl, hH6, hK6⟩
              clear cd
              have cx := Half.xundo m hml hH6
              go_wp2_with fail
              refine cx.mono ?_
              rintro e w7 ⟨rfl, hB7, hK7⟩
              clear cx
              have HB7 : Hid (Both w1.heap.size w1 w7 p b q (undoS s m) (xs.take m)) := hB7
              have HL7 : Hid ((xs.take m).length ≤ xs.length + 1) := by unfold Hid; rw [List.length_take]; omega
              clear hH6 hK6 hB7 hK7
              go_wp2_with fail
              go_meet
              case rel => exact ⟨rfl, _, _, HB7, HL7⟩
            · have hno : nv < 0 ∨ (xs.length : Int) < nv := by omega
              have cd := HBc.out.dbad nv hno
              go_wp2_with fail
              refine cd.mono ?_
              rintro e w6 ⟨rfl, hb6⟩
              clear cd
              have hB6 := HBc.out.below hb6
              have cx := hB6.xbad nv hno
              go_wp2_with fail
              refine cx.mono ?_
              rintro e w7 ⟨rfl, rfl⟩
              clear cx
              have HB7 : Hid (Both w1.heap.size w1 w7 p b q s xs) := hB6
              have HL7 : Hid (xs.length ≤ xs.length + 1) := by unfold Hid; omega
              clear hb6 hB6
              go_wp2_with fail
              go_meet
              case rel => exact ⟨rfl, _, _, HB7, HL7⟩
        case rest =>
          obtain ⟨rfl, s', xs', HBx, HLx⟩ := hcut
          clear HBc HDc dc0
          obtain ⟨w6, rfl⟩ : ∃ w6, w6 = wc := ⟨_, rfl⟩
          have hP6 := HP1.out.below HBx.out.d.bel
          have hlp : Hid ((Instr.loadAt 25 (.pointer (some ⟨w.heap.size, 0, none⟩))).run Try.prog w6 = .ok (plV z) w6) := hP6.loadG
          have hwok := getL_ok HBx.out.ok.L z
          have HW : Hid ((wasX s' z).pt.bytes.length = 32) := hwok.pt.ch.1
          have cd := HBx.out.dget z hp
          go_wp2_with (first
            | (refine wpList_loadG rfl 25 _ rfl _ rfl _ hlp.out ?_))
          refine cd.mono ?_
          rintro e w7 ⟨rfl, hb7⟩
          clear cd
          have hn8 := CgAt.laid w7 cg0
          have hb8 := alloc_row (A := w7) (.cells (cgC cg0) 37) (cgC (wasX s' z))
          have hx8 := hn8.setRow (wasX s' z)
          obtain ⟨w8, hw8⟩ : ∃ w8, (w7.alloc (.cells (cgC cg0) 37)).setRow w7.heap.size (cgC (wasX s' z)) = w8 := ⟨_, rfl⟩
          rw [hw8] at hb8 hx8
          have hb68 := thenB hb7 hb8
          have hP8 := hP6.below hb68
          have hlp8 : Hid ((Instr.loadAt 25 (.pointer (some ⟨w.heap.size, 0, none⟩))).run Try.prog w8 = .ok (plV z) w8) := hP8.loadG
          have hB8 := HBx.out.below hb68
          have cx := hB8.xget z hp
          go_wp2_with (first
            | (refine wpList_storeG rfl _ _ rfl w7.heap.size (wasX s' z) cg0 rfl rfl HW.out len0 hn8 ?_; rw [hw8])
            | (refine wpList_loadG rfl 25 _ rfl _ rfl _ hlp8.out ?_))
          refine cx.mono ?_
          rintro e w9 ⟨rfl, hb9⟩
          clear cx
          have hnA := CgAt.laid w9 cg0
          have hbA := alloc_row (A := w9) (.cells (cgC cg0) 37) (cgC (wasX s' z))
          have hxA := hnA.setRow (wasX s' z)
          obtain ⟨wA, hwA⟩ : ∃ wA, (w9.alloc (.cells (cgC cg0) 37)).setRow w9.heap.size (cgC (wasX s' z)) = wA := ⟨_, rfl⟩
          rw [hwA] at hbA hxA
          have hb8A := thenB hb9 hbA
          have hx8A := hx8.below hb8A
          have hBA := hB8.below hb8A
          have l1 : Hid _ := hx8A.load HW.out
          have l2 : Hid _ := hxA.load HW.out
          have hneq := fun W => ne_cgs W (x := wasX s' z) (y := wasX s' z) HW.out HW.out
          rw [cgEq_self] at hneq
          have hlx := HLx.out
          have hlL' := hBA.r.lenL hBA.ok
          have cs := hBA.same (by omega) (by omega)
          clear hP6 hP8 hlp
          go_wp2_with (first
            | (refine wpList_storeG rfl _ _ rfl w9.heap.size (wasX s' z) cg0 rfl rfl HW.out len0 hnA ?_; rw [hwA])
            | (refine wpList_loadG rfl 37 _ rfl _ rfl _ l1.out ?_)
            | (refine wpList_loadG rfl 37 _ rfl _ rfl _ l2.out ?_))
          refine cs.mono ?_
          rintro e wE ⟨rfl, hbE⟩
          clear cs
          have HBE : Hid (Both w1.heap.size w1 wE p b q s' xs') := hBA.below hbE
          have HKE : Hid (xs'.length ≤ k + 1) := by unfold Hid; omega
          clear hBA hB8 hbE hb68 hb8A l1 l2 hneq hx8 hxA hx8A
          go_wp2_with fail
          go_roundw
          case rel => exact ⟨k + 1, s', xs', by omega, by go_num, HKE, HBE⟩
          case measure => simp [intOf]; omega
    · obtain rfl : k = len := by omega
      have hltI : ¬ (k : Int) < k := by omega
      go_wp2
      go_ret
      exact ⟨rfl, hB⟩

/-! ### The row -/
set_option maxRecDepth 100000 in
theorem lifted (os : Os) (started : os.Started) (H : Type) (enc : TypeId × Value → H) :
    ReturnsInHanded {} Try.checked os 3 .any (Rows.deltaGoesSpec.pre6 enc Try.prog Try.f3 Rows.deltaGoesRow.domain false) (Rows.deltaGoesSpec.post enc Try.prog Try.f3 false true false false) := by
  refine returnsInHanded_of_change (C := Try.checked) own started (by kernel_rfl) Try.func3
    (ChangeSpec.witness6 (enc := enc) (C := Try.checked) false ⟨#[], #[.int .i64 0, .slice none 0 0, .agg #[.int .u32 0, .int .i64 0, .string ByteArray.empty, .int .u32 0]], []⟩ 8 (by kernel_rfl) (by kernel_rfl) (by kernel_rfl) (by kernel_rfl)) ?_
  intro W base args ds gs before hval0 hW hcnd _
  have hval : ∀ (j : Nat) t v, Try.f3.params[j]? = some t → args[j]? = some v → Value.okWide Try.prog W .any base t v := hval0
  have hW' := hW
  obtain ⟨p, q, hA0, hV, rfl, hfz, hnd⟩ := hW
  have hA : DataW.TrodAll enc Try.prog W 0 (fun _ => true) true Try.f3.params.toList args.toList ds p := hA0
  rw [Try.params3] at hA hval
  obtain ⟨v0, vs0, d0, ds0, p0, q0, hargs, rfl, rfl, h0, r0⟩ := trodAll_cons hA
  obtain ⟨v1, vs1, d1, ds1, p1, q1, rfl, rfl, rfl, h1, r1⟩ := trodAll_cons r0
  obtain ⟨v2, vs2, d2, ds2, p2, q2, rfl, rfl, rfl, h2, r2⟩ := trodAll_cons r1
  obtain ⟨rfl, rfl, rfl⟩ := trodAll_nil r2
  obtain rfl : args = #[v0, v1, v2] := by cases args; simp_all
  obtain ⟨rfl, rfl⟩ := trodVars_none hV
  obtain ⟨a0, rfl, rfl, rfl, w0⟩ := open_int Try.underlying3 (hval 0 3 v0 rfl rfl) h0
  obtain ⟨a1, len1, cap1, rfl⟩ := okWide_slice Try.underlying22 (hval 1 22 v1 rfl rfl)
  have k1 := h1
  have lt1 : ∀ x ∈ p1, x.block < W.heap.size := by obtain ⟨m, hm⟩ := k1; exact DataW.trod_lt m _ _ _ hm
  obtain ⟨o1, w1⟩ : ∃ os, DopsAt W a1 len1 cap1 os := by
    obtain ⟨fuel, hf⟩ := h1
    exact dopsAt_of hf
  obtain ⟨cs2, rfl, sz2⟩ := okWide_struct Try.underlying25 (hval 2 25 v2 rfl rfl)
  have k2 := h2
  have lt2 : ∀ x ∈ p2, x.block < W.heap.size := by obtain ⟨m, hm⟩ := k2; exact DataW.trod_lt m _ _ _ hm
  obtain ⟨a2, w2, rfl⟩ : ∃ q : Pl, PlOk q ∧ cs2 = plCells q := by
    obtain ⟨fuel, hf⟩ := h2
    exact place_of sz2 hf
  clear hA0 hval0
  refine (walk a0 a1 len1 cap1 o1 a2 W w0 w1 w2).mono fun e W' ⟨he, bel⟩ => ?_
  subst he
  exact ⟨_, rfl, _, _, _, [], _, [], hW', trodAll_mk1 (shut_bool Try.underlying4 _), (trodAll_cons_mk (shut_int Try.underlying3 w0) (trodAll_cons_mk (Below.trod laidOut (by kernel_rfl) (of_decide_eq_true (by kernel_rfl)) k1 bel lt1) (trodAll_cons_mk (Below.trod laidOut (by kernel_rfl) (of_decide_eq_true (by kernel_rfl)) k2 bel lt2) trodAll_mk0))), rfl, bel.frame _, fun h => by cases h⟩

theorem over : Rows.deltaGoesRow.holds Try.pinned (OpenSpec.ofChange Rows.deltaGoesSpec) :=
  OpenClaim.holds_of_wide 3 Try.f3 rfl rfl rfl rfl rfl rfl rfl ⟨rfl, rfl, rfl, rfl, rfl⟩ rfl rfl rfl rfl rfl (by kernel_rfl) Try.func3 (by kernel_rfl)
    (of_decide_eq_true (by kernel_rfl)) (by unfold Func.isWrapper; first | (rw [if_pos (by decide +kernel)]; kernel_rfl) | (rw [if_neg (by decide +kernel)]; exact ⟨rfl, rfl⟩))
    (fun os started H enc _ => lifted os started H enc)

end Go.Proofs.Ytmifpeocgikbeab.deltaGoes

namespace Go.Proofs.Ytmifpeocgikbeab
/-- The statement. -/
theorem deltaGoes_proved : Rows.DeltaGoesSaid := deltaGoes.over
#print axioms deltaGoes_proved
end Go.Proofs.Ytmifpeocgikbeab
