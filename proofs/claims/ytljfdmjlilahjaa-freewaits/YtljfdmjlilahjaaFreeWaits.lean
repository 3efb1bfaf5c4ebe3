/- Proved: FreeWaits, for every number and every slice of calls, with no condition: it answers true, and the slice reads as it did. -/
import Derived.Test.YtljfdmjlilahjaaFWaits
import Derived.Test.YtljfdmjlilahjaaFOps
import Derived.Deep.RegionHeld3
import Derived.BigQuiet
import Derived.Deep.QuietTactic
import Derived.WalkSmall
import Derived.ProofKit
import Derived.OpenShut
import Derived.ShutString
import Derived.ChangeOld
import Derived.Below
import Derived.Carry
namespace Go.Proofs.Ytljfdmjlilahjaa.freeWaits
open Go.ChangeShapes Go.WideShapes Go.ChangeAt Go.RowKit
open Go.ChangeMaps (open_string shut_string)
set_option linter.unusedVariables false

theorem own : ownKnob Try.prog.godebug = none := by kernel_rfl
theorem laidOut : laidOutB Try.prog = true := by kernel_rfl

set_option maxRecDepth 100000 in
set_option maxHeartbeats 8000000 in
theorem walk (n : Int) (a : Option Addr) (len cap : Nat) (os : List FopV) (w : World) (hn : (Lit.int .i64 n).wf = true) (ho : FopsAt w a len cap os) :
    Calls Try.prog 5 #[.int .i64 n, .slice a len cap] w fun e w' => e = .returned (.bool true) ∧ Below w.heap.size w w' := by
  obtain ⟨hn0, hn1⟩ := bounds_i64 hn
  clear hn
  obtain ⟨hol, hlc, hcm, hok, hoc⟩ := ho
  unfold maxLen at hcm
  obtain ⟨c, hc, hc1, hc2⟩ := mod_plus n 40 hn0 hn1 (by omega) (by omega)
  have HC : Hid (wrap64 (1 + (wrap64 (n.tmod 40 + 40)).tmod 40) = (c : Int)) := hc
  clear hc
  go_enter Try.func5, Try.ntmps5
  go_wp2_with fail
  refine (live_any w).mono ?_
  rintro e w1 ⟨rfl, hb1⟩
  go_wp2_with fail
  rw [HC.out]
  have cc := new_ok w1 0 c hc1 (by omega) (.slice none 0 0) [] (rdI_nil w1)
  rw [show ((0 : Nat) : Int) + (c : Int) = (c : Int) from by omega] at cc
  refine cc.mono ?_
  clear cc
  rintro e w2 hno
  unfold NewOut at hno
  obtain ⟨hb2, hcase⟩ := hno
  have hB2 := hb1.trans (hb2.mono hb1.size)
  have hs1 := hb1.size
  clear hb1 hb2 HC
  rcases hcase with ⟨hq, _⟩ | ⟨_, hq, _⟩ | ⟨_, ks, p, h, hk, rfl, H, hok0, hp, hh⟩
  · cases hq
  · cases hq
  clear hk
  have HP : Hid (w.heap.size ≤ h) := by unfold Hid; omega
  clear hp hh hs1
  unfold ptr
  by_cases hmany : 100 < len
  · have hmI : (100 : Int) < len := by omega
    clear hoc hok H hok0
    go_wp2
    go_ret
    exact ⟨rfl, hB2⟩
  have hmI : ¬ (100 : Int) < len := by omega
  generalize hs0 : Fr.mk 0 ks = s0 at *
  go_wp2_with fail
  go_loopw [53] (fun t wr => ∃ (k : Nat) (s : Fr), k ≤ len ∧ t = .int .i64 k ∧ PAt wr p h s ∧ FrOk s ∧ Below w.heap.size w wr) (fun t _ => len - (intOf t).toNat)
  case atStart => exact ⟨0, s0, Nat.zero_le _, rfl, H, hok0, hB2⟩
  case round =>
    obtain ⟨k, s, hk, rfl, HS, hks, hbr⟩ := hrel
    clear H hok0 hB2 hs0
    have hm := hks.most
    by_cases hlt : k < len
    · have hltI : (k : Int) < len := by omega
      obtain ⟨b, off, rfl, hbl, hat⟩ := hoc (by omega)
      have hoo : FopOk (os.getD k fop0) := hok _ (by rw [List.getD_eq_getElem?_getD, List.getElem?_eq_getElem (by omega)]; exact List.getElem_mem _)
      have hoW : ∀ W, Below w.heap.size w W → FopAt W b (off + k * 4) (os.getD k fop0) := fun W hW => (hat k hlt).below hbl hW
      generalize os.getD k fop0 = o at *
      have ho := hoW wr hbr
      have c0 := ho.c0
      have c1 := ho.c1
      have c2 := ho.c2
      have c3 := ho.c3
      have a1 := hoo.a1
      have hrd := ho.rd
      clear hat hoc hok ho
      obtain ⟨f0, f1, v2, f2, f3⟩ := o
      dsimp only at *
      obtain ⟨a2, cp2, hv2, hcp2, hcm2, _⟩ := hrd
      unfold maxLen at hcm2
      subst hv2
      obtain ⟨n2, hn2⟩ : ∃ n2, f2.length = n2 := ⟨_, rfl⟩
      rw [hn2] at c2 hcp2
      obtain ⟨wq, hwq⟩ : ∃ wq, wr.alloc (.cells #[.int .i64 f0, .int .i64 f1, .slice a2 n2 cp2, .bool f3] 33) = wq := ⟨_, rfl⟩
      have hbq : Below wr.heap.size wr wq := by rw [← hwq]; exact (Below.refl _ wr).alloc (Nat.le_refl _) _
      have hrow : wq.heap[wr.heap.size]? = some (.cells #[.int .i64 f0, .int .i64 f1, .slice a2 n2 cp2, .bool f3] 33 (0, 0)) := by rw [← hwq]; exact heap_alloc_new wr _
      have HQ : PAt wq p h s := FrAt.below HS hbq
      have hB0 : Below w.heap.size w wq := hbr.trans (hbq.mono hbr.size)
      have hhw : h < wr.heap.size := by obtain ⟨_, _, _, _, _, _, q, _⟩ := FrAt.opened HS; exact q
      have hsq : wr.heap.size < wq.heap.size := by rw [← hwq]; simp
      have hol' : ∀ W, (∃ S, Sole S wq W ∧ wr.heap.size ∉ S) → W.cell? ⟨wr.heap.size, 0, none⟩ = some (.int .i64 f0) ∧ W.cell? ⟨wr.heap.size, 1, none⟩ = some (.int .i64 f1) ∧ W.cell? ⟨wr.heap.size, 2, none⟩ = some (.slice a2 n2 cp2) := fun W ⟨S, hS, hn⟩ => by
        have e := fun j => World.cell?_of_block (w := wq) (a := ⟨wr.heap.size, j, none⟩) (hS.block _ hsq hn)
        exact ⟨(e 0).trans (by rw [cell_of_row _ _ 0 _ _ (0, 0) hrow]; rfl), (e 1).trans (by rw [cell_of_row _ _ 1 _ _ (0, 0) hrow]; rfl), (e 2).trans (by rw [cell_of_row _ _ 2 _ _ (0, 0) hrow]; rfl)⟩
      have cc := waitingL_any HQ hks
      unfold ptr at cc
      clear HS hbq hrow
      go_wp2_with fail
      refine cc.mono ?_
      clear cc hwq c0 c1 c2 c3
      rintro e w5 ⟨u, rfl, ho5, hb5⟩
      have H5 : PAt w5 p h s := FrAt.below HQ hb5
      have hB5 := hB0.trans (hb5.mono hB0.size)
      obtain ⟨q0, q1, q2⟩ := hol' w5 ⟨[], Sole.of_below hb5 [], by simp⟩
      have hwt : ∀ i x, (blocksL s 3)[i]? = some x → x ∈ blocksL s 3 := fun i x hx => List.mem_of_getElem? hx
      have hlen : (blocksL s 3).length ≤ 1024 := by have := upto_len s 3 s.ks.length; unfold blocksL; omega
      clear HQ hB0
      by_cases h01 : f0 = 0 ∨ f0 = 1
      · obtain ⟨N, hN, HN⟩ : ∃ N : Nat, 1 ≤ N ∧ N ≤ 5 ∧ Hid ((f0 = 0 ∧ N = 1) ∨ (f0 = 1 ∧ wrap64 (1 + (wrap64 (f1.tmod 5 + 5)).tmod 5) = (N : Int))) := by
          rcases h01 with h | h
          · exact ⟨1, by omega, by omega, .inl ⟨h, rfl⟩⟩
          · obtain ⟨r, e1, e2, e3⟩ := mod_plus f1 5 a1.1 a1.2 (by omega) (by omega)
            exact ⟨r, e2, e3, .inr ⟨h, e1⟩⟩
        obtain ⟨hN5, HN⟩ := HN
        have HT : Calls Try.prog 12 #[.pointer (some ⟨p, 0, none⟩), .int .i64 N] w5 fun e w' => ∃ r, e = .returned (.tuple #[.int .i64 (runV s r), .int .i64 (runE r)]) ∧ (∀ x ∈ blocksL s 3, runE r = 5 ∨ ((x : Int) < runV s r ∨ runV s r + N ≤ (x : Int))) ∧ PAt w' p h (runF s N r) ∧ FrOk (runF s N r) ∧ (0 ≤ runV s r ∧ runV s r ≤ 1024) ∧ (runE r = 0 ∨ runE r = 5) ∧ RdI w' u ((blocksL s 3).map (fun (x : Nat) => (x : Int))) ∧ Sole [h] w5 w' := by
          have cc := takeRun_ok H5 hks N hN (by omega)
          unfold ptr at cc
          refine cc.mono ?_
          rintro e w6 ⟨r, rfl, hF, H6, hS⟩
          refine ⟨r, rfl, fun x hx => ?_, H6, run_ok hks N r, ?_, ?_, rdI_own ho5 (by omega) hS, hS⟩
          · cases r with
            | none => exact .inl rfl
            | some b0 =>
              have := run_waits hF.1 hx
              right
              show (x : Int) < (s.lo : Int) + b0 ∨ (s.lo : Int) + b0 + N ≤ x
              omega
          · cases r with
            | none => exact ⟨Int.le_refl _, by show (0 : Int) ≤ 1024; decide⟩
            | some b0 =>
              have := run_in hF.1 hN
              show 0 ≤ (s.lo : Int) + b0 ∧ (s.lo : Int) + b0 ≤ 1024
              omega
          · cases r with
            | none => exact .inr rfl
            | some b0 => exact .inl rfl
        clear ho5 hol' hoW
        rcases HN.out with ⟨rfl, rfl⟩ | ⟨rfl, HE⟩
        · clear HN h01
          go_wp2_with fail
          refine HT.mono ?_
          clear HT q0 q1 q2 H5
          rintro e w6 ⟨r, rfl, hx, H6, hok6, hv, he, hrd6, hS6⟩
          have hB6 : Below w.heap.size w w6 := hS6.belowOf hB5 hB5.size (by simp; exact HP.out)
          obtain ⟨l3, hl3⟩ : ∃ l3, blocksL s 3 = l3 := ⟨_, rfl⟩
          rw [hl3] at hx hrd6 hlen hwt
          obtain ⟨a6, c6, hu, hl6, hm6, hcells⟩ := hrd6
          rw [List.length_map] at hu hl6 hcells
          unfold maxLen at hm6
          subst hu
          have HF : Hid (PAt w6 p h (runF s 1 r)) := H6
          have HG : Hid (FrOk (runF s 1 r)) := hok6
          generalize hV : runV s r = V at *
          generalize hE : runE r = E at *
          clear H6 hok6 hS6 hB5 hV hE hl3
          have hlI : ∀ i, i < l3.length → l3[i]? = some (l3.getD i 0) := fun i hi => by rw [List.getElem?_eq_getElem hi, List.getD_eq_getElem?_getD, List.getElem?_eq_getElem hi]; rfl
          generalize hm3 : l3.length = m3 at *
          go_wp2_with fail
          go_loop [81] (fun t => ∃ i : Nat, i ≤ m3 ∧ t = .int .i64 i) (fun t => m3 - (intOf t).toNat)
          case atStart => exact ⟨0, Nat.zero_le _, rfl⟩
          case round =>
            obtain ⟨i, hi, rfl⟩ := hrel
            by_cases hil : i < m3
            · have hiI : (i : Int) < m3 := by omega
              obtain ⟨g, o6, rfl, hg, hcs⟩ := hcells (by omega)
              have xi := hcs i ((l3.getD i 0 : Nat) : Int) (by rw [List.getElem?_map, hlI i hil]; rfl)
              have hxx := hx _ (hwt i _ (hlI i hil))
              generalize ((l3.getD i 0 : Nat) : Int) = x at *
              clear hcells hcs hlI hwt hx
              rcases he with rfl | rfl
              · rcases hxx with hh | hh | hh
                · cases hh
                · have hd : ¬ V ≤ x := by omega
                  clear hh
                  go_wp2
                  go_round
                  case rel => exact ⟨i + 1, by omega, by go_num⟩
                  case measure => simp [intOf]; omega
                · have hd : V ≤ x := by omega
                  have hd2 : ¬ x < V + 1 := by omega
                  clear hh
                  go_wp2
                  go_round
                  case rel => exact ⟨i + 1, by omega, by go_num⟩
                  case measure => simp [intOf]; omega
              · clear hxx
                go_wp2
                go_round
                case rel => exact ⟨i + 1, by omega, by go_num⟩
                case measure => simp [intOf]; omega
            · have hiI : ¬ (i : Int) < m3 := by omega
              clear hcells hlI hwt hx
              go_wp2_with fail
              go_roundw
              case rel => exact ⟨k + 1, runF s 1 r, by omega, by go_num, HF.out, HG.out, hB6⟩
              case measure => simp [intOf]; omega
        · have HE' : Hid (wrap64 (1 + (wrap64 (f1.tmod 5 + 5)).tmod 5) = (N : Int)) := HE
          clear HN HE h01
          go_wp2_with fail
          rw [HE'.out]
          refine HT.mono ?_
          clear HT q0 q1 q2 H5
          rintro e w6 ⟨r, rfl, hx, H6, hok6, hv, he, hrd6, hS6⟩
          have hB6 : Below w.heap.size w w6 := hS6.belowOf hB5 hB5.size (by simp; exact HP.out)
          obtain ⟨l3, hl3⟩ : ∃ l3, blocksL s 3 = l3 := ⟨_, rfl⟩
          rw [hl3] at hx hrd6 hlen hwt
          obtain ⟨a6, c6, hu, hl6, hm6, hcells⟩ := hrd6
          rw [List.length_map] at hu hl6 hcells
          unfold maxLen at hm6
          subst hu
          have HF : Hid (PAt w6 p h (runF s N r)) := H6
          have HG : Hid (FrOk (runF s N r)) := hok6
          generalize hV : runV s r = V at *
          generalize hE : runE r = E at *
          clear H6 hok6 hS6 hB5 hV hE hl3
          have hlI : ∀ i, i < l3.length → l3[i]? = some (l3.getD i 0) := fun i hi => by rw [List.getElem?_eq_getElem hi, List.getD_eq_getElem?_getD, List.getElem?_eq_getElem hi]; rfl
          generalize hm3 : l3.length = m3 at *
          go_wp2_with fail
          go_loop [81] (fun t => ∃ i : Nat, i ≤ m3 ∧ t = .int .i64 i) (fun t => m3 - (intOf t).toNat)
          case atStart => exact ⟨0, Nat.zero_le _, rfl⟩
          case round =>
            obtain ⟨i, hi, rfl⟩ := hrel
            by_cases hil : i < m3
            · have hiI : (i : Int) < m3 := by omega
              obtain ⟨g, o6, rfl, hg, hcs⟩ := hcells (by omega)
              have xi := hcs i ((l3.getD i 0 : Nat) : Int) (by rw [List.getElem?_map, hlI i hil]; rfl)
              have hxx := hx _ (hwt i _ (hlI i hil))
              generalize ((l3.getD i 0 : Nat) : Int) = x at *
              clear hcells hcs hlI hwt hx
              rcases he with rfl | rfl
              · rcases hxx with hh | hh | hh
                · cases hh
                · have hd : ¬ V ≤ x := by omega
                  clear hh
                  go_wp2
                  go_round
                  case rel => exact ⟨i + 1, by omega, by go_num⟩
                  case measure => simp [intOf]; omega
                · have hd : V ≤ x := by omega
                  have hd2 : ¬ x < V + N := by omega
                  clear hh
                  go_wp2
                  go_round
                  case rel => exact ⟨i + 1, by omega, by go_num⟩
                  case measure => simp [intOf]; omega
              · clear hxx
                go_wp2
                go_round
                case rel => exact ⟨i + 1, by omega, by go_num⟩
                case measure => simp [intOf]; omega
            · have hiI : ¬ (i : Int) < m3 := by omega
              clear hcells hlI hwt hx
              go_wp2_with fail
              go_roundw
              case rel => exact ⟨k + 1, runF s N r, by omega, by go_num, HF.out, HG.out, hB6⟩
              case measure => simp [intOf]; omega
      · have n0 : ¬ f0 = 0 := fun e => h01 (.inl e)
        have n1 : ¬ f0 = 1 := fun e => h01 (.inr e)
        by_cases h3 : f0 = 3
        · subst h3
          have cc := defer_any H5 hks f1
          unfold ptr at cc
          clear hol' hoW ho5 h01
          go_wp2_with fail
          refine cc.mono ?_
          clear cc
          rintro e w6 ⟨rfl, H6, hS6⟩
          have hB6 : Below w.heap.size w w6 := hS6.belowOf hB5 hB5.size (by simp; exact HP.out)
          have hok6 := turn_ok hks f1 3 (by omega)
          clear H5 hS6 hB5 q0 q1 q2
          go_wp2_with fail
          go_roundw
          case rel => exact ⟨k + 1, turnF s f1 3, by omega, by go_num, H6, hok6, hB6⟩
          case measure => simp [intOf]; omega
        · by_cases h4 : f0 = 4
          · subst h4
            have hsw := fun x (hx : x ∈ blocksL s 3) => sweep_waits (l := f2) hx
            have cc := sweep_any H5 hks (.slice a2 f2.length cp2) f2 (hoW w5 hB5).rd
            rw [hn2] at cc
            unfold ptr at cc
            have hok6 := sweep_ok hks f2
            clear h01
            go_wp2_with fail
            refine cc.mono ?_
            clear cc H5
            rintro e w6 ⟨rfl, H6, hS6⟩
            have hB6 : Below w.heap.size w w6 := hS6.belowOf hB5 hB5.size (by simp; exact HP.out)
            have hrd6 := rdI_own ho5 (q := h) (by omega) hS6
            have h2W : ∀ W, Below w6.heap.size w6 W → W.cell? ⟨wr.heap.size, 2, none⟩ = some (.slice a2 n2 cp2) := fun W hW => (hol' W ⟨[h], ((Sole.of_below hb5 [h]).trans hS6).trans (Sole.of_below hW [h]), by simp; omega⟩).2.2
            have hr2 : ∀ W, Below w.heap.size w W → RdI W (.slice a2 n2 cp2) f2 := fun W hW => by have := (hoW W hW).rd; rw [hn2] at this; exact this
            generalize swept s f2 = SW at *
            generalize sweepF s f2 = s6 at *
            obtain ⟨l3, hl3⟩ : ∃ l3, blocksL s 3 = l3 := ⟨_, rfl⟩
            rw [hl3] at hrd6 hlen hwt hsw
            obtain ⟨a6, c6, hu, hl6, hm6, _⟩ := hrd6
            rw [List.length_map] at hu hl6
            unfold maxLen at hm6
            subst hu
            have hlI : ∀ i, i < l3.length → l3[i]? = some (l3.getD i 0) := fun i hi => by rw [List.getElem?_eq_getElem hi, List.getD_eq_getElem?_getD, List.getElem?_eq_getElem hi]; rfl
            have hcl : 0 < l3.length → ∃ g o6, a6 = some ⟨g, o6, none⟩ ∧ ∀ W, Below w6.heap.size w6 W → ∀ i, i < l3.length → W.cell? ⟨g, o6 + i, none⟩ = some (.int .i64 ((l3.getD i 0 : Nat) : Int)) := fun hp => by
              obtain ⟨a', c', e, _, _, hcs⟩ := rdI_own ho5 (q := h) (by omega) hS6
              rw [List.length_map] at e hcs
              rw [hl3] at e hcs
              simp only [Value.slice.injEq] at e
              obtain ⟨rfl, _, rfl⟩ := e
              obtain ⟨g, o6, e, hg, hcc⟩ := hcs hp
              exact ⟨g, o6, e, fun W hW i hi => (hW.cell (p := ⟨g, o6 + i, none⟩) hg).trans (hcc i _ (by rw [List.getElem?_map, hlI i hi]; rfl))⟩
            have HF : PAt w6 p h s6 := H6
            clear ho5 hol' hoW hS6 hB5 hb5 hl3 hn2 H6 q0 q1 q2 hhw hsq
            generalize hm3 : l3.length = m3 at *
            have c20 := h2W w6 (Below.refl _ _)
            clear c20
            go_wp2_with fail
            go_loopw [114] (fun t wi => ∃ i : Nat, i ≤ m3 ∧ t = .int .i64 i ∧ Below w6.heap.size w6 wi) (fun t _ => m3 - (intOf t).toNat)
            case atStart => exact ⟨0, Nat.zero_le _, rfl, Below.refl _ _⟩
            case round =>
              obtain ⟨i, hi, rfl, hbi⟩ := hrel
              obtain ⟨wj, hwj⟩ : ∃ wj, wj = wr := ⟨_, rfl⟩
              subst hwj
              have hB7 : Below w.heap.size w wj := hB6.trans (hbi.mono hB6.size)
              have HI : PAt wj p h s6 := FrAt.below HF hbi
              by_cases hil : i < m3
              · have hiI : (i : Int) < m3 := by omega
                obtain ⟨g, o6, rfl, hcs⟩ := hcl (by omega)
                have xi := hcs wj hbi i hil
                have hmem := hsw _ (hwt i _ (hlI i hil))
                have c2i := h2W wj hbi
                obtain ⟨a', c', e, hl2, hm2, hcc⟩ := hr2 wj hB7
                simp only [Value.slice.injEq] at e
                obtain ⟨rfl, hn2, rfl⟩ := e
                unfold maxLen at hm2
                subst hn2
                have hlJ : ∀ i, i < f2.length → f2[i]? = some (f2.getD i 0) := fun i hi => by rw [List.getElem?_eq_getElem hi, List.getD_eq_getElem?_getD, List.getElem?_eq_getElem hi]; rfl
                have cw := waitingL_any HI hok6
                unfold ptr at cw
                have hlen6 : (blocksL s6 3).length ≤ 1024 := by have := upto_len s6 3 s6.ks.length; have := hok6.most; unfold blocksL; omega
                generalize l3.getD i 0 = x at *
                clear hcs h2W hr2 hcl hwt hsw hlI
                have hdec : Hid ((x ∈ blocksL s6 3) ↔ ((x : Int) ∈ f2)) := hmem
                clear hmem
                go_wp2_with fail
                go_loop [18, 121] (fun kp t => ∃ j : Nat, j ≤ f2.length ∧ t = .int .i64 j ∧ kp = .bool (decide ((x : Int) ∈ f2.take j))) (fun _ t => f2.length - (intOf t).toNat)
                case atStart => exact ⟨0, Nat.zero_le _, rfl, by simp⟩
                case round =>
                  obtain ⟨j, hj, rfl, rfl⟩ := hrel
                  by_cases hjl : j < f2.length
                  · have hjI : (j : Int) < f2.length := by omega
                    obtain ⟨g2, o2, rfl, hg2, hc2⟩ := hcc (by omega)
                    have xj := hc2 j _ (hlJ j hjl)
                    have ht := takeI_next (hlJ j hjl)
                    have hT : Hid (decide ((x : Int) ∈ f2.take (j + 1)) = (decide ((x : Int) ∈ f2.take j) || decide (f2.getD j 0 = (x : Int)))) := by
                      unfold Hid
                      rw [ht]
                      by_cases q : (x : Int) ∈ f2.take j
                      · simp [q]
                      · simp only [List.mem_append, q, false_or, List.mem_singleton, decide_false, Bool.false_or]
                        exact decide_eq_decide.2 ⟨Eq.symm, Eq.symm⟩
                    clear ht hc2 hcc hlJ
                    generalize f2.getD j 0 = y at *
                    generalize hD : decide ((x : Int) ∈ f2.take j) = D at *
                    clear hD
                    cases D with
                    | true =>
                      clear cw
                      go_wp2
                      go_round
                      case rel => exact ⟨j + 1, by omega, by go_num, by rw [hT.out]; rfl⟩
                      case measure => simp [intOf]; omega
                    | false =>
                      by_cases hyx : y = (x : Int)
                      · clear cw
                        go_wp2
                        go_round
                        case rel => exact ⟨j + 1, by omega, by go_num, by rw [hT.out, decide_eq_true hyx]; rfl⟩
                        case measure => simp [intOf]; omega
                      · clear cw
                        go_wp2
                        go_round
                        case rel => exact ⟨j + 1, by omega, by go_num, by rw [hT.out, decide_eq_false hyx, show (y == (x : Int)) = false from beq_eq_false_iff_ne.2 hyx]; rfl⟩
                        case measure => simp [intOf]; omega
                  · obtain rfl : j = f2.length := by omega
                    have hjI : ¬ (f2.length : Int) < f2.length := by omega
                    rw [List.take_length]
                    clear hcc hlJ
                    go_wp2_with fail
                    refine cw.mono ?_
                    clear cw
                    rintro e w8 ⟨u8, rfl, ho8, hb8⟩
                    obtain ⟨l8, hl8⟩ : ∃ l8, blocksL s6 3 = l8 := ⟨_, rfl⟩
                    rw [hl8] at ho8 hlen6 hdec
                    have hbi8 : Below w6.heap.size w6 w8 := hbi.trans (hb8.mono hbi.size)
                    obtain ⟨a8, c8, hu8, hl8', hm8, hc8⟩ := rdI_own ho8 (q := h) (by obtain ⟨_, _, _, _, _, _, q, _⟩ := FrAt.opened HI; exact q) (Sole.refl [h] w8)
                    rw [List.length_map] at hu8 hl8' hc8
                    unfold maxLen at hm8
                    subst hu8
                    have hlK : ∀ i, i < l8.length → l8[i]? = some (l8.getD i 0) := fun i hi => by rw [List.getElem?_eq_getElem hi, List.getD_eq_getElem?_getD, List.getElem?_eq_getElem hi]; rfl
                    clear ho8 hb8 hl8 HI xi c2i
                    generalize hm8' : l8.length = m8 at *
                    go_wp2_with fail
                    go_loop [21, 135] (fun st t => ∃ j : Nat, j ≤ m8 ∧ t = .int .i64 j ∧ st = .bool (decide (x ∈ l8.take j))) (fun _ t => m8 - (intOf t).toNat)
                    case atStart => exact ⟨0, Nat.zero_le _, rfl, by simp⟩
                    case round =>
                      obtain ⟨j, hj, rfl, rfl⟩ := hrel
                      by_cases hjl : j < m8
                      · have hjI : (j : Int) < m8 := by omega
                        obtain ⟨g2, o2, rfl, hg2, hc2⟩ := hc8 (by omega)
                        have xj := hc2 j ((l8.getD j 0 : Nat) : Int) (by rw [List.getElem?_map, hlK j hjl]; rfl)
                        have ht : l8.take (j + 1) = l8.take j ++ [l8.getD j 0] := by rw [List.take_add_one, hlK j hjl]; rfl
                        have hT : Hid (decide (x ∈ l8.take (j + 1)) = (decide (x ∈ l8.take j) || decide (l8.getD j 0 = x))) := by
                          unfold Hid
                          rw [ht]
                          by_cases q : x ∈ l8.take j
                          · simp [q]
                          · simp only [List.mem_append, q, false_or, List.mem_singleton, decide_false, Bool.false_or]
                            exact decide_eq_decide.2 ⟨Eq.symm, Eq.symm⟩
                        clear ht hc2 hc8 hlK
                        generalize l8.getD j 0 = y at *
                        generalize hD : decide (x ∈ l8.take j) = D at *
                        clear hD
                        cases D with
                        | true =>
                          go_wp2
                          go_round
                          case rel => exact ⟨j + 1, by omega, by go_num, by rw [hT.out]; rfl⟩
                          case measure => simp [intOf]; omega
                        | false =>
                          by_cases hyx : y = x
                          · have hyI : (y : Int) = x := by omega
                            go_wp2
                            go_round
                            case rel => exact ⟨j + 1, by omega, by go_num, by rw [hT.out, decide_eq_true hyx]; rfl⟩
                            case measure => simp [intOf]; omega
                          · have hyI : ¬ (y : Int) = x := by omega
                            go_wp2
                            go_round
                            case rel => exact ⟨j + 1, by omega, by go_num, by rw [hT.out, decide_eq_false hyx, show ((y : Int) == (x : Int)) = false from beq_eq_false_iff_ne.2 hyI]; rfl⟩
                            case measure => simp [intOf]; omega
                      · obtain rfl : j = m8 := by omega
                        have hjI : ¬ (j : Int) < j := by omega
                        have hD1 : decide (x ∈ l8.take j) = decide ((x : Int) ∈ f2) := by
                          rw [← hm8', List.take_length]
                          exact decide_eq_decide.2 hdec.out
                        rw [hD1]
                        clear hc8 hlK hD1 hdec
                        generalize decide ((x : Int) ∈ f2) = D at *
                        cases D with
                        | true =>
                          go_wp2_with fail
                          go_roundw
                          case rel => exact ⟨i + 1, by omega, by go_num, hbi8⟩
                          case measure => simp [intOf]; omega
                        | false =>
                          go_wp2_with fail
                          go_roundw
                          case rel => exact ⟨i + 1, by omega, by go_num, hbi8⟩
                          case measure => simp [intOf]; omega
              · have hiI : ¬ (i : Int) < m3 := by omega
                clear hcl hlI hwt hsw hr2 h2W
                go_wp2_with fail
                go_roundw
                case rel => exact ⟨k + 1, s6, by omega, by go_num, HI, hok6, hB7⟩
                case measure => simp [intOf]; omega
          · clear hol' hoW ho5 h01
            go_wp2_with fail
            go_roundw
            case rel => exact ⟨k + 1, s, by omega, by go_num, H5, hks, hB5⟩
            case measure => simp [intOf]; omega
    · obtain rfl : k = len := by omega
      clear hoc hok
      go_wp2
      go_ret
      exact ⟨rfl, hbr⟩

/-! ### The row -/
set_option maxRecDepth 100000 in
theorem lifted (os : Os) (started : os.Started) (H : Type) (enc : TypeId × Value → H) :
    ReturnsInHanded {} Try.checked os 5 .any (Rows.freeWaitsSpec.pre6 enc Try.prog Try.f5 Rows.freeWaitsRow.domain false) (Rows.freeWaitsSpec.post enc Try.prog Try.f5 false true false false) := by
  refine returnsInHanded_of_change (C := Try.checked) own started (by kernel_rfl) Try.func5
    (ChangeSpec.witness6 (enc := enc) (C := Try.checked) false ⟨#[], #[.int .i64 0, .slice none 0 0], []⟩ 8 (by kernel_rfl) (by kernel_rfl) (by kernel_rfl) (by kernel_rfl)) ?_
  intro W base args ds gs before hval0 hW hcnd _
  have hval : ∀ (j : Nat) t v, Try.f5.params[j]? = some t → args[j]? = some v → Value.okWide Try.prog W .any base t v := hval0
  have hW' := hW
  obtain ⟨p, q, hA0, hV, rfl, hfz, hnd⟩ := hW
  have hA : DataW.TrodAll enc Try.prog W 0 (fun _ => true) true Try.f5.params.toList args.toList ds p := hA0
  rw [Try.params5] at hA hval
  obtain ⟨v0, vs0, d0, ds0, p0, q0, hargs, rfl, rfl, h0, r0⟩ := trodAll_cons hA
  obtain ⟨v1, vs1, d1, ds1, p1, q1, rfl, rfl, rfl, h1, r1⟩ := trodAll_cons r0
  obtain ⟨rfl, rfl, rfl⟩ := trodAll_nil r1
  obtain rfl : args = #[v0, v1] := by cases args; simp_all
  obtain ⟨rfl, rfl⟩ := trodVars_none hV
  obtain ⟨a0, rfl, rfl, rfl, w0⟩ := open_int Try.underlying3 (hval 0 3 v0 rfl rfl) h0
  obtain ⟨a1, len1, cap1, rfl⟩ := okWide_slice Try.underlying23 (hval 1 23 v1 rfl rfl)
  have k1 := h1
  have lt1 : ∀ x ∈ p1, x.block < W.heap.size := by obtain ⟨m, hm⟩ := k1; exact DataW.trod_lt m _ _ _ hm
  obtain ⟨o1, w1⟩ : ∃ os, FopsAt W a1 len1 cap1 os := by
    obtain ⟨fuel, hf⟩ := h1
    exact fopsAt_of hf
  clear hA0 hval0
  refine (walk a0 a1 len1 cap1 o1 W w0 w1).mono fun e W' ⟨he, bel⟩ => ?_
  subst he
  exact ⟨_, rfl, _, _, _, [], _, [], hW', trodAll_mk1 (shut_bool Try.underlying4 _), (trodAll_cons_mk (shut_int Try.underlying3 w0) (trodAll_cons_mk (Below.trod laidOut (by kernel_rfl) (of_decide_eq_true (by kernel_rfl)) k1 bel lt1) trodAll_mk0)), rfl, bel.frame _, fun h => by cases h⟩

theorem over : Rows.freeWaitsRow.holds Try.pinned (OpenSpec.ofChange Rows.freeWaitsSpec) :=
  OpenClaim.holds_of_wide 5 Try.f5 rfl rfl rfl rfl rfl rfl rfl ⟨rfl, rfl, rfl, rfl, rfl⟩ rfl rfl rfl rfl rfl (by kernel_rfl) Try.func5 (by kernel_rfl)
    (of_decide_eq_true (by kernel_rfl)) (by unfold Func.isWrapper; first | (rw [if_pos (by decide +kernel)]; kernel_rfl) | (rw [if_neg (by decide +kernel)]; exact ⟨rfl, rfl⟩))
    (fun os started H enc _ => lifted os started H enc)

end Go.Proofs.Ytljfdmjlilahjaa.freeWaits

namespace Go.Proofs.Ytljfdmjlilahjaa
/-- The statement. -/
theorem freeWaits_proved : Rows.FreeWaitsSaid := freeWaits.over
#print axioms freeWaits_proved
end Go.Proofs.Ytljfdmjlilahjaa
