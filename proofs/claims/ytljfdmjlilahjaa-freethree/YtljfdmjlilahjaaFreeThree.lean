/- Proved: FreeThree, for every input, with no condition: it answers true, and the slice reads as it did. -/
import Derived.Test.YtljfdmjlilahjaaFThree
import Derived.Test.YtljfdmjlilahjaaFOps
import Derived.Deep.RegionHeld3
import Derived.BigQuiet
import Derived.Deep.QuietTactic
import Derived.WalkSmall
import Derived.ProofKit
import Derived.OpenShut
import Derived.ShutString
import Derived.ChangeOld
import Derived.Below
import Derived.Carry
import Derived.Deep.CutRange
import Derived.Deep.CutBlock
namespace Go.Proofs.Ytljfdmjlilahjaa.freeThree
open Go.ChangeShapes Go.WideShapes Go.ChangeAt Go.RowKit Go.Maps
open Go.ChangeMaps (open_string shut_string)
set_option linter.unusedVariables false

theorem own : ownKnob Try.prog.godebug = none := by kernel_rfl
theorem laidOut : laidOutB Try.prog = true := by kernel_rfl

set_option maxRecDepth 100000 in
set_option maxHeartbeats 16000000 in
theorem walk (lo to_ : Int) (a : Option Addr) (len cap : Nat) (os : List FopV) (w : World) (hlo : (Lit.int .i64 lo).wf = true) (hto : (Lit.int .i64 to_).wf = true) (ho : FopsAt w a len cap os) :
    Calls Try.prog 4 #[.int .i64 lo, .int .i64 to_, .slice a len cap] w fun e w' => e = .returned (.bool true) ∧ Below w.heap.size w w' := by
  have hmm := @run_makeMap Try.prog
  obtain ⟨hol, hlc, hcm, hok, hoc⟩ := ho
  unfold maxLen at hcm
  clear hlo hto
  go_enter Try.func4, Try.ntmps4
  go_wp2_with fail
  refine (live_any w).mono ?_
  rintro e w1 ⟨rfl, hb1⟩
  by_cases harg : lo < 0 ∨ to_ ≤ lo ∨ 1024 < to_
  · go_wp2_with fail
    refine (new_arg w1 lo to_ (.slice none 0 0) harg).mono ?_
    rintro e w2 ⟨rfl, rfl⟩
    clear harg hok hoc
    go_wp2
    go_ret
    exact ⟨rfl, hb1⟩
  obtain ⟨L, rfl⟩ : ∃ L : Nat, (L : Int) = lo := ⟨lo.toNat, by omega⟩
  obtain ⟨c, hc, hc1⟩ : ∃ c : Nat, to_ = (L : Int) + c ∧ 1 ≤ c ∧ L + c ≤ 1024 := ⟨(to_ - L).toNat, by omega, by omega, by omega⟩
  subst hc
  clear harg
  go_wp2_with fail
  refine (new_ok w1 L c hc1.1 hc1.2 (.slice none 0 0) [] (rdI_nil w1)).mono ?_
  rintro e w2 hno
  unfold NewOut at hno
  obtain ⟨hb2, hcase⟩ := hno
  have hB2 := hb1.trans (hb2.mono hb1.size)
  have hs1 := hb1.size
  clear hb1 hb2
  rcases hcase with ⟨hq, _⟩ | ⟨_, hq, _⟩ | ⟨_, ks, p, h, hk, rfl, H, hok0, hp, hh⟩
  · cases hq
  · cases hq
  have hks : ks = List.replicate c 1 := (Option.some.inj hk).symm
  have hlen0 : ks.length = c := by rw [hks]; exact List.length_replicate
  clear hk hks
  have HP : Hid (w.heap.size ≤ h) := by unfold Hid; omega
  clear hp hh hs1
  unfold ptr
  by_cases hmany : 100 < len
  · have hmI : (100 : Int) < len := by omega
    clear hoc hok H hok0
    go_wp2
    go_ret
    exact ⟨rfl, hB2⟩
  have hmI : ¬ (100 : Int) < len := by omega
  go_wp2_with fail
  go_loopw [39] (fun t wr => ∃ (k : Nat) (s : Fr), k ≤ len ∧ t = .int .i64 k ∧ PAt wr p h s ∧ FrOk s ∧ s.lo = L ∧ s.ks.length = c ∧ Below w.heap.size w wr) (fun t _ => len - (intOf t).toNat)
  case atStart => exact ⟨0, ⟨L, ks⟩, Nat.zero_le _, rfl, H, hok0, rfl, hlen0, hB2⟩
  case round =>
    obtain ⟨k, s, hk, rfl, HS, hks, hsl, hsn, hbr⟩ := hrel
    clear H hok0 hB2 hlen0
    have hm := hks.most
    by_cases hlt : k < len
    · have hltI : (k : Int) < len := by omega
      obtain ⟨b, off, rfl, hbl, hat⟩ := hoc (by omega)
      have hoo : FopOk (os.getD k fop0) := hok _ (by rw [List.getD_eq_getElem?_getD, List.getElem?_eq_getElem (by omega)]; exact List.getElem_mem _)
      have hoW : ∀ W, Below w.heap.size w W → FopAt W b (off + k * 4) (os.getD k fop0) := fun W hW => (hat k hlt).below hbl hW
      generalize os.getD k fop0 = o at *
      have ho := hoW wr hbr
      have c0 := ho.c0
      have c1 := ho.c1
      have c2 := ho.c2
      have c3 := ho.c3
      have a1 := hoo.a1
      have hrd := ho.rd
      clear hat hoc hok ho
      obtain ⟨f0, f1, v2, f2, f3⟩ := o
      dsimp only at *
      obtain ⟨a2, cp2, hv2, hcp2, hcm2, _⟩ := hrd
      unfold maxLen at hcm2
      subst hv2
      obtain ⟨n2, hn2⟩ : ∃ n2, f2.length = n2 := ⟨_, rfl⟩
      rw [hn2] at c2 hcp2
      obtain ⟨wq, hwq⟩ : ∃ wq, wr.alloc (.cells #[.int .i64 f0, .int .i64 f1, .slice a2 n2 cp2, .bool f3] 33) = wq := ⟨_, rfl⟩
      have hbq : Below wr.heap.size wr wq := by rw [← hwq]; exact (Below.refl _ wr).alloc (Nat.le_refl _) _
      have hrow : wq.heap[wr.heap.size]? = some (.cells #[.int .i64 f0, .int .i64 f1, .slice a2 n2 cp2, .bool f3] 33 (0, 0)) := by rw [← hwq]; exact heap_alloc_new wr _
      have HQ : PAt wq p h s := FrAt.below HS hbq
      have hB0 : Below w.heap.size w wq := hbr.trans (hbq.mono hbr.size)
      have q0 : wq.cell? ⟨wr.heap.size, 0, none⟩ = some (.int .i64 f0) := by rw [cell_of_row _ _ 0 _ _ (0, 0) hrow]; rfl
      have q1 : wq.cell? ⟨wr.heap.size, 1, none⟩ = some (.int .i64 f1) := by rw [cell_of_row _ _ 1 _ _ (0, 0) hrow]; rfl
      have q2 : wq.cell? ⟨wr.heap.size, 2, none⟩ = some (.slice a2 n2 cp2) := by rw [cell_of_row _ _ 2 _ _ (0, 0) hrow]; rfl
      have hr2 : RdI wq (.slice a2 n2 cp2) f2 := by have := (hoW wq hB0).rd; rw [hn2] at this; exact this
      clear HS hbq hrow hoW
      have HK : Hid (FrOk s) := hks
      have HSE : ∀ w', Sole [h] wq w' → Below w.heap.size w w' := fun w' hS => hS.belowOf hB0 hB0.size (by simp; exact HP.out)
      go_upto_block 2 with fail
      go_cut [] from 40 to 134 (fun wx => ∃ s' : Fr, PAt wx p h s' ∧ FrOk s' ∧ s'.lo = L ∧ s'.ks.length = c ∧ Below w.heap.size w wx)
      case first =>
        clear hwq c0 c1 c2 c3
        by_cases h0 : f0 = 0
        · subst h0
          have cc := take_any HQ hks
          unfold ptr at cc
          go_wp2_with fail
          refine cc.mono ?_
          clear cc
          rintro e w6 ⟨r, rfl, hF, H6, hS6⟩
          have HR : Hid (∃ s' : Fr, PAt w6 p h s' ∧ FrOk s' ∧ s'.lo = L ∧ s'.ks.length = c ∧ Below w.heap.size w w6) := ⟨_, H6, run_ok hks 1 r, (run_lo s 1 r).trans hsl, (run_len s 1 r).trans hsn, HSE _ hS6⟩
          clear H6 hS6 hF q0 q1 q2 hr2 HQ HSE
          go_wp2_with fail
          go_meet
          exact HR.out
        by_cases h1 : f0 = 1
        · subst h1
          by_cases hn1 : f1 < 1
          · have cc := takeRun_arg (w := wq) (p := p) f1 hn1
            unfold ptr at cc
            go_wp2_with fail
            refine cc.mono ?_
            clear cc
            rintro e w6 ⟨rfl, rfl⟩
            have HR : Hid (∃ s' : Fr, PAt w6 p h s' ∧ FrOk s' ∧ s'.lo = L ∧ s'.ks.length = c ∧ Below w.heap.size w w6) := ⟨s, HQ, hks, hsl, hsn, hB0⟩
            clear q0 q1 q2 hr2 HQ HSE
            go_wp2_with fail
            go_meet
            exact HR.out
          · obtain ⟨N, rfl⟩ : ∃ N : Nat, (N : Int) = f1 := ⟨f1.toNat, by omega⟩
            have cc := takeRun_ok HQ hks N (by omega) (by omega)
            unfold ptr at cc
            go_wp2_with fail
            refine cc.mono ?_
            clear cc
            rintro e w6 ⟨r, rfl, hF, H6, hS6⟩
            have HR : Hid (∃ s' : Fr, PAt w6 p h s' ∧ FrOk s' ∧ s'.lo = L ∧ s'.ks.length = c ∧ Below w.heap.size w w6) := ⟨_, H6, run_ok hks N r, (run_lo s N r).trans hsl, (run_len s N r).trans hsn, HSE _ hS6⟩
            clear H6 hS6 hF q0 q1 q2 hr2 HQ HSE
            go_wp2_with fail
            go_meet
            exact HR.out
        by_cases h2 : f0 = 2
        · subst h2
          have cc := give_any HQ hks f1
          unfold ptr at cc
          go_wp2_with fail
          refine cc.mono ?_
          clear cc
          rintro e w6 ⟨rfl, H6, hS6⟩
          have HR : Hid (∃ s' : Fr, PAt w6 p h s' ∧ FrOk s' ∧ s'.lo = L ∧ s'.ks.length = c ∧ Below w.heap.size w w6) := ⟨_, H6, turn_ok hks f1 1 (by omega), (turn_lo s f1 1).trans hsl, (turn_len s f1 1).trans hsn, HSE _ hS6⟩
          clear H6 hS6 q0 q1 q2 hr2 HQ HSE
          go_wp2_with fail
          go_meet
          exact HR.out
        by_cases h3 : f0 = 3
        · subst h3
          have cc := defer_any HQ hks f1
          unfold ptr at cc
          go_wp2_with fail
          refine cc.mono ?_
          clear cc
          rintro e w6 ⟨rfl, H6, hS6⟩
          have HR : Hid (∃ s' : Fr, PAt w6 p h s' ∧ FrOk s' ∧ s'.lo = L ∧ s'.ks.length = c ∧ Below w.heap.size w w6) := ⟨_, H6, turn_ok hks f1 3 (by omega), (turn_lo s f1 3).trans hsl, (turn_len s f1 3).trans hsn, HSE _ hS6⟩
          clear H6 hS6 q0 q1 q2 hr2 HQ HSE
          go_wp2_with fail
          go_meet
          exact HR.out
        by_cases h4 : f0 = 4
        · subst h4
          have cc := sweep_any HQ hks _ f2 hr2
          unfold ptr at cc
          go_wp2_with fail
          refine cc.mono ?_
          clear cc
          rintro e w6 ⟨rfl, H6, hS6⟩
          have HR : Hid (∃ s' : Fr, PAt w6 p h s' ∧ FrOk s' ∧ s'.lo = L ∧ s'.ks.length = c ∧ Below w.heap.size w w6) := ⟨_, H6, sweep_ok hks f2, hsl, (sweepK_len s f2 s.ks.length).trans hsn, HSE _ hS6⟩
          clear H6 hS6 q0 q1 q2 hr2 HQ HSE
          go_wp2_with fail
          go_meet
          exact HR.out
        · have HR : Hid (∃ s' : Fr, PAt wq p h s' ∧ FrOk s' ∧ s'.lo = L ∧ s'.ks.length = c ∧ Below w.heap.size w wq) := ⟨s, HQ, hks, hsl, hsn, hB0⟩
          clear q1 q2 hr2 HQ HSE
          go_wp2_with fail
          go_meet
          exact HR.out
      case rest =>
        clear HQ HSE hr2 q0 q1 q2 hB0 hbr hm hsl hsn HK hks
        obtain ⟨s5, H5, hks5, hsl5, hsn5, hB5⟩ := hcut
        have hm5 := hks5.most
        rw [hsl5, hsn5] at hm5
        obtain ⟨wv, hwv⟩ : ∃ wv, wv = wc := ⟨_, rfl⟩
        subst hwv
        obtain ⟨M, hM⟩ : ∃ M, wv.heap.size = M := ⟨_, rfl⟩
        obtain ⟨wM, hwM⟩ : ∃ wM, wv.alloc (.map #[] 0) = wM := ⟨_, rfl⟩
        have hbM : Below wv.heap.size wv wM := by rw [← hwM]; exact (Below.refl _ wv).alloc (Nat.le_refl _) _
        have hsM : wM.heap.size = M + 1 := by rw [← hwM, ← hM]; simp
        have hoM : wM.ownsMap Try.prog 3 (plainElem (H := Unit) Try.prog 3) M 0 (.map []) := by rw [← hwM, ← hM]; exact World.ownsMap_made _ _ _ _
        have HM : PAt wM p h s5 := FrAt.below H5 hbM
        have hBM := hB5.trans (hbM.mono hB5.size)
        have hwM0 : w.heap.size ≤ M := by rw [← hM]; exact hB5.size
        obtain ⟨hpM, hhM⟩ : p < M ∧ h < M := by
          obtain ⟨_, _, _, _, _, q1, q2, _⟩ := FrAt.opened H5
          omega
        clear H5 hbM hB5 HP
        have cc := freeL_any HM hks5
        unfold ptr at cc
        go_wp2_with fail
        refine cc.mono ?_
        clear cc hwM
        rintro e w7 ⟨u1, rfl, ho7, hb7⟩
        have H7 : PAt w7 p h s5 := FrAt.below HM hb7
        have hs7 := hb7.size
        have cc := takenL_any H7 hks5
        unfold ptr at cc
        obtain ⟨a1', c1', rfl⟩ := rowI_slice ho7
        go_wp2_with fail
        refine cc.mono ?_
        clear cc
        rintro e w8 ⟨u2, rfl, ho8, hb8⟩
        have H8 : PAt w8 p h s5 := FrAt.below H7 hb8
        have hs8 := hb8.size
        have cc := waitingL_any H8 hks5
        unfold ptr at cc
        obtain ⟨a2', c2', rfl⟩ := rowI_slice ho8
        go_wp2_with fail
        refine cc.mono ?_
        clear cc
        rintro e w9 ⟨u3, rfl, ho9, hb9⟩
        have H9 : PAt w9 p h s5 := FrAt.below H8 hb9
        have hs9 := hb9.size
        obtain ⟨a3', c3', rfl⟩ := rowI_slice ho9
        obtain ⟨v1, hv1⟩ : ∃ v1, Value.slice a1' (blocksL s5 1).length c1' = v1 := ⟨_, rfl⟩
        obtain ⟨v2', hv2⟩ : ∃ v2', Value.slice a2' (blocksL s5 2).length c2' = v2' := ⟨_, rfl⟩
        obtain ⟨v3', hv3⟩ : ∃ v3', Value.slice a3' (blocksL s5 3).length c3' = v3' := ⟨_, rfl⟩
        obtain ⟨wB, hwB⟩ : ∃ wB, w9.alloc (.cells #[.slice a1' (blocksL s5 1).length c1', .slice a2' (blocksL s5 2).length c2', .slice a3' (blocksL s5 3).length c3'] 22) = wB := ⟨_, rfl⟩
        obtain ⟨G, hG⟩ : ∃ G, w9.heap.size = G := ⟨_, rfl⟩
        have hbB : Below w9.heap.size w9 wB := by rw [← hwB]; exact (Below.refl _ w9).alloc (Nat.le_refl _) _
        have hrow : wB.heap[w9.heap.size]? = some (.cells #[.slice a1' (blocksL s5 1).length c1', .slice a2' (blocksL s5 2).length c2', .slice a3' (blocksL s5 3).length c3'] 22 (0, 0)) := by rw [← hwB]; exact heap_alloc_new w9 _
        have HB : PAt wB p h s5 := FrAt.below H9 hbB
        have hBB : Below w.heap.size w wB := (((hBM.trans (hb7.mono (by omega))).trans (hb8.mono (by omega))).trans (hb9.mono (by omega))).trans (hbB.mono (by omega))
        have hoB : wB.ownsMap Try.prog 3 (plainElem (H := Unit) Try.prog 3) M 0 (.map []) := (((hoM.kept (grown_below hb7) (by simp)).kept (grown_below hb8) (by simp)).kept (grown_below hb9) (by simp)).kept (grown_below hbB) (by simp)
        have hGB : G < wB.heap.size := by rw [← hG]; exact (Array.getElem?_eq_some_iff.1 hrow).1
        rw [hG] at hrow hs9
        have hrows : ∀ j, j < 3 → ∃ ar cr, (∀ W, Sole [M] wB W → W.cell? ⟨G, j, none⟩ = some (.slice ar (blocksL s5 (j + 1)).length cr) ∧ RdI W (.slice ar (blocksL s5 (j + 1)).length cr) ((blocksL s5 (j + 1)).map (fun (x : Nat) => (x : Int)))) := fun j hj => by
          have cell : ∀ W, Sole [M] wB W → ∀ j : Nat, W.cell? ⟨G, j, none⟩ = #[Value.slice a1' (blocksL s5 1).length c1', .slice a2' (blocksL s5 2).length c2', .slice a3' (blocksL s5 3).length c3'][j]? := fun W hW j => by
            rw [World.cell?_of_block (w := wB) (a := ⟨G, j, none⟩) (hW.block G hGB (by simp; omega))]
            exact cell_of_row wB G j _ _ (0, 0) hrow
          have s98 := (Sole.of_below hb9 [M]).trans (Sole.of_below hbB [M])
          have s97 := (Sole.of_below hb8 [M]).trans s98
          match j, hj with
          | 0, _ => exact ⟨a1', c1', fun W hW => ⟨(cell W hW 0).trans rfl, rdI_own ho7 (q := M) (by omega) (s97.trans hW)⟩⟩
          | 1, _ => exact ⟨a2', c2', fun W hW => ⟨(cell W hW 1).trans rfl, rdI_own ho8 (q := M) (by omega) (s98.trans hW)⟩⟩
          | 2, _ => exact ⟨a3', c3', fun W hW => ⟨(cell W hW 2).trans rfl, rdI_own ho9 (q := M) (by omega) ((Sole.of_below hbB [M]).trans hW)⟩⟩
        have hthree := three_len hks5
        rw [hsn5] at hthree
        have hpl : ∀ j i, j < 3 → (preL s5 j ++ (blocksL s5 (j + 1)).take i).length ≤ 1024 := fun j i hj => by
          have := pre_le hks5 j i hj
          omega
        have hli : ∀ j, Listed s5 j (fun i => (blocksL s5 j).getD i 0) (blocksL s5 j).length := fun j => listed s5 j
        have hnew : ∀ j i x, j < 3 → (blocksL s5 (j + 1))[i]? = some x → x ∉ preL s5 j ++ (blocksL s5 (j + 1)).take i := fun j i x hj hx => pre_new s5 j i x hj hx
        have hnx : ∀ j, j < 3 → preL s5 (j + 1) = preL s5 j ++ blocksL s5 (j + 1) := pre_next s5
        have hc0 : preL s5 0 = [] := rfl
        have hc3 : preL s5 3 = threeL s5 := rfl
        clear hrow hb7 hb8 hb9 hbB ho7 ho8 ho9 H7 H8 H9 HM hoM hBM hs7 hs8 hs9 hv1 hv2 hv3
        go_wp2_with fail
        (try rw [hwB])
        (try rw [hG])
        clear hwB hG
        go_loopw [82] (fun t wr => ∃ (j : Nat) (D : DataW Unit), j ≤ 3 ∧ t = .int .i64 j ∧ wr.ownsMap Try.prog 3 (plainElem Try.prog 3) M (preL s5 j).length D ∧ Hid (Counts D (preL s5 j)) ∧ Sole [M] wB wr) (fun t _ => 3 - (intOf t).toNat)
        case atStart => exact ⟨0, _, by omega, rfl, hoB, counts_nil, Sole.refl _ _⟩
        case round =>
          obtain ⟨j, D, hj, rfl, hown, HC, hSB⟩ := hrel
          obtain ⟨wx, hwx⟩ : ∃ wx, wx = wr := ⟨_, rfl⟩
          subst hwx
          clear hoB
          by_cases hj3 : j < 3
          · have hjI : (j : Int) < 3 := by omega
            obtain ⟨ar, cr, hrw⟩ := hrows j hj3
            obtain ⟨xc, _⟩ := hrw wx hSB
            have hlj := hli (j + 1)
            have hplj := fun i => hpl j i hj3
            have hnj := fun i x => hnew j i x hj3
            have hnxj := hnx j hj3
            generalize hlb : blocksL s5 (j + 1) = l at *
            obtain ⟨P0, hP0⟩ : ∃ P0, preL s5 j = P0 := ⟨_, rfl⟩
            have HP1 : Hid (preL s5 (j + 1) = P0 ++ l) := by unfold Hid; rw [hnxj, hP0]
            rw [hP0] at hown HC
            simp only [hP0] at hplj hnj
            clear hrows hli hpl hnew hnx hnxj hP0 hlb
            have hcr : cr ≤ 9223372036854775807 := by
              obtain ⟨_, _, e, _, q, _⟩ := (hrw wx hSB).2
              simp only [Value.slice.injEq] at e
              obtain ⟨_, _, rfl⟩ := e
              unfold maxLen at q
              omega
            have hlr : l.length ≤ cr := by
              obtain ⟨_, _, e, q, _, _⟩ := (hrw wx hSB).2
              simp only [Value.slice.injEq] at e
              obtain ⟨_, _, rfl⟩ := e
              rw [List.length_map] at q
              exact q
            have hcl : 0 < l.length → ∃ g o6, ar = some ⟨g, o6, none⟩ ∧ ∀ W, Sole [M] wB W → ∀ i x, l[i]? = some x → W.cell? ⟨g, o6 + i, none⟩ = some (.int .i64 (x : Nat)) := fun hp => by
              obtain ⟨a', c', e, _, _, hcs⟩ := (hrw wx hSB).2
              rw [List.length_map] at e hcs
              simp only [Value.slice.injEq] at e
              obtain ⟨rfl, _, rfl⟩ := e
              obtain ⟨g, o6, e, hg, hcc⟩ := hcs hp
              refine ⟨g, o6, e, fun W hW i x hx => ?_⟩
              obtain ⟨a', c', e', _, _, hcs⟩ := (hrw W hW).2
              rw [List.length_map] at e' hcs
              simp only [Value.slice.injEq] at e'
              obtain ⟨rfl, _, rfl⟩ := e'
              obtain ⟨g', o6', e2, hg', hcc'⟩ := hcs hp
              rw [e] at e2
              simp only [Option.some.injEq, Addr.mk.injEq] at e2
              obtain ⟨rfl, rfl, _⟩ := e2
              exact hcc' i _ (by rw [List.getElem?_map, hx]; rfl)
            clear hrw
            have hll : l.length ≤ 1024 := by have := hplj l.length; rw [List.take_length, List.length_append] at this; omega
            generalize hml : l.length = m at *
            go_wp2_with fail
            go_loopw [88] (fun t wr => ∃ (i : Nat) (D : DataW Unit), i ≤ m ∧ t = .int .i64 i ∧ wr.ownsMap Try.prog 3 (plainElem Try.prog 3) M (P0 ++ l.take i).length D ∧ Hid (Counts D (P0 ++ l.take i)) ∧ Sole [M] wB wr) (fun t _ => m - (intOf t).toNat)
            case atStart => exact ⟨0, D, by omega, rfl, by rw [List.take_zero, List.append_nil]; exact hown, by rw [List.take_zero, List.append_nil]; exact HC, hSB⟩
            case round =>
              clear hown HC hSB xc
              obtain ⟨i, D1, hi, rfl, hown, HC, hSB⟩ := hrel
              obtain ⟨wy, hwy⟩ : ∃ wy, wy = wr := ⟨_, rfl⟩
              subst hwy
              by_cases hil : i < m
              · have hiI : (i : Int) < m := by omega
                obtain ⟨g, o6, rfl, hcs⟩ := hcl (by omega)
                have hxi : l[i]? = some (l.getD i 0) := by rw [List.getElem?_eq_getElem (by omega), List.getD_eq_getElem?_getD, List.getElem?_eq_getElem (by omega)]; rfl
                have xi := hcs wy hSB i _ hxi
                have hnx' := hnj i _ hxi
                have hlo1 := hlj.lo i hil
                rw [hsl5, hsn5] at hlo1
                have hpli := hplj i
                have hstep := HC.out.step (hown.tidy lawI) hnx'
                have hzero := fun (c0 : Int) => HC.out.zero hnx' (c := c0)
                have htk : l.take (i + 1) = l.take i ++ [l.getD i 0] := by rw [List.take_add_one, hxi]; rfl
                rw [List.append_assoc, ← htk] at hstep
                have HL : Hid ((P0 ++ l.take (i + 1)).length = (P0 ++ l.take i).length + 1) := by
                  unfold Hid
                  rw [htk, ← List.append_assoc, List.length_append]
                  rfl
                have hkey : keyOf Try.prog 3 (.int .i64 ((l.getD i 0 : Nat) : Int)) = some (keyI (l.getD i 0)) := keyOf_int_mk Try.underlying3 (WalkArith.wf_i64 (by omega))
                have hdl : ¬ ((l.getD i 0 : Nat) : Int) < L := by omega
                have hdr : ¬ (L : Int) + c ≤ ((l.getD i 0 : Nat) : Int) := by omega
                have hprev : 0 < i → ∃ y : Nat, wy.cell? ⟨g, o6 + (i - 1), none⟩ = some (.int .i64 y) ∧ y < l.getD i 0 := fun hp => by
                  have h1 : l[i - 1]? = some (l.getD (i - 1) 0) := by rw [List.getElem?_eq_getElem (by omega), List.getD_eq_getElem?_getD, List.getElem?_eq_getElem (by omega)]; rfl
                  exact ⟨_, hcs wy hSB _ _ h1, hlj.rise (i - 1) i (by omega) hil⟩
                generalize hx : l.getD i 0 = x at *
                generalize hnn : (P0 ++ l.take i).length = nn at *
                clear hx hcs hcl hnj hlj hplj hxi htk hnx' hnn
                have HST : Hid (Counts (D1.put (keyI x) oneI') (P0 ++ l.take (i + 1))) := hstep
                clear hstep HC
                by_cases hi0 : 0 < i
                · have hi0I : (0 : Int) < i := by omega
                  obtain ⟨y, xy, hyx⟩ := hprev hi0
                  have hyI : ¬ (x : Int) ≤ y := by omega
                  have hidx : (i : Int) - 1 = ((i - 1 : Nat) : Int) := by omega
                  generalize hi1 : i - 1 = i1 at *
                  have hi1m : i1 < m := by omega
                  clear hprev hyx
                  go_wp2_with (first
                    | (at_lookup; refine wpList_lookup_own_int _ rfl _ _ 43 rfl 3 3 .i64 lawI Try.underlying43 Try.underlying3 (zeroI _) M nn _ rfl hown _ _ rfl hkey ?_; intro c0 hat0 hwc; obtain rfl := hzero c0 hat0)
                    | (at_mapUpdate; refine wpList_mapUpdate_own _ rfl _ _ _ 43 rfl 3 3 lawI Try.underlying43 _ M nn _ rfl hown (by unfold maxLen; omega) _ _ _ rfl rfl hkey _ [] (plainElem_int Try.underlying3 (by decide)) ?_; intro wz hown1 hgrow1)
                    | fail)
                  go_roundw
                  case rel => exact ⟨i + 1, _, by omega, by go_num, by rw [HL.out]; exact hown1, HST, hSB.trans (sole_grown hgrow1)⟩
                  case measure => simp [intOf]; omega
                · have hi0I : ¬ (0 : Int) < i := by omega
                  clear hprev
                  go_wp2_with (first
                    | (at_lookup; refine wpList_lookup_own_int _ rfl _ _ 43 rfl 3 3 .i64 lawI Try.underlying43 Try.underlying3 (zeroI _) M nn _ rfl hown _ _ rfl hkey ?_; intro c0 hat0 hwc; obtain rfl := hzero c0 hat0)
                    | (at_mapUpdate; refine wpList_mapUpdate_own _ rfl _ _ _ 43 rfl 3 3 lawI Try.underlying43 _ M nn _ rfl hown (by unfold maxLen; omega) _ _ _ rfl rfl hkey _ [] (plainElem_int Try.underlying3 (by decide)) ?_; intro wz hown1 hgrow1)
                    | fail)
                  go_roundw
                  case rel => exact ⟨i + 1, _, by omega, by go_num, by rw [HL.out]; exact hown1, HST, hSB.trans (sole_grown hgrow1)⟩
                  case measure => simp [intOf]; omega
              · obtain rfl : i = m := by omega
                have hiI : ¬ (i : Int) < i := by omega
                rw [← hml, List.take_length] at hown HC
                have HO : Hid (wy.ownsMap Try.prog 3 (plainElem Try.prog 3) M (preL s5 (j + 1)).length D1) := by unfold Hid; rw [HP1.out]; exact hown
                have HCC : Hid (Counts D1 (preL s5 (j + 1))) := by unfold Hid; rw [HP1.out]; exact HC.out
                clear hcl hnj hlj hplj hown HC
                go_wp2_with fail
                go_roundw
                case rel => exact ⟨j + 1, D1, by omega, by go_num, HO.out, HCC, hSB⟩
                case measure => simp [intOf]; omega
          · obtain rfl : j = 3 := by omega
            rw [hc3] at hown HC
            clear hrows hli hpl hnew hnx
            have hsz := HC.out.size
            rw [hthree] at hsz
            have hone := HC.out.one
            have hkeyD := HC.out.key
            have HX : PAt wx p h s5 := FrAt.other HB hSB (by simp; omega) (by simp; omega)
            have hBX : Below w.heap.size w wx := hSB.belowOf hBB hBB.size (by simp; exact hwM0)
            have hval : ∀ (x c0 : Int), Maps.has D (.int .i64 x) = true → (∀ zd, D.atKey (.int .i64 x) zd = .lit (.int .i64 c0)) → c0 = 1 := fun x c0 hx hat => by
              obtain ⟨y, hy, e⟩ := hkeyD _ hx
              have h1 := hone y hy (.lit (.int .i64 0))
              rw [← e, hat] at h1
              unfold oneI' at h1
              simp only [DataW.lit.injEq, Lit.int.injEq, true_and] at h1
              exact h1
            clear hone hkeyD HC
            rw [hthree] at hown
            go_wp2_with (first
              | (at_len; refine wpList_len_own _ rfl _ 43 rfl 3 3 Try.underlying43 _ M c _ rfl hown ?_; rw [hsz])
              | (at_range; refine wpList_range_own _ rfl _ 43 rfl 3 3 lawI Try.underlying43 _ M c _ rfl hown ?_; intro w0 hrg0 hg0 hs0)
              | fail)
            go_frame
            clear hown hsz
            have hb125 : ((c : Int) != (L : Int) + c - L) = false := by rw [show (L : Int) + c - L = c from by omega]; simp
            rw [hb125]
            clear hb125
            go_loopw [18] (fun _ wr => ∃ (left : Lit → Bool) (cnt : Nat), wr.ranges Try.prog 3 (plainElem Try.prog 3) M wx.heap.size c D left cnt ∧ (∀ kl, left kl = true → Maps.has D kl = true) ∧ Sole [wx.heap.size] wx wr) (fun _ wr => wr.rangeLeft M wx.heap.size)
            case atStart => exact ⟨_, _, hrg0, fun _ h => h, ⟨hg0.os, hg0.tape, hg0.output, hg0.size, fun k hk _ => hg0.block k hk (by simp)⟩⟩
            case round =>
              obtain ⟨left, cnt, hrg, hlf, hSx⟩ := hrel
              clear hrg0 hg0 hs0
              obtain ⟨wy, hwy⟩ : ∃ wy, wy = wr := ⟨_, rfl⟩
              subst hwy
              go_wp2_with (first
                | (at_next; refine wpList_next_ranges_ii _ rfl _ rfl 3 3 .i64 .i64 lawI Try.underlying3 Try.underlying3 M wx.heap.size c _ _ _ rfl hrg ?_ ?_)
                | fail)
              · intro hc0' hl0
                have hX1 : wx.heap.size ∉ [p, h] := by simp; have := hBX.size; have := HX; obtain ⟨_, _, _, _, _, q1, q2, _⟩ := FrAt.opened HX; omega
                have HY : PAt wy p h s5 := FrAt.other HX hSx (by simp at hX1 ⊢; omega) (by simp at hX1 ⊢; omega)
                have hBY : Below w.heap.size w wy := hSx.belowOf hBX hBX.size (by simp; exact hBX.size)
                clear hrg hlf hval hl0
                go_wp2_with fail
                go_roundw
                case rel => exact ⟨k + 1, s5, by omega, by go_num, HY, hks5, hsl5, hsn5, hBY⟩
                case measure => simp [intOf]; omega
              · intro x c0 w1' cnt1 hwx hwc hlx hat1 hrg1 hlt1 hg1 hs1 hen
                obtain rfl := hval x c0 (hlf _ hlx) hat1
                clear hval
                go_wp2_with fail
                go_roundw
                case rel => exact ⟨_, cnt1, hrg1, fun kl hkl => hlf kl (by simp only [Bool.and_eq_true] at hkl; exact hkl.1), hSx.trans (sole_grown hg1)⟩
                case measure => rw [hrg1.left_eq, hrg.left_eq]; exact hlt1
    · obtain rfl : k = len := by omega
      clear hoc hok
      go_wp2
      go_ret
      exact ⟨rfl, hbr⟩

/-! ### The row -/
set_option maxRecDepth 100000 in
theorem lifted (os : Os) (started : os.Started) (H : Type) (enc : TypeId × Value → H) :
    ReturnsInHanded {} Try.checked os 4 .any (Rows.freeThreeSpec.pre6 enc Try.prog Try.f4 Rows.freeThreeRow.domain false) (Rows.freeThreeSpec.post enc Try.prog Try.f4 false true false false) := by
  refine returnsInHanded_of_change (C := Try.checked) own started (by kernel_rfl) Try.func4
    (ChangeSpec.witness6 (enc := enc) (C := Try.checked) false ⟨#[], #[.int .i64 0, .int .i64 0, .slice none 0 0], []⟩ 8 (by kernel_rfl) (by kernel_rfl) (by kernel_rfl) (by kernel_rfl)) ?_
  intro W base args ds gs before hval0 hW hcnd _
  have hval : ∀ (j : Nat) t v, Try.f4.params[j]? = some t → args[j]? = some v → Value.okWide Try.prog W .any base t v := hval0
  have hW' := hW
  obtain ⟨p, q, hA0, hV, rfl, hfz, hnd⟩ := hW
  have hA : DataW.TrodAll enc Try.prog W 0 (fun _ => true) true Try.f4.params.toList args.toList ds p := hA0
  rw [Try.params4] at hA hval
  obtain ⟨v0, vs0, d0, ds0, p0, q0, hargs, rfl, rfl, h0, r0⟩ := trodAll_cons hA
  obtain ⟨v1, vs1, d1, ds1, p1, q1, rfl, rfl, rfl, h1, r1⟩ := trodAll_cons r0
  obtain ⟨v2, vs2, d2, ds2, p2, q2, rfl, rfl, rfl, h2, r2⟩ := trodAll_cons r1
  obtain ⟨rfl, rfl, rfl⟩ := trodAll_nil r2
  obtain rfl : args = #[v0, v1, v2] := by cases args; simp_all
  obtain ⟨rfl, rfl⟩ := trodVars_none hV
  obtain ⟨a0, rfl, rfl, rfl, w0⟩ := open_int Try.underlying3 (hval 0 3 v0 rfl rfl) h0
  obtain ⟨a1, rfl, rfl, rfl, w1⟩ := open_int Try.underlying3 (hval 1 3 v1 rfl rfl) h1
  obtain ⟨a2, len2, cap2, rfl⟩ := okWide_slice Try.underlying23 (hval 2 23 v2 rfl rfl)
  have k2 := h2
  have lt2 : ∀ x ∈ p2, x.block < W.heap.size := by obtain ⟨m, hm⟩ := k2; exact DataW.trod_lt m _ _ _ hm
  obtain ⟨o2, w2⟩ : ∃ os, FopsAt W a2 len2 cap2 os := by
    obtain ⟨fuel, hf⟩ := h2
    exact fopsAt_of hf
  clear hA0 hval0
  refine (walk a0 a1 a2 len2 cap2 o2 W w0 w1 w2).mono fun e W' ⟨he, bel⟩ => ?_
  subst he
  exact ⟨_, rfl, _, _, _, [], _, [], hW', trodAll_mk1 (shut_bool Try.underlying4 _), (trodAll_cons_mk (shut_int Try.underlying3 w0) (trodAll_cons_mk (shut_int Try.underlying3 w1) (trodAll_cons_mk (Below.trod laidOut (by kernel_rfl) (of_decide_eq_true (by kernel_rfl)) k2 bel lt2) trodAll_mk0))), rfl, bel.frame _, fun h => by cases h⟩

theorem over : Rows.freeThreeRow.holds Try.pinned (OpenSpec.ofChange Rows.freeThreeSpec) :=
  OpenClaim.holds_of_wide 4 Try.f4 rfl rfl rfl rfl rfl rfl rfl ⟨rfl, rfl, rfl, rfl, rfl⟩ rfl rfl rfl rfl rfl (by kernel_rfl) Try.func4 (by kernel_rfl)
    (of_decide_eq_true (by kernel_rfl)) (by unfold Func.isWrapper; first | (rw [if_pos (by decide +kernel)]; kernel_rfl) | (rw [if_neg (by decide +kernel)]; exact ⟨rfl, rfl⟩))
    (fun os started H enc _ => lifted os started H enc)

end Go.Proofs.Ytljfdmjlilahjaa.freeThree

namespace Go.Proofs.Ytljfdmjlilahjaa
/-- The statement. -/
theorem freeThree_proved : Rows.FreeThreeSaid := freeThree.over
#print axioms freeThree_proved
end Go.Proofs.Ytljfdmjlilahjaa
