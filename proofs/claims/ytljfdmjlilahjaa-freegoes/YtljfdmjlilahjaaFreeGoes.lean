/- Proved: FreeGoes, for every input, with no condition: it answers true, and the slices read as they did. -/
import Derived.Test.YtljfdmjlilahjaaFWaits
import Derived.Test.YtljfdmjlilahjaaFNewR
import Derived.Test.YtljfdmjlilahjaaFRunR
import Derived.Test.YtljfdmjlilahjaaFSame
import Derived.Test.YtljfdmjlilahjaaFClone
import Derived.Test.YtljfdmjlilahjaaFArgS
import Derived.Deep.RegionHeld3
import Derived.BigQuiet
import Derived.Deep.QuietTactic
import Derived.WalkSmall
import Derived.ProofKit
import Derived.OpenShut
import Derived.ShutString
import Derived.ChangeOld
import Derived.Below
import Derived.Carry
import Derived.Deep.CutRange
import Derived.Deep.CutBlock
import Derived.SizedLaws
namespace Go.Proofs.Ytljfdmjlilahjaa.freeGoes
open Go.ChangeShapes Go.WideShapes Go.ChangeAt Go.RowKit
open Go.ChangeMaps (open_string shut_string)
set_option linter.unusedVariables false

theorem own : ownKnob Try.prog.godebug = none := by kernel_rfl
theorem laidOut : laidOutB Try.prog = true := by kernel_rfl

set_option maxRecDepth 100000 in
set_option maxHeartbeats 16000000 in
theorem walk (lo to_ : Int) (v : Value) (l : List Int) (a : Option Addr) (len cap : Nat) (os : List FopV) (w : World) (hlo : (Lit.int .i64 lo).wf = true) (hto : (Lit.int .i64 to_).wf = true) (hr : RdI w v l) (hio : IntsOk l) (hiz : IntsZ v l) (ho : FopsAt w a len cap os) :
    Calls Try.prog 3 #[.int .i64 lo, .int .i64 to_, v, .slice a len cap] w fun e w' => e = .returned (.bool true) ∧ Below w.heap.size w w' := by
  obtain ⟨hol, hlc, hcm, hok, hoc⟩ := ho
  unfold maxLen at hcm
  clear hlo hto hio
  go_enter Try.func3, Try.ntmps3
  go_wp2_with fail
  refine (live_any w).mono ?_
  rintro e w1 ⟨rfl, hb1⟩
  have hr1 := hr.below hb1
  go_wp2_with (at_builtin; refine wpList_copy_ints rfl _ _ rfl rfl v l rfl hr1 hiz ?_; intro v2 w2 ho2 hb2)
  have hB2 := hb1.trans (hb2.mono hb1.size)
  have hr2 := hr.below hB2
  obtain ⟨hrO, hcO⟩ := rdI_ownI ho2
  have hs1 := hb1.size
  -- the copy's own block, if it has one
  obtain ⟨G, S, nl, c2, hv2, hGS, hSw, HG0⟩ : ∃ (G : Nat) (S : List Nat) (nl c2 : Nat), (∃ a2, v2 = .slice a2 nl c2 ∧ nl ≤ c2 ∧ c2 ≤ 9223372036854775807 ∧ (0 < nl → a2 = some ⟨G, 0, none⟩)) ∧ (0 < nl → G ∈ S) ∧ (∀ k ∈ S, w.heap.size ≤ k ∧ k < w2.heap.size) ∧ ∀ W, Below w2.heap.size w2 W → ∀ j, j < nl → W.frozen? ⟨G, j, none⟩ = false ∧ ∃ x, W.cell? ⟨G, j, none⟩ = some (.int .i64 x) := by
    obtain ⟨a2, c2, hv, g1, g2, g3⟩ := hrO
    unfold maxLen at g2
    rcases hcO with ⟨rfl, h0⟩ | ⟨g, c, cur, rfl, hg1, hg2, hg3⟩
    · exact ⟨0, [], 0, 0, ⟨none, rfl, Nat.le_refl _, by omega, fun h => by omega⟩, fun h => by omega, fun k hk => (by cases hk), fun W hW j hj => by omega⟩
    · simp only [Value.slice.injEq] at hv
      obtain ⟨rfl, _, rfl⟩ := hv
      have hgl := (Array.getElem?_eq_some_iff.1 hg2).1
      refine ⟨g, [g], l.length, c, ⟨_, rfl, g1, by omega, fun _ => rfl⟩, fun _ => by simp, fun k hk => ?_, fun W hW j hj => ?_⟩
      · simp only [List.mem_singleton] at hk
        subst hk
        exact ⟨by omega, hgl⟩
      · obtain ⟨b, off, e, hbl, hcc⟩ := g3 (by omega)
        simp only [Option.some.injEq, Addr.mk.injEq] at e
        obtain ⟨rfl, rfl, _⟩ := e
        refine ⟨frozen_of_row W g j _ 3 ((hW.block g hgl).trans hg2), l[j], ?_⟩
        have := hcc j l[j] (List.getElem?_eq_getElem hj)
        rw [Nat.zero_add] at this
        exact (hW.cell (p := ⟨g, j, none⟩) hgl).trans this
  obtain ⟨a2, rfl, hnl1, hnl2, ha2⟩ := hv2
  have hEND : ∀ W W', Below w.heap.size w W → Sole S W W' → Below w.heap.size w W' := fun W W' h1 h2 => h2.belowOf h1 h1.size (fun k hk => (hSw k hk).1)
  clear hcO hr ho2
  by_cases harg : lo < 0 ∨ to_ ≤ lo ∨ 1024 < to_
  · go_wp2_with fail
    refine (new_arg w2 lo to_ _ harg).mono ?_
    rintro e w3 ⟨rfl, rfl⟩
    go_wp2_with fail
    refine (rnew_arg w3 lo to_ v harg).mono ?_
    rintro e w4 ⟨rfl, rfl⟩
    have HG1 : Hid (∀ j, j < nl → w4.frozen? ⟨G, j, none⟩ = false ∧ ∃ x, w4.cell? ⟨G, j, none⟩ = some (.int .i64 x)) := HG0 w4 (Below.refl _ _)
    have hB4 : Below w.heap.size w w4 := hB2
    clear harg hoc hok HG0
    go_wp2_with fail
    go_loopw [47] (fun t wr => ∃ i : Nat, i ≤ nl ∧ t = .int .i64 i ∧ Hid (∀ j, j < nl → wr.frozen? ⟨G, j, none⟩ = false ∧ ∃ x, wr.cell? ⟨G, j, none⟩ = some (.int .i64 x)) ∧ Sole S w4 wr) (fun t _ => nl - (intOf t).toNat)
    case atStart => exact ⟨0, Nat.zero_le _, rfl, HG1, Sole.refl _ _⟩
    case round =>
      obtain ⟨i, hi, rfl, HC, HS⟩ := hrel
      by_cases hlt : i < nl
      · have hltI : (i : Int) < nl := by omega
        obtain rfl := ha2 (by omega)
        obtain ⟨hf, x, hx⟩ := HC.out i hlt
        have HC' : Hid (∀ j, j < nl → (wr.setCell ⟨G, i, none⟩ (.int .i64 (-7))).frozen? ⟨G, j, none⟩ = false ∧ ∃ x, (wr.setCell ⟨G, i, none⟩ (.int .i64 (-7))).cell? ⟨G, j, none⟩ = some (.int .i64 x)) := fun j hj => by
          obtain ⟨q1, y, hy⟩ := HC.out j hj
          refine ⟨by rw [World.frozen?_setCell]; exact q1, ?_⟩
          by_cases e : j = i
          · subst e
            exact ⟨-7, World.cell?_setCell_same _ _ _ (by rw [hx])⟩
          · exact ⟨y, (World.cell?_setCell_other _ _ _ _ (by intro q; simp only [Addr.mk.injEq] at q; exact e q.2.1.symm)).trans hy⟩
        have HS' : Hid (Sole S w4 (wr.setCell ⟨G, i, none⟩ (.int .i64 (-7)))) := HS.trans (Sole.setCell _ _ (hGS (by omega)))
        clear HC hGS hSw
        go_wp2_with fail
        go_roundw
        case rel => exact ⟨i + 1, by omega, by go_num, HC', HS'.out⟩
        case measure => simp [intOf]; omega
      · have hltI : ¬ (i : Int) < nl := by omega
        have hB5 := hEND w4 wr hB4 HS
        clear HC
        go_wp2
        go_ret
        exact ⟨rfl, hB5⟩
  obtain ⟨L, rfl⟩ : ∃ L : Nat, (L : Int) = lo := ⟨lo.toNat, by omega⟩
  obtain ⟨c, hc, hc1⟩ : ∃ c : Nat, to_ = (L : Int) + c ∧ 1 ≤ c ∧ L + c ≤ 1024 := ⟨(to_ - L).toNat, by omega, by omega, by omega⟩
  subst hc
  clear harg
  go_wp2_with fail
  refine (new_ok w2 L c hc1.1 hc1.2 _ l hrO).mono ?_
  rintro e w3 hno
  unfold NewOut at hno
  obtain ⟨hb3, hcase⟩ := hno
  have hB3 := hB2.trans (hb3.mono hB2.size)
  have hr3 := hr2.below hb3
  rcases hcase with ⟨hA1, rfl⟩ | ⟨hA1, hA2, rfl⟩ | ⟨hA1, ks, p, h, hA2, rfl, H3, hok3, hp, hh⟩
  · go_wp2_with fail
    refine (rnew_ok w3 L c hc1.1 hc1.2 v l hr3).mono ?_
    rintro e w4 hno
    unfold RNewOut at hno
    obtain ⟨hb4, hcase⟩ := hno
    have hB4 := hB3.trans (hb4.mono hB3.size)
    have HG1 : Hid (∀ j, j < nl → w4.frozen? ⟨G, j, none⟩ = false ∧ ∃ x, w4.cell? ⟨G, j, none⟩ = some (.int .i64 x)) := HG0 w4 (hb3.trans (hb4.mono hb3.size))
    rcases hcase with ⟨_, rfl⟩ | ⟨hA3, _, _⟩ | ⟨hA3, _⟩
    case inr.inl => rw [hA1] at hA3; cases hA3
    case inr.inr => rw [hA1] at hA3; cases hA3
    clear hoc hok HG0 hA1
    go_wp2_with fail
    go_loopw [47] (fun t wr => ∃ i : Nat, i ≤ nl ∧ t = .int .i64 i ∧ Hid (∀ j, j < nl → wr.frozen? ⟨G, j, none⟩ = false ∧ ∃ x, wr.cell? ⟨G, j, none⟩ = some (.int .i64 x)) ∧ Sole S w4 wr) (fun t _ => nl - (intOf t).toNat)
    case atStart => exact ⟨0, Nat.zero_le _, rfl, HG1, Sole.refl _ _⟩
    case round =>
      obtain ⟨i, hi, rfl, HC, HS⟩ := hrel
      by_cases hlt : i < nl
      · have hltI : (i : Int) < nl := by omega
        obtain rfl := ha2 (by omega)
        obtain ⟨hf, x, hx⟩ := HC.out i hlt
        have HC' : Hid (∀ j, j < nl → (wr.setCell ⟨G, i, none⟩ (.int .i64 (-7))).frozen? ⟨G, j, none⟩ = false ∧ ∃ x, (wr.setCell ⟨G, i, none⟩ (.int .i64 (-7))).cell? ⟨G, j, none⟩ = some (.int .i64 x)) := fun j hj => by
          obtain ⟨q1, y, hy⟩ := HC.out j hj
          refine ⟨by rw [World.frozen?_setCell]; exact q1, ?_⟩
          by_cases e : j = i
          · subst e
            exact ⟨-7, World.cell?_setCell_same _ _ _ (by rw [hx])⟩
          · exact ⟨y, (World.cell?_setCell_other _ _ _ _ (by intro q; simp only [Addr.mk.injEq] at q; exact e q.2.1.symm)).trans hy⟩
        have HS' : Hid (Sole S w4 (wr.setCell ⟨G, i, none⟩ (.int .i64 (-7)))) := HS.trans (Sole.setCell _ _ (hGS (by omega)))
        clear HC hGS hSw
        go_wp2_with fail
        go_roundw
        case rel => exact ⟨i + 1, by omega, by go_num, HC', HS'.out⟩
        case measure => simp [intOf]; omega
      · have hltI : ¬ (i : Int) < nl := by omega
        have hB5 := hEND w4 wr hB4 HS
        clear HC
        go_wp2
        go_ret
        exact ⟨rfl, hB5⟩
  · go_wp2_with fail
    refine (rnew_ok w3 L c hc1.1 hc1.2 v l hr3).mono ?_
    rintro e w4 hno
    unfold RNewOut at hno
    obtain ⟨hb4, hcase⟩ := hno
    have hB4 := hB3.trans (hb4.mono hB3.size)
    have HG1 : Hid (∀ j, j < nl → w4.frozen? ⟨G, j, none⟩ = false ∧ ∃ x, w4.cell? ⟨G, j, none⟩ = some (.int .i64 x)) := HG0 w4 (hb3.trans (hb4.mono hb3.size))
    rcases hcase with ⟨hA3, _⟩ | ⟨_, _, rfl⟩ | ⟨_, _, _, _, hA3, _⟩
    case inl => rw [hA1] at hA3; cases hA3
    case inr.inr => rw [hA2] at hA3; cases hA3
    clear hoc hok HG0 hA1 hA2
    go_wp2_with fail
    go_loopw [47] (fun t wr => ∃ i : Nat, i ≤ nl ∧ t = .int .i64 i ∧ Hid (∀ j, j < nl → wr.frozen? ⟨G, j, none⟩ = false ∧ ∃ x, wr.cell? ⟨G, j, none⟩ = some (.int .i64 x)) ∧ Sole S w4 wr) (fun t _ => nl - (intOf t).toNat)
    case atStart => exact ⟨0, Nat.zero_le _, rfl, HG1, Sole.refl _ _⟩
    case round =>
      obtain ⟨i, hi, rfl, HC, HS⟩ := hrel
      by_cases hlt : i < nl
      · have hltI : (i : Int) < nl := by omega
        obtain rfl := ha2 (by omega)
        obtain ⟨hf, x, hx⟩ := HC.out i hlt
        have HC' : Hid (∀ j, j < nl → (wr.setCell ⟨G, i, none⟩ (.int .i64 (-7))).frozen? ⟨G, j, none⟩ = false ∧ ∃ x, (wr.setCell ⟨G, i, none⟩ (.int .i64 (-7))).cell? ⟨G, j, none⟩ = some (.int .i64 x)) := fun j hj => by
          obtain ⟨q1, y, hy⟩ := HC.out j hj
          refine ⟨by rw [World.frozen?_setCell]; exact q1, ?_⟩
          by_cases e : j = i
          · subst e
            exact ⟨-7, World.cell?_setCell_same _ _ _ (by rw [hx])⟩
          · exact ⟨y, (World.cell?_setCell_other _ _ _ _ (by intro q; simp only [Addr.mk.injEq] at q; exact e q.2.1.symm)).trans hy⟩
        have HS' : Hid (Sole S w4 (wr.setCell ⟨G, i, none⟩ (.int .i64 (-7)))) := HS.trans (Sole.setCell _ _ (hGS (by omega)))
        clear HC hGS hSw
        go_wp2_with fail
        go_roundw
        case rel => exact ⟨i + 1, by omega, by go_num, HC', HS'.out⟩
        case measure => simp [intOf]; omega
      · have hltI : ¬ (i : Int) < nl := by omega
        have hB5 := hEND w4 wr hB4 HS
        clear HC
        go_wp2
        go_ret
        exact ⟨rfl, hB5⟩
  · unfold ptr
    go_wp2_with fail
    refine (rnew_ok w3 L c hc1.1 hc1.2 v l hr3).mono ?_
    rintro e w4 hno
    unfold RNewOut at hno
    obtain ⟨hb4, hcase⟩ := hno
    have hB4 := hB3.trans (hb4.mono hB3.size)
    have HG1 : Hid (∀ j, j < nl → w4.frozen? ⟨G, j, none⟩ = false ∧ ∃ x, w4.cell? ⟨G, j, none⟩ = some (.int .i64 x)) := HG0 w4 (hb3.trans (hb4.mono hb3.size))
    rcases hcase with ⟨hA3, _⟩ | ⟨_, hA3, _⟩ | ⟨_, ks', p', h', hA3, rfl, H4', hok4, hp', hh'⟩
    case inl => rw [hA1] at hA3; cases hA3
    case inr.inl => rw [hA2] at hA3; cases hA3
    obtain rfl : ks = ks' := by rw [hA2] at hA3; exact Option.some.inj hA3
    have H4 : PAt w4 p h ⟨L, ks⟩ := FrAt.below H3 hb4
    have hs2 := hB2.size
    have hs3 := hb3.size
    have HPS : Hid (p ∉ S ∧ h ∉ S ∧ p' ∉ S ∧ h' ∉ S) := ⟨fun q => by have := (hSw _ q).2; omega, fun q => by have := (hSw _ q).2; omega, fun q => by have := (hSw _ q).2; omega, fun q => by have := (hSw _ q).2; omega⟩
    have HLO : Hid (w.heap.size ≤ h ∧ w.heap.size ≤ h') := by unfold Hid; omega
    clear HG0 hA1 hA2 hA3 H3 hb3 hb4 hp hh hp' hh' hs1 hs2 hs3 hr2 hr3 hrO
    unfold ptr
    go_wp2_with fail
    go_loopw [47] (fun t wr => ∃ i : Nat, i ≤ nl ∧ t = .int .i64 i ∧ Hid (∀ j, j < nl → wr.frozen? ⟨G, j, none⟩ = false ∧ ∃ x, wr.cell? ⟨G, j, none⟩ = some (.int .i64 x)) ∧ Sole S w4 wr) (fun t _ => nl - (intOf t).toNat)
    case atStart => exact ⟨0, Nat.zero_le _, rfl, HG1, Sole.refl _ _⟩
    case round =>
      obtain ⟨i, hi, rfl, HC, HS⟩ := hrel
      by_cases hlt : i < nl
      · have hltI : (i : Int) < nl := by omega
        obtain rfl := ha2 (by omega)
        obtain ⟨hf, x, hx⟩ := HC.out i hlt
        have HC' : Hid (∀ j, j < nl → (wr.setCell ⟨G, i, none⟩ (.int .i64 (-7))).frozen? ⟨G, j, none⟩ = false ∧ ∃ x, (wr.setCell ⟨G, i, none⟩ (.int .i64 (-7))).cell? ⟨G, j, none⟩ = some (.int .i64 x)) := fun j hj => by
          obtain ⟨q1, y, hy⟩ := HC.out j hj
          refine ⟨by rw [World.frozen?_setCell]; exact q1, ?_⟩
          by_cases e : j = i
          · subst e
            exact ⟨-7, World.cell?_setCell_same _ _ _ (by rw [hx])⟩
          · exact ⟨y, (World.cell?_setCell_other _ _ _ _ (by intro q; simp only [Addr.mk.injEq] at q; exact e q.2.1.symm)).trans hy⟩
        have HS' : Hid (Sole S w4 (wr.setCell ⟨G, i, none⟩ (.int .i64 (-7)))) := HS.trans (Sole.setCell _ _ (hGS (by omega)))
        clear HC hGS hSw
        go_wp2_with fail
        go_roundw
        case rel => exact ⟨i + 1, by omega, by go_num, HC', HS'.out⟩
        case measure => simp [intOf]; omega
      · have hltI : ¬ (i : Int) < nl := by omega
        have hB5 := hEND w4 wr hB4 HS
        clear HC
        have H5 : PAt wr p h ⟨L, ks⟩ := FrAt.other H4 HS HPS.out.1 HPS.out.2.1
        have H5' : RAt wr p' h' ⟨L, ks⟩ := FrAt.other H4' HS HPS.out.2.2.1 HPS.out.2.2.2
        clear H4 H4' HS HG1 hB4 hEND HPS hGS hSw ha2
        by_cases hmany : 150 < len
        · have hmI : (150 : Int) < len := by omega
          clear hoc hok H5 H5'
          go_wp2
          go_ret
          exact ⟨rfl, hB5⟩
        have hmI : ¬ (150 : Int) < len := by omega
        generalize Fr.mk L ks = s0 at *
        go_wp2_with fail
        go_loopw [11, 74] (fun m t wr => ∃ (k : Nat) (s : Fr) (p h : Nat), k ≤ len ∧ t = .int .i64 k ∧ m = .pointer (some ⟨p, 0, none⟩) ∧ PAt wr p h s ∧ RAt wr p' h' s ∧ FrOk s ∧ w.heap.size ≤ h ∧ Below w.heap.size w wr) (fun _ t _ => len - (intOf t).toNat)
        case atStart => exact ⟨0, s0, p, h, Nat.zero_le _, rfl, rfl, H5, H5', hok3, HLO.out.1, hB5⟩
        case round =>
          have HLO' : Hid (w.heap.size ≤ h') := HLO.out.2
          clear H5 H5' hok3 hB5 HLO
          obtain ⟨k, s, p, h, hk, rfl, rfl, HS1, HS1', hks, hhw, hbr⟩ := hrel
          obtain ⟨wy, hwy⟩ : ∃ wy, wy = wr := ⟨_, rfl⟩
          subst hwy
          have hm := hks.most
          have hap := maps_apart HS1 HS1'
          by_cases hlt : k < len
          · have hltI : (k : Int) < len := by omega
            obtain ⟨b, off, rfl, hbl, hat⟩ := hoc (by omega)
            have hoo : FopOk (os.getD k fop0) := hok _ (by rw [List.getD_eq_getElem?_getD, List.getElem?_eq_getElem (by omega)]; exact List.getElem_mem _)
            have hoW : ∀ W, Below w.heap.size w W → FopAt W b (off + k * 4) (os.getD k fop0) := fun W hW => (hat k hlt).below hbl hW
            generalize os.getD k fop0 = o at *
            have ho := hoW wy hbr
            have c0 := ho.c0
            have c1 := ho.c1
            have c2 := ho.c2
            have c3 := ho.c3
            have a1 := hoo.a1
            have hrd := ho.rd
            clear hat hoc hok ho
            obtain ⟨f0, f1, v2, f2, f3⟩ := o
            dsimp only at *
            obtain ⟨a2', cp2, hv2, hcp2, hcm2, _⟩ := hrd
            unfold maxLen at hcm2
            subst hv2
            obtain ⟨n2, hn2⟩ : ∃ n2, f2.length = n2 := ⟨_, rfl⟩
            rw [hn2] at c2 hcp2
            obtain ⟨ob, hob⟩ : ∃ ob, wy.heap.size = ob := ⟨_, rfl⟩
            obtain ⟨wq, hwq⟩ : ∃ wq, wy.alloc (.cells #[.int .i64 f0, .int .i64 f1, .slice a2' n2 cp2, .bool f3] 33) = wq := ⟨_, rfl⟩
            have hbq : Below wy.heap.size wy wq := by rw [← hwq]; exact (Below.refl _ wy).alloc (Nat.le_refl _) _
            have hrow : wq.heap[ob]? = some (.cells #[.int .i64 f0, .int .i64 f1, .slice a2' n2 cp2, .bool f3] 33 (0, 0)) := by rw [← hwq, ← hob]; exact heap_alloc_new wy _
            have hobq : ob < wq.heap.size := (Array.getElem?_eq_some_iff.1 hrow).1
            obtain ⟨hpo, hho⟩ : p < ob ∧ h < ob := by obtain ⟨_, _, _, _, _, x1, x2, _⟩ := FrAt.opened HS1; omega
            obtain ⟨hpo', hho'⟩ : p' < ob ∧ h' < ob := by obtain ⟨_, _, _, _, _, x1, x2, _⟩ := FrAt.opened HS1'; omega
            have HQ : PAt wq p h s := FrAt.below HS1 hbq
            have HQ' : RAt wq p' h' s := FrAt.below HS1' hbq
            have hB0 : Below w.heap.size w wq := hbr.trans (hbq.mono hbr.size)
            have hcW : ∀ W, Sole [h, h'] wq W → W.cell? ⟨ob, 0, none⟩ = some (.int .i64 f0) ∧ W.cell? ⟨ob, 1, none⟩ = some (.int .i64 f1) ∧ W.cell? ⟨ob, 2, none⟩ = some (.slice a2' n2 cp2) ∧ W.cell? ⟨ob, 3, none⟩ = some (.bool f3) := fun W hW => by
              have e := fun j => World.cell?_of_block (w := wq) (a := ⟨ob, j, none⟩) (hW.block _ hobq (by simp; omega))
              exact ⟨(e 0).trans (by rw [cell_of_row _ _ 0 _ _ (0, 0) hrow]; rfl), (e 1).trans (by rw [cell_of_row _ _ 1 _ _ (0, 0) hrow]; rfl), (e 2).trans (by rw [cell_of_row _ _ 2 _ _ (0, 0) hrow]; rfl), (e 3).trans (by rw [cell_of_row _ _ 3 _ _ (0, 0) hrow]; rfl)⟩
            obtain ⟨q0, q1, q2, q3⟩ := hcW wq (Sole.refl _ _)
            have HSE : ∀ w', Sole [h, h'] wq w' → Below w.heap.size w w' := fun w' hS => hS.belowOf hB0 hB0.size (fun k hk => by have := HLO'.out; simp at hk; omega)
            have hr2 : ∀ W, Sole [h, h'] wq W → RdI W (.slice a2' n2 cp2) f2 := fun W hW => by have := (hoW W (HSE W hW)).rd; rw [hn2] at this; exact this
            clear HS1 HS1' hbq hrow hoW
            go_upto_block 4 with fail
            (try rw [hwq])
            (try rw [hob])
            clear hwq hob
            go_cut [18, 19, 20, 21, 22, 23, 24, 25, 26] from 75 to 180 (fun ok y1 y2 y3 y4 y5 y6 y7 y8 wx => ok = .bool true ∧ ∃ (s' : Fr), PAt wx p h s' ∧ RAt wx p' h' s' ∧ FrOk s' ∧ wx.cell? ⟨ob, 3, none⟩ = some (.bool f3) ∧ Below w.heap.size w wx)
            case first =>
              clear c0 c1 c2 c3
              by_cases h0 : f0 = 0
              · subst h0
                have cc := take_any HQ hks
                unfold ptr at cc
                go_wp2_with fail
                refine cc.mono ?_
                clear cc
                rintro e w6 ⟨r, rfl, hF, H6, hS6⟩
                have HR6 : RAt w6 p' h' s := FrAt.other HQ' hS6 (by simp; exact Ne.symm hap.2.2.1) (by simp; exact Ne.symm hap.2.2.2)
                have hS06 : Sole [h, h'] wq w6 := hS6.mono (by simp)
                have cc := rtakeRun_ok HR6 hks 1 (by omega) (by omega)
                unfold ptr at cc
                go_wp2_with fail
                refine cc.mono ?_
                clear cc
                rintro e w7 ⟨r', rfl, hF', H7, hS7⟩
                obtain rfl := first_unique hF hF'
                have hS07 := hS06.trans (hS7.mono (S' := [h, h']) (by simp))
                have HR : Hid (∃ (s' : Fr), PAt w7 p h s' ∧ RAt w7 p' h' s' ∧ FrOk s' ∧ w7.cell? ⟨ob, 3, none⟩ = some (.bool f3) ∧ Below w.heap.size w w7) := ⟨_, FrAt.other H6 hS7 (by simp; exact hap.2.1) (by simp; exact hap.2.2.2), H7, run_ok hks 1 r, (hcW w7 hS07).2.2.2, HSE _ hS07⟩
                generalize runV s r = V at *
                generalize runE r = E at *
                clear hF hF' H6 hS6 hS06 HR6 H7 hS7 hS07 HSE hcW HQ HQ' hr2 q0 q1 q2
                go_wp2_with fail
                go_meet
                exact ⟨rfl, HR.out⟩
              by_cases h1 : f0 = 1
              · subst h1
                by_cases hn1 : f1 < 1
                · have cc := takeRun_arg (w := wq) (p := p) f1 hn1
                  unfold ptr at cc
                  go_wp2_with fail
                  refine cc.mono ?_
                  clear cc
                  rintro e w6 ⟨rfl, rfl⟩
                  have cc := rtakeRun_arg (w := w6) (p := p') f1 hn1
                  unfold ptr at cc
                  go_wp2_with fail
                  refine cc.mono ?_
                  clear cc
                  rintro e w7 ⟨rfl, rfl⟩
                  have HR : Hid (∃ (s' : Fr), PAt w7 p h s' ∧ RAt w7 p' h' s' ∧ FrOk s' ∧ w7.cell? ⟨ob, 3, none⟩ = some (.bool f3) ∧ Below w.heap.size w w7) := ⟨_, HQ, HQ', hks, q3, hB0⟩
                  clear HSE hcW HQ HQ' hr2 q0 q1 q2
                  go_wp2_with fail
                  go_meet
                  exact ⟨rfl, HR.out⟩
                · obtain ⟨N, rfl⟩ : ∃ N : Nat, (N : Int) = f1 := ⟨f1.toNat, by omega⟩
                  have cc := takeRun_ok HQ hks N (by omega) (by omega)
                  unfold ptr at cc
                  go_wp2_with fail
                  refine cc.mono ?_
                  clear cc
                  rintro e w6 ⟨r, rfl, hF, H6, hS6⟩
                  have HR6 : RAt w6 p' h' s := FrAt.other HQ' hS6 (by simp; exact Ne.symm hap.2.2.1) (by simp; exact Ne.symm hap.2.2.2)
                  have hS06 : Sole [h, h'] wq w6 := hS6.mono (by simp)
                  have q16 := (hcW w6 hS06).2.1
                  have cc := rtakeRun_ok HR6 hks N (by omega) (by omega)
                  unfold ptr at cc
                  go_wp2_with fail
                  refine cc.mono ?_
                  clear cc
                  rintro e w7 ⟨r', rfl, hF', H7, hS7⟩
                  obtain rfl := first_unique hF hF'
                  have hS07 := hS06.trans (hS7.mono (S' := [h, h']) (by simp))
                  have HR : Hid (∃ (s' : Fr), PAt w7 p h s' ∧ RAt w7 p' h' s' ∧ FrOk s' ∧ w7.cell? ⟨ob, 3, none⟩ = some (.bool f3) ∧ Below w.heap.size w w7) := ⟨_, FrAt.other H6 hS7 (by simp; exact hap.2.1) (by simp; exact hap.2.2.2), H7, run_ok hks N r, (hcW w7 hS07).2.2.2, HSE _ hS07⟩
                  generalize runV s r = V at *
                  generalize runE r = E at *
                  clear hF hF' H6 hS6 hS06 HR6 H7 hS7 hS07 HSE hcW HQ HQ' hr2 q0 q1 q2 q16
                  go_wp2_with fail
                  go_meet
                  exact ⟨rfl, HR.out⟩
              by_cases h2 : f0 = 2
              · subst h2
                have hG : ∀ W, PAt W p h s → Calls Try.prog 13 #[.pointer (some ⟨p, 0, none⟩), .int .i64 f1] W fun e w' => e = .returned (.int .i64 (turnE s f1)) ∧ PAt w' p h (turnF s f1 1) ∧ Sole [h] W w' := fun W HW => by
                  have := give_any HW hks f1
                  unfold ptr at this
                  exact this
                have hT : ∀ W, RAt W p' h' s → Calls Try.prog 14 #[.pointer (some ⟨p', 0, none⟩), .int .i64 f1, .int .i64 0] W fun e w' => e = .returned (.int .i64 (turnE s f1)) ∧ RAt w' p' h' (turnF s f1 1) ∧ Sole [h'] W w' := fun W HW => by
                  have := rturn_any HW hks f1 a1.2 1 (by omega) (by omega)
                  rw [show ((1 : Nat) : Int) - 1 = 0 from by omega] at this
                  unfold ptr at this
                  exact this
                have hkt := turn_ok hks f1 1 (by omega)
                have q1W : ∀ W, Sole [h, h'] wq W → W.cell? ⟨ob, 1, none⟩ = some (.int .i64 f1) := fun W hW => (hcW W hW).2.1
                have HQd : PAt wq.drew p h s := FrAt.below HQ (Below.refl _ _).drew
                have HQd' : RAt wq.drew p' h' s := FrAt.below HQ' (Below.refl _ _).drew
                have oG : ∀ (W W' : World) (s' : Fr), RAt W p' h' s' → Sole [h] W W' → RAt W' p' h' s' := fun W W' s' HW hS => FrAt.other HW hS (by simp; exact Ne.symm hap.2.2.1) (by simp; exact Ne.symm hap.2.2.2)
                have oT : ∀ (W W' : World) (s' : Fr), PAt W p h s' → Sole [h'] W W' → PAt W' p h s' := fun W W' s' HW hS => FrAt.other HW hS (by simp; exact hap.2.1) (by simp; exact hap.2.2.2)
                have sG : ∀ (W W' : World), Sole [h] W W' → Sole [h, h'] W W' := fun W W' hS => hS.mono (by simp)
                have sT : ∀ (W W' : World), Sole [h'] W W' → Sole [h, h'] W W' := fun W W' hS => hS.mono (by simp)
                generalize turnE s f1 = E at *
                generalize turnF s f1 1 = sF at *
                have hFIN : ∀ W, PAt W p h sF → RAt W p' h' sF → Sole [h, h'] wq W → Hid (∃ (s' : Fr), PAt W p h s' ∧ RAt W p' h' s' ∧ FrOk s' ∧ W.cell? ⟨ob, 3, none⟩ = some (.bool f3) ∧ Below w.heap.size w W) := fun W h1 h2 h3 => ⟨sF, h1, h2, hkt, (hcW W h3).2.2.2, HSE W h3⟩
                clear hr2 q1 q2 q3 HQ HQ' hkt
                go_wp2_with fail
                clear hcW HSE q0
                refine wp_region_noPanic ?_
                go_region_held (fun W => Sole [h, h'] wq W) (first | assumption | exact Sole.drew _ _ | exact Sole.trans (by assumption) (by assumption))
                  (first
                    | (go_at_call 13; refine (hG _ ?_).mono ?_; (first | exact HQd | assumption); rintro e wg ⟨rfl, HG, hSg⟩; have hSg2 := sG _ _ hSg; (first | have HRg := oG _ _ _ HQd' hSg | have HRg := oG _ _ _ HT hSg))
                    | (go_at_call 14; refine (hT _ ?_).mono ?_; (first | exact HQd' | assumption); rintro e wt ⟨rfl, HT, hSt⟩; have hSt2 := sT _ _ hSt; (first | have HPt := oT _ _ _ HQd hSt | have HPt := oT _ _ _ HG hSt)))
                all_goals
                  refine NoPanic.normal ?_
                  have HR := hFIN _ (by assumption) (by assumption) (by assumption)
                  clear hG hT q1W HQd HQd' oG oT sG sT hFIN
                  go_wp2_with fail
                  go_meet
                  exact ⟨rfl, HR.out⟩
              by_cases h3 : f0 = 3
              · subst h3
                have hG : ∀ W, PAt W p h s → Calls Try.prog 15 #[.pointer (some ⟨p, 0, none⟩), .int .i64 f1] W fun e w' => e = .returned (.int .i64 (turnE s f1)) ∧ PAt w' p h (turnF s f1 3) ∧ Sole [h] W w' := fun W HW => by
                  have := defer_any HW hks f1
                  unfold ptr at this
                  exact this
                have hT : ∀ W, RAt W p' h' s → Calls Try.prog 14 #[.pointer (some ⟨p', 0, none⟩), .int .i64 f1, .int .i64 2] W fun e w' => e = .returned (.int .i64 (turnE s f1)) ∧ RAt w' p' h' (turnF s f1 3) ∧ Sole [h'] W w' := fun W HW => by
                  have := rturn_any HW hks f1 a1.2 3 (by omega) (by omega)
                  rw [show ((3 : Nat) : Int) - 1 = 2 from by omega] at this
                  unfold ptr at this
                  exact this
                have hkt := turn_ok hks f1 3 (by omega)
                have q1W : ∀ W, Sole [h, h'] wq W → W.cell? ⟨ob, 1, none⟩ = some (.int .i64 f1) := fun W hW => (hcW W hW).2.1
                have HQd : PAt wq.drew p h s := FrAt.below HQ (Below.refl _ _).drew
                have HQd' : RAt wq.drew p' h' s := FrAt.below HQ' (Below.refl _ _).drew
                have oG : ∀ (W W' : World) (s' : Fr), RAt W p' h' s' → Sole [h] W W' → RAt W' p' h' s' := fun W W' s' HW hS => FrAt.other HW hS (by simp; exact Ne.symm hap.2.2.1) (by simp; exact Ne.symm hap.2.2.2)
                have oT : ∀ (W W' : World) (s' : Fr), PAt W p h s' → Sole [h'] W W' → PAt W' p h s' := fun W W' s' HW hS => FrAt.other HW hS (by simp; exact hap.2.1) (by simp; exact hap.2.2.2)
                have sG : ∀ (W W' : World), Sole [h] W W' → Sole [h, h'] W W' := fun W W' hS => hS.mono (by simp)
                have sT : ∀ (W W' : World), Sole [h'] W W' → Sole [h, h'] W W' := fun W W' hS => hS.mono (by simp)
                generalize turnE s f1 = E at *
                generalize turnF s f1 3 = sF at *
                have hFIN : ∀ W, PAt W p h sF → RAt W p' h' sF → Sole [h, h'] wq W → Hid (∃ (s' : Fr), PAt W p h s' ∧ RAt W p' h' s' ∧ FrOk s' ∧ W.cell? ⟨ob, 3, none⟩ = some (.bool f3) ∧ Below w.heap.size w W) := fun W h1 h2 h3 => ⟨sF, h1, h2, hkt, (hcW W h3).2.2.2, HSE W h3⟩
                clear hr2 q1 q2 q3 HQ HQ' hkt
                go_wp2_with fail
                clear hcW HSE q0
                refine wp_region_noPanic ?_
                go_region_held (fun W => Sole [h, h'] wq W) (first | assumption | exact Sole.drew _ _ | exact Sole.trans (by assumption) (by assumption))
                  (first
                    | (go_at_call 15; refine (hG _ ?_).mono ?_; (first | exact HQd | assumption); rintro e wg ⟨rfl, HG, hSg⟩; have hSg2 := sG _ _ hSg; (first | have HRg := oG _ _ _ HQd' hSg | have HRg := oG _ _ _ HT hSg))
                    | (go_at_call 14; refine (hT _ ?_).mono ?_; (first | exact HQd' | assumption); rintro e wt ⟨rfl, HT, hSt⟩; have hSt2 := sT _ _ hSt; (first | have HPt := oT _ _ _ HQd hSt | have HPt := oT _ _ _ HG hSt)))
                all_goals
                  refine NoPanic.normal ?_
                  have HR := hFIN _ (by assumption) (by assumption) (by assumption)
                  clear hG hT q1W HQd HQd' oG oT sG sT hFIN
                  go_wp2_with fail
                  go_meet
                  exact ⟨rfl, HR.out⟩
              by_cases h4 : f0 = 4
              · subst h4
                by_cases hmk : n2 ≤ 1000
                · have hmkI : (n2 : Int) ≤ 1000 := by omega
                  have hG : ∀ W, PAt W p h s → Sole [h, h'] wq W → Calls Try.prog 16 #[.pointer (some ⟨p, 0, none⟩), .slice a2' n2 cp2] W fun e w' => e = .returned (.int .i64 (swept s f2)) ∧ PAt w' p h (sweepF s f2) ∧ Sole [h] W w' := fun W HW hS => by
                    have := sweep_any HW hks _ f2 (hr2 W hS)
                    unfold ptr at this
                    exact this
                  have hT : ∀ W, RAt W p' h' s → Sole [h, h'] wq W → Calls Try.prog 17 #[.pointer (some ⟨p', 0, none⟩), .slice a2' n2 cp2] W fun e w' => e = .returned (.int .i64 (swept s f2)) ∧ RAt w' p' h' (sweepF s f2) ∧ Sole [h'] W w' := fun W HW hS => by
                    have := rsweep_any HW hks _ f2 (fun W' hS' => hr2 W' (hS.trans (hS'.mono (by simp))))
                    unfold ptr at this
                    exact this
                  have hkt := sweep_ok hks f2
                  have q2W : ∀ W, Sole [h, h'] wq W → W.cell? ⟨ob, 2, none⟩ = some (.slice a2' n2 cp2) := fun W hW => (hcW W hW).2.2.1
                  have HQd : PAt wq.drew p h s := FrAt.below HQ (Below.refl _ _).drew
                  have HQd' : RAt wq.drew p' h' s := FrAt.below HQ' (Below.refl _ _).drew
                  have S0 : Sole [h, h'] wq wq.drew := Sole.drew _ _
                  have oG : ∀ (W W' : World) (s' : Fr), RAt W p' h' s' → Sole [h] W W' → RAt W' p' h' s' := fun W W' s' HW hS => FrAt.other HW hS (by simp; exact Ne.symm hap.2.2.1) (by simp; exact Ne.symm hap.2.2.2)
                  have oT : ∀ (W W' : World) (s' : Fr), PAt W p h s' → Sole [h'] W W' → PAt W' p h s' := fun W W' s' HW hS => FrAt.other HW hS (by simp; exact hap.2.1) (by simp; exact hap.2.2.2)
                  have sG : ∀ (W W' : World), Sole [h, h'] wq W → Sole [h] W W' → Sole [h, h'] wq W' := fun W W' h0 hS => h0.trans (hS.mono (by simp))
                  have sT : ∀ (W W' : World), Sole [h, h'] wq W → Sole [h'] W W' → Sole [h, h'] wq W' := fun W W' h0 hS => h0.trans (hS.mono (by simp))
                  generalize swept s f2 = E at *
                  generalize sweepF s f2 = sF at *
                  have hFIN : ∀ W, PAt W p h sF → RAt W p' h' sF → Sole [h, h'] wq W → Hid (∃ (s' : Fr), PAt W p h s' ∧ RAt W p' h' s' ∧ FrOk s' ∧ W.cell? ⟨ob, 3, none⟩ = some (.bool f3) ∧ Below w.heap.size w W) := fun W h1 h2 h3 => ⟨sF, h1, h2, hkt, (hcW W h3).2.2.2, HSE W h3⟩
                  clear hr2 q1 q3 HQ HQ' hkt
                  go_wp2_with fail
                  clear hcW HSE q0 q2
                  refine wp_region_noPanic ?_
                  go_region_held (fun W => Sole [h, h'] wq W) (first | assumption | exact Sole.drew _ _ | exact Sole.trans (by assumption) (by assumption))
                    (first
                      | (go_at_call 16; refine (hG _ ?_ ?_).mono ?_; (first | exact HQd | assumption); (first | exact S0 | assumption); rintro e wg ⟨rfl, HG, hSg⟩; (first | have hSg2 := sG _ _ S0 hSg | have hSg2 := sG _ _ hSt2 hSg); (first | have HRg := oG _ _ _ HQd' hSg | have HRg := oG _ _ _ HT hSg))
                      | (go_at_call 17; refine (hT _ ?_ ?_).mono ?_; (first | exact HQd' | assumption); (first | exact S0 | assumption); rintro e wt ⟨rfl, HT, hSt⟩; (first | have hSt2 := sT _ _ S0 hSt | have hSt2 := sT _ _ hSg2 hSt); (first | have HPt := oT _ _ _ HQd hSt | have HPt := oT _ _ _ HG hSt)))
                  all_goals
                    refine NoPanic.normal ?_
                    have HR := hFIN _ (by assumption) (by assumption) (by assumption)
                    clear hG hT q2W HQd HQd' oG oT sG sT hFIN S0
                    go_wp2_with fail
                    go_meet
                    exact ⟨rfl, HR.out⟩
                · have hmkI : ¬ (n2 : Int) ≤ 1000 := by omega
                  have HR : Hid (∃ (s' : Fr), PAt wq p h s' ∧ RAt wq p' h' s' ∧ FrOk s' ∧ wq.cell? ⟨ob, 3, none⟩ = some (.bool f3) ∧ Below w.heap.size w wq) := ⟨_, HQ, HQ', hks, q3, hB0⟩
                  clear HSE hcW HQ HQ' hr2 q1
                  go_wp2_with fail
                  go_meet
                  exact ⟨rfl, HR.out⟩
              · have HR : Hid (∃ (s' : Fr), PAt wq p h s' ∧ RAt wq p' h' s' ∧ FrOk s' ∧ wq.cell? ⟨ob, 3, none⟩ = some (.bool f3) ∧ Below w.heap.size w wq) := ⟨_, HQ, HQ', hks, q3, hB0⟩
                clear HSE hcW HQ HQ' hr2 q1 q2
                go_wp2_with fail
                go_meet
                exact ⟨rfl, HR.out⟩
            case rest =>
              clear HQ HQ' HSE hr2 q0 q1 q2 q3 hB0 hbr hcW hks
              obtain ⟨rfl, s5, H5, H5', hks5, q35, hB5x⟩ := hcut
              obtain ⟨wv, hwv⟩ : ∃ wv, wv = wc := ⟨_, rfl⟩
              subst hwv
              have cc := same_any H5 H5' hks5
              unfold ptr at cc
              go_wp2_with fail
              refine cc.mono ?_
              clear cc
              rintro e w6 ⟨rfl, hb6⟩
              have hobv : ob < wv.heap.size := World.block_lt_of_cell? _ _ q35
              have H6 : PAt w6 p h s5 := FrAt.below H5 hb6
              have H6' : RAt w6 p' h' s5 := FrAt.below H5' hb6
              have q36 := (hb6.cell (p := ⟨ob, 3, none⟩) hobv).trans q35
              have hB6 := hB5x.trans (hb6.mono hB5x.size)
              clear H5 H5' hb6 hB5x q35 hobv
              cases f3 with
              | false =>
                go_wp2_with fail
                go_roundw
                case rel => exact ⟨k + 1, s5, p, h, by omega, by go_num, rfl, H6, H6', hks5, hhw, hB6⟩
                case measure => simp [intOf]; omega
              | true =>
                obtain ⟨lo5, ks5⟩ := s5
                have cc := clone_any H6 hks5
                unfold ptr at cc
                go_wp2_with fail
                refine cc.mono ?_
                clear cc
                rintro e w7 ⟨p2, h2, rfl, H7, hp2, hh2, hb7⟩
                have HO : PAt w7 p h ⟨lo5, ks5⟩ := FrAt.below H6 hb7
                have H7' : RAt w7 p' h' ⟨lo5, ks5⟩ := FrAt.below H6' hb7
                have hB7 := hB6.trans (hb7.mono hB6.size)
                obtain ⟨hp6, hh6⟩ : p < w6.heap.size ∧ h < w6.heap.size := by obtain ⟨_, _, _, _, _, x1, x2, _⟩ := FrAt.opened H6; exact ⟨x1, x2⟩
                clear H6 H6' hb7
                have cc := take_any HO hks5
                unfold ptr at cc
                go_wp2_with fail
                refine cc.mono ?_
                clear cc
                rintro e w8 ⟨r, rfl, hF, H8, hS8⟩
                have cc := sweep_any H8 (run_ok hks5 1 r) _ [] (rdI_nil w8)
                unfold ptr at cc
                go_wp2_with fail
                refine cc.mono ?_
                clear cc hF HO
                rintro e w9 ⟨rfl, H9, hS9⟩
                have hS79 := hS8.trans hS9
                have HN : PAt w9 p2 h2 ⟨lo5, ks5⟩ := FrAt.other H7 hS79 (by simp; omega) (by simp; omega)
                have HN' : RAt w9 p' h' ⟨lo5, ks5⟩ := FrAt.other H7' hS79 (by simp; exact Ne.symm hap.2.2.1) (by simp; exact Ne.symm hap.2.2.2)
                have hB9 : Below w.heap.size w w9 := hS79.belowOf hB7 hB7.size (by simp; exact hhw)
                have hh2w : w.heap.size ≤ h2 := by have := hB6.size; omega
                clear H7 H7' H8 H9 hS8 hS9 hS79 hB7
                go_wp2_with fail
                go_roundw
                case rel => exact ⟨k + 1, ⟨lo5, ks5⟩, p2, h2, by omega, by go_num, rfl, HN, HN', hks5, hh2w, hB9⟩
                case measure => simp [intOf]; omega
          · obtain rfl : k = len := by omega
            clear hoc hok
            have cc := same_any HS1 HS1' hks
            unfold ptr at cc
            go_wp2_with fail
            refine cc.mono ?_
            clear cc
            rintro e w6 ⟨rfl, hb6⟩
            go_wp2
            go_ret
            exact ⟨rfl, hbr.trans (hb6.mono hbr.size)⟩

/-! ### The row -/
set_option maxRecDepth 100000 in
theorem lifted (os : Os) (started : os.Started) (H : Type) (enc : TypeId × Value → H) :
    ReturnsInHanded {} Try.checked os 3 .any (Rows.freeGoesSpec.pre6 enc Try.prog Try.f3 Rows.freeGoesRow.domain false) (Rows.freeGoesSpec.post enc Try.prog Try.f3 false true false false) := by
  refine returnsInHanded_of_change_sized (C := Try.checked) own started (by kernel_rfl) Try.func3
    (ChangeSpec.witness6 (enc := enc) (C := Try.checked) false ⟨#[], #[.int .i64 0, .int .i64 0, .slice none 0 0, .slice none 0 0], []⟩ 8 (by kernel_rfl) (by kernel_rfl) (by kernel_rfl) (by kernel_rfl)) ?_
  intro W base args ds gs before hval0 hW hcnd hsz0 _
  have hsz : (DataW.weightsEach Try.prog (Try.f3.params.toList ++ Rows.freeGoesSpec.plain.varTypes Try.prog) (ds ++ gs)).all (· ≤ reachBytes) = true := hsz0
  clear hsz0
  have hval : ∀ (j : Nat) t v, Try.f3.params[j]? = some t → args[j]? = some v → Value.okWide Try.prog W .any base t v := hval0
  have hW' := hW
  obtain ⟨p, q, hA0, hV, rfl, hfz, hnd⟩ := hW
  have hA : DataW.TrodAll enc Try.prog W 0 (fun _ => true) true Try.f3.params.toList args.toList ds p := hA0
  rw [Try.params3] at hA hval hsz
  obtain ⟨v0, vs0, d0, ds0, p0, q0, hargs, rfl, rfl, h0, r0⟩ := trodAll_cons hA
  obtain ⟨v1, vs1, d1, ds1, p1, q1, rfl, rfl, rfl, h1, r1⟩ := trodAll_cons r0
  obtain ⟨v2, vs2, d2, ds2, p2, q2, rfl, rfl, rfl, h2, r2⟩ := trodAll_cons r1
  obtain ⟨v3, vs3, d3, ds3, p3, q3, rfl, rfl, rfl, h3, r3⟩ := trodAll_cons r2
  obtain ⟨rfl, rfl, rfl⟩ := trodAll_nil r3
  obtain rfl : args = #[v0, v1, v2, v3] := by cases args; simp_all
  obtain ⟨rfl, rfl⟩ := trodVars_none hV
  obtain ⟨a0, rfl, rfl, rfl, w0⟩ := open_int Try.underlying3 (hval 0 3 v0 rfl rfl) h0
  obtain ⟨a1, rfl, rfl, rfl, w1⟩ := open_int Try.underlying3 (hval 1 3 v1 rfl rfl) h1
  obtain ⟨a2, len2, cap2, rfl⟩ := okWide_slice Try.underlying22 (hval 2 22 v2 rfl rfl)
  have k2 := h2
  have lt2 : ∀ x ∈ p2, x.block < W.heap.size := by obtain ⟨m, hm⟩ := k2; exact DataW.trod_lt m _ _ _ hm
  obtain ⟨z2, wk2, w2, ws2⟩ : ∃ l, IntsOk l ∧ RdI W (.slice a2 len2 cap2) l ∧ IntsZ (.slice a2 len2 cap2) l := by
    obtain ⟨fuel, hf⟩ := h2
    obtain ⟨l, h1, h2⟩ := ints_of hf
    exact ⟨l, h1, h2, ints_sized h2 hf hsz (j := 2) rfl rfl⟩
  obtain ⟨a3, len3, cap3, rfl⟩ := okWide_slice Try.underlying23 (hval 3 23 v3 rfl rfl)
  have k3 := h3
  have lt3 : ∀ x ∈ p3, x.block < W.heap.size := by obtain ⟨m, hm⟩ := k3; exact DataW.trod_lt m _ _ _ hm
  obtain ⟨o3, w3⟩ : ∃ os, FopsAt W a3 len3 cap3 os := by
    obtain ⟨fuel, hf⟩ := h3
    exact fopsAt_of hf
  clear hA0 hval0
  refine (walk a0 a1 (.slice a2 len2 cap2) z2 a3 len3 cap3 o3 W w0 w1 w2 wk2 ws2 w3).mono fun e W' ⟨he, bel⟩ => ?_
  subst he
  exact ⟨_, rfl, _, _, _, [], _, [], hW', trodAll_mk1 (shut_bool Try.underlying4 _), (trodAll_cons_mk (shut_int Try.underlying3 w0) (trodAll_cons_mk (shut_int Try.underlying3 w1) (trodAll_cons_mk (Below.trod laidOut (by kernel_rfl) (of_decide_eq_true (by kernel_rfl)) k2 bel lt2) (trodAll_cons_mk (Below.trod laidOut (by kernel_rfl) (of_decide_eq_true (by kernel_rfl)) k3 bel lt3) trodAll_mk0)))), rfl, bel.frame _, fun h => by cases h⟩

theorem over : Rows.freeGoesRow.holds Try.pinned (OpenSpec.ofChange Rows.freeGoesSpec) :=
  OpenClaim.holds_of_wide 3 Try.f3 rfl rfl rfl rfl rfl rfl rfl ⟨rfl, rfl, rfl, rfl, rfl⟩ rfl rfl rfl rfl rfl (by kernel_rfl) Try.func3 (by kernel_rfl)
    (of_decide_eq_true (by kernel_rfl)) (by unfold Func.isWrapper; first | (rw [if_pos (by decide +kernel)]; kernel_rfl) | (rw [if_neg (by decide +kernel)]; exact ⟨rfl, rfl⟩))
    (fun os started H enc _ => lifted os started H enc)

end Go.Proofs.Ytljfdmjlilahjaa.freeGoes

namespace Go.Proofs.Ytljfdmjlilahjaa
/-- The statement. -/
theorem freeGoes_proved : Rows.FreeGoesSaid := freeGoes.over
#print axioms freeGoes_proved
end Go.Proofs.Ytljfdmjlilahjaa
