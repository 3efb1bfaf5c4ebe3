/- The document's Trim, Join, Zero, Of. -/
import Derived.Test.YtpbokenambjclaaPtRef
import Derived.Test.YtpbokenambjclaaPtOf
namespace Go.Proofs.Ytpbokenambjclaa
open Go.RowKit
set_option linter.unusedVariables false
set_option linter.unusedSimpArgs false
set_option maxRecDepth 100000

/-- What Trim leaves of a byte. -/
def trimAt (p : Pt) (i : Nat) : Int := if p.mask.testBit i then p.bytes.getD i 0 else 0
theorem trimAt_byt {p : Pt} (hp : PtOk p) (i : Nat) : 0 ≤ trimAt p i ∧ trimAt p i ≤ 255 := by
  unfold trimAt
  split
  · exact hp.ch.2.getD i
  · omega
theorem trimAt_all (p : Pt) : (List.range 32).map (trimAt p) = (trimP p).bytes := by
  apply ch_ext (by simp) (layB_len _ _)
  intro i hi
  rw [range_get _ hi]
  exact (trimP_get p hi).symm

set_option maxHeartbeats 4000000 in
theorem rtrim_any (w : World) (p : Pt) (hp : PtOk p) : Calls Try.prog 33 #[.agg (ptC p)] w fun e w' => e = .returned (.agg (ptC (trimP p))) ∧ Below w.heap.size w w' := by
  have hz := zeroPt
  have HZ : Hid (zeroC.length = 32) := ch_zero.1
  have HT : Hid ((trimP p).bytes.length = 32) := layB_len _ _
  obtain ⟨w1, hw1⟩ : ∃ w1, (w.alloc (.cells (ptC p) 29)).alloc (.cells (ptC pt0) 29) = w1 := ⟨_, rfl⟩
  have hB1 : Below w.heap.size w w1 := by rw [← hw1]; exact ((Below.refl _ w).alloc (Nat.le_refl _) _).alloc (by simp) _
  have hp1 : PtAt w1 w.heap.size p := by rw [← hw1]; exact (PtAt.laid w p).below ((Below.refl _ _).alloc (Nat.le_refl _) _)
  have hr1 : PtAt w1 (w.heap.size + 1) pt0 := by rw [← hw1]; have := PtAt.laid (w.alloc (.cells (ptC p) 29)) pt0; rwa [World.size_alloc] at this
  go_enter Try.func33, Try.ntmps33
  go_wp2_with fail
  go_loopw [3, 4] (fun _ t wr => ∃ i : Nat, i ≤ 32 ∧ t = .int .i64 (i : Int) ∧ PtAt wr w.heap.size ⟨p.fresh, p.mask, upTo (trimAt p) p.bytes i⟩ ∧ PtAt wr (w.heap.size + 1) pt0 ∧ Below w.heap.size w wr) (fun _ t _ => 32 - (intOf t).toNat)
  case atStart => exact ⟨0, by omega, rfl, by rw [upTo_0 _ hp.ch.1]; exact hp1, hr1, hB1⟩
  case round =>
    obtain ⟨i, hi, rfl, hq, hr, hB⟩ := hrel
    clear hp1 hr1 hB1 hw1
    by_cases hlt : i < 32
    · have hlI : (i : Int) < 32 := by omega
      have hok : PtOk ⟨p.fresh, p.mask, upTo (trimAt p) p.bytes i⟩ := ⟨hp.lt, upTo_ch (trimAt_byt hp) hp.ch i⟩
      have hld : Hid _ := hq.load (upTo_len _ _ _)
      have hh := has_any wr _ i hok hlt
      dsimp only at hh
      have HN : Hid (upTo (trimAt p) p.bytes (i + 1) = (upTo (trimAt p) p.bytes i).set i (trimAt p i)) := upTo_next _ _ hlt
      cases hbt : p.mask.testBit i
      · rw [hbt] at hh
        have hv : trimAt p i = 0 := by unfold trimAt; rw [hbt]; rfl
        rw [hv] at HN
        clear hv
        go_wp2_with (refine wpList_loadG rfl 29 _ rfl _ rfl _ hld.out ?_)
        refine hh.mono ?_
        rintro e w5 ⟨rfl, hb5⟩
        have hq5 := hq.below hb5
        have cB5 := hq5.byte (upTo_len _ _ _) hlt
        dsimp only at cB5
        have fB5 := hq5.frozen (2 + i)
        generalize (upTo (trimAt p) p.bytes i).getD i 0 = V0 at *
        go_wp2
        go_roundw
        case rel => exact ⟨i + 1, by omega, by go_num, by rw [HN.out]; exact hq5.set i 0, (hr.below hb5).apart _ _ _ (by omega), (hB.trans (hb5.mono hB.size)).setCell (p := ⟨w.heap.size, 2 + i, none⟩) (Nat.le_refl _) _⟩
        case measure => simp [intOf]; omega
      · rw [hbt] at hh
        have HS : Hid (upTo (trimAt p) p.bytes (i + 1) = upTo (trimAt p) p.bytes i) := upTo_same _ _ (by unfold trimAt; rw [hbt]; rfl)
        go_wp2_with (refine wpList_loadG rfl 29 _ rfl _ rfl _ hld.out ?_)
        refine hh.mono ?_
        rintro e w5 ⟨rfl, hb5⟩
        go_wp2_with fail
        go_roundw
        case rel => exact ⟨i + 1, by omega, by go_num, by rw [HS.out]; exact hq.below hb5, hr.below hb5, hB.trans (hb5.mono hB.size)⟩
        case measure => simp [intOf]; omega
    · have hlI : ¬ (i : Int) < 32 := by omega
      have e32 : (⟨p.fresh, p.mask, upTo (trimAt p) p.bytes i⟩ : Pt) = trimP p := by rw [show i = 32 from by omega, upTo_all, trimAt_all]; rfl
      rw [e32] at hq
      clear e32
      have hld : Hid _ := hq.load HT.out
      go_wp2_with (first
        | (refine wpList_loadG rfl 29 _ rfl _ rfl _ hld.out ?_)
        | (refine wpList_storeP rfl _ _ rfl (w.heap.size + 1) (trimP p) pt0 rfl rfl HT.out HZ.out hr ?_))
      refine ret_pt rfl (w.heap.size + 1) (trimP p) HT.out rfl (hr.setRow _) rfl ⟨rfl, ?_⟩
      exact below_setRow hB (by omega) _

/-- What Join makes of a byte. -/
def joinAt (a b : Pt) (i : Nat) : Int := if b.mask.testBit i then b.bytes.getD i 0 else if a.mask.testBit i then a.bytes.getD i 0 else 0
theorem joinAt_byt {a b : Pt} (ha : PtOk a) (hb : PtOk b) (i : Nat) : 0 ≤ joinAt a b i ∧ joinAt a b i ≤ 255 := by
  unfold joinAt
  split
  · exact hb.ch.2.getD i
  · split
    · exact ha.ch.2.getD i
    · omega
theorem joinAt_all (a b : Pt) (hf : b.fresh = false) : (List.range 32).map (joinAt a b) = layB (trimP a).bytes b := by
  apply ch_ext (by simp) (layB_len _ _)
  intro i hi
  rw [range_get _ hi, layB_get _ _ hi]
  unfold joinAt layAt
  rw [trimP_get a hi, hf]
  rfl

set_option maxHeartbeats 8000000 in
theorem rjoin_any (w : World) (a b : Pt) (ha : PtOk a) (hb : PtOk b) : Calls Try.prog 30 #[.agg (ptC a), .agg (ptC b)] w fun e w' => e = .returned (.agg (ptC (joinP a b))) ∧ Below w.heap.size w w' := by
  have hz := zeroPt
  have HA : Hid (a.bytes.length = 32) := ha.ch.1
  have HB : Hid (b.bytes.length = 32) := hb.ch.1
  have HZ : Hid (zeroC.length = 32) := ch_zero.1
  obtain ⟨w1, hw1⟩ : ∃ w1, (((w.alloc (.cells (ptC a) 29)).alloc (.cells (ptC b) 29)).alloc (.cells (ptC pt0) 29)) = w1 := ⟨_, rfl⟩
  have al : ∀ (A : World) (o : Obj), Below A.heap.size A (A.alloc o) := fun A o => (Below.refl _ A).alloc (Nat.le_refl _) o
  have hB1 : Below w.heap.size w w1 := by rw [← hw1]; exact (((Below.refl _ w).alloc (Nat.le_refl _) _).alloc (by simp) _).alloc (by simp; omega) _
  have ha1 : PtAt w1 w.heap.size a := by rw [← hw1]; exact ((PtAt.laid w a).below (al _ _)).below (al _ _)
  have hb1 : PtAt w1 (w.heap.size + 1) b := by rw [← hw1]; have := (PtAt.laid (w.alloc (.cells (ptC a) 29)) b).below (al _ (.cells (ptC pt0) 29)); rwa [World.size_alloc] at this
  have hr1 : PtAt w1 (w.heap.size + 1 + 1) pt0 := by rw [← hw1]; have := PtAt.laid ((w.alloc (.cells (ptC a) 29)).alloc (.cells (ptC b) 29)) pt0; rwa [World.size_alloc, World.size_alloc] at this
  have HS1 : Hid (w1.heap.size = w.heap.size + 3) := by unfold Hid; rw [← hw1]; simp
  clear al
  have c0 := hb1.c0
  cases hf : b.fresh
  · rw [hf] at c0
    have HJ : Hid (joinP a b = ⟨a.fresh, a.mask ||| b.mask, layB (trimP a).bytes b⟩) := by unfold Hid joinP; rw [hf]; rfl
    have HL : Hid ((layB (trimP a).bytes b).length = 32) := layB_len _ _
    have hor := u32_or_nat a.mask b.mask ha.lt hb.lt
    have a0 := ha1.c0
    have a1 := ha1.c1
    have b1 := hb1.c1
    rw [HJ.out]
    obtain ⟨w2, hw2⟩ : ∃ w2, w1.alloc (.cells (ptC pt0) 29) = w2 := ⟨_, rfl⟩
    have hb12 : Below w1.heap.size w1 w2 := by rw [← hw2]; exact (Below.refl _ w1).alloc (Nat.le_refl _) _
    have ho2 : PtAt w2 w1.heap.size pt0 := by rw [← hw2]; exact PtAt.laid w1 pt0
    obtain ⟨w3, hw3⟩ : ∃ w3, w2.setRow w1.heap.size (ptC ⟨a.fresh, a.mask ||| b.mask, zeroC⟩) = w3 := ⟨_, rfl⟩
    have ho3 : PtAt w3 w1.heap.size ⟨a.fresh, a.mask ||| b.mask, zeroC⟩ := by rw [← hw3]; exact ho2.setRow _
    have hb13 : Below w1.heap.size w1 w3 := by rw [← hw3]; exact below_setRow hb12 (Nat.le_refl _) _
    have ha3 := ha1.below hb13
    have hb3 := hb1.below hb13
    have hr3 := hr1.below hb13
    have hB3 : Below w.heap.size w w3 := hB1.trans (hb13.mono hB1.size)
    go_enter Try.func30, Try.ntmps30
    go_wp2_with (first
      | (refine wpList_buildBy rfl 29 _ rfl _ rfl [(0, .bool a.fresh), (1, .int .u32 ((a.mask ||| b.mask : Nat) : Int))] (by kernel_rfl) (ptC ⟨a.fresh, a.mask ||| b.mask, zeroC⟩) (built_two _ _) ?_)
      | (refine wpList_storeP rfl _ _ rfl w1.heap.size ⟨a.fresh, a.mask ||| b.mask, zeroC⟩ pt0 rfl rfl HZ.out HZ.out ho2 ?_; rw [hw3]))
    generalize hM : a.mask ||| b.mask = M at *
    have HM : Hid (a.mask ||| b.mask = M) := hM
    clear hM
    clear hw1 hw2 hw3 a0 a1 b1 c0 hor ho2 hb12 hb13 ha1 hb1 hr1 hB1
    go_loopw [6, 19] (fun _ t wr => ∃ i : Nat, i ≤ 32 ∧ t = .int .i64 (i : Int) ∧ PtAt wr w1.heap.size ⟨a.fresh, M, upTo (joinAt a b) zeroC i⟩ ∧ PtAt wr w.heap.size a ∧ PtAt wr (w.heap.size + 1) b ∧ PtAt wr (w.heap.size + 1 + 1) pt0 ∧ Below w.heap.size w wr) (fun _ t _ => 32 - (intOf t).toNat)
    case atStart => exact ⟨0, by omega, rfl, by rw [upTo_0 _ HZ.out]; exact ho3, ha3, hb3, hr3, hB3⟩
    case round =>
      obtain ⟨i, hi, rfl, ho, hA, hBt, hr, hB⟩ := hrel
      clear ho3 ha3 hb3 hr3 hB3
      by_cases hlt : i < 32
      · have hlI : (i : Int) < 32 := by omega
        have hldb : Hid _ := hBt.load HB.out
        have hh := has_any wr b i hb hlt
        have HN : Hid (upTo (joinAt a b) zeroC (i + 1) = (upTo (joinAt a b) zeroC i).set i (joinAt a b i)) := upTo_next _ _ hlt
        cases hbt : b.mask.testBit i
        · rw [hbt] at hh
          go_wp2_with (refine wpList_loadG rfl 29 _ rfl _ rfl _ hldb.out ?_)
          refine hh.mono ?_
          rintro e w5 ⟨rfl, hb5⟩
          have hA5 := hA.below hb5
          have hlda : Hid _ := hA5.load HA.out
          have hha := has_any w5 a i ha hlt
          clear hldb hh
          cases hat : a.mask.testBit i
          · rw [hat] at hha
            have HS : Hid (upTo (joinAt a b) zeroC (i + 1) = upTo (joinAt a b) zeroC i) := upTo_same _ _ (by unfold joinAt; rw [hbt, hat, zeroC_get]; rfl)
            go_wp2_with (refine wpList_loadG rfl 29 _ rfl _ rfl _ hlda.out ?_)
            refine hha.mono ?_
            rintro e w6 ⟨rfl, hb6⟩
            go_wp2_with fail
            go_roundw
            case rel => exact ⟨i + 1, by omega, by go_num, by rw [HS.out]; exact (ho.below hb5).below hb6, hA5.below hb6, (hBt.below hb5).below hb6, (hr.below hb5).below hb6, (hB.trans (hb5.mono hB.size)).trans (hb6.mono (Nat.le_trans hB.size hb5.size))⟩
            case measure => simp [intOf]; omega
          · rw [hat] at hha
            have hv : joinAt a b i = a.bytes.getD i 0 := by unfold joinAt; rw [hbt, hat]; rfl
            go_wp2_with (refine wpList_loadG rfl 29 _ rfl _ rfl _ hlda.out ?_)
            refine hha.mono ?_
            rintro e w6 ⟨rfl, hb6⟩
            have ho6 := (ho.below hb5).below hb6
            have hA6 := hA5.below hb6
            have hB6 := (hBt.below hb5).below hb6
            have hr6 := (hr.below hb5).below hb6
            have hBB : Below w.heap.size w w6 := (hB.trans (hb5.mono hB.size)).trans (hb6.mono (Nat.le_trans hB.size hb5.size))
            have cO := ho6.byte (upTo_len _ _ _) hlt
            have fO := ho6.frozen (2 + i)
            have cA := hA6.byte HA.out hlt
            dsimp only at cO
            rw [← hv] at cA
            clear hv hlda
            generalize joinAt a b i = V at *
            generalize (upTo (joinAt a b) zeroC i).getD i 0 = V0 at *
            go_wp2
            go_roundw
            case rel => exact ⟨i + 1, by omega, by go_num, by rw [HN.out]; exact ho6.set i V, hA6.apart _ _ _ (by have := HS1.out; omega), hB6.apart _ _ _ (by have := HS1.out; omega), hr6.apart _ _ _ (by have := HS1.out; omega), hBB.setCell (p := ⟨w1.heap.size, 2 + i, none⟩) (by have := HS1.out; show w.heap.size ≤ w1.heap.size; omega) _⟩
            case measure => simp [intOf]; omega
        · rw [hbt] at hh
          have hv : joinAt a b i = b.bytes.getD i 0 := by unfold joinAt; rw [hbt]; rfl
          go_wp2_with (refine wpList_loadG rfl 29 _ rfl _ rfl _ hldb.out ?_)
          refine hh.mono ?_
          rintro e w6 ⟨rfl, hb6⟩
          have ho6 := ho.below hb6
          have hA6 := hA.below hb6
          have hB6 := hBt.below hb6
          have hr6 := hr.below hb6
          have hBB : Below w.heap.size w w6 := hB.trans (hb6.mono hB.size)
          have cO := ho6.byte (upTo_len _ _ _) hlt
          have fO := ho6.frozen (2 + i)
          have cA := hB6.byte HB.out hlt
          dsimp only at cO
          rw [← hv] at cA
          clear hv hldb
          generalize joinAt a b i = V at *
          generalize (upTo (joinAt a b) zeroC i).getD i 0 = V0 at *
          go_wp2
          go_roundw
          case rel => exact ⟨i + 1, by omega, by go_num, by rw [HN.out]; exact ho6.set i V, hA6.apart _ _ _ (by have := HS1.out; omega), hB6.apart _ _ _ (by have := HS1.out; omega), hr6.apart _ _ _ (by have := HS1.out; omega), hBB.setCell (p := ⟨w1.heap.size, 2 + i, none⟩) (by have := HS1.out; show w.heap.size ≤ w1.heap.size; omega) _⟩
          case measure => simp [intOf]; omega
      · have hlI : ¬ (i : Int) < 32 := by omega
        have e32 : upTo (joinAt a b) zeroC i = layB (trimP a).bytes b := by rw [show i = 32 from by omega, upTo_all, joinAt_all a b hf]
        rw [e32] at ho
        clear e32
        have hld : Hid _ := ho.load HL.out
        go_wp2_with (first
          | (refine wpList_loadG rfl 29 _ rfl _ rfl _ hld.out ?_)
          | (refine wpList_storeP rfl _ _ rfl (w.heap.size + 1 + 1) ⟨a.fresh, M, layB (trimP a).bytes b⟩ pt0 rfl rfl HL.out HZ.out hr ?_))
        refine ret_pt rfl (w.heap.size + 1 + 1) ⟨a.fresh, M, layB (trimP a).bytes b⟩ HL.out rfl (hr.setRow _) rfl ⟨by rw [HM.out], ?_⟩
        exact below_setRow hB (by omega) _
  · rw [hf] at c0
    have HJ : Hid (joinP a b = trimP b) := by unfold Hid joinP; rw [hf]; rfl
    have HTl : Hid ((trimP b).bytes.length = 32) := layB_len _ _
    have hl1 : Hid _ := hb1.load HB.out
    rw [HJ.out]
    go_enter Try.func30, Try.ntmps30
    go_wp2_with (refine wpList_loadG rfl 29 _ rfl _ rfl _ hl1.out ?_)
    refine (rtrim_any w1 b hb).mono ?_
    rintro e w2 ⟨rfl, hb2⟩
    have hat2 := hr1.below hb2
    have hB2 : Below w.heap.size w w2 := hB1.trans (hb2.mono hB1.size)
    go_wp2_with (refine wpList_storeP rfl _ _ rfl (w.heap.size + 1 + 1) (trimP b) pt0 rfl rfl HTl.out HZ.out hat2 ?_)
    exact ret_pt rfl (w.heap.size + 1 + 1) _ HTl.out rfl (hat2.setRow _) rfl ⟨rfl, below_setRow hB2 (by omega) _⟩

end Go.Proofs.Ytpbokenambjclaa
