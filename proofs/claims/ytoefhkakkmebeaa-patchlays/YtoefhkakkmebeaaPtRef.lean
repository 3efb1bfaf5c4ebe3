/- The document's Has, Lay, Trim. -/
import Derived.Test.YtoefhkakkmebeaaPtTrim
namespace Go.Proofs.Ytoefhkakkmebeaa
open Go.RowKit
set_option linter.unusedVariables false
set_option linter.unusedSimpArgs false
set_option maxRecDepth 100000

set_option maxHeartbeats 1000000 in
theorem has_any (w : World) (p : Pt) (i : Nat) (hp : PtOk p) (hi : i < 32) : Calls Try.prog 21 #[.agg (ptC p), .int .i64 (i : Int)] w fun e w' => e = .returned (.bool (p.mask.testBit i)) ∧ Below w.heap.size w w' := by
  obtain ⟨w1, hw1⟩ : ∃ w1, w.alloc (.cells (ptC p) 26) = w1 := ⟨_, rfl⟩
  have hB1 : Below w.heap.size w w1 := by rw [← hw1]; exact (Below.refl _ w).alloc (Nat.le_refl _) _
  have hp1 : PtAt w1 w.heap.size p := by rw [← hw1]; exact PtAt.laid w p
  have c1 := hp1.c1
  have hbit : (((p.mask : Int) / 2 ^ i).tmod 2 == 1) = p.mask.testBit i := by rw [Int.tmod_eq_emod_of_nonneg (Int.ediv_nonneg (by omega) (by exact_mod_cast Nat.zero_le _))]; exact bit_mod p.mask i
  have hi32 : (i : Int) ≤ 32 := by omega
  generalize p.mask.testBit i = B at *
  generalize p.mask = M at *
  go_enter Try.func21, Try.ntmps21
  go_wp2
  go_ret
  exact ⟨by rw [← hbit]; rfl, hB1⟩

theorem ChAt.set {w : World} {g : Nat} {b : List Int} (h : ChAt w g b) (i : Nat) (v : Int) : ChAt (w.setCell ⟨g, i, none⟩ (.int .u8 v)) g (b.set i v) := by
  refine ⟨(heap_setCell_same w g i _ _ _ h.row).trans ?_⟩
  congr 2
  unfold bytesV
  rw [List.setIfInBounds_toArray, List.map_set]
theorem PtAt.set {w : World} {g : Nat} {p : Pt} (h : PtAt w g p) (i : Nat) (v : Int) : PtAt (w.setCell ⟨g, 2 + i, none⟩ (.int .u8 v)) g ⟨p.fresh, p.mask, p.bytes.set i v⟩ := by
  refine ⟨(heap_setCell_same w g (2 + i) _ _ _ h.row).trans ?_⟩
  congr 2
  unfold ptC
  rw [List.setIfInBounds_toArray, show 2 + i = i + 1 + 1 from by omega, List.set_cons_succ, List.set_cons_succ, List.map_set]
theorem ChAt.apart {w : World} {g : Nat} {b : List Int} (h : ChAt w g b) (k i : Nat) (v : Value) (hk : g ≠ k) : ChAt (w.setCell ⟨k, i, none⟩ v) g b := ⟨(heap_setCell_other w ⟨k, i, none⟩ g v hk).trans h.row⟩
theorem PtAt.apart {w : World} {g : Nat} {p : Pt} (h : PtAt w g p) (k i : Nat) (v : Value) (hk : g ≠ k) : PtAt (w.setCell ⟨k, i, none⟩ v) g p := ⟨(heap_setCell_other w ⟨k, i, none⟩ g v hk).trans h.row⟩

/-- A list that is turned to another one, byte by byte. -/
def upTo (f : Nat → Int) (b : List Int) (n : Nat) : List Int := (List.range 32).map fun i => if i < n then f i else b.getD i 0
theorem upTo_len (f : Nat → Int) (b : List Int) (n : Nat) : (upTo f b n).length = 32 := by simp [upTo]
theorem upTo_0 (f : Nat → Int) {b : List Int} (h : b.length = 32) : upTo f b 0 = b := by
  unfold upTo
  conv => rhs; rw [ch_eq h]
  exact List.map_congr_left fun i _ => by simp
theorem upTo_all (f : Nat → Int) (b : List Int) : upTo f b 32 = (List.range 32).map f := by
  unfold upTo
  exact List.map_congr_left fun i hi => by rw [if_pos (List.mem_range.1 hi)]
theorem upTo_get (f : Nat → Int) (b : List Int) (n : Nat) {i : Nat} (h : i < 32) : (upTo f b n).getD i 0 = if i < n then f i else b.getD i 0 := by
  unfold upTo; rw [range_get _ h]
theorem upTo_next (f : Nat → Int) (b : List Int) {n : Nat} (h : n < 32) : upTo f b (n + 1) = (upTo f b n).set n (f n) := by
  apply ch_ext (upTo_len _ _ _) (by rw [List.length_set, upTo_len])
  intro i hi
  rw [upTo_get _ _ _ hi]
  by_cases e : i = n
  · subst e
    rw [if_pos (by omega), show ((upTo f b i).set i (f i)).getD i 0 = f i from by rw [List.getD_eq_getElem?_getD, List.getElem?_set_self (by rw [upTo_len]; omega)]; rfl]
  · rw [show ((upTo f b n).set n (f n)).getD i 0 = (upTo f b n).getD i 0 from by rw [List.getD_eq_getElem?_getD, List.getD_eq_getElem?_getD, List.getElem?_set_ne (by omega)], upTo_get _ _ _ hi]
    by_cases c : i < n
    · rw [if_pos c, if_pos (by omega)]
    · rw [if_neg c, if_neg (by omega)]
theorem upTo_same (f : Nat → Int) (b : List Int) {n : Nat} (h : f n = b.getD n 0) : upTo f b (n + 1) = upTo f b n := by
  unfold upTo
  refine List.map_congr_left fun i hi => ?_
  by_cases e : i = n
  · subst e; rw [if_pos (by omega), if_neg (by omega), h]
  · by_cases c : i < n
    · rw [if_pos c, if_pos (by omega)]
    · rw [if_neg c, if_neg (by omega)]
theorem upTo_ch {f : Nat → Int} {b : List Int} (hf : ∀ i, 0 ≤ f i ∧ f i ≤ 255) (hb : Ch b) (n : Nat) : Ch (upTo f b n) := by
  refine ⟨upTo_len _ _ _, fun x hx => ?_⟩
  unfold upTo at hx
  obtain ⟨i, _, rfl⟩ := List.mem_map.1 hx
  split
  · exact hf i
  · exact hb.2.getD i

set_option maxHeartbeats 4000000 in
theorem rlay_any (w : World) (b : List Int) (p : Pt) (hb : Ch b) (hp : PtOk p) : Calls Try.prog 14 #[.agg (bytesV b), .agg (ptC p)] w fun e w' => e = .returned (.agg (bytesV (layB b p))) ∧ Below w.heap.size w w' := by
  have hzc := zeroCh
  have HZ : Hid (zeroC.length = 32) := ch_zero.1
  have HP : Hid (p.bytes.length = 32) := hp.ch.1
  have HL : Hid ((layB b p).length = 32) := layB_len b p
  obtain ⟨w1, hw1⟩ : ∃ w1, ((w.alloc (.cells (bytesV b) 24)).alloc (.cells (ptC p) 26)).alloc (.cells (bytesV zeroC) 24) = w1 := ⟨_, rfl⟩
  have hB1 : Below w.heap.size w w1 := by rw [← hw1]; exact (((Below.refl _ w).alloc (Nat.le_refl _) _).alloc (by simp) _).alloc (by simp; omega) _
  have al : ∀ (A : World) (o : Obj), Below A.heap.size A (A.alloc o) := fun A o => (Below.refl _ A).alloc (Nat.le_refl _) o
  have hc1 : ChAt w1 w.heap.size b := by rw [← hw1]; exact ((ChAt.laid w b).below (al _ _)).below (al _ _)
  have hp1 : PtAt w1 (w.heap.size + 1) p := by rw [← hw1]; have := (PtAt.laid (w.alloc (.cells (bytesV b) 24)) p).below (al _ (.cells (bytesV zeroC) 24)); rwa [World.size_alloc] at this
  have hr1 : ChAt w1 (w.heap.size + 1 + 1) zeroC := by rw [← hw1]; have := ChAt.laid ((w.alloc (.cells (bytesV b) 24)).alloc (.cells (ptC p) 26)) zeroC; rwa [World.size_alloc, World.size_alloc] at this
  clear al
  go_enter Try.func14, Try.ntmps14
  go_wp2_with fail
  go_loopw [5, 6] (fun _ t wr => ∃ i : Nat, i ≤ 32 ∧ t = .int .i64 (i : Int) ∧ ChAt wr w.heap.size (upTo (layAt b p) b i) ∧ PtAt wr (w.heap.size + 1) p ∧ ChAt wr (w.heap.size + 1 + 1) zeroC ∧ Below w.heap.size w wr) (fun _ t _ => 32 - (intOf t).toNat)
  case atStart => exact ⟨0, by omega, rfl, by rw [upTo_0 _ hb.1]; exact hc1, hp1, hr1, hB1⟩
  case round =>
    obtain ⟨i, hi, rfl, hc, hq, hr, hB⟩ := hrel
    clear hc1 hp1 hr1 hB1 hw1
    by_cases hlt : i < 32
    · have hlI : (i : Int) < 32 := by omega
      have cB := hc.byte (upTo_len _ _ _) hlt
      have fB := hc.frozen i
      have cF := hq.c0
      have HN : Hid (upTo (layAt b p) b (i + 1) = (upTo (layAt b p) b i).set i (layAt b p i)) := upTo_next _ _ hlt
      have cP := hq.byte HP.out hlt
      cases hf : p.fresh
      · rw [hf] at cF
        have hld : Hid _ := hq.load HP.out
        cases hbt : p.mask.testBit i
        · have HS : Hid (upTo (layAt b p) b (i + 1) = upTo (layAt b p) b i) := upTo_same _ _ (by unfold layAt; rw [hbt, hf]; rfl)
          have hh := has_any wr p i hp hlt
          rw [hbt] at hh
          go_wp2_with (refine wpList_loadG rfl 26 _ rfl _ rfl _ hld.out ?_)
          refine hh.mono ?_
          rintro e w5 ⟨rfl, hb5⟩
          go_wp2_with fail
          go_roundw
          case rel => exact ⟨i + 1, by omega, by go_num, by rw [HS.out]; exact hc.below hb5, hq.below hb5, hr.below hb5, hB.trans (hb5.mono hB.size)⟩
          case measure => simp [intOf]; omega
        · have hv : layAt b p i = p.bytes.getD i 0 := by unfold layAt; rw [hbt]; rfl
          have hh := has_any wr p i hp hlt
          rw [hbt] at hh
          go_wp2_with (refine wpList_loadG rfl 26 _ rfl _ rfl _ hld.out ?_)
          refine hh.mono ?_
          rintro e w5 ⟨rfl, hb5⟩
          have hc5 := hc.below hb5
          have hq5 := hq.below hb5
          have hr5 := hr.below hb5
          have hB5 : Below w.heap.size w w5 := hB.trans (hb5.mono hB.size)
          have cB5 := hc5.byte (upTo_len _ _ _) hlt
          have fB5 := hc5.frozen i
          have cP5 := hq5.byte HP.out hlt
          rw [← hv] at cP5
          clear hv cP
          generalize layAt b p i = V at *
          generalize (upTo (layAt b p) b i).getD i 0 = V0 at *
          go_wp2
          go_roundw
          case rel => exact ⟨i + 1, by omega, by go_num, by rw [HN.out]; exact hc5.set i V, hq5.apart _ _ _ (by omega), hr5.apart _ _ _ (by omega), hB5.setCell (p := ⟨w.heap.size, i, none⟩) (Nat.le_refl _) _⟩
          case measure => simp [intOf]; omega
      · rw [hf] at cF
        obtain ⟨w4, hw4⟩ : ∃ w4, wr.setCell ⟨w.heap.size, i, none⟩ (.int .u8 0) = w4 := ⟨_, rfl⟩
        have hc4 : ChAt w4 w.heap.size ((upTo (layAt b p) b i).set i 0) := by rw [← hw4]; exact hc.set i 0
        have hq4 : PtAt w4 (w.heap.size + 1) p := by rw [← hw4]; exact hq.apart _ _ _ (by omega)
        have hr4 : ChAt w4 (w.heap.size + 1 + 1) zeroC := by rw [← hw4]; exact hr.apart _ _ _ (by omega)
        have hB4 : Below w.heap.size w w4 := by rw [← hw4]; exact hB.setCell (p := ⟨w.heap.size, i, none⟩) (Nat.le_refl _) _
        have hld : Hid _ := hq4.load HP.out
        have hh := has_any w4 p i hp hlt
        cases hbt : p.mask.testBit i
        · have hv : layAt b p i = 0 := by unfold layAt; rw [hbt, hf]; rfl
          rw [hbt] at hh
          rw [hv] at HN
          generalize (upTo (layAt b p) b i).getD i 0 = V0 at *
          go_wp2_with (refine wpList_loadG rfl 26 _ rfl _ rfl _ hld.out ?_)
          refine hh.mono ?_
          rintro e w5 ⟨rfl, hb5⟩
          go_wp2_with fail
          go_roundw
          case rel => exact ⟨i + 1, by omega, by go_num, by rw [HN.out]; exact hc4.below hb5, hq4.below hb5, hr4.below hb5, hB4.trans (hb5.mono hB4.size)⟩
          case measure => simp [intOf]; omega
        · have hv : layAt b p i = p.bytes.getD i 0 := by unfold layAt; rw [hbt]; rfl
          rw [hbt] at hh
          generalize (upTo (layAt b p) b i).getD i 0 = V0 at *
          go_wp2_with (refine wpList_loadG rfl 26 _ rfl _ rfl _ hld.out ?_)
          refine hh.mono ?_
          rintro e w5 ⟨rfl, hb5⟩
          have hc5 := hc4.below hb5
          have hq5 := hq4.below hb5
          have hr5 := hr4.below hb5
          have hB5 : Below w.heap.size w w5 := hB4.trans (hb5.mono hB4.size)
          have cB5 := hc5.byte (by rw [List.length_set]; exact upTo_len _ _ _) hlt
          have fB5 := hc5.frozen i
          have cP5 := hq5.byte HP.out hlt
          rw [← hv] at cP5
          clear hv cP
          have HC : Hid (ChAt w5 w.heap.size ((upTo (layAt b p) b i).set i 0)) := hc5
          generalize layAt b p i = V at *
          generalize ((upTo (layAt b p) b i).set i 0).getD i 0 = V1 at *
          clear hc5 hc4 hw4
          go_wp2
          go_roundw
          case rel => exact ⟨i + 1, by omega, by go_num, by rw [HN.out]; have := HC.out.set i V; rwa [List.set_set] at this, hq5.apart _ _ _ (by omega), hr5.apart _ _ _ (by omega), hB5.setCell (p := ⟨w.heap.size, i, none⟩) (Nat.le_refl _) _⟩
          case measure => simp [intOf]; omega
    · have hlI : ¬ (i : Int) < 32 := by omega
      have e32 : upTo (layAt b p) b i = layB b p := by rw [show i = 32 from by omega, upTo_all]; rfl
      rw [e32] at hc
      clear e32
      have hld : Hid _ := hc.load HL.out
      go_wp2_with (first
        | (refine wpList_loadG rfl 24 _ rfl _ rfl _ hld.out ?_)
        | (refine wpList_storeC rfl _ _ rfl (w.heap.size + 1 + 1) (layB b p) zeroC rfl rfl HL.out HZ.out hr ?_))
      refine ret_ch rfl (w.heap.size + 1 + 1) (layB b p) HL.out rfl (hr.setRow _) rfl ⟨rfl, ?_⟩
      exact below_setRow hB (by omega) _

end Go.Proofs.Ytoefhkakkmebeaa
