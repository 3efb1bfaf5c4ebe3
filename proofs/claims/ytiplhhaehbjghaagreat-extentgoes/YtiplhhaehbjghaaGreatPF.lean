/- PtRef, PtOf, PtRef2: in one text. -/
import Derived.Test.YtiplhhaehbjghaaGreatT3
namespace Go.Proofs.YtiplhhaehbjghaaGreat
open Go.RowKit
set_option linter.unusedVariables false
set_option maxHeartbeats 32000000
set_option maxRecDepth 100000
set_option linter.unusedSimpArgs false
theorem has_any (w : World) (p : Pt) (i : Nat) (hp : PtOk p) (hi : i < 32) : Calls Tryz.prog 212 #[.agg (ptC p), .int .i64 (i : Int)] w fun e w' => e = .returned (.bool (p.mask.testBit i)) ∧ Below w.heap.size w w' := by
 obtain ⟨w1, hw1⟩ : ∃ w1, w.alloc (.cells (ptC p) 117) = w1 := ⟨_, rfl⟩
 have hB1 : Below w.heap.size w w1 := by rw [← hw1]; exact (Below.refl _ w).alloc (Nat.le_refl _) _
 have hp1 : PtAt w1 w.heap.size p := by rw [← hw1]; exact PtAt.laid w p
 have c1 := hp1.c1
 have hbit : (((p.mask : Int) / 2 ^ i).tmod 2 == 1) = p.mask.testBit i := by rw [Int.tmod_eq_emod_of_nonneg (Int.ediv_nonneg (by omega) (by exact_mod_cast Nat.zero_le _))]; exact bit_mod p.mask i
 have hi32 : (i : Int) ≤ 32 := by omega
 generalize p.mask.testBit i = B at *
 generalize p.mask = M at *
 go_enter Tryz.func212, Tryz.ntmps212
 go_wp2
 go_ret
 exact ⟨by rw [← hbit]; rfl, hB1⟩
theorem ChAt.set {w : World} {g : Nat} {b : List Int} (h : ChAt w g b) (i : Nat) (v : Int) : ChAt (w.setCell ⟨g, i, none⟩ (.int .u8 v)) g (b.set i v) := by
 refine ⟨(heap_setCell_same w g i _ _ _ h.row).trans ?_⟩
 congr 2
 unfold bytesV
 rw [List.setIfInBounds_toArray, List.map_set]
theorem PtAt.set {w : World} {g : Nat} {p : Pt} (h : PtAt w g p) (i : Nat) (v : Int) : PtAt (w.setCell ⟨g, 2 + i, none⟩ (.int .u8 v)) g ⟨p.fresh, p.mask, p.bytes.set i v⟩ := by
 refine ⟨(heap_setCell_same w g (2 + i) _ _ _ h.row).trans ?_⟩
 congr 2
 unfold ptC
 rw [List.setIfInBounds_toArray, show 2 + i = i + 1 + 1 from by omega, List.set_cons_succ, List.set_cons_succ, List.map_set]
theorem ChAt.apart {w : World} {g : Nat} {b : List Int} (h : ChAt w g b) (k i : Nat) (v : Value) (hk : g ≠ k) : ChAt (w.setCell ⟨k, i, none⟩ v) g b := ⟨(heap_setCell_other w ⟨k, i, none⟩ g v hk).trans h.row⟩
theorem PtAt.apart {w : World} {g : Nat} {p : Pt} (h : PtAt w g p) (k i : Nat) (v : Value) (hk : g ≠ k) : PtAt (w.setCell ⟨k, i, none⟩ v) g p := ⟨(heap_setCell_other w ⟨k, i, none⟩ g v hk).trans h.row⟩
def upTo (f : Nat → Int) (b : List Int) (n : Nat) : List Int := (List.range 32).map fun i => if i < n then f i else b.getD i 0
theorem upTo_len (f : Nat → Int) (b : List Int) (n : Nat) : (upTo f b n).length = 32 := by simp [upTo]
theorem upTo_0 (f : Nat → Int) {b : List Int} (h : b.length = 32) : upTo f b 0 = b := by
 unfold upTo
 conv => rhs; rw [ch_eq h]
 exact List.map_congr_left fun i _ => by simp
theorem upTo_all (f : Nat → Int) (b : List Int) : upTo f b 32 = (List.range 32).map f := by
 unfold upTo
 exact List.map_congr_left fun i hi => by rw [if_pos (List.mem_range.1 hi)]
theorem upTo_get (f : Nat → Int) (b : List Int) (n : Nat) {i : Nat} (h : i < 32) : (upTo f b n).getD i 0 = if i < n then f i else b.getD i 0 := by
 unfold upTo; rw [range_get _ h]
theorem upTo_next (f : Nat → Int) (b : List Int) {n : Nat} (h : n < 32) : upTo f b (n + 1) = (upTo f b n).set n (f n) := by
 apply ch_ext (upTo_len _ _ _) (by rw [List.length_set, upTo_len])
 intro i hi
 rw [upTo_get _ _ _ hi]
 by_cases e : i = n
 ·subst e
  rw [if_pos (by omega), show ((upTo f b i).set i (f i)).getD i 0 = f i from by rw [List.getD_eq_getElem?_getD, List.getElem?_set_self (by rw [upTo_len]; omega)]; rfl]
 ·rw [show ((upTo f b n).set n (f n)).getD i 0 = (upTo f b n).getD i 0 from by rw [List.getD_eq_getElem?_getD, List.getD_eq_getElem?_getD, List.getElem?_set_ne (by omega)], upTo_get _ _ _ hi]
  by_cases c : i < n
  ·rw [if_pos c, if_pos (by omega)]
  ·rw [if_neg c, if_neg (by omega)]
theorem upTo_same (f : Nat → Int) (b : List Int) {n : Nat} (h : f n = b.getD n 0) : upTo f b (n + 1) = upTo f b n := by
 unfold upTo
 refine List.map_congr_left fun i hi => ?_
 by_cases e : i = n
 ·subst e; rw [if_pos (by omega), if_neg (by omega), h]
 ·by_cases c : i < n
  ·rw [if_pos c, if_pos (by omega)]
  ·rw [if_neg c, if_neg (by omega)]
theorem upTo_ch {f : Nat → Int} {b : List Int} (hf : ∀ i, 0 ≤ f i ∧ f i ≤ 255) (hb : Ch b) (n : Nat) : Ch (upTo f b n) := by
 refine ⟨upTo_len _ _ _, fun x hx => ?_⟩
 unfold upTo at hx
 obtain ⟨i, _, rfl⟩ := List.mem_map.1 hx
 split
 ·exact hf i
 ·exact hb.2.getD i
theorem rlay_any (w : World) (b : List Int) (p : Pt) (hb : Ch b) (hp : PtOk p) : Calls Tryz.prog 226 #[.agg (bytesV b), .agg (ptC p)] w fun e w' => e = .returned (.agg (bytesV (layB b p))) ∧ Below w.heap.size w w' := by
 have hzc := zeroCh
 have HZ : Hid (zeroC.length = 32) := ch_zero.1
 have HP : Hid (p.bytes.length = 32) := hp.ch.1
 have HL : Hid ((layB b p).length = 32) := layB_len b p
 obtain ⟨w1, hw1⟩ : ∃ w1, ((w.alloc (.cells (bytesV b) 115)).alloc (.cells (ptC p) 117)).alloc (.cells (bytesV zeroC) 115) = w1 := ⟨_, rfl⟩
 have hB1 : Below w.heap.size w w1 := by rw [← hw1]; exact (((Below.refl _ w).alloc (Nat.le_refl _) _).alloc (by simp) _).alloc (by simp; omega) _
 have al : ∀ (A : World) (o : Obj), Below A.heap.size A (A.alloc o) := fun A o => (Below.refl _ A).alloc (Nat.le_refl _) o
 have hc1 : ChAt w1 w.heap.size b := by rw [← hw1]; exact ((ChAt.laid w b).below (al _ _)).below (al _ _)
 have hp1 : PtAt w1 (w.heap.size + 1) p := by rw [← hw1]; have := (PtAt.laid (w.alloc (.cells (bytesV b) 115)) p).below (al _ (.cells (bytesV zeroC) 115)); rwa [World.size_alloc] at this
 have hr1 : ChAt w1 (w.heap.size + 1 + 1) zeroC := by rw [← hw1]; have := ChAt.laid ((w.alloc (.cells (bytesV b) 115)).alloc (.cells (ptC p) 117)) zeroC; rwa [World.size_alloc, World.size_alloc] at this
 clear al
 go_enter Tryz.func226, Tryz.ntmps226
 go_wp2_with fail
 go_loopw [5, 6] (fun _ t wr => ∃ i : Nat, i ≤ 32 ∧ t = .int .i64 (i : Int) ∧ ChAt wr w.heap.size (upTo (layAt b p) b i) ∧ PtAt wr (w.heap.size + 1) p ∧ ChAt wr (w.heap.size + 1 + 1) zeroC ∧ Below w.heap.size w wr) (fun _ t _ => 32 - (intOf t).toNat)
 case atStart => exact ⟨0, by omega, rfl, by rw [upTo_0 _ hb.1]; exact hc1, hp1, hr1, hB1⟩
 case round =>
  obtain ⟨i, hi, rfl, hc, hq, hr, hB⟩ := hrel
  clear hc1 hp1 hr1 hB1 hw1
  by_cases hlt : i < 32
  ·have hlI : (i : Int) < 32 := by omega
   have cB := hc.byte (upTo_len _ _ _) hlt
   have fB := hc.frozen i
   have cF := hq.c0
   have HN : Hid (upTo (layAt b p) b (i + 1) = (upTo (layAt b p) b i).set i (layAt b p i)) := upTo_next _ _ hlt
   have cP := hq.byte HP.out hlt
   cases hf : p.fresh
   ·rw [hf] at cF
    have hld : Hid _ := hq.load HP.out
    cases hbt : p.mask.testBit i
    ·have HS : Hid (upTo (layAt b p) b (i + 1) = upTo (layAt b p) b i) := upTo_same _ _ (by unfold layAt; rw [hbt, hf]; rfl)
     have hh := has_any wr p i hp hlt
     rw [hbt] at hh
     go_wp2_with (refine wpList_loadG rfl 117 _ rfl _ rfl _ hld.out ?_)
     refine hh.mono ?_
     rintro e w5 ⟨rfl, hb5⟩
     go_wp2_with fail
     go_roundw
     case rel => exact ⟨i + 1, by omega, by go_num, by rw [HS.out]; exact hc.below hb5, hq.below hb5, hr.below hb5, hB.trans (hb5.mono hB.size)⟩
     case measure => simp [intOf]; omega
    ·have hv : layAt b p i = p.bytes.getD i 0 := by unfold layAt; rw [hbt]; rfl
     have hh := has_any wr p i hp hlt
     rw [hbt] at hh
     go_wp2_with (refine wpList_loadG rfl 117 _ rfl _ rfl _ hld.out ?_)
     refine hh.mono ?_
     rintro e w5 ⟨rfl, hb5⟩
     have hc5 := hc.below hb5
     have hq5 := hq.below hb5
     have hr5 := hr.below hb5
     have hB5 : Below w.heap.size w w5 := hB.trans (hb5.mono hB.size)
     have cB5 := hc5.byte (upTo_len _ _ _) hlt
     have fB5 := hc5.frozen i
     have cP5 := hq5.byte HP.out hlt
     rw [← hv] at cP5
     clear hv cP
     generalize layAt b p i = V at *
     generalize (upTo (layAt b p) b i).getD i 0 = V0 at *
     go_wp2
     go_roundw
     case rel => exact ⟨i + 1, by omega, by go_num, by rw [HN.out]; exact hc5.set i V, hq5.apart _ _ _ (by omega), hr5.apart _ _ _ (by omega), hB5.setCell (p := ⟨w.heap.size, i, none⟩) (Nat.le_refl _) _⟩
     case measure => simp [intOf]; omega
   ·rw [hf] at cF
    obtain ⟨w4, hw4⟩ : ∃ w4, wr.setCell ⟨w.heap.size, i, none⟩ (.int .u8 0) = w4 := ⟨_, rfl⟩
    have hc4 : ChAt w4 w.heap.size ((upTo (layAt b p) b i).set i 0) := by rw [← hw4]; exact hc.set i 0
    have hq4 : PtAt w4 (w.heap.size + 1) p := by rw [← hw4]; exact hq.apart _ _ _ (by omega)
    have hr4 : ChAt w4 (w.heap.size + 1 + 1) zeroC := by rw [← hw4]; exact hr.apart _ _ _ (by omega)
    have hB4 : Below w.heap.size w w4 := by rw [← hw4]; exact hB.setCell (p := ⟨w.heap.size, i, none⟩) (Nat.le_refl _) _
    have hld : Hid _ := hq4.load HP.out
    have hh := has_any w4 p i hp hlt
    cases hbt : p.mask.testBit i
    ·have hv : layAt b p i = 0 := by unfold layAt; rw [hbt, hf]; rfl
     rw [hbt] at hh
     rw [hv] at HN
     generalize (upTo (layAt b p) b i).getD i 0 = V0 at *
     go_wp2_with (refine wpList_loadG rfl 117 _ rfl _ rfl _ hld.out ?_)
     refine hh.mono ?_
     rintro e w5 ⟨rfl, hb5⟩
     go_wp2_with fail
     go_roundw
     case rel => exact ⟨i + 1, by omega, by go_num, by rw [HN.out]; exact hc4.below hb5, hq4.below hb5, hr4.below hb5, hB4.trans (hb5.mono hB4.size)⟩
     case measure => simp [intOf]; omega
    ·have hv : layAt b p i = p.bytes.getD i 0 := by unfold layAt; rw [hbt]; rfl
     rw [hbt] at hh
     generalize (upTo (layAt b p) b i).getD i 0 = V0 at *
     go_wp2_with (refine wpList_loadG rfl 117 _ rfl _ rfl _ hld.out ?_)
     refine hh.mono ?_
     rintro e w5 ⟨rfl, hb5⟩
     have hc5 := hc4.below hb5
     have hq5 := hq4.below hb5
     have hr5 := hr4.below hb5
     have hB5 : Below w.heap.size w w5 := hB4.trans (hb5.mono hB4.size)
     have cB5 := hc5.byte (by rw [List.length_set]; exact upTo_len _ _ _) hlt
     have fB5 := hc5.frozen i
     have cP5 := hq5.byte HP.out hlt
     rw [← hv] at cP5
     clear hv cP
     have HC : Hid (ChAt w5 w.heap.size ((upTo (layAt b p) b i).set i 0)) := hc5
     generalize layAt b p i = V at *
     generalize ((upTo (layAt b p) b i).set i 0).getD i 0 = V1 at *
     clear hc5 hc4 hw4
     go_wp2
     go_roundw
     case rel => exact ⟨i + 1, by omega, by go_num, by rw [HN.out]; have := HC.out.set i V; rwa [List.set_set] at this, hq5.apart _ _ _ (by omega), hr5.apart _ _ _ (by omega), hB5.setCell (p := ⟨w.heap.size, i, none⟩) (Nat.le_refl _) _⟩
     case measure => simp [intOf]; omega
  ·have hlI : ¬ (i : Int) < 32 := by omega
   have e32 : upTo (layAt b p) b i = layB b p := by rw [show i = 32 from by omega, upTo_all]; rfl
   rw [e32] at hc
   clear e32
   have hld : Hid _ := hc.load HL.out
   go_wp2_with (first
    | (refine wpList_loadG rfl 115 _ rfl _ rfl _ hld.out ?_)
    | (refine wpList_storeC rfl _ _ rfl (w.heap.size + 1 + 1) (layB b p) zeroC rfl rfl HL.out HZ.out hr ?_))
   refine ret_ch rfl (w.heap.size + 1 + 1) (layB b p) HL.out rfl (hr.setRow _) rfl ⟨rfl, ?_⟩
   exact below_setRow hB (by omega) _
def ofE (o : Int) (s : ByteArray) : Int := if o < 0 ∨ 32 - (s.size : Int) < o then 1 else 0
def ofR (o : Int) (s : ByteArray) : Pt := if o < 0 ∨ 32 - (s.size : Int) < o then pt0 else ofP o.toNat (strB s)
theorem strB_cells (s : ByteArray) : Lib.byteCells s.data.toList = (strB s).map (Value.int .u8) := by simp [Lib.byteCells, strB]
theorem of_row (o : Nat) (s : ByteArray) (h : o + s.size ≤ 32) (M : Nat) : ((ptC ⟨false, M, zeroC⟩).toList.take (2 + o) ++ Lib.byteCells s.data.toList ++ (ptC ⟨false, M, zeroC⟩).toList.drop (2 + o + s.size)).toArray = ptC ⟨false, M, (List.range 32).map (setAt (strB s).length o (strB s))⟩ := by
 apply Array.ext'
 rw [strB_cells]
 have hl := strB_length s
 generalize strB s = xs at *
 have e : ∀ b : List Int, (ptC ⟨false, M, b⟩).toList = Value.bool false :: Value.int .u32 (M : Int) :: b.map (Value.int .u8) := fun b => rfl
 rw [e, e, show 2 + o = o + 1 + 1 from by omega, show o + 1 + 1 + s.size = (o + s.size) + 1 + 1 from by omega]
 simp only [List.take_succ_cons, List.drop_succ_cons, List.cons_append, List.cons.injEq, true_and]
 apply List.ext_getElem?
 intro i
 have hz : ∀ i, (zeroC.map (Value.int .u8))[i]? = if i < 32 then some (.int .u8 0) else none := by
  intro i
  unfold zeroC
  rw [List.map_replicate, List.getElem?_replicate]
 have hr : ((((List.range 32).map (setAt xs.length o xs)).map (Value.int .u8)))[i]? = if i < 32 then some (.int .u8 (setAt xs.length o xs i)) else none := by
  rw [List.map_map, List.getElem?_map]
  by_cases hi : i < 32
  ·rw [List.getElem?_range hi, if_pos hi]; rfl
  ·rw [List.getElem?_eq_none (by simpa using hi), if_neg hi]; rfl
 have hzl : (zeroC.map (Value.int .u8)).length = 32 := by simp [zeroC]
 rw [hr]
 by_cases c1 : i < o
 ·rw [List.append_assoc, List.getElem?_append_left (by rw [List.length_take, hzl]; omega), List.getElem?_take, if_pos c1, hz, if_pos (by omega), if_pos (by omega)]
  unfold setAt
  rw [if_neg (by omega)]
 ·by_cases c2 : i < o + s.size
  ·rw [List.append_assoc, List.getElem?_append_right (by rw [List.length_take, hzl]; omega), List.length_take, hzl, show min o 32 = o from by omega, List.getElem?_append_left (by rw [List.length_map]; omega), List.getElem?_map, List.getElem?_eq_getElem (by omega), if_pos (by omega)]
   unfold setAt
   rw [if_pos (by omega)]
   simp [List.getElem?_eq_getElem (show i - o < xs.length by omega)]
  ·rw [List.getElem?_append_right (by rw [List.length_append, List.length_take, hzl, List.length_map]; omega), List.length_append, List.length_take, hzl, List.length_map, List.getElem?_drop, hz, show min o 32 = o from by omega, show o + s.size + (i - (o + xs.length)) = i from by omega]
   by_cases c3 : i < 32
   ·rw [if_pos c3, if_pos c3]
    unfold setAt
    rw [if_neg (by omega)]
   ·rw [if_neg c3, if_neg c3]
theorem of_any (w : World) (o : Int) (s : ByteArray) (ho : (Lit.int .i64 o).wf = true) (hs : s.size ≤ maxLen) : Calls Tryz.prog 153 #[.int .i64 o, .string s] w fun e w' => e = .returned (.tuple #[.agg (ptC (ofR o s)), .int .i64 (ofE o s)]) ∧ Below w.heap.size w w' := by
 have hz := zeroPt
 have HZ : Hid (zeroC.length = 32) := ch_zero.1
 unfold maxLen at hs
 obtain ⟨ho1, ho2⟩ := bounds_i64 ho
 obtain ⟨w1, hw1⟩ : ∃ w1, w.alloc (.cells (ptC pt0) 117) = w1 := ⟨_, rfl⟩
 have hB1 : Below w.heap.size w w1 := by rw [← hw1]; exact (Below.refl _ w).alloc (Nat.le_refl _) _
 have hr1 : PtAt w1 w.heap.size pt0 := by rw [← hw1]; exact PtAt.laid w pt0
 by_cases hno : o < 0 ∨ 32 - (s.size : Int) < o
 ·rw [show ofR o s = pt0 from if_pos hno, show ofE o s = 1 from if_pos hno]
  by_cases h0 : o < 0
  ·clear hno
   go_enter Tryz.func153, Tryz.ntmps153
   go_wp2_with (first
    | (refine wpList_buildBy rfl 117 _ rfl _ rfl [] (by kernel_rfl) (ptC pt0) built_pt0 ?_)
    | (refine wpList_storeP rfl _ _ rfl w.heap.size pt0 pt0 rfl rfl HZ.out HZ.out hr1 ?_))
   refine ret_pt2 rfl w.heap.size pt0 HZ.out rfl _ rfl (hr1.setRow _) rfl ⟨rfl, ?_⟩
   exact below_setRow hB1 (Nat.le_refl _) _
  ·have h1 : 32 - (s.size : Int) < o := by omega
   clear hno
   go_enter Tryz.func153, Tryz.ntmps153
   go_wp2_with (first
    | (refine wpList_buildBy rfl 117 _ rfl _ rfl [] (by kernel_rfl) (ptC pt0) built_pt0 ?_)
    | (refine wpList_storeP rfl _ _ rfl w.heap.size pt0 pt0 rfl rfl HZ.out HZ.out hr1 ?_))
   refine ret_pt2 rfl w.heap.size pt0 HZ.out rfl _ rfl (hr1.setRow _) rfl ⟨rfl, ?_⟩
   exact below_setRow hB1 (Nat.le_refl _) _
 ·rw [show ofR o s = ofP o.toNat (strB s) from if_neg hno, show ofE o s = 0 from if_neg hno]
  obtain ⟨n, rfl⟩ : ∃ n : Nat, o = n := ⟨o.toNat, by omega⟩
  have hns : n + s.size ≤ 32 := by omega
  have hnot : ¬ (32 - (s.size : Int) < (n : Int)) := by omega
  rw [Int.toNat_natCast]
  have hbf := bitsFrom_any w1 n (by omega)
  have hbg := bitsFrom_any w1 (n + s.size) hns
  rw [Int.natCast_add] at hbg
  have han : bits .andNot .u32 ((runM n (32 - n) : Nat) : Int) ((runM (n + s.size) (32 - (n + s.size)) : Nat) : Int) = ((runM n s.size : Nat) : Int) := by
   rw [u32_andNot_nat _ _ (runM_lt (by omega)) (runM_lt (by omega)), run_andNot hns]
  have hrow := of_row n s hns (runM n s.size)
  have hP : ofP n (strB s) = ⟨false, runM n s.size, (List.range 32).map (setAt (strB s).length n (strB s))⟩ := by unfold ofP; rw [strB_length]
  rw [hP]
  have HB0 : Hid (n = 32 → (List.range 32).map (setAt (strB s).length n (strB s)) = zeroC) := fun e => by
   apply ch_ext (by simp) ch_zero.1
   intro i hi
   rw [range_get _ hi, zeroC_get]
   unfold setAt
   rw [if_neg (by omega)]
  have HQ : Hid (((List.range 32).map (setAt (strB s).length n (strB s))).length = 32) := by unfold Hid; simp
  generalize (List.range 32).map (setAt (strB s).length n (strB s)) = Bs at *
  generalize runM n (32 - n) = M1 at *
  generalize runM (n + s.size) (32 - (n + s.size)) = M2 at *
  generalize runM n s.size = M at *
  clear hno hP
  obtain ⟨w2, hw2⟩ : ∃ w2, w1.alloc (.cells (ptC pt0) 117) = w2 := ⟨_, rfl⟩
  have hB2 : Below w.heap.size w w2 := by rw [← hw2]; exact hB1.alloc hB1.size _
  have hb12 : Below w1.heap.size w1 w2 := by rw [← hw2]; exact (Below.refl _ w1).alloc (Nat.le_refl _) _
  have hp2 : PtAt w2 w1.heap.size pt0 := by rw [← hw2]; exact PtAt.laid w1 pt0
  have hr2 := hr1.below hb12
  have hlt := hr1.lt
  obtain ⟨w3, hw3⟩ : ∃ w3, w2.setRow w1.heap.size (ptC ⟨false, M, zeroC⟩) = w3 := ⟨_, rfl⟩
  have hB3 : Below w.heap.size w w3 := by rw [← hw3]; exact below_setRow hB2 hB1.size _
  have hp3 : PtAt w3 w1.heap.size ⟨false, M, zeroC⟩ := by rw [← hw3]; exact hp2.setRow _
  have hr3 : PtAt w3 w.heap.size pt0 := ⟨by rw [← hw3]; exact (setRow_other _ _ _ _ (by omega)).trans hr2.row⟩
  obtain ⟨w4, hw4⟩ : ∃ w4, w3.setRow w1.heap.size (ptC ⟨false, M, Bs⟩) = w4 := ⟨_, rfl⟩
  have hB4 : Below w.heap.size w w4 := by rw [← hw4]; exact below_setRow hB3 hB1.size _
  have hp4 : PtAt w4 w1.heap.size ⟨false, M, Bs⟩ := by rw [← hw4]; exact hp3.setRow _
  have hr4 : PtAt w4 w.heap.size pt0 := ⟨by rw [← hw4]; exact (setRow_other _ _ _ _ (by omega)).trans hr3.row⟩
  have hsz : ((Tryz.prog.info? 5).map (·.size)) = some 1 := by kernel_rfl
  by_cases hn32 : n = 32
  ·have hB := HB0.out hn32
   subst hn32
   subst hB
   have hs0 : s.size = 0 := by omega
   have hcp := fun (d : Option Addr) (l c : Nat) => Lib.run_copy_empty_string (P := Tryz.prog) w3 188 9 3 5 d l c s Tryz.underlying188 (by rw [hsz]; rfl) hs0
   have HS0 : Hid (s.size = 0) := hs0
   clear hrow hs0
   have hl4 : Hid _ := hp3.load HZ.out
   go_enter Tryz.func153, Tryz.ntmps153
   go_wp2_with (first
    | (go_at_call 187; refine hbf.mono ?_; rintro e w9 ⟨rfl, rfl⟩)
    | (go_at_call 187; refine hbg.mono ?_; rintro e w9 ⟨rfl, rfl⟩)
    | (refine wpList_buildBy rfl 117 _ rfl _ rfl [(1, .int .u32 (M : Int))] (by kernel_rfl) (ptC ⟨false, M, zeroC⟩) (built_mask M) ?_)
    | (refine wpList_storeP rfl _ _ rfl w1.heap.size ⟨false, M, zeroC⟩ pt0 rfl rfl HZ.out HZ.out hp2 ?_; rw [hw3])
    | (refine wpList_loadG rfl 117 _ rfl _ rfl _ hl4.out ?_)
    | (refine wpList_storeP rfl _ _ rfl w.heap.size ⟨false, M, zeroC⟩ pt0 rfl rfl HZ.out HZ.out hr3 ?_))
   refine ret_pt2 rfl w.heap.size ⟨false, M, zeroC⟩ HZ.out rfl _ rfl (hr3.setRow _) rfl ⟨rfl, ?_⟩
   exact below_setRow hB3 (Nat.le_refl _) _
  ·have hcp := Lib.run_copy_row_string (P := Tryz.prog) w3 188 9 3 5 w1.heap.size (2 + n) (32 - n) (32 - n) s (ptC ⟨false, M, zeroC⟩) 117 Tryz.underlying188 hsz hp3.row (by omega) (by rw [ptC_size HZ.out]; omega)
   rw [hrow, hw4] at hcp
   have hl4 : Hid _ := hp4.load HQ.out
   have hn32' : (n : Int) ≤ 32 := by omega
   have hne : ¬ 32 = n := by omega
   clear hrow
   go_enter Tryz.func153, Tryz.ntmps153
   go_wp2_with (first
    | (go_at_call 187; refine hbf.mono ?_; rintro e w9 ⟨rfl, rfl⟩)
    | (go_at_call 187; refine hbg.mono ?_; rintro e w9 ⟨rfl, rfl⟩)
    | (refine wpList_buildBy rfl 117 _ rfl _ rfl [(1, .int .u32 (M : Int))] (by kernel_rfl) (ptC ⟨false, M, zeroC⟩) (built_mask M) ?_)
    | (refine wpList_storeP rfl _ _ rfl w1.heap.size ⟨false, M, zeroC⟩ pt0 rfl rfl HZ.out HZ.out hp2 ?_; rw [hw3])
    | (refine wpList_loadG rfl 117 _ rfl _ rfl _ hl4.out ?_)
    | (refine wpList_storeP rfl _ _ rfl w.heap.size ⟨false, M, Bs⟩ pt0 rfl rfl HQ.out HZ.out hr4 ?_))
   refine ret_pt2 rfl w.heap.size ⟨false, M, Bs⟩ HQ.out rfl _ rfl (hr4.setRow _) rfl ⟨rfl, ?_⟩
   exact below_setRow hB4 (Nat.le_refl _) _
def trimAt (p : Pt) (i : Nat) : Int := if p.mask.testBit i then p.bytes.getD i 0 else 0
theorem trimAt_byt {p : Pt} (hp : PtOk p) (i : Nat) : 0 ≤ trimAt p i ∧ trimAt p i ≤ 255 := by
 unfold trimAt
 split
 ·exact hp.ch.2.getD i
 ·omega
theorem trimAt_all (p : Pt) : (List.range 32).map (trimAt p) = (trimP p).bytes := by
 apply ch_ext (by simp) (layB_len _ _)
 intro i hi
 rw [range_get _ hi]
 exact (trimP_get p hi).symm
theorem rtrim_any (w : World) (p : Pt) (hp : PtOk p) : Calls Tryz.prog 179 #[.agg (ptC p)] w fun e w' => e = .returned (.agg (ptC (trimP p))) ∧ Below w.heap.size w w' := by
 have hz := zeroPt
 have HZ : Hid (zeroC.length = 32) := ch_zero.1
 have HT : Hid ((trimP p).bytes.length = 32) := layB_len _ _
 obtain ⟨w1, hw1⟩ : ∃ w1, (w.alloc (.cells (ptC p) 117)).alloc (.cells (ptC pt0) 117) = w1 := ⟨_, rfl⟩
 have hB1 : Below w.heap.size w w1 := by rw [← hw1]; exact ((Below.refl _ w).alloc (Nat.le_refl _) _).alloc (by simp) _
 have hp1 : PtAt w1 w.heap.size p := by rw [← hw1]; exact (PtAt.laid w p).below ((Below.refl _ _).alloc (Nat.le_refl _) _)
 have hr1 : PtAt w1 (w.heap.size + 1) pt0 := by rw [← hw1]; have := PtAt.laid (w.alloc (.cells (ptC p) 117)) pt0; rwa [World.size_alloc] at this
 go_enter Tryz.func179, Tryz.ntmps179
 go_wp2_with fail
 go_loopw [3, 4] (fun _ t wr => ∃ i : Nat, i ≤ 32 ∧ t = .int .i64 (i : Int) ∧ PtAt wr w.heap.size ⟨p.fresh, p.mask, upTo (trimAt p) p.bytes i⟩ ∧ PtAt wr (w.heap.size + 1) pt0 ∧ Below w.heap.size w wr) (fun _ t _ => 32 - (intOf t).toNat)
 case atStart => exact ⟨0, by omega, rfl, by rw [upTo_0 _ hp.ch.1]; exact hp1, hr1, hB1⟩
 case round =>
  obtain ⟨i, hi, rfl, hq, hr, hB⟩ := hrel
  clear hp1 hr1 hB1 hw1
  by_cases hlt : i < 32
  ·have hlI : (i : Int) < 32 := by omega
   have hok : PtOk ⟨p.fresh, p.mask, upTo (trimAt p) p.bytes i⟩ := ⟨hp.lt, upTo_ch (trimAt_byt hp) hp.ch i⟩
   have hld : Hid _ := hq.load (upTo_len _ _ _)
   have hh := has_any wr _ i hok hlt
   dsimp only at hh
   have HN : Hid (upTo (trimAt p) p.bytes (i + 1) = (upTo (trimAt p) p.bytes i).set i (trimAt p i)) := upTo_next _ _ hlt
   cases hbt : p.mask.testBit i
   ·rw [hbt] at hh
    have hv : trimAt p i = 0 := by unfold trimAt; rw [hbt]; rfl
    rw [hv] at HN
    clear hv
    go_wp2_with (refine wpList_loadG rfl 117 _ rfl _ rfl _ hld.out ?_)
    refine hh.mono ?_
    rintro e w5 ⟨rfl, hb5⟩
    have hq5 := hq.below hb5
    have cB5 := hq5.byte (upTo_len _ _ _) hlt
    dsimp only at cB5
    have fB5 := hq5.frozen (2 + i)
    generalize (upTo (trimAt p) p.bytes i).getD i 0 = V0 at *
    go_wp2
    go_roundw
    case rel => exact ⟨i + 1, by omega, by go_num, by rw [HN.out]; exact hq5.set i 0, (hr.below hb5).apart _ _ _ (by omega), (hB.trans (hb5.mono hB.size)).setCell (p := ⟨w.heap.size, 2 + i, none⟩) (Nat.le_refl _) _⟩
    case measure => simp [intOf]; omega
   ·rw [hbt] at hh
    have HS : Hid (upTo (trimAt p) p.bytes (i + 1) = upTo (trimAt p) p.bytes i) := upTo_same _ _ (by unfold trimAt; rw [hbt]; rfl)
    go_wp2_with (refine wpList_loadG rfl 117 _ rfl _ rfl _ hld.out ?_)
    refine hh.mono ?_
    rintro e w5 ⟨rfl, hb5⟩
    go_wp2_with fail
    go_roundw
    case rel => exact ⟨i + 1, by omega, by go_num, by rw [HS.out]; exact hq.below hb5, hr.below hb5, hB.trans (hb5.mono hB.size)⟩
    case measure => simp [intOf]; omega
  ·have hlI : ¬ (i : Int) < 32 := by omega
   have e32 : (⟨p.fresh, p.mask, upTo (trimAt p) p.bytes i⟩ : Pt) = trimP p := by rw [show i = 32 from by omega, upTo_all, trimAt_all]; rfl
   rw [e32] at hq
   clear e32
   have hld : Hid _ := hq.load HT.out
   go_wp2_with (first
    | (refine wpList_loadG rfl 117 _ rfl _ rfl _ hld.out ?_)
    | (refine wpList_storeP rfl _ _ rfl (w.heap.size + 1) (trimP p) pt0 rfl rfl HT.out HZ.out hr ?_))
   refine ret_pt rfl (w.heap.size + 1) (trimP p) HT.out rfl (hr.setRow _) rfl ⟨rfl, ?_⟩
   exact below_setRow hB (by omega) _
def joinAt (a b : Pt) (i : Nat) : Int := if b.mask.testBit i then b.bytes.getD i 0 else if a.mask.testBit i then a.bytes.getD i 0 else 0
theorem joinAt_all (a b : Pt) (hf : b.fresh = false) : (List.range 32).map (joinAt a b) = layB (trimP a).bytes b := by
 apply ch_ext (by simp) (layB_len _ _)
 intro i hi
 rw [range_get _ hi, layB_get _ _ hi]
 unfold joinAt layAt
 rw [trimP_get a hi, hf]
 rfl
theorem rjoin_any (w : World) (a b : Pt) (ha : PtOk a) (hb : PtOk b) : Calls Tryz.prog 180 #[.agg (ptC a), .agg (ptC b)] w fun e w' => e = .returned (.agg (ptC (joinP a b))) ∧ Below w.heap.size w w' := by
 have hz := zeroPt
 have HA : Hid (a.bytes.length = 32) := ha.ch.1
 have HB : Hid (b.bytes.length = 32) := hb.ch.1
 have HZ : Hid (zeroC.length = 32) := ch_zero.1
 obtain ⟨w1, hw1⟩ : ∃ w1, (((w.alloc (.cells (ptC a) 117)).alloc (.cells (ptC b) 117)).alloc (.cells (ptC pt0) 117)) = w1 := ⟨_, rfl⟩
 have al : ∀ (A : World) (o : Obj), Below A.heap.size A (A.alloc o) := fun A o => (Below.refl _ A).alloc (Nat.le_refl _) o
 have hB1 : Below w.heap.size w w1 := by rw [← hw1]; exact (((Below.refl _ w).alloc (Nat.le_refl _) _).alloc (by simp) _).alloc (by simp; omega) _
 have ha1 : PtAt w1 w.heap.size a := by rw [← hw1]; exact ((PtAt.laid w a).below (al _ _)).below (al _ _)
 have hb1 : PtAt w1 (w.heap.size + 1) b := by rw [← hw1]; have := (PtAt.laid (w.alloc (.cells (ptC a) 117)) b).below (al _ (.cells (ptC pt0) 117)); rwa [World.size_alloc] at this
 have hr1 : PtAt w1 (w.heap.size + 1 + 1) pt0 := by rw [← hw1]; have := PtAt.laid ((w.alloc (.cells (ptC a) 117)).alloc (.cells (ptC b) 117)) pt0; rwa [World.size_alloc, World.size_alloc] at this
 have HS1 : Hid (w1.heap.size = w.heap.size + 3) := by unfold Hid; rw [← hw1]; simp
 clear al
 have c0 := hb1.c0
 cases hf : b.fresh
 ·rw [hf] at c0
  have HJ : Hid (joinP a b = ⟨a.fresh, a.mask ||| b.mask, layB (trimP a).bytes b⟩) := by unfold Hid joinP; rw [hf]; rfl
  have HL : Hid ((layB (trimP a).bytes b).length = 32) := layB_len _ _
  have hor := u32_or_nat a.mask b.mask ha.lt hb.lt
  have a0 := ha1.c0
  have a1 := ha1.c1
  have b1 := hb1.c1
  rw [HJ.out]
  obtain ⟨w2, hw2⟩ : ∃ w2, w1.alloc (.cells (ptC pt0) 117) = w2 := ⟨_, rfl⟩
  have hb12 : Below w1.heap.size w1 w2 := by rw [← hw2]; exact (Below.refl _ w1).alloc (Nat.le_refl _) _
  have ho2 : PtAt w2 w1.heap.size pt0 := by rw [← hw2]; exact PtAt.laid w1 pt0
  obtain ⟨w3, hw3⟩ : ∃ w3, w2.setRow w1.heap.size (ptC ⟨a.fresh, a.mask ||| b.mask, zeroC⟩) = w3 := ⟨_, rfl⟩
  have ho3 : PtAt w3 w1.heap.size ⟨a.fresh, a.mask ||| b.mask, zeroC⟩ := by rw [← hw3]; exact ho2.setRow _
  have hb13 : Below w1.heap.size w1 w3 := by rw [← hw3]; exact below_setRow hb12 (Nat.le_refl _) _
  have ha3 := ha1.below hb13
  have hb3 := hb1.below hb13
  have hr3 := hr1.below hb13
  have hB3 : Below w.heap.size w w3 := hB1.trans (hb13.mono hB1.size)
  go_enter Tryz.func180, Tryz.ntmps180
  go_wp2_with (first
   | (refine wpList_buildBy rfl 117 _ rfl _ rfl [(0, .bool a.fresh), (1, .int .u32 ((a.mask ||| b.mask : Nat) : Int))] (by kernel_rfl) (ptC ⟨a.fresh, a.mask ||| b.mask, zeroC⟩) (built_two _ _) ?_)
   | (refine wpList_storeP rfl _ _ rfl w1.heap.size ⟨a.fresh, a.mask ||| b.mask, zeroC⟩ pt0 rfl rfl HZ.out HZ.out ho2 ?_; rw [hw3]))
  generalize hM : a.mask ||| b.mask = M at *
  have HM : Hid (a.mask ||| b.mask = M) := hM
  clear hM
  clear hw1 hw2 hw3 a0 a1 b1 c0 hor ho2 hb12 hb13 ha1 hb1 hr1 hB1
  go_loopw [6, 19] (fun _ t wr => ∃ i : Nat, i ≤ 32 ∧ t = .int .i64 (i : Int) ∧ PtAt wr w1.heap.size ⟨a.fresh, M, upTo (joinAt a b) zeroC i⟩ ∧ PtAt wr w.heap.size a ∧ PtAt wr (w.heap.size + 1) b ∧ PtAt wr (w.heap.size + 1 + 1) pt0 ∧ Below w.heap.size w wr) (fun _ t _ => 32 - (intOf t).toNat)
  case atStart => exact ⟨0, by omega, rfl, by rw [upTo_0 _ HZ.out]; exact ho3, ha3, hb3, hr3, hB3⟩
  case round =>
   obtain ⟨i, hi, rfl, ho, hA, hBt, hr, hB⟩ := hrel
   clear ho3 ha3 hb3 hr3 hB3
   by_cases hlt : i < 32
   ·have hlI : (i : Int) < 32 := by omega
    have hldb : Hid _ := hBt.load HB.out
    have hh := has_any wr b i hb hlt
    have HN : Hid (upTo (joinAt a b) zeroC (i + 1) = (upTo (joinAt a b) zeroC i).set i (joinAt a b i)) := upTo_next _ _ hlt
    cases hbt : b.mask.testBit i
    ·rw [hbt] at hh
     go_wp2_with (refine wpList_loadG rfl 117 _ rfl _ rfl _ hldb.out ?_)
     refine hh.mono ?_
     rintro e w5 ⟨rfl, hb5⟩
     have hA5 := hA.below hb5
     have hlda : Hid _ := hA5.load HA.out
     have hha := has_any w5 a i ha hlt
     clear hldb hh
     cases hat : a.mask.testBit i
     ·rw [hat] at hha
      have HS : Hid (upTo (joinAt a b) zeroC (i + 1) = upTo (joinAt a b) zeroC i) := upTo_same _ _ (by unfold joinAt; rw [hbt, hat, zeroC_get]; rfl)
      go_wp2_with (refine wpList_loadG rfl 117 _ rfl _ rfl _ hlda.out ?_)
      refine hha.mono ?_
      rintro e w6 ⟨rfl, hb6⟩
      go_wp2_with fail
      go_roundw
      case rel => exact ⟨i + 1, by omega, by go_num, by rw [HS.out]; exact (ho.below hb5).below hb6, hA5.below hb6, (hBt.below hb5).below hb6, (hr.below hb5).below hb6, (hB.trans (hb5.mono hB.size)).trans (hb6.mono (Nat.le_trans hB.size hb5.size))⟩
      case measure => simp [intOf]; omega
     ·rw [hat] at hha
      have hv : joinAt a b i = a.bytes.getD i 0 := by unfold joinAt; rw [hbt, hat]; rfl
      go_wp2_with (refine wpList_loadG rfl 117 _ rfl _ rfl _ hlda.out ?_)
      refine hha.mono ?_
      rintro e w6 ⟨rfl, hb6⟩
      have ho6 := (ho.below hb5).below hb6
      have hA6 := hA5.below hb6
      have hB6 := (hBt.below hb5).below hb6
      have hr6 := (hr.below hb5).below hb6
      have hBB : Below w.heap.size w w6 := (hB.trans (hb5.mono hB.size)).trans (hb6.mono (Nat.le_trans hB.size hb5.size))
      have cO := ho6.byte (upTo_len _ _ _) hlt
      have fO := ho6.frozen (2 + i)
      have cA := hA6.byte HA.out hlt
      dsimp only at cO
      rw [← hv] at cA
      clear hv hlda
      generalize joinAt a b i = V at *
      generalize (upTo (joinAt a b) zeroC i).getD i 0 = V0 at *
      go_wp2
      go_roundw
      case rel => exact ⟨i + 1, by omega, by go_num, by rw [HN.out]; exact ho6.set i V, hA6.apart _ _ _ (by have := HS1.out; omega), hB6.apart _ _ _ (by have := HS1.out; omega), hr6.apart _ _ _ (by have := HS1.out; omega), hBB.setCell (p := ⟨w1.heap.size, 2 + i, none⟩) (by have := HS1.out; show w.heap.size ≤ w1.heap.size; omega) _⟩
      case measure => simp [intOf]; omega
    ·rw [hbt] at hh
     have hv : joinAt a b i = b.bytes.getD i 0 := by unfold joinAt; rw [hbt]; rfl
     go_wp2_with (refine wpList_loadG rfl 117 _ rfl _ rfl _ hldb.out ?_)
     refine hh.mono ?_
     rintro e w6 ⟨rfl, hb6⟩
     have ho6 := ho.below hb6
     have hA6 := hA.below hb6
     have hB6 := hBt.below hb6
     have hr6 := hr.below hb6
     have hBB : Below w.heap.size w w6 := hB.trans (hb6.mono hB.size)
     have cO := ho6.byte (upTo_len _ _ _) hlt
     have fO := ho6.frozen (2 + i)
     have cA := hB6.byte HB.out hlt
     dsimp only at cO
     rw [← hv] at cA
     clear hv hldb
     generalize joinAt a b i = V at *
     generalize (upTo (joinAt a b) zeroC i).getD i 0 = V0 at *
     go_wp2
     go_roundw
     case rel => exact ⟨i + 1, by omega, by go_num, by rw [HN.out]; exact ho6.set i V, hA6.apart _ _ _ (by have := HS1.out; omega), hB6.apart _ _ _ (by have := HS1.out; omega), hr6.apart _ _ _ (by have := HS1.out; omega), hBB.setCell (p := ⟨w1.heap.size, 2 + i, none⟩) (by have := HS1.out; show w.heap.size ≤ w1.heap.size; omega) _⟩
     case measure => simp [intOf]; omega
   ·have hlI : ¬ (i : Int) < 32 := by omega
    have e32 : upTo (joinAt a b) zeroC i = layB (trimP a).bytes b := by rw [show i = 32 from by omega, upTo_all, joinAt_all a b hf]
    rw [e32] at ho
    clear e32
    have hld : Hid _ := ho.load HL.out
    go_wp2_with (first
     | (refine wpList_loadG rfl 117 _ rfl _ rfl _ hld.out ?_)
     | (refine wpList_storeP rfl _ _ rfl (w.heap.size + 1 + 1) ⟨a.fresh, M, layB (trimP a).bytes b⟩ pt0 rfl rfl HL.out HZ.out hr ?_))
    refine ret_pt rfl (w.heap.size + 1 + 1) ⟨a.fresh, M, layB (trimP a).bytes b⟩ HL.out rfl (hr.setRow _) rfl ⟨by rw [HM.out], ?_⟩
    exact below_setRow hB (by omega) _
 ·rw [hf] at c0
  have HJ : Hid (joinP a b = trimP b) := by unfold Hid joinP; rw [hf]; rfl
  have HTl : Hid ((trimP b).bytes.length = 32) := layB_len _ _
  have hl1 : Hid _ := hb1.load HB.out
  rw [HJ.out]
  go_enter Tryz.func180, Tryz.ntmps180
  go_wp2_with (refine wpList_loadG rfl 117 _ rfl _ rfl _ hl1.out ?_)
  refine (rtrim_any w1 b hb).mono ?_
  rintro e w2 ⟨rfl, hb2⟩
  have hat2 := hr1.below hb2
  have hB2 : Below w.heap.size w w2 := hB1.trans (hb2.mono hB1.size)
  go_wp2_with (refine wpList_storeP rfl _ _ rfl (w.heap.size + 1 + 1) (trimP b) pt0 rfl rfl HTl.out HZ.out hat2 ?_)
  exact ret_pt rfl (w.heap.size + 1 + 1) _ HTl.out rfl (hat2.setRow _) rfl ⟨rfl, below_setRow hB2 (by omega) _⟩
end Go.Proofs.YtiplhhaehbjghaaGreat
