/- The contract of the document's Write (written by tools/laws/RxW_gen.py). -/
import Derived.Test.YtiplhhaehbjghaaGreatM1
import Derived.Test.YtiplhhaehbjghaaGreatRxA
import Derived.Test.YtiplhhaehbjghaaGreatInSx
import Derived.Test.YtiplhhaehbjghaaGreatPtRef3
import Derived.Test.YtiplhhaehbjghaaGreatIJ
namespace Go.Proofs.YtiplhhaehbjghaaGreat
open Go.RowKit Go.Maps
set_option linter.unusedVariables false
set_option maxHeartbeats 32000000
set_option maxRecDepth 100000
set_option linter.unusedSimpArgs false
theorem xrd_fi1 (w : World) (Z : Int) : RdZ 2 fiE (w.alloc (.cells #[.int .i64 4, .int .i64 Z] 98)) (.slice (some ⟨w.heap.size, 0, none⟩) 1 1) [(4, Z)] := rdZ_own fi_len (base := w.heap.size) (e := 98) ⟨rfl, .inr ⟨w.heap.size, 1, #[.int .i64 4, .int .i64 Z], rfl, Nat.le_refl _, heap_alloc_new _ _, Nat.le_refl _, by decide, rfl, by simp [fiE]⟩⟩
theorem setB {B : Nat} {w : World} {x : Nat} {X : List Nat} {s : Sg} (h : XsIn B w x X s) (ino : Int) (h0 : 0 ≤ ino) (h1 : ino ≤ 4294967295) (Z : Int) (z0 : 0 ≤ Z) (z1 : Z ≤ 512) {N : Nat} (hk : Sk s N) (hN : N ≤ 4000) :
  Calls Tryz.prog 46 #[.pointer (some ⟨x, 0, none⟩), .int .u32 ino, .slice (some ⟨w.heap.size, 0, none⟩) 1 1] (w.alloc (.cells #[.int .i64 4, .int .i64 Z] 98)) fun e w' => e = .returned (.int .i64 (setR s ino [(4, Z)]).2) ∧ XsOut B w x X (setR s ino [(4, Z)]).1 w' := by
 have hb := bel1 w (.cells #[.int .i64 4, .int .i64 Z] 98)
 refine (set_x (h.below hb) ino h0 h1 _ _ _ [(4, Z)] (xrd_fi1 w Z) (fun b off e _ hm => by simp only [Option.some.injEq, Addr.mk.injEq] at e; have := (h.lt b hm).1; omega) (by decide) (by intro f hf; simp at hf; subst hf; dsimp only; omega) hk hN).mono ?_
 rintro e w' ⟨rfl, ho⟩
 exact ⟨rfl, XsOut.pre hb ho⟩
theorem pcsF_0 (f o off : Nat) : pcsF f o off 0 = [] := by cases f <;> rfl
theorem xwrite {B : Nat} {w : World} {x : Nat} {X : List Nat} {s : Sg} (h : XsIn B w x X s) (iv : Iv s) (ino : Int) (h0 : 0 ≤ ino) (h1 : ino ≤ 4294967295) (off : Int) (ho0 : -9223372036854775808 ≤ off) (ho1 : off ≤ 9223372036854775807) (data : ByteArray) {N : Nat} (hk : Sk s N) (hN : N ≤ 3800) :
  Calls Tryz.prog 57 #[.pointer (some ⟨x, 0, none⟩), .int .u32 ino, .int .i64 off, .string data] w fun e w' =>
  e = .returned (.int .i64 (wrX s ino off data).2) ∧ XsOut B w x X (wrX s ino off data).1 w' := by
 obtain ⟨R, hR⟩ : ∃ R, wrX s ino off data = R := ⟨_, rfl⟩
 rw [hR]
 have HF : Hid ((if off < 0 ∨ 64 < data.size then (s, 1) else exWr1 SgP ino off data (exSz SgP s ino)) = R) := hR
 have HH : Hid (XsIn B w x X s) := h
 have HIV : Hid (Iv s) := iv
 have HK : Hid (Sk s N) := hk
 have HN : Hid (N ≤ 3800) := hN
 have HSZ : Hid _ := exSz_x iv ino
 have cf := file_x h iv.c ino h0 h1
 clear h hR hk iv hN
 by_cases c1 : off < 0
 case pos =>
  have HE : Hid (R = (s, 1)) := HF.out.symm.trans (if_pos (.inl c1))
  clear HF cf HSZ
  go_enter Tryz.func57, Tryz.ntmps57
  go_wp2
  go_ret
  exact ⟨by rw [HE.out]; first | done | rfl, by rw [HE.out]; exact HH.out.out (Below.refl _ _)⟩
 by_cases c2 : 64 < data.size
 case pos =>
  have HE : Hid (R = (s, 1)) := HF.out.symm.trans (if_pos (.inr c2))
  have c2I : (64 : Int) < (data.size : Int) := by omega
  clear HF cf HSZ
  go_enter Tryz.func57, Tryz.ntmps57
  go_wp2
  go_ret
  exact ⟨by rw [HE.out]; first | done | rfl, by rw [HE.out]; exact HH.out.out (Below.refl _ _)⟩
 have c2I : ¬ (64 : Int) < (data.size : Int) := by omega
 have HE0 : Hid (exWr1 SgP ino off data (exSz SgP s ino) = R) := (if_neg (show ¬ (off < 0 ∨ 64 < data.size) by omega)).symm.trans HF.out
 have HD : Hid (data.size ≤ 64) := by unfold Hid; omega
 clear HF
 go_enter Tryz.func57, Tryz.ntmps57
 go_wp2_with fail
 refine cf.mono ?_
 rintro e w1 ⟨rfl, hb1⟩
 have HB1 : Hid (Below w.heap.size w w1) := hb1
 clear cf hb1
 generalize exSz SgP s ino = Z at *
 generalize fileE s ino = fe at *
 by_cases he : fe = 0
 case neg =>
  have heb : (fe != 0) = true := by simpa using he
  have HE : Hid (R = (s, fe)) := by
   have e1 := HE0.out
   rw [HSZ.out.1 he] at e1
   have e2 : exWr1 SgP ino off data (s, 0, fe) = (s, fe) := if_pos he
   exact e1.symm.trans e2
  clear HE0 HSZ
  go_wp2
  go_ret
  exact ⟨by rw [HE.out]; first | done | rfl, by rw [HE.out]; exact HH.out.out HB1.out⟩
 subst he
 obtain ⟨rfl, hsz, hz0, hz1, hi0⟩ := HSZ.out.2 rfl
 have cz := size_x (HH.out.below HB1.out) HIV.out.c ino h0 h1 (Nat.le_trans HK.out.R (by have := HN.out; unfold Hid at this; omega))
 rw [hsz] at cz
 have HBD : Hid (0 ≤ (fdR s ino).1.s ∧ (fdR s ino).1.s ≤ 512 ∧ ino ≠ 0) := ⟨hz0, hz1, hi0⟩
 have HK1 : Hid (Sk { s with R := addK s.R ino [3] } (N + 1)) := HK.out.read ino [3]
 clear hsz hz0 hz1 hi0 HSZ HIV
 generalize ({ s with R := addK s.R ino [3] } : Sg) = S1 at *
 generalize (fdR s ino).1.s = z at *
 dsimp only at cz
 go_wp2_with fail
 refine cz.mono ?_
 rintro e w2 ⟨rfl, ho2⟩
 have HO2 : Hid (XsOut B w x X S1 w2) := XsOut.pre HB1.out ho2
 clear cz ho2 HH HK
 have hz0 := HBD.out.1
 have hz1 := HBD.out.2.1
 by_cases hd : data.size = 0
 case pos =>
  have HE : Hid (R = (S1, 0)) := HE0.out.symm.trans ((if_neg (show ¬ ((0 : Int) ≠ 0) by simp)).trans (if_pos hd))
  have hdd : data = ByteArray.empty := ByteArray.ext (Array.eq_empty_of_size_eq_zero hd)
  subst hdd
  clear HE0
  go_wp2
  go_ret
  exact ⟨by rw [HE.out]; first | done | rfl, by rw [HE.out]; exact HO2.out⟩
 have hde1 : (data.toList == []) = false := by
  cases hq : data.toList with
  | nil => exfalso; apply hd; have := congrArg List.length hq; rw [ByteArray.toList_eq] at this; simpa using this
  | cons x r => rfl
 have hde2 : data.toList.isEmpty = false := by cases hq : data.toList with
  | nil => rw [hq] at hde1; cases hde1
  | cons x r => rfl
 by_cases hbig : 512 - (data.size : Int) < off
 case pos =>
  have HE : Hid (R = (S1, 180)) := HE0.out.symm.trans ((if_neg (show ¬ ((0 : Int) ≠ 0) by simp)).trans ((if_neg hd).trans (if_pos hbig)))
  clear HE0
  go_wp2
  go_ret
  exact ⟨by rw [HE.out]; first | done | rfl, by rw [HE.out]; exact HO2.out⟩
 have HE1 : Hid (exWr2 SgP ino off (off + data.size) z (exPut SgP S1 ((pcsL off.toNat data.size).map (layC ino (strB data)))) = R) := ((if_neg (show ¬ ((0 : Int) ≠ 0) by simp)).trans ((if_neg hd).trans (if_neg hbig))).symm.trans HE0.out
 clear HE0
 obtain ⟨o', rfl⟩ : ∃ o' : Nat, off = (o' : Int) := ⟨off.toNat, by omega⟩
 rw [Int.toNat_natCast] at HE1
 obtain ⟨L, hL⟩ : ∃ L, data.size = L := ⟨_, rfl⟩
 obtain ⟨en, hen⟩ : ∃ en, o' + L = en := ⟨_, rfl⟩
 have hendI : (o' : Int) + (L : Int) = (en : Int) := by omega
 have HE2 : Hid (exWr2 SgP ino (o' : Int) (en : Int) z (exPut SgP S1 ((pcsL o' L).map (layC ino (strB data)))) = R) := by have := HE1.out; rw [hL, hendI] at this; exact this
 have HNAT : Hid (o' + L = en ∧ en ≤ 512 ∧ 0 < L ∧ L ≤ 64 ∧ data.size = L) := ⟨hen, by omega, by omega, by have := HD.out; unfold Hid at this; omega, hL⟩
 have HXB : Hid (Byt (strB data)) := strB_byt data
 have HXL : Hid ((strB data).length = L) := by unfold Hid; rw [strB_length]; exact hL
 obtain ⟨T, hT⟩ : ∃ T, exPut SgP S1 ((pcsL o' L).map (layC ino (strB data))) = T := ⟨_, rfl⟩
 have HT : Hid (exPut SgP S1 ((pcsF L 0 (o' + 0) (L - 0)).map (layC ino (strB data))) = T) := hT
 rw [hT] at HE2
 have henI : (en : Int) ≤ 512 := by omega
 clear HE1 hT hen hd
 go_upto_region 12 with fail
 try rw [hL]
 try rw [hendI]
 clear hL hendI
 have HBE : Hid (0 ≤ (en : Int) ∧ (en : Int) ≤ 512) := ⟨by omega, henI⟩
 go_wp2_with fail
 go_loopg [13] L (fun kx s13 wr => ∃ (o : Nat) (s' : Sg), s13 = .int .i64 ((o' + o : Nat) : Int) ∧ o ≤ L ∧ L - o ≤ kx ∧ Hid (XsOut B w x X s' wr) ∧ Hid (exPut SgP s' ((pcsF L o (o' + o) (L - o)).map (layC ino (strB data))) = T) ∧ Hid (Sk s' (N + 1 + o)))
 case atStart => exact ⟨0, S1, rfl, Nat.zero_le _, by omega, HO2.out, HT.out, HK1.out⟩
 case round =>
  obtain ⟨o, s', rfl, hin, hkx, HO, HP, HS⟩ := hrel
  obtain ⟨A, hA⟩ : ∃ A, o' + o = A := ⟨_, rfl⟩
  rw [hA] at HP ⊢
  by_cases hlt : o < L
  ·obtain ⟨n, hn⟩ : ∃ n, pcN A (L - o) = n := ⟨_, rfl⟩
   obtain ⟨r, hr⟩ : ∃ r, A % 32 = r := ⟨_, rfl⟩
   obtain ⟨m, hm⟩ : ∃ m, o + n = m := ⟨_, rfl⟩
   obtain ⟨tt, htt⟩ : ∃ tt, A + n = tt := ⟨_, rfl⟩
   have hnp : 0 < n ∧ n ≤ L - o ∧ n ≤ 32 - r ∧ (n = L - o ∨ n = 32 - r) := by rw [← hn]; unfold pcN; omega
   have HAT9 : Hid (A ≤ 2000) := by have := HNAT.out; unfold Hid at *; omega
   have HM : Hid (o + n = m ∧ A + n = tt ∧ o' + o = A ∧ A % 32 = r ∧ 0 < n ∧ m ≤ L ∧ o < L ∧ r + n ≤ 32 ∧ tt ≤ en) := by have := HNAT.out; exact ⟨hm, htt, hA, hr, hnp.1, by omega, hlt, by omega, by omega⟩
   have HPE : Hid (datP ino ((A / 32 : Nat) : Int) = datP ino ((A / 32 : Nat) : Int)) := rfl
   have HDR : Hid (exPut SgP s' (dataC (datP ino ((A / 32 : Nat) : Int)) (ofP r (((strB data).drop o).take n)) :: (pcsF L m (o' + m) (L - m)).map (layC ino (strB data))) = T) := by
    have e := HP.out
    rw [pcsF_next (by omega) (by omega), List.map_cons, hn, hr, hm, htt, show L - o - n = L - m by omega, show tt = o' + m by omega] at e
    exact e
   have hltI : (A : Int) < (en : Int) := by have := HNAT.out; omega
   have hrI : (A : Int) % 32 = (r : Int) := by omega
   have hAI : (A : Int) - (o' : Int) = (o : Int) := by omega
   have htI : (tt : Int) - (o' : Int) = (m : Int) := by omega
   have hA0 : (0 : Int) ≤ (A : Int) := by omega
   have hA1 : (A : Int) ≤ 512 := by omega
   have hmin : min (en : Int) ((A : Int) - (r : Int) + 32) = (tt : Int) := by have := HNAT.out; omega
   clear hn hr hm htt hnp hA
   go_upto_region 14 with fail
   go_cut [14] from 57 to 63 (fun s14 wx => s14 = .int .i64 (tt : Int) ∧ wx = wr)
   case first =>
    obtain ⟨q1, hq1⟩ : ∃ q1, (A : Int) - (r : Int) = q1 := ⟨_, rfl⟩
    have hr9 : (r : Int) ≤ 32 ∧ (0 : Int) ≤ (r : Int) := by omega
    have hq2 : -100 ≤ q1 ∧ q1 ≤ 600 := by omega
    obtain ⟨hq3, hq4⟩ := hq2
    have hq5 : q1 + 32 ≤ 700 := by omega
    have hq6 : -100 ≤ q1 + 32 := by omega
    rw [hq1] at hmin
    go_wp2_with fail
    go_meet
    case rel => exact ⟨congrArg (Value.int .i64) (by omega), rfl⟩
   case rest =>
    obtain ⟨rfl, hw9⟩ := hcut
    obtain rfl : wr = wc := hw9.symm
    clear hmin hw9
    have hyl : (((strB data).drop o).take n).length = n := by have := HXL.out; have := HM.out; rw [List.length_take, List.length_drop]; omega
    have hse : (data.extract o m).size = n := by
     have := HNAT.out; have := HM.out
     rw [ByteArray.size_extract]; omega
    have hsb : strB (data.extract o m) = ((strB data).drop o).take n := by
     have := HNAT.out; have := HM.out
     rw [strB_extract data o m (by omega), show m - o = n by omega]
    have co := rof_any wr (r : Int) (data.extract o m) (WalkArith.wf_i64 ⟨by omega, by have := HM.out; omega⟩) (by rw [hse]; have := HM.out; unfold maxLen; omega)
    have hofr : ofR (r : Int) (data.extract o m) = ofP r (((strB data).drop o).take n) := by
     unfold ofR
     rw [if_neg (by rw [hse]; have := HM.out; omega), hsb]
     rfl
    rw [hofr] at co
    have HQ : Hid (PtOk (ofP r (((strB data).drop o).take n))) := ofP_ok ((HXB.out.drop _).take _) (by rw [hyl]; have := HM.out; omega)
    generalize ofP r (((strB data).drop o).take n) = Q at *
    generalize ofE (r : Int) (data.extract o m) = oe at *
    have hom : (o : Int) ≤ (m : Int) := by have := HM.out; omega
    have hmL : (m : Int) ≤ (data.size : Int) := by have := HM.out; have := HNAT.out; omega
    have ho9 : (0 : Int) ≤ (o : Int) := by omega
    have hr10 : (0 : Int) ≤ (r : Int) := by omega
    have HCG : Hid (CgOk (dataC (datP ino ((A / 32 : Nat) : Int)) Q)) := dataC_ok h0 h1 (by have := HAT9.out; unfold Hid at this; omega) HQ.out
    have HZ : Hid (pt0.bytes.length = 32) := ch_zero.1
    have hz := zeroPt
    clear hyl hse hsb hofr
    go_wp2_with fail
    refine co.mono ?_
    rintro e w9 ⟨rfl, hb9⟩
    clear co
    have hp10 := PtAt.laid w9 pt0
    have hb10 := bel1 w9 (.cells (ptC pt0) 117)
    obtain ⟨w10, hw10⟩ : ∃ w10, w9.alloc (.cells (ptC pt0) 117) = w10 := ⟨_, rfl⟩
    rw [hw10] at hp10 hb10
    have HPA0 : Hid (PtAt (w10.setRow w9.heap.size (ptC Q)) w9.heap.size Q) := hp10.setRow Q
    have HB11 : Hid (Below w9.heap.size w9 (w10.setRow w9.heap.size (ptC Q))) := below_setRow hb10 (Nat.le_refl _) _
    have HB9 : Hid (Below wr.heap.size wr w9) := hb9
    clear hb9 hb10
    go_wp2_with (refine wpList_storeP rfl _ _ rfl w9.heap.size Q pt0 rfl rfl HQ.out.ch.1 HZ.out hp10 ?_)
    clear hp10 hw10
    obtain ⟨w11, hw11⟩ : ∃ w11, w10.setRow w9.heap.size (ptC Q) = w11 := ⟨_, rfl⟩
    rw [hw11] at HPA0 HB11 ⊢
    obtain ⟨gp, hgp⟩ : ∃ gp, w9.heap.size = gp := ⟨_, rfl⟩
    rw [hgp] at HPA0 ⊢
    have HPA : Hid (PtAt w11 gp Q) := HPA0.out
    clear hw11 hz hgp HPA0
    obtain ⟨X1, hx1, hx2, hx3⟩ := HO.out.post (thenB HB9.out HB11.out)
    have hx4 := hx1.below (Below.refl _ w11).drew
    obtain ⟨rv, q, hvr, hq, hput⟩ := hx4.putV
    have HVQ : Hid (x ≠ q ∧ rv ≠ q ∧ gp ≠ q) := ⟨(hvr.ne hq).1, (hvr.ne hq).2, hq _ _ _ _ (show w11.drew.heap[gp]? = _ from HPA.out.row) (by decide)⟩
    have HPT : Hid _ := hput
    have HX2 : Hid (Sole X w w11) := hx2
    have HX3 : Hid (∀ k ∈ X1, k ∈ X ∨ w.heap.size ≤ k) := hx3
    have hS0 : VRow w11.drew x rv q ∧ PtAt w11.drew gp Q := ⟨hvr, ⟨HPA.out.row⟩⟩
    clear hx1 hx2 hx3 hx4 hvr hq hput
    go_wp2_with fail
    refine wp_region_noPanic ?_
    refine wp_region_held_drew (S := fun W => VRow W x rv q ∧ PtAt W gp Q) (by kernel_rfl) hS0 (fun hHeld => ?_)
    refine tk 0 (.pointer (some ⟨x, 0, none⟩)) rfl ?_
    try simp only [nz]
    refine tk 1 (.pointer (some ⟨x, 0, none⟩)) rfl ?_
    try simp only [nz]
    refine tk 2 (.pointer (some ⟨x, 0, none⟩)) rfl ?_
    try simp only [nz]
    refine tk 3 (.pointer (some ⟨rv, 0, none⟩)) rfl ?_ (fun W hSw => by (try dsimp only at hSw); (have z := hSw.1.c0; go_simp))
    try simp only [nz]
    refine tk 4 (.pointer (some ⟨rv, 0, none⟩)) rfl ?_
    try simp only [nz]
    refine tk 5 (.pointer (some ⟨rv, 1, none⟩)) rfl ?_
    try simp only [nz]
    refine tk 6 (.pointer (some ⟨q, 0, none⟩)) rfl ?_ (fun W hSw => by (try dsimp only at hSw); (have z := hSw.1.c1; go_simp))
    try simp only [nz]
    refine tk 7 (.int .u32 ino) rfl ?_
    try simp only [nz]
    refine tk 8 (.int .i64 (A : Int)) rfl ?_
    try simp only [nz]
    refine wpAnyH_take (i := 10) (v := .agg (ptC Q)) rfl (by kernel_rfl) (by kernel_rfl) (by kernel_rfl) (fun _ _ _ h => h) (yields_load (by rfl) _ _ rfl _ rfl _ (fun W h => h.2.load HQ.out.ch.1)) (by assumption) ?_
    try simp only [nz]
    have cr := rplace_any w11.drew ino A (by have := HAT9.out; unfold Hid at this; omega)
    try rw [HPE.out] at cr
    refine rd 9 rfl (fun K hK => ?_)
    go_simp
    go_wp2_with (go_at_call 112; refine cr.mono ?_; rintro e wB ⟨rfl, hbB⟩)
    refine hK.out _ _ ⟨hHeld.1.below hbB, hHeld.2.below hbB⟩ (fun hHeld2 => ?_)
    clear hK K cr
    try simp only [nz]
    refine wpAnyH_take (i := 11) (v := .agg (cgC (dataC (datP ino ((A / 32 : Nat) : Int)) Q))) rfl (by kernel_rfl) (by kernel_rfl) (by kernel_rfl) (fun _ _ _ h => h) (yields_build (by rfl) 119 _ rfl [(0, plV (datP ino ((A / 32 : Nat) : Int))), (6, .agg (ptC Q))] (by kernel_rfl) _ (bt_dataP (datP ino ((A / 32 : Nat) : Int)) HQ.out.ch.1)) (by assumption) ?_
    try simp only [nz]
    have cp := HPT.out wB hbB (dataC (datP ino ((A / 32 : Nat) : Int)) Q) HCG.out (by have := HS.out.P; have := HN.out; unfold Hid at *; omega) (by have := HS.out.L; have := HN.out; unfold Hid at *; omega)
    refine rd 12 rfl (fun K hK => ?_)
    go_simp
    go_wp2_with (go_at_call 90; refine cp.mono ?_; rintro e wC ⟨rfl, ho9, hz9, hk9⟩)
    have HO9 : Hid (XsOut B w x X { s' with d := putS s'.d (dataC (datP ino ((A / 32 : Nat) : Int)) Q) } wC) := XsOut.then (w1 := w11.drew) (HX2.out.trans (Sole.drew _ _)) HX3.out (XsOut.pre hbB ho9)
    refine hK.out _ _ ⟨hHeld2.1.keep ⟨HVQ.out.1, HVQ.out.2.1⟩ hk9, ⟨(hk9 _ (lt_of_row hHeld2.2.row) HVQ.out.2.2).trans hHeld2.2.row⟩⟩ (fun hHeld3 => ?_)
    clear hK K cp
    try simp only [nz]
    refine tk 13 (.int .i64 (putX s'.d (dataC (datP ino ((A / 32 : Nat) : Int)) Q)).2) rfl ?_
    try simp only [nz]
    refine wpAnyH_done (by kernel_rfl) ?_ _
    refine NoPanic.normal ?_
    clear hHeld hHeld2 hHeld3 ho9 hz9 hk9 hbB hS0 HPT HX2 HX3 HVQ
    have HR2 : Hid ((if (putX s'.d (dataC (datP ino ((A / 32 : Nat) : Int)) Q)).2 ≠ 0 then ({ s' with d := putS s'.d (dataC (datP ino ((A / 32 : Nat) : Int)) Q) }, (putX s'.d (dataC (datP ino ((A / 32 : Nat) : Int)) Q)).2) else exPut SgP { s' with d := putS s'.d (dataC (datP ino ((A / 32 : Nat) : Int)) Q) } ((pcsF L m (o' + m) (L - m)).map (layC ino (strB data)))) = T) := HDR.out
    have HSK : Hid (Sk { s' with d := putS s'.d (dataC (datP ino ((A / 32 : Nat) : Int)) Q) } (N + 1 + m)) := (HS.out.put _).mono (by have := HM.out; omega)
    generalize (putX s'.d (dataC (datP ino ((A / 32 : Nat) : Int)) Q)).2 = PE at *
    generalize ({ s' with d := putS s'.d (dataC (datP ino ((A / 32 : Nat) : Int)) Q) } : Sg) = PS at *
    clear HDR HCG HPE
    by_cases hpe : PE = 0
    case neg =>
     have hpb : (PE != 0) = true := by simpa using hpe
     have HE : Hid (R = (PS, PE)) := by
      have e1 : T = (PS, PE) := HR2.out.symm.trans (if_pos hpe)
      have e2 := HE2.out
      rw [e1] at e2
      have e3 : exWr2 SgP ino (o' : Int) (en : Int) z (PS, PE) = (PS, PE) := if_pos hpe
      exact e2.symm.trans e3
     clear HR2 HE2
     go_wp2
     go_ret
     exact ⟨by rw [HE.out]; first | done | rfl, by rw [HE.out]; exact HO9.out⟩
    subst hpe
    have HR3 : Hid (exPut SgP PS ((pcsF L m (o' + m) (L - m)).map (layC ino (strB data))) = T) := (if_neg (show ¬ ((0 : Int) ≠ 0) by simp)).symm.trans HR2.out
    clear HR2
    go_wp2
    go_roundg (L - m)
    case measure => have := HM.out; omega
    case rel => exact ⟨m, PS, by rw [show (tt : Int) = ((o' + m : Nat) : Int) by have := HM.out; omega], by have := HM.out; omega, Nat.le_refl _, HO9.out, HR3.out, HSK.out⟩
  ·obtain rfl : L = o := by omega
   have hAe : A = en := by have := HNAT.out; omega
   subst hAe
   have HE3 : Hid (T = (s', 0)) := by
    have e := HP.out
    rw [Nat.sub_self, pcsF_0] at e
    exact e.symm
   have HE4 : Hid (exWr3 SgP ino (A : Int) z { s' with U := addL s'.U (tcB ino (o' : Int) (A : Int)) } = R) := by
    have e2 := HE2.out
    rw [HE3.out] at e2
    have e3 : exWr2 SgP ino (o' : Int) (A : Int) z (s', 0) = exWr3 SgP ino (A : Int) z { s' with U := addL s'.U (tcB ino (o' : Int) (A : Int)) } := if_neg (show ¬ ((0 : Int) ≠ 0) by simp)
    exact e3.symm.trans e2
   have ct := HO.out.call (R := fun e => e = .returned (.tuple #[])) (fun X1 k => wroteB k (lo := (o' : Int)) (hi := (A : Int)) HBD.out.2.2 (by omega) (by have := HNAT.out; omega) (by omega) (by have := HS.out.U; have := HN.out; have := HNAT.out; unfold Hid at *; omega))
   have HKS : Hid (Sk { s' with U := addL s'.U (tcB ino (o' : Int) (A : Int)) } (N + 1 + L + 1)) := HS.out.addU _
   have HN9 : Hid (N + 1 + L + 1 ≤ 4000) := by have := HN.out; have := HNAT.out; unfold Hid at *; omega
   generalize ({ s' with U := addL s'.U (tcB ino (o' : Int) (A : Int)) } : Sg) = S3 at *
   clear HE2 HE3 HP
   go_wp2_with fail
   refine ct.mono ?_
   rintro e w4 ⟨rfl, ho4⟩
   clear ct
   have HO3 : Hid (XsOut B w x X S3 w4) := ho4
   clear ho4
   by_cases hle : (A : Int) ≤ z
   case pos =>
    have HE : Hid (R = (S3, 0)) := HE4.out.symm.trans (if_pos hle)
    clear HE4
    go_wp2
    go_ret
    exact ⟨by rw [HE.out]; first | done | rfl, by rw [HE.out]; exact HO3.out⟩
   have HE : Hid (R = setR S3 ino [(4, (A : Int))]) := HE4.out.symm.trans (if_neg hle)
   clear HE4
   obtain ⟨X1, hx1, hx2, hx3⟩ := HO3.out
   have cs := setB hx1 ino h0 h1 (A : Int) (by omega) (by omega) HKS.out HN9.out
   have HX2 : Hid (Sole X w w4) := hx2
   have HX3 : Hid (∀ k ∈ X1, k ∈ X ∨ w.heap.size ≤ k) := hx3
   obtain ⟨w5, hw5⟩ : ∃ w5, w4.alloc (.cells #[.int .i64 4, .int .i64 (A : Int)] 98) = w5 := ⟨_, rfl⟩
   rw [hw5] at cs
   generalize setR S3 ino [(4, (A : Int))] = T9 at *
   obtain ⟨S4, e4⟩ := T9
   dsimp only at cs
   clear hx1 hx2 hx3 HO3
   go_wp2_with fail
   try rw [hw5]
   refine cs.mono ?_
   rintro e w6 ⟨rfl, ho6⟩
   clear cs hw5
   have HO6 : Hid (XsOut B w x X S4 w6) := XsOut.then HX2.out HX3.out ho6
   clear ho6
   go_wp2
   go_ret
   exact ⟨by rw [HE.out]; first | done | rfl, by rw [HE.out]; exact HO6.out⟩
end Go.Proofs.YtiplhhaehbjghaaGreat
