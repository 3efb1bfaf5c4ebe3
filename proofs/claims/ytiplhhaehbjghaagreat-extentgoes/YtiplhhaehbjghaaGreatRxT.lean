/- The contract of the document's Truncate (written by tools/laws/RxW_gen.py). -/
import Derived.Test.YtiplhhaehbjghaaGreatM1
import Derived.Test.YtiplhhaehbjghaaGreatRxW
namespace Go.Proofs.YtiplhhaehbjghaaGreat
open Go.RowKit Go.Maps
set_option linter.unusedVariables false
set_option maxHeartbeats 32000000
set_option maxRecDepth 100000
set_option linter.unusedSimpArgs false
theorem xzero_w {r : Nat} (h : r ≤ 32) : zeroP (r : Int) = ⟨false, runM r (32 - r), zeroC⟩ := by
 unfold zeroP
 rw [if_neg (by omega), Int.toNat_natCast]
def wipeR (ino : Int) (c hi : Nat) : List Cg := (List.range' c ((hi + 31) / 32 - c)).map fun (c : Nat) => goneC (datP ino c)
theorem wipeR_next (ino : Int) {c hi : Nat} (h : 32 * c < hi) : wipeR ino c hi = goneC (datP ino c) :: wipeR ino (c + 1) hi := by
 unfold wipeR
 rw [show (hi + 31) / 32 - c = ((hi + 31) / 32 - (c + 1)) + 1 by omega, List.range'_succ, List.map_cons]
theorem wipeR_end (ino : Int) {c hi : Nat} (h : ¬ 32 * c < hi) : wipeR ino c hi = [] := by
 unfold wipeR
 rw [show (hi + 31) / 32 - c = 0 by omega]
 rfl
theorem wipeC_0 (ino : Int) {lo hi : Nat} (h : lo % 32 = 0) : wipeC ino lo hi = wipeR ino (lo / 32) hi := by
 unfold wipeC wipe0 wipe1 wipeR
 rw [if_neg (by omega), List.nil_append, show (lo + 31) / 32 = lo / 32 by omega]
theorem wipeC_1 (ino : Int) {lo hi : Nat} (h : 0 < lo % 32) : wipeC ino lo hi = dataC (datP ino ((lo / 32 : Nat) : Int)) ⟨false, runM (lo % 32) (32 - lo % 32), zeroC⟩ :: wipeR ino (lo / 32 + 1) hi := by
 unfold wipeC wipe0 wipe1 wipeR
 rw [if_pos h, show (lo + 31) / 32 = lo / 32 + 1 by omega]
 rfl
theorem xtrunc {B : Nat} {w : World} {x : Nat} {X : List Nat} {s : Sg} (h : XsIn B w x X s) (iv : Iv s) (ino : Int) (h0 : 0 ≤ ino) (h1 : ino ≤ 4294967295) (sz : Int) {N : Nat} (hk : Sk s N) (hN : N ≤ 3800) :
  Calls Tryz.prog 58 #[.pointer (some ⟨x, 0, none⟩), .int .u32 ino, .int .i64 sz] w fun e w' =>
  e = .returned (.int .i64 (trX s ino sz).2) ∧ XsOut B w x X (trX s ino sz).1 w' := by
 obtain ⟨R, hR⟩ : ∃ R, trX s ino sz = R := ⟨_, rfl⟩
 rw [hR]
 have HE0 : Hid (exTr1 SgP ino sz (exSz SgP s ino) = R) := hR
 have HH : Hid (XsIn B w x X s) := h
 have HIV : Hid (Iv s) := iv
 have HK : Hid (Sk s N) := hk
 have HN : Hid (N ≤ 3800) := hN
 have HSZ : Hid _ := exSz_x iv ino
 have cf := file_x h iv.c ino h0 h1
 clear h hR hk iv hN
 go_enter Tryz.func58, Tryz.ntmps58
 go_wp2_with fail
 refine cf.mono ?_
 rintro e w1 ⟨rfl, hb1⟩
 have HB1 : Hid (Below w.heap.size w w1) := hb1
 clear cf hb1
 generalize exSz SgP s ino = Z at *
 generalize fileE s ino = fe at *
 by_cases he : fe = 0
 case neg =>
  have heb : (fe != 0) = true := by simpa using he
  have HE : Hid (R = (s, fe)) := by
   have e1 := HE0.out
   rw [HSZ.out.1 he] at e1
   have e2 : exTr1 SgP ino sz (s, 0, fe) = (s, fe) := if_pos he
   exact e1.symm.trans e2
  clear HE0 HSZ
  go_wp2
  go_ret
  exact ⟨by rw [HE.out]; first | done | rfl, by rw [HE.out]; exact HH.out.out HB1.out⟩
 subst he
 obtain ⟨rfl, hsz, hz0, hz1, hi0⟩ := HSZ.out.2 rfl
 have cz := size_x (HH.out.below HB1.out) HIV.out.c ino h0 h1 (Nat.le_trans HK.out.R (by have := HN.out; unfold Hid at this; omega))
 rw [hsz] at cz
 have HBD : Hid (0 ≤ (fdR s ino).1.s ∧ (fdR s ino).1.s ≤ 512 ∧ ino ≠ 0) := ⟨hz0, hz1, hi0⟩
 have HK1 : Hid (Sk { s with R := addK s.R ino [3] } (N + 1)) := HK.out.read ino [3]
 clear hsz hz0 hz1 hi0 HSZ HIV
 generalize ({ s with R := addK s.R ino [3] } : Sg) = S1 at *
 generalize (fdR s ino).1.s = z at *
 dsimp only at cz
 go_wp2_with fail
 refine cz.mono ?_
 rintro e w2 ⟨rfl, ho2⟩
 have HO2 : Hid (XsOut B w x X S1 w2) := XsOut.pre HB1.out ho2
 clear cz ho2 HH HK
 have hz0 := HBD.out.1
 have hz1 := HBD.out.2.1
 by_cases c1 : sz < 0
 case pos =>
  have HE : Hid (R = (S1, 180)) := HE0.out.symm.trans ((if_neg (show ¬ ((0 : Int) ≠ 0) by simp)).trans (if_pos (.inl c1)))
  clear HE0
  go_wp2
  go_ret
  exact ⟨by rw [HE.out]; first | done | rfl, by rw [HE.out]; exact HO2.out⟩
 by_cases c2 : 512 < sz
 case pos =>
  have HE : Hid (R = (S1, 180)) := HE0.out.symm.trans ((if_neg (show ¬ ((0 : Int) ≠ 0) by simp)).trans (if_pos (.inr c2)))
  clear HE0
  go_wp2
  go_ret
  exact ⟨by rw [HE.out]; first | done | rfl, by rw [HE.out]; exact HO2.out⟩
 by_cases c3 : sz = z
 case pos =>
  have HE : Hid (R = (S1, 0)) := HE0.out.symm.trans ((if_neg (show ¬ ((0 : Int) ≠ 0) by simp)).trans ((if_neg (show ¬ (sz < 0 ∨ 512 < sz) by omega)).trans (if_pos c3)))
  subst c3
  clear HE0
  go_wp2
  go_ret
  exact ⟨by rw [HE.out]; first | done | rfl, by rw [HE.out]; exact HO2.out⟩
 have c3b : (z == sz) = false := by simp; omega
 have c3n : ¬ z = sz := fun e => c3 e.symm
 by_cases c4 : sz < z
 case neg =>
  have HE : Hid (R = setR S1 ino [(4, sz)]) := HE0.out.symm.trans ((if_neg (show ¬ ((0 : Int) ≠ 0) by simp)).trans ((if_neg (show ¬ (sz < 0 ∨ 512 < sz) by omega)).trans ((if_neg c3).trans (if_neg c4))))
  have HKS : Hid (Sk S1 (N + 1)) := HK1.out
  have HO3 : Hid (XsOut B w x X S1 w2) := HO2.out
  clear HE0 HO2 HK1
  obtain ⟨X1, hx1, hx2, hx3⟩ := HO3.out
  have cs := setB hx1 ino h0 h1 sz (by omega) (by omega) HKS.out (by have := HN.out; unfold Hid at this; omega)
  have HX2 : Hid (Sole X w w2) := hx2
  have HX3 : Hid (∀ k ∈ X1, k ∈ X ∨ w.heap.size ≤ k) := hx3
  obtain ⟨w5, hw5⟩ : ∃ w5, w2.alloc (.cells #[.int .i64 4, .int .i64 sz] 98) = w5 := ⟨_, rfl⟩
  rw [hw5] at cs
  generalize setR S1 ino [(4, sz)] = T9 at *
  obtain ⟨S4, e4⟩ := T9
  dsimp only at cs
  clear hx1 hx2 hx3 HO3
  go_wp2_with fail
  try rw [hw5]
  refine cs.mono ?_
  rintro e w6 ⟨rfl, ho6⟩
  clear cs hw5
  have HO6 : Hid (XsOut B w x X S4 w6) := XsOut.then HX2.out HX3.out ho6
  clear ho6
  go_wp2
  go_ret
  exact ⟨by rw [HE.out]; first | done | rfl, by rw [HE.out]; exact HO6.out⟩
 have HE1 : Hid (exTr2 SgP ino sz z (exPut SgP S1 (wipeC ino sz.toNat z.toNat)) = R) := ((if_neg (show ¬ ((0 : Int) ≠ 0) by simp)).trans ((if_neg (show ¬ (sz < 0 ∨ 512 < sz) by omega)).trans ((if_neg c3).trans (if_pos c4)))).symm.trans HE0.out
 clear HE0 c3 c3n
 obtain ⟨lo, rfl⟩ : ∃ lo : Nat, sz = (lo : Int) := ⟨sz.toNat, by omega⟩
 obtain ⟨hi, rfl⟩ : ∃ hi : Nat, z = (hi : Int) := ⟨z.toNat, by omega⟩
 rw [Int.toNat_natCast, Int.toNat_natCast] at HE1
 have HNAT : Hid (lo < hi ∧ hi ≤ 512) := ⟨by omega, by omega⟩
 obtain ⟨T, hT⟩ : ∃ T, exPut SgP S1 (wipeC ino lo hi) = T := ⟨_, rfl⟩
 have HT : Hid (exPut SgP S1 (wipeC ino lo hi) = T) := hT
 rw [hT] at HE1
 clear hT
 go_upto_region 11 with fail
 clear c3b
 obtain ⟨r, hr⟩ : ∃ r, lo % 32 = r := ⟨_, rfl⟩
 have hrI : (lo : Int) % 32 = (r : Int) := by omega
 have HR : Hid (lo % 32 = r ∧ r < 32) := ⟨hr, by omega⟩
 have hlo0 : (0 : Int) ≤ (lo : Int) := by omega
 have hlo1 : (lo : Int) ≤ 512 := by omega
 by_cases hr0 : r = 0
 ·subst hr0
  have HLo : Hid (lo = 32 * (lo / 32)) := by have := HR.out; unfold Hid; omega
  have HT0 : Hid (exPut SgP S1 (wipeR ino (lo / 32) hi) = T) := by rw [← wipeC_0 ino HR.out.1]; exact HT.out
  have HKT : Hid (Sk S1 (N + 2 + lo / 32)) := HK1.out.mono (by omega)
  go_wp2_with fail
  clear hrI
  go_loopg [10] 20 (fun kx s10 wr => ∃ (c : Nat) (s' : Sg), s10 = .int .i64 ((32 * c : Nat) : Int) ∧ c ≤ 17 ∧ 18 - c ≤ kx ∧ Hid (XsOut B w x X s' wr) ∧ Hid (exPut SgP s' (wipeR ino c hi) = T) ∧ Hid (Sk s' (N + 2 + c)))
  case atStart => exact ⟨lo / 32, S1, congrArg (Value.int .i64) (by have := HLo.out; unfold Hid at this; omega), by omega, by omega, HO2.out, HT0.out, HKT.out⟩
  case round =>
   obtain ⟨c, s', rfl, hc17, hkx, HO, HP, HS⟩ := hrel
   obtain ⟨A, hA⟩ : ∃ A, 32 * c = A := ⟨_, rfl⟩
   rw [hA]
   have HA : Hid (32 * c = A ∧ c ≤ 17) := ⟨hA, hc17⟩
   by_cases hlt : A < hi
   ·have hltI : (A : Int) < (hi : Int) := by omega
    have HC : Hid (c ≤ 15 ∧ A / 32 = c ∧ A + 32 = 32 * (c + 1)) := by have := HNAT.out; exact ⟨by omega, by omega, by omega⟩
    have HAT9 : Hid (A ≤ 2000) := by have := HNAT.out; unfold Hid at *; omega
    have HDR : Hid (exPut SgP s' (goneC (datP ino (c : Int)) :: wipeR ino (c + 1) hi) = T) := by rw [← wipeR_next ino (by omega)]; exact HP.out
    have HPE : Hid (((A / 32 : Nat) : Int) = (c : Int)) := by have := HC.out; unfold Hid; omega
    have HCG : Hid (CgOk (goneC (datP ino (c : Int)))) := gone_ok (datP_ok h0 h1 (by omega))
    have hA32 : (A : Int) + 32 ≤ 1000 := by have := HNAT.out; omega
    have hA0 : (0 : Int) ≤ (A : Int) := by omega
    clear hA
    obtain ⟨X1, hx1, hx2, hx3⟩ := HO.out
    have hx4 := hx1.below (Below.refl _ wr).drew
    obtain ⟨rv, q, hvr, hq, hput⟩ := hx4.putV
    have HVQ : Hid (x ≠ q ∧ rv ≠ q) := hvr.ne hq
    have HPT : Hid _ := hput
    have HX2 : Hid (Sole X w wr) := hx2
    have HX3 : Hid (∀ k ∈ X1, k ∈ X ∨ w.heap.size ≤ k) := hx3
    have hS0 : VRow wr.drew x rv q := hvr
    clear hx1 hx2 hx3 hx4 hvr hq hput
    go_wp2_with fail
    refine wp_region_noPanic ?_
    refine wp_region_held_drew (S := fun W => VRow W x rv q) (by kernel_rfl) hS0 (fun hHeld => ?_)
    refine tk 0 (.pointer (some ⟨x, 0, none⟩)) rfl ?_
    try simp only [nz]
    refine tk 1 (.pointer (some ⟨x, 0, none⟩)) rfl ?_
    try simp only [nz]
    refine tk 2 (.pointer (some ⟨x, 0, none⟩)) rfl ?_
    try simp only [nz]
    refine tk 3 (.pointer (some ⟨rv, 0, none⟩)) rfl ?_ (fun W hSw => by (try dsimp only at hSw); (have z := hSw.c0; go_simp))
    try simp only [nz]
    refine tk 4 (.pointer (some ⟨rv, 0, none⟩)) rfl ?_
    try simp only [nz]
    refine tk 5 (.pointer (some ⟨rv, 1, none⟩)) rfl ?_
    try simp only [nz]
    refine tk 6 (.pointer (some ⟨q, 0, none⟩)) rfl ?_ (fun W hSw => by (try dsimp only at hSw); (have z := hSw.c1; go_simp))
    try simp only [nz]
    refine tk 7 (.int .u32 ino) rfl ?_
    try simp only [nz]
    refine tk 8 (.int .i64 (A : Int)) rfl ?_
    try simp only [nz]
    have cr := rplace_any wr.drew ino A (by have := HAT9.out; unfold Hid at this; omega)
    rw [HPE.out] at cr
    refine rd 9 rfl (fun K hK => ?_)
    go_simp
    go_wp2_with (go_at_call 112; refine cr.mono ?_; rintro e wB ⟨rfl, hbB⟩)
    refine hK.out _ _ (hHeld.below hbB) (fun hHeld2 => ?_)
    clear hK K cr
    try simp only [nz]
    refine wpAnyH_take (i := 10) (v := .agg (cgC (goneC (datP ino (c : Int))))) rfl (by kernel_rfl) (by kernel_rfl) (by kernel_rfl) (fun _ _ _ h => h) (yields_build (by rfl) 119 _ rfl [(0, plV (datP ino (c : Int))), (1, .bool true)] (by kernel_rfl) _ (bt_gone (datP ino (c : Int)))) (by assumption) ?_
    try simp only [nz]
    have cp := HPT.out wB hbB (goneC (datP ino (c : Int))) HCG.out (by have := HS.out.P; have := HN.out; unfold Hid at *; omega) (by have := HS.out.L; have := HN.out; unfold Hid at *; omega)
    refine rd 11 rfl (fun K hK => ?_)
    go_simp
    go_wp2_with (go_at_call 90; refine cp.mono ?_; rintro e wC ⟨rfl, ho9, hz9, hk9⟩)
    have HO9 : Hid (XsOut B w x X { s' with d := putS s'.d (goneC (datP ino (c : Int))) } wC) := XsOut.then (w1 := wr.drew) (HX2.out.trans (Sole.drew _ _)) HX3.out (XsOut.pre hbB ho9)
    refine hK.out _ _ (hHeld2.keep ⟨HVQ.out.1, HVQ.out.2⟩ hk9) (fun hHeld3 => ?_)
    clear hK K cp
    try simp only [nz]
    refine tk 12 (.int .i64 (putX s'.d (goneC (datP ino (c : Int)))).2) rfl ?_
    try simp only [nz]
    refine wpAnyH_done (by kernel_rfl) ?_ _
    refine NoPanic.normal ?_
    clear hHeld hHeld2 hHeld3 ho9 hz9 hk9 hbB hS0 HPT HX2 HX3 HVQ
    have HR2 : Hid ((if (putX s'.d (goneC (datP ino (c : Int)))).2 ≠ 0 then ({ s' with d := putS s'.d (goneC (datP ino (c : Int))) }, (putX s'.d (goneC (datP ino (c : Int)))).2) else exPut SgP { s' with d := putS s'.d (goneC (datP ino (c : Int))) } (wipeR ino (c + 1) hi)) = T) := HDR.out
    have HSK : Hid (Sk { s' with d := putS s'.d (goneC (datP ino (c : Int))) } (N + 2 + (c + 1))) := (HS.out.put _).mono (by omega)
    generalize (putX s'.d (goneC (datP ino (c : Int)))).2 = PE at *
    generalize ({ s' with d := putS s'.d (goneC (datP ino (c : Int))) } : Sg) = PS at *
    clear HDR HCG HPE
    by_cases hpe : PE = 0
    case neg =>
     have hpb : (PE != 0) = true := by simpa using hpe
     have HE : Hid (R = (PS, PE)) := by
      have e1 : T = (PS, PE) := HR2.out.symm.trans (if_pos hpe)
      have e2 := HE1.out
      rw [e1] at e2
      have e3 : exTr2 SgP ino (lo : Int) (hi : Int) (PS, PE) = (PS, PE) := if_pos hpe
      exact e2.symm.trans e3
     clear HR2 HE1
     go_wp2
     go_ret
     exact ⟨by rw [HE.out]; first | done | rfl, by rw [HE.out]; exact HO9.out⟩
    subst hpe
    have HR3 : Hid (exPut SgP PS (wipeR ino (c + 1) hi) = T) := (if_neg (show ¬ ((0 : Int) ≠ 0) by simp)).symm.trans HR2.out
    clear HR2
    go_wp2
    go_roundg (18 - (c + 1))
    case measure => omega
    case rel => exact ⟨c + 1, PS, by rw [show (A : Int) + 32 = ((32 * (c + 1) : Nat) : Int) by have := HC.out; omega], by have := HC.out; omega, by omega, HO9.out, HR3.out, HSK.out⟩
   ·have HE3 : Hid (T = (s', 0)) := by
     have e := HP.out
     rw [wipeR_end ino (by omega)] at e
     exact e.symm
    have HE4 : Hid (setR { s' with U := addL s'.U (tcB ino (lo : Int) (hi : Int)) } ino [(4, (lo : Int))] = R) := by
     have e2 := HE1.out
     rw [HE3.out] at e2
     have e3 : exTr2 SgP ino (lo : Int) (hi : Int) (s', 0) = setR { s' with U := addL s'.U (tcB ino (lo : Int) (hi : Int)) } ino [(4, (lo : Int))] := if_neg (show ¬ ((0 : Int) ≠ 0) by simp)
     exact e3.symm.trans e2
    have hnlt : ¬ (A : Int) < (hi : Int) := by omega
    have ct := HO.out.call (R := fun e => e = .returned (.tuple #[])) (fun X1 k => wroteB k (lo := (lo : Int)) (hi := (hi : Int)) HBD.out.2.2 (by omega) (by omega) (by omega) (by have := HS.out.U; have := HN.out; unfold Hid at *; omega))
    have HKS : Hid (Sk { s' with U := addL s'.U (tcB ino (lo : Int) (hi : Int)) } (N + 2 + c + 1)) := HS.out.addU _
    have HN9 : Hid (N + 2 + c + 1 ≤ 4000) := by have := HN.out; unfold Hid at *; omega
    generalize ({ s' with U := addL s'.U (tcB ino (lo : Int) (hi : Int)) } : Sg) = S3 at *
    clear HE1 HE3 HP
    go_wp2_with fail
    refine ct.mono ?_
    rintro e w4 ⟨rfl, ho4⟩
    clear ct
    have HO3 : Hid (XsOut B w x X S3 w4) := ho4
    have HE : Hid (R = setR S3 ino [(4, (lo : Int))]) := HE4.out.symm
    clear ho4 HE4
    obtain ⟨X1, hx1, hx2, hx3⟩ := HO3.out
    have cs := setB hx1 ino h0 h1 (lo : Int) (by omega) (by omega) HKS.out HN9.out
    have HX2 : Hid (Sole X w w4) := hx2
    have HX3 : Hid (∀ k ∈ X1, k ∈ X ∨ w.heap.size ≤ k) := hx3
    obtain ⟨w5, hw5⟩ : ∃ w5, w4.alloc (.cells #[.int .i64 4, .int .i64 (lo : Int)] 98) = w5 := ⟨_, rfl⟩
    rw [hw5] at cs
    generalize setR S3 ino [(4, (lo : Int))] = T9 at *
    obtain ⟨S4, e4⟩ := T9
    dsimp only at cs
    clear hx1 hx2 hx3 HO3
    go_wp2_with fail
    try rw [hw5]
    refine cs.mono ?_
    rintro e w6 ⟨rfl, ho6⟩
    clear cs hw5
    have HO6 : Hid (XsOut B w x X S4 w6) := XsOut.then HX2.out HX3.out ho6
    clear ho6
    go_wp2
    go_ret
    exact ⟨by rw [HE.out]; first | done | rfl, by rw [HE.out]; exact HO6.out⟩
 ·have hrb : ((r : Int) != 0) = true := by simp; omega
  have hrn : ¬ (r : Int) = 0 := by omega
  have HTC : Hid (exPut SgP S1 (dataC (datP ino ((lo / 32 : Nat) : Int)) (zeroP (r : Int)) :: wipeR ino (lo / 32 + 1) hi) = T) := by
   rw [xzero_w (by have := HR.out; omega)]
   have := HT.out
   rw [wipeC_1 ino (by omega), HR.out.1] at this
   exact this
  have co := rzero_any w2 (r : Int)
  have HQ : Hid (PtOk (zeroP (r : Int))) := zeroP_ok _
  have HRR : Hid (r < 32 ∧ r ≠ 0) := ⟨HR.out.2, hr0⟩
  generalize zeroP (r : Int) = Q at *
  generalize zeroE (r : Int) = oe at *
  have HCG : Hid (CgOk (dataC (datP ino ((lo / 32 : Nat) : Int)) Q)) := dataC_ok h0 h1 (by have := HNAT.out; omega) HQ.out
  have HAT9 : Hid (lo ≤ 2000) := by have := HNAT.out; unfold Hid at *; omega
  have HPE : Hid (datP ino ((lo / 32 : Nat) : Int) = datP ino ((lo / 32 : Nat) : Int)) := rfl
  have HZ : Hid (pt0.bytes.length = 32) := ch_zero.1
  have hz := zeroPt
  go_wp2_with fail
  refine co.mono ?_
  rintro e w9 ⟨rfl, hb9⟩
  clear co
  have hp10 := PtAt.laid w9 pt0
  have hb10 := bel1 w9 (.cells (ptC pt0) 117)
  obtain ⟨w10, hw10⟩ : ∃ w10, w9.alloc (.cells (ptC pt0) 117) = w10 := ⟨_, rfl⟩
  rw [hw10] at hp10 hb10
  have HPA0 : Hid (PtAt (w10.setRow w9.heap.size (ptC Q)) w9.heap.size Q) := hp10.setRow Q
  have HB11 : Hid (Below w9.heap.size w9 (w10.setRow w9.heap.size (ptC Q))) := below_setRow hb10 (Nat.le_refl _) _
  have HB9 : Hid (Below w2.heap.size w2 w9) := hb9
  clear hb9 hb10
  go_wp2_with (refine wpList_storeP rfl _ _ rfl w9.heap.size Q pt0 rfl rfl HQ.out.ch.1 HZ.out hp10 ?_)
  clear hp10 hw10
  obtain ⟨w11, hw11⟩ : ∃ w11, w10.setRow w9.heap.size (ptC Q) = w11 := ⟨_, rfl⟩
  rw [hw11] at HPA0 HB11 ⊢
  obtain ⟨gp, hgp⟩ : ∃ gp, w9.heap.size = gp := ⟨_, rfl⟩
  rw [hgp] at HPA0 ⊢
  have HPA : Hid (PtAt w11 gp Q) := HPA0.out
  clear hw11 hz hgp HPA0
  obtain ⟨X1, hx1, hx2, hx3⟩ := HO2.out.post (thenB HB9.out HB11.out)
  have hx4 := hx1.below (Below.refl _ w11).drew
  obtain ⟨rv, q, hvr, hq, hput⟩ := hx4.putV
  have HVQ : Hid (x ≠ q ∧ rv ≠ q ∧ gp ≠ q) := ⟨(hvr.ne hq).1, (hvr.ne hq).2, hq _ _ _ _ (show w11.drew.heap[gp]? = _ from HPA.out.row) (by decide)⟩
  have HPT : Hid _ := hput
  have HX2 : Hid (Sole X w w11) := hx2
  have HX3 : Hid (∀ k ∈ X1, k ∈ X ∨ w.heap.size ≤ k) := hx3
  have hS0 : VRow w11.drew x rv q ∧ PtAt w11.drew gp Q := ⟨hvr, ⟨HPA.out.row⟩⟩
  clear hx1 hx2 hx3 hx4 hvr hq hput
  go_wp2_with fail
  refine wp_region_noPanic ?_
  refine wp_region_held_drew (S := fun W => VRow W x rv q ∧ PtAt W gp Q) (by kernel_rfl) hS0 (fun hHeld => ?_)
  refine tk 0 (.pointer (some ⟨x, 0, none⟩)) rfl ?_
  try simp only [nz]
  refine tk 1 (.pointer (some ⟨x, 0, none⟩)) rfl ?_
  try simp only [nz]
  refine tk 2 (.pointer (some ⟨x, 0, none⟩)) rfl ?_
  try simp only [nz]
  refine tk 3 (.pointer (some ⟨rv, 0, none⟩)) rfl ?_ (fun W hSw => by (try dsimp only at hSw); (have z := hSw.1.c0; go_simp))
  try simp only [nz]
  refine tk 4 (.pointer (some ⟨rv, 0, none⟩)) rfl ?_
  try simp only [nz]
  refine tk 5 (.pointer (some ⟨rv, 1, none⟩)) rfl ?_
  try simp only [nz]
  refine tk 6 (.pointer (some ⟨q, 0, none⟩)) rfl ?_ (fun W hSw => by (try dsimp only at hSw); (have z := hSw.1.c1; go_simp))
  try simp only [nz]
  refine tk 7 (.int .u32 ino) rfl ?_
  try simp only [nz]
  refine tk 8 (.int .i64 (lo : Int)) rfl ?_
  try simp only [nz]
  refine wpAnyH_take (i := 10) (v := .agg (ptC Q)) rfl (by kernel_rfl) (by kernel_rfl) (by kernel_rfl) (fun _ _ _ h => h) (yields_load (by rfl) _ _ rfl _ rfl _ (fun W h => h.2.load HQ.out.ch.1)) (by assumption) ?_
  try simp only [nz]
  have cr := rplace_any w11.drew ino lo (by have := HAT9.out; unfold Hid at this; omega)
  try rw [HPE.out] at cr
  refine rd 9 rfl (fun K hK => ?_)
  go_simp
  go_wp2_with (go_at_call 112; refine cr.mono ?_; rintro e wB ⟨rfl, hbB⟩)
  refine hK.out _ _ ⟨hHeld.1.below hbB, hHeld.2.below hbB⟩ (fun hHeld2 => ?_)
  clear hK K cr
  try simp only [nz]
  refine wpAnyH_take (i := 11) (v := .agg (cgC (dataC (datP ino ((lo / 32 : Nat) : Int)) Q))) rfl (by kernel_rfl) (by kernel_rfl) (by kernel_rfl) (fun _ _ _ h => h) (yields_build (by rfl) 119 _ rfl [(0, plV (datP ino ((lo / 32 : Nat) : Int))), (6, .agg (ptC Q))] (by kernel_rfl) _ (bt_dataP (datP ino ((lo / 32 : Nat) : Int)) HQ.out.ch.1)) (by assumption) ?_
  try simp only [nz]
  have cp := HPT.out wB hbB (dataC (datP ino ((lo / 32 : Nat) : Int)) Q) HCG.out (by have := HK1.out.P; have := HN.out; unfold Hid at *; omega) (by have := HK1.out.L; have := HN.out; unfold Hid at *; omega)
  refine rd 12 rfl (fun K hK => ?_)
  go_simp
  go_wp2_with (go_at_call 90; refine cp.mono ?_; rintro e wC ⟨rfl, ho9, hz9, hk9⟩)
  have HO9 : Hid (XsOut B w x X { S1 with d := putS S1.d (dataC (datP ino ((lo / 32 : Nat) : Int)) Q) } wC) := XsOut.then (w1 := w11.drew) (HX2.out.trans (Sole.drew _ _)) HX3.out (XsOut.pre hbB ho9)
  refine hK.out _ _ ⟨hHeld2.1.keep ⟨HVQ.out.1, HVQ.out.2.1⟩ hk9, ⟨(hk9 _ (lt_of_row hHeld2.2.row) HVQ.out.2.2).trans hHeld2.2.row⟩⟩ (fun hHeld3 => ?_)
  clear hK K cp
  try simp only [nz]
  refine tk 13 (.int .i64 (putX S1.d (dataC (datP ino ((lo / 32 : Nat) : Int)) Q)).2) rfl ?_
  try simp only [nz]
  refine wpAnyH_done (by kernel_rfl) ?_ _
  refine NoPanic.normal ?_
  clear hHeld hHeld2 hHeld3 ho9 hz9 hk9 hbB hS0 HPT HX2 HX3 HVQ
  have HR2 : Hid ((if (putX S1.d (dataC (datP ino ((lo / 32 : Nat) : Int)) Q)).2 ≠ 0 then ({ S1 with d := putS S1.d (dataC (datP ino ((lo / 32 : Nat) : Int)) Q) }, (putX S1.d (dataC (datP ino ((lo / 32 : Nat) : Int)) Q)).2) else exPut SgP { S1 with d := putS S1.d (dataC (datP ino ((lo / 32 : Nat) : Int)) Q) } (wipeR ino (lo / 32 + 1) hi)) = T) := HTC.out
  have HSK : Hid (Sk { S1 with d := putS S1.d (dataC (datP ino ((lo / 32 : Nat) : Int)) Q) } (N + 2 + (lo / 32 + 1))) := (HK1.out.put _).mono (by omega)
  generalize (putX S1.d (dataC (datP ino ((lo / 32 : Nat) : Int)) Q)).2 = PE at *
  generalize ({ S1 with d := putS S1.d (dataC (datP ino ((lo / 32 : Nat) : Int)) Q) } : Sg) = PS at *
  clear HTC HCG HPE HT
  by_cases hpe : PE = 0
  case neg =>
   have hpb : (PE != 0) = true := by simpa using hpe
   have HE : Hid (R = (PS, PE)) := by
    have e1 : T = (PS, PE) := HR2.out.symm.trans (if_pos hpe)
    have e2 := HE1.out
    rw [e1] at e2
    have e3 : exTr2 SgP ino (lo : Int) (hi : Int) (PS, PE) = (PS, PE) := if_pos hpe
    exact e2.symm.trans e3
   clear HR2 HE1
   go_wp2
   go_ret
   exact ⟨by rw [HE.out]; first | done | rfl, by rw [HE.out]; exact HO9.out⟩
  subst hpe
  have HR3 : Hid (exPut SgP PS (wipeR ino (lo / 32 + 1) hi) = T) := (if_neg (show ¬ ((0 : Int) ≠ 0) by simp)).symm.trans HR2.out
  clear HR2
  have hq0 : (0 : Int) ≤ (lo : Int) - (r : Int) := by omega
  have hq1 : (lo : Int) - (r : Int) ≤ 512 := by omega
  have hq2 : (lo : Int) - (r : Int) + 32 ≤ 600 := by omega
  have hq3 : (0 : Int) ≤ (lo : Int) - (r : Int) + 32 := by omega
  go_wp2_with fail
  clear hrI hrb hrn hq0 hq1 hq2 hq3
  go_loopg [10] 20 (fun kx s10 wr => ∃ (c : Nat) (s' : Sg), s10 = .int .i64 ((32 * c : Nat) : Int) ∧ c ≤ 17 ∧ 18 - c ≤ kx ∧ Hid (XsOut B w x X s' wr) ∧ Hid (exPut SgP s' (wipeR ino c hi) = T) ∧ Hid (Sk s' (N + 2 + c)))
  case atStart => exact ⟨lo / 32 + 1, PS, congrArg (Value.int .i64) (by have := HR.out; omega), by omega, by omega, HO9.out, HR3.out, HSK.out⟩
  case round =>
   obtain ⟨c, s', rfl, hc17, hkx, HO, HP, HS⟩ := hrel
   obtain ⟨A, hA⟩ : ∃ A, 32 * c = A := ⟨_, rfl⟩
   rw [hA]
   have HA : Hid (32 * c = A ∧ c ≤ 17) := ⟨hA, hc17⟩
   by_cases hlt : A < hi
   ·have hltI : (A : Int) < (hi : Int) := by omega
    have HC : Hid (c ≤ 15 ∧ A / 32 = c ∧ A + 32 = 32 * (c + 1)) := by have := HNAT.out; exact ⟨by omega, by omega, by omega⟩
    have HAT9 : Hid (A ≤ 2000) := by have := HNAT.out; unfold Hid at *; omega
    have HDR : Hid (exPut SgP s' (goneC (datP ino (c : Int)) :: wipeR ino (c + 1) hi) = T) := by rw [← wipeR_next ino (by omega)]; exact HP.out
    have HPE : Hid (((A / 32 : Nat) : Int) = (c : Int)) := by have := HC.out; unfold Hid; omega
    have HCG : Hid (CgOk (goneC (datP ino (c : Int)))) := gone_ok (datP_ok h0 h1 (by omega))
    have hA32 : (A : Int) + 32 ≤ 1000 := by have := HNAT.out; omega
    have hA0 : (0 : Int) ≤ (A : Int) := by omega
    clear hA
    obtain ⟨X1, hx1, hx2, hx3⟩ := HO.out
    have hx4 := hx1.below (Below.refl _ wr).drew
    obtain ⟨rv, q, hvr, hq, hput⟩ := hx4.putV
    have HVQ : Hid (x ≠ q ∧ rv ≠ q) := hvr.ne hq
    have HPT : Hid _ := hput
    have HX2 : Hid (Sole X w wr) := hx2
    have HX3 : Hid (∀ k ∈ X1, k ∈ X ∨ w.heap.size ≤ k) := hx3
    have hS0 : VRow wr.drew x rv q := hvr
    clear hx1 hx2 hx3 hx4 hvr hq hput
    go_wp2_with fail
    refine wp_region_noPanic ?_
    refine wp_region_held_drew (S := fun W => VRow W x rv q) (by kernel_rfl) hS0 (fun hHeld => ?_)
    refine tk 0 (.pointer (some ⟨x, 0, none⟩)) rfl ?_
    try simp only [nz]
    refine tk 1 (.pointer (some ⟨x, 0, none⟩)) rfl ?_
    try simp only [nz]
    refine tk 2 (.pointer (some ⟨x, 0, none⟩)) rfl ?_
    try simp only [nz]
    refine tk 3 (.pointer (some ⟨rv, 0, none⟩)) rfl ?_ (fun W hSw => by (try dsimp only at hSw); (have z := hSw.c0; go_simp))
    try simp only [nz]
    refine tk 4 (.pointer (some ⟨rv, 0, none⟩)) rfl ?_
    try simp only [nz]
    refine tk 5 (.pointer (some ⟨rv, 1, none⟩)) rfl ?_
    try simp only [nz]
    refine tk 6 (.pointer (some ⟨q, 0, none⟩)) rfl ?_ (fun W hSw => by (try dsimp only at hSw); (have z := hSw.c1; go_simp))
    try simp only [nz]
    refine tk 7 (.int .u32 ino) rfl ?_
    try simp only [nz]
    refine tk 8 (.int .i64 (A : Int)) rfl ?_
    try simp only [nz]
    have cr := rplace_any wr.drew ino A (by have := HAT9.out; unfold Hid at this; omega)
    rw [HPE.out] at cr
    refine rd 9 rfl (fun K hK => ?_)
    go_simp
    go_wp2_with (go_at_call 112; refine cr.mono ?_; rintro e wB ⟨rfl, hbB⟩)
    refine hK.out _ _ (hHeld.below hbB) (fun hHeld2 => ?_)
    clear hK K cr
    try simp only [nz]
    refine wpAnyH_take (i := 10) (v := .agg (cgC (goneC (datP ino (c : Int))))) rfl (by kernel_rfl) (by kernel_rfl) (by kernel_rfl) (fun _ _ _ h => h) (yields_build (by rfl) 119 _ rfl [(0, plV (datP ino (c : Int))), (1, .bool true)] (by kernel_rfl) _ (bt_gone (datP ino (c : Int)))) (by assumption) ?_
    try simp only [nz]
    have cp := HPT.out wB hbB (goneC (datP ino (c : Int))) HCG.out (by have := HS.out.P; have := HN.out; unfold Hid at *; omega) (by have := HS.out.L; have := HN.out; unfold Hid at *; omega)
    refine rd 11 rfl (fun K hK => ?_)
    go_simp
    go_wp2_with (go_at_call 90; refine cp.mono ?_; rintro e wC ⟨rfl, ho9, hz9, hk9⟩)
    have HO9 : Hid (XsOut B w x X { s' with d := putS s'.d (goneC (datP ino (c : Int))) } wC) := XsOut.then (w1 := wr.drew) (HX2.out.trans (Sole.drew _ _)) HX3.out (XsOut.pre hbB ho9)
    refine hK.out _ _ (hHeld2.keep ⟨HVQ.out.1, HVQ.out.2⟩ hk9) (fun hHeld3 => ?_)
    clear hK K cp
    try simp only [nz]
    refine tk 12 (.int .i64 (putX s'.d (goneC (datP ino (c : Int)))).2) rfl ?_
    try simp only [nz]
    refine wpAnyH_done (by kernel_rfl) ?_ _
    refine NoPanic.normal ?_
    clear hHeld hHeld2 hHeld3 ho9 hz9 hk9 hbB hS0 HPT HX2 HX3 HVQ
    have HR2 : Hid ((if (putX s'.d (goneC (datP ino (c : Int)))).2 ≠ 0 then ({ s' with d := putS s'.d (goneC (datP ino (c : Int))) }, (putX s'.d (goneC (datP ino (c : Int)))).2) else exPut SgP { s' with d := putS s'.d (goneC (datP ino (c : Int))) } (wipeR ino (c + 1) hi)) = T) := HDR.out
    have HSK : Hid (Sk { s' with d := putS s'.d (goneC (datP ino (c : Int))) } (N + 2 + (c + 1))) := (HS.out.put _).mono (by omega)
    generalize (putX s'.d (goneC (datP ino (c : Int)))).2 = PE at *
    generalize ({ s' with d := putS s'.d (goneC (datP ino (c : Int))) } : Sg) = PS at *
    clear HDR HCG HPE
    by_cases hpe : PE = 0
    case neg =>
     have hpb : (PE != 0) = true := by simpa using hpe
     have HE : Hid (R = (PS, PE)) := by
      have e1 : T = (PS, PE) := HR2.out.symm.trans (if_pos hpe)
      have e2 := HE1.out
      rw [e1] at e2
      have e3 : exTr2 SgP ino (lo : Int) (hi : Int) (PS, PE) = (PS, PE) := if_pos hpe
      exact e2.symm.trans e3
     clear HR2 HE1
     go_wp2
     go_ret
     exact ⟨by rw [HE.out]; first | done | rfl, by rw [HE.out]; exact HO9.out⟩
    subst hpe
    have HR3 : Hid (exPut SgP PS (wipeR ino (c + 1) hi) = T) := (if_neg (show ¬ ((0 : Int) ≠ 0) by simp)).symm.trans HR2.out
    clear HR2
    go_wp2
    go_roundg (18 - (c + 1))
    case measure => omega
    case rel => exact ⟨c + 1, PS, by rw [show (A : Int) + 32 = ((32 * (c + 1) : Nat) : Int) by have := HC.out; omega], by have := HC.out; omega, by omega, HO9.out, HR3.out, HSK.out⟩
   ·have HE3 : Hid (T = (s', 0)) := by
     have e := HP.out
     rw [wipeR_end ino (by omega)] at e
     exact e.symm
    have HE4 : Hid (setR { s' with U := addL s'.U (tcB ino (lo : Int) (hi : Int)) } ino [(4, (lo : Int))] = R) := by
     have e2 := HE1.out
     rw [HE3.out] at e2
     have e3 : exTr2 SgP ino (lo : Int) (hi : Int) (s', 0) = setR { s' with U := addL s'.U (tcB ino (lo : Int) (hi : Int)) } ino [(4, (lo : Int))] := if_neg (show ¬ ((0 : Int) ≠ 0) by simp)
     exact e3.symm.trans e2
    have hnlt : ¬ (A : Int) < (hi : Int) := by omega
    have ct := HO.out.call (R := fun e => e = .returned (.tuple #[])) (fun X1 k => wroteB k (lo := (lo : Int)) (hi := (hi : Int)) HBD.out.2.2 (by omega) (by omega) (by omega) (by have := HS.out.U; have := HN.out; unfold Hid at *; omega))
    have HKS : Hid (Sk { s' with U := addL s'.U (tcB ino (lo : Int) (hi : Int)) } (N + 2 + c + 1)) := HS.out.addU _
    have HN9 : Hid (N + 2 + c + 1 ≤ 4000) := by have := HN.out; unfold Hid at *; omega
    generalize ({ s' with U := addL s'.U (tcB ino (lo : Int) (hi : Int)) } : Sg) = S3 at *
    clear HE1 HE3 HP
    go_wp2_with fail
    refine ct.mono ?_
    rintro e w4 ⟨rfl, ho4⟩
    clear ct
    have HO3 : Hid (XsOut B w x X S3 w4) := ho4
    have HE : Hid (R = setR S3 ino [(4, (lo : Int))]) := HE4.out.symm
    clear ho4 HE4
    obtain ⟨X1, hx1, hx2, hx3⟩ := HO3.out
    have cs := setB hx1 ino h0 h1 (lo : Int) (by omega) (by omega) HKS.out HN9.out
    have HX2 : Hid (Sole X w w4) := hx2
    have HX3 : Hid (∀ k ∈ X1, k ∈ X ∨ w.heap.size ≤ k) := hx3
    obtain ⟨w5, hw5⟩ : ∃ w5, w4.alloc (.cells #[.int .i64 4, .int .i64 (lo : Int)] 98) = w5 := ⟨_, rfl⟩
    rw [hw5] at cs
    generalize setR S3 ino [(4, (lo : Int))] = T9 at *
    obtain ⟨S4, e4⟩ := T9
    dsimp only at cs
    clear hx1 hx2 hx3 HO3
    go_wp2_with fail
    try rw [hw5]
    refine cs.mono ?_
    rintro e w6 ⟨rfl, ho6⟩
    clear cs hw5
    have HO6 : Hid (XsOut B w x X S4 w6) := XsOut.then HX2.out HX3.out ho6
    clear ho6
    go_wp2
    go_ret
    exact ⟨by rw [HE.out]; first | done | rfl, by rw [HE.out]; exact HO6.out⟩
end Go.Proofs.YtiplhhaehbjghaaGreat
