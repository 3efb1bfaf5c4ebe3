/- The contract of the document's Read (written by tools/laws/RxR_gen.py). -/
import Derived.Test.YtiplhhaehbjghaaGreatM1
import Derived.Test.YtiplhhaehbjghaaGreatRxA
namespace Go.Proofs.YtiplhhaehbjghaaGreat
open Go.RowKit Go.Maps
set_option linter.unusedVariables false
set_option maxHeartbeats 32000000
set_option maxRecDepth 100000
set_option linter.unusedSimpArgs false
theorem xit_rd {w : World} {g : Nat} {x : It} (h : ItAt 130 w g x) (hl : x.bytes.length = 32) {r : Nat} (hr : r < 32) : Rd w (.slice (some ⟨g, 5 + r, none⟩) 1 (32 - r)) [x.bytes.getD r 0] := by
 refine ⟨_, _, rfl, by simp; omega, by unfold maxLen; omega, (by intro e; cases e), fun _ => ⟨g, 5 + r, rfl, h.lt, fun j hj => ?_⟩⟩
 have hj0 : j = 0 := by simpa using hj
 subst hj0
 rw [cell_of_row _ _ _ _ _ (0, 0) h.row]
 unfold itC
 rw [show (5 + r + 0) = r + 5 by omega]
 simp [hl, hr]
theorem xsl (w : World) (gi r : Nat) (hr : r < 32) : (Instr.sliceAt 115 (.pointer (some ⟨gi, 5, none⟩)) (some (.int .i64 (r : Int))) (some (.int .i64 ((r : Int) + 1))) none).run Tryz.prog w = .ok (.slice (some ⟨gi, 5 + r, none⟩) 1 (32 - r)) w := by
 have h0 : (0 : Int) ≤ (r : Int) := by omega
 have h1 : (r : Int) ≤ (r : Int) + 1 := by omega
 have h2 : (r : Int) + 1 ≤ 32 := by omega
 have hn : ((r : Int) + 1).toNat = r + 1 := by omega
 have hm : ((r : Int) + 1 - r).toNat = 1 := by omega
 have hk : ((r : Int) + 1 - r) = 1 := by omega
 have hne : ¬ 32 = r := by omega
 go_simp
theorem xread {B : Nat} {w : World} {x : Nat} {X : List Nat} {s : Sg} (h : XsIn B w x X s) (iv : Iv s) (ino : Int) (h0 : 0 ≤ ino) (h1 : ino ≤ 4294967295) (off n : Int) (ho0 : -9223372036854775808 ≤ off) (ho1 : off ≤ 9223372036854775807) (hL : s.R.length ≤ 4000) :
  Calls Tryz.prog 56 #[.pointer (some ⟨x, 0, none⟩), .int .u32 ino, .int .i64 off, .int .i64 n] w fun e w' =>
  e = .returned (.tuple #[.string (rdX s ino off n).2.1, .int .i64 (rdX s ino off n).2.2]) ∧ XsOut B w x X (rdX s ino off n).1 w' := by
 obtain ⟨R, hR⟩ : ∃ R, rdX s ino off n = R := ⟨_, rfl⟩
 rw [hR]
 have HF : Hid ((if off < 0 ∨ n < 0 ∨ 64 < n then (s, ⟨#[]⟩, 1) else exRd1 SgP ino off n (exSz SgP s ino)) = R) := hR
 have HH : Hid (XsIn B w x X s) := h
 have HIV : Hid (Iv s) := iv
 have HL : Hid (s.R.length ≤ 4000) := hL
 have HSZ : Hid _ := exSz_x iv ino
 have cf := file_x h iv.c ino h0 h1
 clear h hR hL iv
 by_cases c1 : off < 0
 case pos =>
  have HE : Hid (R = (s, ⟨#[]⟩, 1)) := HF.out.symm.trans (if_pos (.inl c1))
  clear HF cf HSZ
  go_enter Tryz.func56, Tryz.ntmps56
  go_wp2
  go_ret2
  exact ⟨by rw [HE.out]; first | done | rfl, by rw [HE.out]; exact HH.out.out (Below.refl _ _)⟩
 by_cases c2 : n < 0
 case pos =>
  have HE : Hid (R = (s, ⟨#[]⟩, 1)) := HF.out.symm.trans (if_pos (.inr (.inl c2)))
  clear HF cf HSZ
  go_enter Tryz.func56, Tryz.ntmps56
  go_wp2
  go_ret2
  exact ⟨by rw [HE.out]; first | done | rfl, by rw [HE.out]; exact HH.out.out (Below.refl _ _)⟩
 by_cases c3 : 64 < n
 case pos =>
  have HE : Hid (R = (s, ⟨#[]⟩, 1)) := HF.out.symm.trans (if_pos (.inr (.inr c3)))
  clear HF cf HSZ
  go_enter Tryz.func56, Tryz.ntmps56
  go_wp2
  go_ret2
  exact ⟨by rw [HE.out]; first | done | rfl, by rw [HE.out]; exact HH.out.out (Below.refl _ _)⟩
 have HE0 : Hid (exRd1 SgP ino off n (exSz SgP s ino) = R) := (if_neg (show ¬ (off < 0 ∨ n < 0 ∨ 64 < n) by omega)).symm.trans HF.out
 clear HF
 go_enter Tryz.func56, Tryz.ntmps56
 go_wp2_with fail
 refine cf.mono ?_
 rintro e w1 ⟨rfl, hb1⟩
 have HB1 : Hid (Below w.heap.size w w1) := hb1
 clear cf hb1
 generalize exSz SgP s ino = Z at *
 generalize fileE s ino = fe at *
 by_cases he : fe = 0
 case neg =>
  have heb : (fe != 0) = true := by simpa using he
  have HE : Hid (R = (s, ⟨#[]⟩, fe)) := by
   have e1 := HE0.out
   rw [HSZ.out.1 he] at e1
   have e2 : exRd1 SgP ino off n (s, 0, fe) = (s, ⟨#[]⟩, fe) := if_pos he
   exact e1.symm.trans e2
  clear HE0 HSZ
  go_wp2
  go_ret2
  exact ⟨by rw [HE.out]; first | done | rfl, by rw [HE.out]; exact HH.out.out HB1.out⟩
 subst he
 obtain ⟨rfl, hsz, hz0, hz1, hi0⟩ := HSZ.out.2 rfl
 have cz := size_x (HH.out.below HB1.out) HIV.out.c ino h0 h1 HL.out
 rw [hsz] at cz
 have HKL : Hid (({ s with R := addK s.R ino [3] } : Sg).R.length ≤ 4001) := by
  have := HL.out
  unfold Hid at *
  show (addK s.R ino [3]).length ≤ 4001
  have e : addK s.R ino [3] = addL s.R (tcK ino 3) := rfl
  rw [e]
  unfold addL
  split
  ·split
   ·omega
   ·rw [List.length_append]; simp; omega
  ·omega
 have HBD : Hid (0 ≤ (fdR s ino).1.s ∧ (fdR s ino).1.s ≤ 512 ∧ ino ≠ 0) := ⟨hz0, hz1, hi0⟩
 have HIV1 : Hid (Iv { s with R := addK s.R ino [3] }) := HIV.out.same rfl rfl
 clear hsz hz0 hz1 hi0 HSZ HIV
 generalize ({ s with R := addK s.R ino [3] } : Sg) = S1 at *
 generalize (fdR s ino).1.s = z at *
 have HE1 : Hid (exRd2 SgP ino off (S1, z, 0) (min n (z - off)) = R) := by
  have e2 : exRd1 SgP ino off n (S1, z, 0) = exRd2 SgP ino off (S1, z, 0) (min n (z - off)) := if_neg (show ¬ ((0 : Int) ≠ 0) by simp)
  exact e2.symm.trans HE0.out
 clear HE0
 dsimp only at cz
 go_wp2_with fail
 refine cz.mono ?_
 rintro e w2 ⟨rfl, ho2⟩
 have HO2 : Hid (XsOut B w x X S1 w2) := XsOut.pre HB1.out ho2
 clear cz ho2 HH
 by_cases hc : z ≤ off
 case pos =>
  have HE : Hid (R = (S1, ⟨#[]⟩, 0)) := HE1.out.symm.trans (if_pos (show min n (z - off) ≤ 0 by omega))
  clear HE1
  go_wp2
  go_ret2
  exact ⟨by rw [HE.out]; first | done | rfl, by rw [HE.out]; exact HO2.out⟩
 by_cases hn : n = 0
 case pos =>
  subst hn
  have HE : Hid (R = (S1, ⟨#[]⟩, 0)) := HE1.out.symm.trans (if_pos (show min 0 (z - off) ≤ 0 by omega))
  clear HE1
  go_wp2
  go_ret2
  exact ⟨by rw [HE.out]; first | done | rfl, by rw [HE.out]; exact HO2.out⟩
 have hnb : (n == 0) = false := by simpa using hn
 have HZ9 : Hid (0 ≤ z ∧ z ≤ 512 ∧ ino ≠ 0) := HBD.out
 have hz0 := HZ9.out.1
 have hz1 := HZ9.out.2.1
 obtain ⟨M, hM⟩ : ∃ M, min n (z - off) = M := ⟨_, rfl⟩
 rw [hM] at HE1
 have HE2 : Hid (exOut SgP (exGet SgP ino { S1 with R := addL S1.R (tcB ino off (off + M)) } (pcsL off.toNat M.toNat)) = R) := (if_neg (show ¬ M ≤ 0 by omega)).symm.trans HE1.out
 obtain ⟨o', rfl⟩ : ∃ o' : Nat, off = (o' : Int) := ⟨off.toNat, by omega⟩
 obtain ⟨m', rfl⟩ : ∃ m' : Nat, M = (m' : Int) := ⟨M.toNat, by omega⟩
 rw [Int.toNat_natCast, Int.toNat_natCast] at HE2
 obtain ⟨hi, hhi⟩ : ∃ hi, o' + m' = hi := ⟨_, rfl⟩
 have hhI : (o' : Int) + (m' : Int) = (hi : Int) := by omega
 rw [hhI] at HE2
 have HNAT : Hid (o' < hi ∧ hi ≤ 512 ∧ m' = hi - o' ∧ m' ≤ 64) := ⟨by omega, by omega, by omega, by omega⟩
 obtain ⟨X1, hx1, hx2, hx3⟩ := HO2.out
 have HX2 : Hid (Sole X w w2) := hx2
 have HX3 : Hid (∀ k ∈ X1, k ∈ X ∨ w.heap.size ≤ k) := hx3
 have ct := readB hx1 (ino := ino) (lo := (o' : Int)) (hi := (hi : Int)) HZ9.out.2.2 (by omega) (by omega) (by omega) (by have := HKL.out; unfold Hid at this; omega)
 obtain ⟨S2, hS2⟩ : ∃ S2 : Sg, { S1 with R := addL S1.R (tcB ino (o' : Int) (hi : Int)) } = S2 := ⟨_, rfl⟩
 have HIV2 : Hid (Iv S2) := by rw [← hS2]; exact HIV1.out.same rfl rfl
 rw [hS2] at ct HE2
 have hsum0 : (0 : Int) ≤ (o' : Int) + n := by omega
 have hsum1 : (o' : Int) + n ≤ 1000 := by omega
 have hmin : min z ((o' : Int) + n) = (hi : Int) := by omega
 clear hx1 hx2 hx3 HE1 HBD HIV1 HKL hS2 hM HO2
 obtain ⟨N, hN⟩ : ∃ N, (o' : Int) + n = N := ⟨_, rfl⟩
 rw [hN] at hsum0 hsum1 hmin
 go_upto_region 11 with fail
 go_cut [13] from 51 to 55 (fun s13 wx => s13 = .int .i64 (hi : Int) ∧ wx = w2)
 case first =>
  go_wp2_with fail
  go_meet
  case rel => exact ⟨congrArg (Value.int .i64) (by omega), rfl⟩
 case rest =>
  obtain ⟨rfl, hw9⟩ := hcut
  obtain rfl : w2 = wc := hw9.symm
  clear hmin hN hsum0 hsum1 hw9
  go_wp2_with fail
  refine ct.mono ?_
  rintro e w3 ⟨rfl, ho3⟩
  clear ct
  obtain ⟨X2, hx1, hx4, hx5⟩ := ho3
  have HX4 : Hid (XsOut B w2 x X1 S2 w3) := ⟨X2, hx1, hx4, hx5⟩
  have HO3 : Hid (XsOut B w x X S2 w3) := XsOut.then HX2.out HX3.out HX4.out
  obtain ⟨rv, q, vq, vr, vu, hat, rfl⟩ := hx1
  have HAT : Hid (XsAt B w3 x rv q vq vr vu S2) := hat
  have HEX : Hid (R = ((S2, if (bRd S2 ino m' o').2 ≠ 0 then (⟨#[]⟩ : ByteArray) else strOfNums (bRd S2 ino m' o').1, (bRd S2 ino m' o').2) : Sg × ByteArray × Int)) := by
   have e := HE2.out
   obtain ⟨b1, b2, b3⟩ := bRd_ex S2 ino m' 0 o' m' (Nat.le_refl _)
   have e3 : exGet SgP ino S2 (pcsL o' m') = exGet SgP ino S2 (pcsF m' 0 o' m') := rfl
   unfold Hid
   rw [← e, e3]
   unfold exOut
   rw [b1, b2]
   by_cases hz : (bRd S2 ino m' o').2 = 0
   ·rw [if_neg (by simpa using hz), if_neg (by simpa using hz), b3 hz]; rfl
   ·rw [if_pos hz, if_pos hz]; rfl
  have HM : Hid (m' = hi - o') := HNAT.out.2.2.1
  rw [HM.out] at HEX
  have HT0 : Hid (bRd S2 ino (hi - o') o' = (([] : List Int) ++ (bRd S2 ino (hi - o') o').1, (bRd S2 ino (hi - o') o').2)) := rfl
  obtain ⟨T, hT⟩ : ∃ T, bRd S2 ino (hi - o') o' = T := ⟨_, rfl⟩
  have HT0 : Hid (T = (([] : List Int) ++ (bRd S2 ino (hi - o') o').1, (bRd S2 ino (hi - o') o').2)) := by rw [← hT]; exact HT0.out
  rw [hT] at HEX
  clear hT
  clear hat hx4 hx5 HE2 HX4 HX2 HX3 hhI hhi hz0 hz1
  have hz := zeroItemR
  have len0 := ch_zero.1
  go_wp2_with fail
  go_loopg [14, 15] (hi - o') (fun kx s14 s15 wr => ∃ (i : Nat) (ys : List Int), s14 = .string (strOfNums ys) ∧ s15 = .int .i64 i ∧ i ≤ hi ∧ hi - i ≤ kx ∧ Hid (Below w3.heap.size w3 wr) ∧ Hid (T = (ys ++ (bRd S2 ino (hi - i) i).1, (bRd S2 ino (hi - i) i).2) ∧ ys.length ≤ i ∧ o' ≤ i))
  case atStart => exact ⟨o', [], rfl, rfl, by have := HNAT.out; omega, Nat.le_refl _, Below.refl _ _, HT0.out, Nat.zero_le _, Nat.le_refl _⟩
  case round =>
   obtain ⟨i, ys, rfl, rfl, hin, hkx, HB, HY⟩ := hrel
   have hi512 : i ≤ 512 := by have := HNAT.out.2.1; omega
   have hi512I : (i : Int) ≤ 512 := by omega
   have hi0I : (0 : Int) ≤ (i : Int) := by omega
   by_cases hlt : i < hi
   ·have hltI : (i : Int) < (hi : Int) := by omega
    have HW : Hid (XsAt B wr x rv q vq vr vu S2) := HAT.out.below HB.out
    have HPK : Hid (PlOk (datP ino ((i / 32 : Nat) : Int))) := datP_ok h0 h1 (by omega)
    have HGE : Hid (T = if (vgR S2.l S2.d (datP ino ((i / 32 : Nat) : Int))).2.2 ≠ 0 then (ys, (vgR S2.l S2.d (datP ino ((i / 32 : Nat) : Int))).2.2) else (ys ++ [(vgR S2.l S2.d (datP ino ((i / 32 : Nat) : Int))).1.bytes.getD (i % 32) 0] ++ (bRd S2 ino (hi - (i + 1)) (i + 1)).1, (bRd S2 ino (hi - (i + 1)) (i + 1)).2)) := by
     have e := HY.out.1
     rw [show hi - i = (hi - (i + 1)) + 1 by omega, bRd_step] at e
     unfold Hid
     rw [e]
     by_cases hq9 : (vgR S2.l S2.d (datP ino ((i / 32 : Nat) : Int))).2.2 ≠ 0
     ·rw [if_pos hq9, if_pos hq9, List.append_nil]
     ·rw [if_neg hq9, if_neg hq9, List.append_assoc]; rfl
    have cg : ∀ W, Below wr.heap.size wr W → Calls Tryz.prog 111 #[.pointer (some ⟨rv, 0, none⟩), plV (datP ino ((i / 32 : Nat) : Int))] W fun e w' =>
     e = .returned (.tuple #[.agg (itC (vgR S2.l S2.d (datP ino ((i / 32 : Nat) : Int))).1), .bool (vgR S2.l S2.d (datP ino ((i / 32 : Nat) : Int))).2.1, .int .i64 (vgR S2.l S2.d (datP ino ((i / 32 : Nat) : Int))).2.2]) ∧ Below W.heap.size W w' := fun W hW => (HW.out.below hW).get HIV2.out.c _ HPK.out
    have HLEN : Hid ((vgR S2.l S2.d (datP ino ((i / 32 : Nat) : Int))).1.bytes.length = 32) := vgR_len _ _ _
    have cr : ∀ W, Calls Tryz.prog 112 #[.int .u32 ino, .int .i64 (i : Int)] W fun e w' => e = .returned (plV (datP ino ((i / 32 : Nat) : Int))) ∧ Below W.heap.size W w' := fun W => rplace_any W ino i (by omega)
    generalize vgR S2.l S2.d (datP ino ((i / 32 : Nat) : Int)) = V at *
    obtain ⟨it, is, er⟩ := V
    dsimp only at cg HGE HLEN
    generalize datP ino ((i / 32 : Nat) : Int) = P at *
    go_upto_region 17 with fail
    go_cut [16, 17, 18] from 68 to 79 (fun s16 s17 s18 wx => ∃ gi, s16 = .pointer (some ⟨gi, 0, none⟩) ∧ s17 = .bool is ∧ s18 = .int .i64 er ∧ Hid (ItAt 130 wx gi it) ∧ Hid (Below wr.heap.size wr wx))
    case first =>
     have qv : ∀ W, Below wr.heap.size wr W → W.cell? ⟨x, 0, none⟩ = some (.pointer (some ⟨rv, 0, none⟩)) := fun W hW => (HW.out.below hW).c0
     have al : ∀ (A : World) (o : Obj), Below A.heap.size A (A.alloc o) := fun A o => (Below.refl _ A).alloc (Nat.le_refl _) o
     go_wp2_with fail
     refine wp_region_noPanic ?_
     refine wp_region_held_drew (S := fun W => Below wr.heap.size wr W) (by kernel_rfl) (Below.refl _ _).drew (fun hHeld => ?_)
     refine tk 0 (.pointer (some ⟨x, 0, none⟩)) rfl ?_
     try simp only [nz]
     refine tk 1 (.pointer (some ⟨x, 0, none⟩)) rfl ?_
     try simp only [nz]
     refine tk 2 (.pointer (some ⟨x, 0, none⟩)) rfl ?_
     try simp only [nz]
     refine tk 3 (.pointer (some ⟨rv, 0, none⟩)) rfl ?_ (fun W hSw => by (try dsimp only at hSw); (have z := qv W hSw; go_simp))
     try simp only [nz]
     refine tk 4 (.int .u32 ino) rfl ?_
     try simp only [nz]
     refine tk 5 (.int .i64 (i : Int)) rfl ?_
     try simp only [nz]
     obtain ⟨wA, hwA⟩ : ∃ wA, wA = wr.drew := ⟨_, rfl⟩
     rw [← hwA] at hHeld ⊢
     clear hwA qv
     refine wpAnyH_ready (rs := [6, 12]) (by kernel_rfl) (by simp) ?_
     refine AllReadyH.cons rfl (fun K hK => ?_) (AllReadyH.cons rfl (fun K hK => ?_) AllReadyH.nil)
     ·skip
      go_simp
      go_wp2_with (go_at_call 112; refine (cr _).mono ?_; rintro e wB ⟨rfl, hbP⟩)
      have hHeldN := hHeld.trans (hbP.mono hHeld.size)
      clear hHeld
      refine hK.out _ _ hHeldN (fun hHeld => ?_)
      clear hK K hHeldN
      try simp only [nz]
      refine wpAnyH_ready (rs := [7, 12]) (by kernel_rfl) (by simp) ?_
      refine AllReadyH.cons rfl (fun K hK => ?_) (AllReadyH.cons rfl (fun K hK => ?_) AllReadyH.nil)
      ·skip
       go_simp
       go_wp2_with (go_at_call 111; refine (cg _ hHeld).mono ?_; rintro e wG ⟨rfl, hbG⟩)
       have hHeldN := hHeld.trans (hbG.mono hHeld.size)
       clear hHeld
       refine hK.out _ _ hHeldN (fun hHeld => ?_)
       clear hK K hHeldN
       try simp only [nz]
       refine tk 8 (.tuple #[.agg (itC it), .bool is, .int .i64 er]) rfl ?_
       try simp only [nz]
       refine tk 9 (.agg (itC it)) rfl ?_
       try simp only [nz]
       refine tk 10 (.bool is) rfl ?_
       try simp only [nz]
       refine tk 11 (.int .i64 er) rfl ?_
       try simp only [nz]
       refine rd 12 rfl (fun K hK => ?_)
       go_simp
       go_wp2
       have hat := ItAt.laid 130 wG it0
       have hba := bel1 wG (.cells (itC it0) 130)
       obtain ⟨GI, hg0⟩ : ∃ G0, wG.heap.size = G0 := ⟨_, rfl⟩
       have hgi : wr.heap.size ≤ GI := by rw [← hg0]; exact hHeld.size
       have hHeldN := hHeld.trans (hba.mono hHeld.size)
       clear hHeld
       refine hK.out _ _ hHeldN (fun hHeld => ?_)
       clear hK K
       obtain ⟨wH, hnw⟩ : ∃ wz, wG.alloc (.cells (itC it0) 130) = wz := ⟨_, rfl⟩
       rw [hnw] at hat hba hHeld ⊢
       rw [hg0] at hat ⊢
       try simp only [nz]
       clear hHeldN hnw
       refine rd 13 rfl (fun K hK => ?_)
       rw [if_pos (by rfl)]
       refine wp_stR _ _ rfl GI it it0 rfl rfl HLEN.out len0 hat ?_
       have HAI : Hid (ItAt 130 (wH.setRow GI (itC it)) GI it) := hat.setRow it
       have HBI : Hid (Below wr.heap.size wr (wH.setRow GI (itC it))) := below_setRow hHeld hgi _
       refine hK.out _ _ HBI.out (fun hHeld9 => ?_)
       clear hK K
       try simp only [nz]
       refine tk 14 (.bool is) rfl ?_
       try simp only [nz]
       refine tk 15 (.int .i64 er) rfl ?_
       try simp only [nz]
       refine wpAnyH_done (by kernel_rfl) ?_ _
       refine NoPanic.normal ?_
       clear hHeld hHeld9
       go_wp2_with fail
       go_meet
       case rel => exact ⟨GI, rfl, rfl, rfl, HAI, HBI⟩
      ·skip
       go_simp
       go_wp2
       have hat := ItAt.laid 130 wB it0
       have hba := bel1 wB (.cells (itC it0) 130)
       obtain ⟨GI, hg0⟩ : ∃ G0, wB.heap.size = G0 := ⟨_, rfl⟩
       have hgi : wr.heap.size ≤ GI := by rw [← hg0]; exact hHeld.size
       have hHeldN := hHeld.trans (hba.mono hHeld.size)
       clear hHeld
       refine hK.out _ _ hHeldN (fun hHeld => ?_)
       clear hK K
       obtain ⟨wH, hnw⟩ : ∃ wz, wB.alloc (.cells (itC it0) 130) = wz := ⟨_, rfl⟩
       rw [hnw] at hat hba hHeld ⊢
       rw [hg0] at hat ⊢
       try simp only [nz]
       clear hHeldN hnw
       refine rd 7 rfl (fun K hK => ?_)
       go_simp
       go_wp2_with (go_at_call 111; refine (cg _ hHeld).mono ?_; rintro e wG ⟨rfl, hbG⟩)
       have hHeldN := hHeld.trans (hbG.mono hHeld.size)
       clear hHeld
       refine hK.out _ _ hHeldN (fun hHeld => ?_)
       clear hK K hHeldN
       try simp only [nz]
       refine tk 8 (.tuple #[.agg (itC it), .bool is, .int .i64 er]) rfl ?_
       try simp only [nz]
       refine tk 9 (.agg (itC it)) rfl ?_
       try simp only [nz]
       refine tk 10 (.bool is) rfl ?_
       try simp only [nz]
       refine tk 11 (.int .i64 er) rfl ?_
       try simp only [nz]
       have hat := hat.below hbG
       refine rd 13 rfl (fun K hK => ?_)
       rw [if_pos (by rfl)]
       refine wp_stR _ _ rfl GI it it0 rfl rfl HLEN.out len0 hat ?_
       have HAI : Hid (ItAt 130 (wG.setRow GI (itC it)) GI it) := hat.setRow it
       have HBI : Hid (Below wr.heap.size wr (wG.setRow GI (itC it))) := below_setRow hHeld hgi _
       refine hK.out _ _ HBI.out (fun hHeld9 => ?_)
       clear hK K
       try simp only [nz]
       refine tk 14 (.bool is) rfl ?_
       try simp only [nz]
       refine tk 15 (.int .i64 er) rfl ?_
       try simp only [nz]
       refine wpAnyH_done (by kernel_rfl) ?_ _
       refine NoPanic.normal ?_
       clear hHeld hHeld9
       go_wp2_with fail
       go_meet
       case rel => exact ⟨GI, rfl, rfl, rfl, HAI, HBI⟩
     ·skip
      go_simp
      go_wp2
      have hat := ItAt.laid 130 wA it0
      have hba := bel1 wA (.cells (itC it0) 130)
      obtain ⟨GI, hg0⟩ : ∃ G0, wA.heap.size = G0 := ⟨_, rfl⟩
      have hgi : wr.heap.size ≤ GI := by rw [← hg0]; exact hHeld.size
      have hHeldN := hHeld.trans (hba.mono hHeld.size)
      clear hHeld
      refine hK.out _ _ hHeldN (fun hHeld => ?_)
      clear hK K
      obtain ⟨wH, hnw⟩ : ∃ wz, wA.alloc (.cells (itC it0) 130) = wz := ⟨_, rfl⟩
      rw [hnw] at hat hba hHeld ⊢
      rw [hg0] at hat ⊢
      try simp only [nz]
      clear hHeldN hnw
      refine rd 6 rfl (fun K hK => ?_)
      go_simp
      go_wp2_with (go_at_call 112; refine (cr _).mono ?_; rintro e wB ⟨rfl, hbP⟩)
      have hHeldN := hHeld.trans (hbP.mono hHeld.size)
      clear hHeld
      refine hK.out _ _ hHeldN (fun hHeld => ?_)
      clear hK K hHeldN
      try simp only [nz]
      have hat := hat.below hbP
      refine rd 7 rfl (fun K hK => ?_)
      go_simp
      go_wp2_with (go_at_call 111; refine (cg _ hHeld).mono ?_; rintro e wG ⟨rfl, hbG⟩)
      have hHeldN := hHeld.trans (hbG.mono hHeld.size)
      clear hHeld
      refine hK.out _ _ hHeldN (fun hHeld => ?_)
      clear hK K hHeldN
      try simp only [nz]
      refine tk 8 (.tuple #[.agg (itC it), .bool is, .int .i64 er]) rfl ?_
      try simp only [nz]
      refine tk 9 (.agg (itC it)) rfl ?_
      try simp only [nz]
      refine tk 10 (.bool is) rfl ?_
      try simp only [nz]
      refine tk 11 (.int .i64 er) rfl ?_
      try simp only [nz]
      have hat := hat.below hbG
      refine rd 13 rfl (fun K hK => ?_)
      rw [if_pos (by rfl)]
      refine wp_stR _ _ rfl GI it it0 rfl rfl HLEN.out len0 hat ?_
      have HAI : Hid (ItAt 130 (wG.setRow GI (itC it)) GI it) := hat.setRow it
      have HBI : Hid (Below wr.heap.size wr (wG.setRow GI (itC it))) := below_setRow hHeld hgi _
      refine hK.out _ _ HBI.out (fun hHeld9 => ?_)
      clear hK K
      try simp only [nz]
      refine tk 14 (.bool is) rfl ?_
      try simp only [nz]
      refine tk 15 (.int .i64 er) rfl ?_
      try simp only [nz]
      refine wpAnyH_done (by kernel_rfl) ?_ _
      refine NoPanic.normal ?_
      clear hHeld hHeld9
      go_wp2_with fail
      go_meet
      case rel => exact ⟨GI, rfl, rfl, rfl, HAI, HBI⟩
    case rest =>
     obtain ⟨gi, rfl, rfl, rfl, HI5, HB5⟩ := hcut
     obtain ⟨w6, rfl⟩ : ∃ w6, w6 = wc := ⟨_, rfl⟩
     have HBW : Hid (Below w3.heap.size w3 w6) := HB.out.trans (HB5.out.mono HB.out.size)
     clear cg cr hz
     by_cases he : er = 0
     case neg =>
      have heb : (er != 0) = true := by simpa using he
      have HE : Hid (R = (S2, ⟨#[]⟩, er)) := by
       have := HGE.out
       rw [if_pos he] at this
       unfold Hid
       rw [HEX.out, this]
       dsimp only
       rw [if_pos he]
      clear HGE HEX
      go_wp2
      go_ret2
      exact ⟨by rw [HE.out]; first | done | rfl, by rw [HE.out]; exact HO3.out.post HBW.out⟩
     subst he
     have HE : Hid (T = ((ys ++ [it.bytes.getD (i % 32) 0]) ++ (bRd S2 ino (hi - (i + 1)) (i + 1)).1, (bRd S2 ino (hi - (i + 1)) (i + 1)).2)) := by have := HGE.out; rw [if_neg (by simp)] at this; exact this
     clear HGE
     obtain ⟨r, hr⟩ : ∃ r, i % 32 = r := ⟨_, rfl⟩
     have hrI : (i : Int) % 32 = (r : Int) := by omega
     have hr32 : r < 32 := by omega
     have hcv := (xit_rd HI5.out HLEN.out hr32).conv
     rw [hr] at HE
     have hr0 : (0 : Int) ≤ (r : Int) := by omega
     have hr1 : (r : Int) + 1 ≤ 32 := by omega
     have hr2 : (r : Int) ≤ 32 := by omega
     have hrn : ((r : Int) + 1).toNat = r + 1 := by omega
     have hsl := xsl w6 gi r hr32
     have HSZ9 : Hid ((strOfNums ys).size + (strOfNums [it.bytes.getD r 0]).size ≤ 1000) := by
      have e : ∀ l : List Int, (strOfNums l).size = l.length := fun l => by simp [strOfNums, ByteArray.size]
      unfold Hid
      rw [e, e]
      have := HY.out.2.1
      simp
      omega
     have hstr := HSZ9.out
     have HAP : Hid (strOfNums ys ++ strOfNums [it.bytes.getD r 0] = strOfNums (ys ++ [it.bytes.getD r 0])) := xstr_app _ _
     generalize strOfNums [it.bytes.getD r 0] = t1 at *
     have hi9 : (i : Int) + 1 ≤ 1001 := by omega
     clear hr
     go_wp2
     go_roundg (hi - (i + 1))
     case measure => omega
     case rel =>
      refine ⟨i + 1, ys ++ [it.bytes.getD r 0], ?_, by rw [show ((i : Int) + 1) = ((i + 1 : Nat) : Int) by omega], by omega, Nat.le_refl _, HBW.out, HE.out, ?_, ?_⟩
      ·rw [← HAP.out]
      ·have := HY.out.2.1; simp; omega
      ·have := HY.out.2.2; omega
   ·obtain rfl : hi = i := by omega
    have HE : Hid (T = (ys, 0)) := by
     have e := HY.out.1
     rw [Nat.sub_self] at e
     unfold Hid; rw [e]
     show (ys ++ [], (0 : Int)) = _
     rw [List.append_nil]
    have HE9 : Hid (R = (S2, strOfNums ys, 0)) := by
     unfold Hid
     rw [HEX.out, HE.out]
     dsimp only
     rw [if_neg (by simp)]
    clear HEX HE HY
    generalize strOfNums ys = out at *
    clear hz
    go_wp2
    go_ret2
    exact ⟨by rw [HE9.out]; first | done | rfl, by rw [HE9.out]; exact HO3.out.post HB.out⟩
end Go.Proofs.YtiplhhaehbjghaaGreat
