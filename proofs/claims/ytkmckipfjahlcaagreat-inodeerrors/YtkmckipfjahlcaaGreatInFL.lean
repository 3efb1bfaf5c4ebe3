/- Over a store that may fail: Link (written by tools/laws/InL2_gen.py). -/
import Derived.Test.YtkmckipfjahlcaaGreatInDL
import Derived.Test.YtkmckipfjahlcaaGreatInEL
import Derived.Test.YtkmckipfjahlcaaGreatEF
namespace Go.Proofs.YtkmckipfjahlcaaGreat.L
open Go.RowKit Go.Maps
set_option linter.unusedVariables false
set_option linter.unusedSimpArgs false
set_option maxRecDepth 100000

def lkE (g : Sg × Int) (n : Int) : Sg × Int × Int := if g.2 ≠ 0 then (g.1, 0, g.2) else (g.1, n, 0)
def lkB (s : Sg) (ino l by_ : Int) : Sg × Int × Int :=
  if by_ < -l ∨ 15 - l < by_ then (s, 0, 170) else if l + by_ = 0 then lkE (rmR s ino) 0 else if by_ = 0 then (s, l + by_, 0) else lkE (setR s ino [(2, l + by_)]) (l + by_)
def lkR (s : Sg) (ino by_ : Int) : Sg × Int × Int :=
  if (fdR s ino).2 ≠ 0 then (fdS s ino, 0, (fdR s ino).2) else if (fdR s ino).1.k = 2 then (fdS s ino, 0, 193) else lkB { fdS s ino with R := addK (fdS s ino).R ino [2] } ino (fdR s ino).1.l by_

set_option maxHeartbeats 8000000 in
theorem link_in {B : Nat} {w : World} {a : Sa} {X : List Nat} {s : Sg} (h : SgIn B w a X s) (ino : Int) (h0 : 0 ≤ ino) (h1 : ino ≤ 4294967295) (y : Int) (hy0 : -9223372036854775808 ≤ y) (hy1 : y ≤ 9223372036854775807) {N : Nat} (hk : Sk s N) (hN : N ≤ 3900) (hR : s.R.length ≤ 898) (hU : s.U.length ≤ 899) : Calls Tryz.prog 22 #[.pointer (some ⟨a.s, 0, none⟩), .int .u32 ino, .int .i64 y] w fun e w' =>
    e = .returned (.tuple #[.int .i64 (lkR s ino y).2.1, .int .i64 (lkR s ino y).2.2]) ∧ SgOut B w a X (lkR s ino y).1 w' := by
  have cf := find_in h ino h0 h1
  have hbd := fd_bd (sg_ok h) hk.ck ino
  obtain ⟨e1, e2, e3, _⟩ := fdS_same s ino
  have hkS := hk.fdS ino
  rw [← e2] at hR
  rw [← e3] at hU
  clear e1 e2 e3 hk
  have HF : Hid (lkR s ino y = if (fdR s ino).2 ≠ 0 then (fdS s ino, 0, (fdR s ino).2) else if (fdR s ino).1.k = 2 then (fdS s ino, 0, 193) else lkB { fdS s ino with R := addK (fdS s ino).R ino [2] } ino (fdR s ino).1.l y) := rfl
  generalize lkR s ino y = R at *
  generalize fdR s ino = F at *
  generalize fdS s ino = S1 at *
  obtain ⟨⟨fk, fm, fl, fz⟩, fe⟩ := F
  unfold inV at cf
  dsimp only at cf HF hbd ⊢
  have HH : Hid (SgIn B w a X s) := h
  have HBD : Hid (Bd ⟨fk, fm, fl, fz⟩) := hbd
  have HX : Hid (∀ k ∈ X, k < w.heap.size) := h.lt
  have HK : Hid (Sk S1 N) := hkS
  have HN : Hid (N ≤ 3900) := hN
  have HL : Hid (S1.R.length ≤ 898 ∧ S1.U.length ≤ 899) := ⟨hR, hU⟩
  clear h hbd hkS hR hU hN
  go_enter Tryz.func22, Tryz.ntmps22
  go_wp2_with fail
  refine cf.mono ?_
  rintro e w1 ⟨rfl, ho1⟩
  clear cf
  obtain ⟨Xz, hz1, hz2, hz3⟩ := ho1
  have HZ2 : Hid (Sole X w w1) := hz2
  have HZ3 : Hid (∀ k ∈ Xz, k ∈ X ∨ w.heap.size ≤ k) := hz3
  have HHz : Hid (SgIn B w1 a Xz S1) := hz1
  have HXz : Hid (∀ k ∈ Xz, k < w1.heap.size) := hz1.lt
  have hb1 := Below.refl w1.heap.size w1
  clear hz1 hz2 hz3
  have hb2 := bel1 w1 (.cells #[.int .i64 fk, .int .i64 fm, .int .i64 fl, .int .i64 fz] 53)
  have hi2 : InRow (w1.alloc (.cells #[.int .i64 fk, .int .i64 fm, .int .i64 fl, .int .i64 fz] 53)) w1.heap.size fk fm fl fz := ⟨heap_alloc_new w1 _⟩
  obtain ⟨w2, hw2⟩ : ∃ w2, w1.alloc (.cells #[.int .i64 fk, .int .i64 fm, .int .i64 fl, .int .i64 fz] 53) = w2 := ⟨_, rfl⟩
  rw [hw2] at hb2 hi2
  have hB2 := thenB hb1 hb2
  have HB2 : Hid (Below w1.heap.size w1 w2) := hB2
  have HLE : Hid (w1.heap.size ≤ w1.heap.size) := hb1.size
  by_cases he : fe = 0
  case neg =>
    have heb : (fe != 0) = true := by simpa using he
    have HE : Hid (R = (S1, 0, fe)) := by unfold Hid; rw [HF.out, if_pos he]
    clear HF hi2
    go_wp2
    go_ret2
    exact ⟨by rw [HE.out]; first | done | rfl, by rw [HE.out]; exact SgOut.then HZ2.out HZ3.out (HHz.out.out HB2.out)⟩
  subst he
  have i0 := hi2.cell 0 _ rfl
  have HI2 : Hid (InRow w2 w1.heap.size fk fm fl fz) := hi2
  clear hi2 hb1 hb2 hB2
  by_cases hk2 : fk = 2
  case pos =>
    subst hk2
    have HE : Hid (R = (S1, 0, 193)) := by unfold Hid; rw [HF.out, if_neg (by simp), if_pos rfl]
    clear HF
    go_wp2
    go_ret2
    exact ⟨by rw [HE.out]; first | done | rfl, by rw [HE.out]; exact SgOut.then HZ2.out HZ3.out (HHz.out.out HB2.out)⟩
  have hk2b : (fk == 2) = false := by simpa using hk2
  have HE : Hid (R = lkB { S1 with R := addK S1.R ino [2] } ino fl y) := by unfold Hid; rw [HF.out, if_neg (by simp), if_neg hk2]
  have HK1 : Hid (Sk { S1 with R := addK S1.R ino [2] } (N + 1)) := HK.out.read ino [2]
  have HL1 : Hid ((addK S1.R ino [2]).length ≤ 899 ∧ S1.U.length ≤ 899) := ⟨by have := addK_len S1.R ino [2]; have := HL.out.1; simp at *; omega, HL.out.2⟩
  have hb3 := bel1 w2 (.cells #[.int .i64 2] 3)
  have hk3 : RdKs (w2.alloc (.cells #[.int .i64 2] 3)) (.slice (some ⟨w2.heap.size, 0, none⟩) 1 1) [2] := rdKs_lit w2 [2]
  obtain ⟨w3, hw3⟩ : ∃ w3, w2.alloc (.cells #[.int .i64 2] 3) = w3 := ⟨_, rfl⟩
  rw [hw3] at hb3 hk3
  have c1 := (HHz.out.below HB2.out).c1
  have ct := ((HHz.out.below HB2.out).below hb3).touchR ino h0 h1 _ _ _ _ hk3 (by intro k hk; simp at hk; omega) (by decide) (by have := HL.out.1; omega)
  have HB3 : Hid (Below w1.heap.size w1 w3) := thenB HB2.out hb3
  have HI3 : Hid (InRow w3 w1.heap.size fk fm fl fz) := HI2.out.below hb3
  clear hb3 hk3 HB2 HI2 HF hk2
  go_wp2_with fail
  refine ct.mono ?_
  rintro e w4 ⟨rfl, ho4⟩
  clear ct c1 i0
  have hi4 : InRow w4 w1.heap.size fk fm fl fz := HI3.out.sole ho4.sole (fun e => by have := HXz.out _ e; have := HLE.out; omega)
  have i2 := hi4.cell 2 _ rfl
  obtain ⟨Sb, hSb⟩ : ∃ Sb : Sg, ({ S1 with R := addK S1.R ino [2] } : Sg) = Sb := ⟨_, rfl⟩
  have HO4 : Hid (SgOut B w1 a Xz Sb w4) := by unfold Hid; rw [← hSb]; exact SgOut.pre HB3.out ho4
  rw [hSb] at HE HK1
  have HL4 : Hid (Sb.R.length ≤ 899 ∧ Sb.U.length ≤ 899) := by unfold Hid; rw [← hSb]; exact HL1.out
  have hl0 := HBD.out.l0
  have hl1 := HBD.out.l1
  dsimp only at hl0 hl1
  have hneg : ¬ (-fl < -9223372036854775808) := by omega
  clear hSb ho4 hi4 HB3 HI3 HL1 HL HK
  by_cases hlo : y < -fl
  case pos =>
    have HE1 : Hid (R = (Sb, 0, 170)) := by unfold Hid; rw [HE.out]; unfold lkB; rw [if_pos (.inl hlo)]
    clear HE
    go_wp2
    go_ret2
    exact ⟨by rw [HE1.out]; first | done | rfl, by rw [HE1.out]; exact SgOut.then HZ2.out HZ3.out (HO4.out)⟩
  by_cases hhi : 15 - fl < y
  case pos =>
    have HE1 : Hid (R = (Sb, 0, 170)) := by unfold Hid; rw [HE.out]; unfold lkB; rw [if_pos (.inr hhi)]
    clear HE
    go_wp2
    go_ret2
    exact ⟨by rw [HE1.out]; first | done | rfl, by rw [HE1.out]; exact SgOut.then HZ2.out HZ3.out (HO4.out)⟩
  obtain ⟨L, hL⟩ : ∃ L, fl + y = L := ⟨_, rfl⟩
  have hLb : 0 ≤ L ∧ L ≤ 15 := by omega
  obtain ⟨X4, hx1, hx2, hx3⟩ := HO4.out
  have HX2 : Hid (Sole Xz w1 w4) := hx2
  have HX3 : Hid (∀ k ∈ X4, k ∈ Xz ∨ w1.heap.size ≤ k) := hx3
  have HX1 : Hid (SgIn B w4 a X4 Sb) := hx1
  clear hx1 hx2 hx3
  by_cases hz : L = 0
  case pos =>
    have hyl : y = -fl := by omega
    have HE1 : Hid (R = lkE (rmR Sb ino) 0) := by unfold Hid; rw [HE.out]; unfold lkB; rw [if_neg (by omega), if_pos (by omega)]
    have cr := rm_in HX1.out ino h0 h1 HK1.out (by have := HN.out; omega) HL4.out.1 HL4.out.2
    clear HE hlo hhi
    have hsum : fl + y = 0 := by omega
    clear hL hyl
    go_wp2_with fail
    refine cr.mono ?_
    rintro e w5 ⟨rfl, ho5⟩
    have HO5 : Hid (SgOut B w1 a Xz (rmR Sb ino).1 w5) := SgOut.then HX2.out HX3.out ho5
    clear cr ho5
    generalize rmR Sb ino = G at *
    obtain ⟨gs, ge⟩ := G
    dsimp only at HO5 ⊢
    by_cases hge : ge = 0
    · subst hge
      have HE2 : Hid (R = (gs, 0, 0)) := by unfold Hid; rw [HE1.out]; rfl
      clear HE1
      go_wp2
      go_ret2
      exact ⟨by rw [HE2.out]; first | done | rfl, by rw [HE2.out]; exact SgOut.then HZ2.out HZ3.out (HO5.out)⟩
    · have hgb : (ge != 0) = true := by simpa using hge
      have HE2 : Hid (R = (gs, 0, ge)) := by unfold Hid; rw [HE1.out]; unfold lkE; rw [if_pos hge]
      clear HE1
      go_wp2
      go_ret2
      exact ⟨by rw [HE2.out]; first | done | rfl, by rw [HE2.out]; exact SgOut.then HZ2.out HZ3.out (HO5.out)⟩
  by_cases hyz : y = 0
  case pos =>
    subst hyz
    have HE1 : Hid (R = (Sb, L, 0)) := by unfold Hid; rw [HE.out]; unfold lkB; rw [if_neg (by omega), if_neg (by omega), if_pos rfl, hL]
    clear HE
    have hfl : fl = L := by omega
    clear hL
    subst hfl
    go_wp2
    go_ret2
    exact ⟨by rw [HE1.out]; first | done | rfl, by rw [HE1.out]; exact SgOut.then HZ2.out HZ3.out (HO4.out)⟩
  have HE1 : Hid (R = lkE (setR Sb ino [(2, L)]) L) := by unfold Hid; rw [HE.out]; unfold lkB; rw [if_neg (by omega), if_neg (by omega), if_neg hyz, hL]
  have hb5 := bel1 w4 (.cells #[.int .i64 2, .int .i64 L] 43)
  have hr5 := rd_fi w4 (2, L)
  obtain ⟨w5, hw5⟩ : ∃ w5, w4.alloc (.cells #[.int .i64 2, .int .i64 L] 43) = w5 := ⟨_, rfl⟩
  dsimp only at hr5
  rw [hw5] at hb5 hr5
  have cs := set_in (HX1.out.below hb5) ino h0 h1 _ _ _ [(2, L)] hr5 (fun b off e _ hm => by cases e; have := HX1.out.lt _ hm; omega) (by decide) (by intro f hf; simp at hf; subst hf; dsimp only; omega) (by have := HK1.out.L; have := HN.out; omega) (by have := HK1.out.P; have := HN.out; omega) (by have := HL4.out.2; omega)
  have HB5 : Hid (Below w4.heap.size w4 w5) := hb5
  have hyb : (y != 0) = true := by simpa using hyz
  have hzb : (L == 0) = false := by simpa using hz
  clear HE hb5 hr5
  go_wp2_with fail
  refine cs.mono ?_
  rintro e w6 ⟨rfl, ho6⟩
  have HO6 : Hid (SgOut B w1 a Xz (setR Sb ino [(2, L)]).1 w6) := SgOut.then HX2.out HX3.out (SgOut.pre HB5.out ho6)
  clear cs ho6
  generalize setR Sb ino [(2, L)] = G at *
  obtain ⟨gs, ge⟩ := G
  dsimp only at HO6 ⊢
  by_cases hge : ge = 0
  · subst hge
    have HE2 : Hid (R = (gs, L, 0)) := by unfold Hid; rw [HE1.out]; rfl
    clear HE1
    go_wp2
    go_ret2
    exact ⟨by rw [HE2.out]; first | done | rfl, by rw [HE2.out]; exact SgOut.then HZ2.out HZ3.out (HO6.out)⟩
  · have hgb : (ge != 0) = true := by simpa using hge
    have HE2 : Hid (R = (gs, 0, ge)) := by unfold Hid; rw [HE1.out]; unfold lkE; rw [if_pos hge]
    clear HE1
    go_wp2
    go_ret2
    exact ⟨by rw [HE2.out]; first | done | rfl, by rw [HE2.out]; exact SgOut.then HZ2.out HZ3.out (HO6.out)⟩

end Go.Proofs.YtkmckipfjahlcaaGreat.L
