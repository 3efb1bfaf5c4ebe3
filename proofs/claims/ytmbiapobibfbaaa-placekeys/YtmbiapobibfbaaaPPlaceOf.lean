/- The contract of place.placeOf. -/
import Derived.Test.YtmbiapobibfbaaaPSmall
import Derived.Test.YtmbiapobibfbaaaPCut
import Derived.Test.YtmbiapobibfbaaaPConv
import Derived.Deep.RegionHeld3
namespace Go.Proofs.Ytmbiapobibfbaaa
open Go.RowKit
set_option linter.unusedVariables false

/-- The place that fourteen bytes tell. -/
def plOf (xs : List Int) : Pl :=
  if xs.getD 4 0 = 1 then recP (valB (xs.take 4)) else if xs.getD 4 0 = 2 then entP (valB (xs.take 4)) (strOfNums ((xs.drop 5).take (zLen (xs.drop 5)))) else if xs.getD 4 0 = 3 then datP (valB (xs.take 4)) (valB ((xs.drop 5).take 4)) else pl0

theorem Rd.drop5 {w : World} {b off cap : Nat} {xs : List Int} (h : Rd w (.slice (some ⟨b, off, none⟩) 14 cap) xs) : Rd w (.slice (some ⟨b, off + 5, none⟩) 9 (cap - 5)) (xs.drop 5) := by
  have hl := rd_length h
  obtain ⟨a, c, e, h1, h2, h3, h4⟩ := h
  have hc : c = cap := by simp only [Value.slice.injEq] at e; exact e.2.2.symm
  have ha : a = some ⟨b, off, none⟩ := by simp only [Value.slice.injEq] at e; exact e.1.symm
  subst hc ha
  have hdl : (xs.drop 5).length = 9 := by simp [hl]
  refine ⟨_, _, by rw [hdl], by rw [hdl]; omega, by omega, (by intro e; cases e), fun _ => ?_⟩
  obtain ⟨b', off', e', hlt, hc⟩ := h4 (by intro e; subst e; simp at hl)
  simp only [Option.some.injEq, Addr.mk.injEq] at e'
  obtain ⟨rfl, rfl, _⟩ := e'
  refine ⟨_, _, rfl, hlt, fun i hi => ?_⟩
  rw [hdl] at hi
  have := hc (i + 5) (by omega)
  rw [show off + 5 + i = off + (i + 5) from by omega, this]
  simp [Nat.add_comm]

set_option maxHeartbeats 2000000 in
theorem placeOf_any (w : World) (b off cap : Nat) (xs : List Int) (hr : Rd w (.slice (some ⟨b, off, none⟩) 14 cap) xs) (hy : Byt xs) :
    Calls Try.prog 27 #[.slice (some ⟨b, off, none⟩) 14 cap] w fun e w' => e = .returned (plV (plOf xs)) ∧ Below w.heap.size w w' := by
  obtain ⟨q, HQ⟩ : ∃ q, Hid (plOf xs = q) := ⟨_, rfl⟩
  rw [HQ.out]
  have hl := rd_length hr
  have hcap : 14 ≤ cap := by
    obtain ⟨a, c, e, h1, _⟩ := hr
    simp only [Value.slice.injEq] at e
    omega
  obtain ⟨w1, hw1⟩ : ∃ w1, w1 = w.alloc (.cells #[.int .u32 0, .int .i64 0, .string ⟨#[]⟩, .int .u32 0] 24) := ⟨_, rfl⟩
  have hb1 : Below w.heap.size w w1 := by rw [hw1]; exact (Below.refl _ _).alloc (Nat.le_refl _) _
  have hp1 : PlAt w1 w.heap.size pl0 := by rw [hw1]; exact PlAt.laid w pl0
  have hr1 := hr.below hb1
  have hrS : ∀ W, Below w1.heap.size w1 W → Rd W (.slice (some ⟨b, off, none⟩) 14 cap) xs := fun W hW => hr1.below hW
  have hcapI : (14 : Int) ≤ cap := by omega
  go_enter Try.func27, Try.ntmps27
  go_wp2_with fail
  rw [← hw1]
  clear hw1
  refine wp_region_noPanic ?_
  go_region_held (fun W => Below w1.heap.size w1 W) (first | assumption | exact (Below.refl _ _).drew | exact keep2 (by assumption) (by assumption))
    (first
      | (go_at_call 36; refine (number4_any _ _ xs (hrS _ (by assumption)) hy (by omega)).mono ?_; rintro e w2 ⟨rfl, rfl⟩))
  refine NoPanic.normal ?_
  obtain ⟨w2, hw2⟩ : ∃ w2, w2 = w1.drew := ⟨_, rfl⟩
  rw [← hw2]
  have hb2 : Below w1.heap.size w1 w2 := by rw [hw2]; exact (Below.refl _ _).drew
  clear hw2
  have hr2 := hr1.below hb2
  have hp2 := hp1.below hb2
  have h4 : w2.cell? ⟨b, off + 4, none⟩ = some (.int .u8 (xs.getD 4 0)) := by
    obtain ⟨a, c, e, h1, h2, h3, h4⟩ := hr2
    obtain ⟨b', off', e', hlt, hc⟩ := h4 (by intro e; subst e; simp at hl)
    subst e'
    simp only [Value.slice.injEq, Option.some.injEq, Addr.mk.injEq] at e
    obtain ⟨⟨rfl, rfl, _⟩, _⟩ := e
    exact hc 4 (by omega)
  have hy4 := hy.getD 4
  have HZ : Hid (q = if xs.getD 4 0 = 1 then recP (valB (xs.take 4)) else if xs.getD 4 0 = 2 then entP (valB (xs.take 4)) (strOfNums ((xs.drop 5).take (zLen (xs.drop 5)))) else if xs.getD 4 0 = 3 then datP (valB (xs.take 4)) (valB ((xs.drop 5).take 4)) else pl0) := HQ.out.symm
  clear HQ
  generalize xs.getD 4 0 = z at *
  by_cases hz1 : z = 1
  · subst hz1
    have hq := HZ.out
    rw [if_pos rfl] at hq
    have HQ : Hid _ := hq
    clear hq HZ
    go_wp2_with fail
    refine (record_any _ _).mono ?_
    rintro e w3 ⟨rfl, hb3⟩
    have hpl := hp2.below hb3
    have hq := HQ.out
    have c0 := hpl.c0
    have c1 := hpl.c1
    have c2 := hpl.c2
    have c3 := hpl.c3
    have f0 := hpl.fr 0
    have f1 := hpl.fr 1
    have f2 := hpl.fr 2
    have f3 := hpl.fr 3
    unfold plV recP
    clear hq
    go_wp2
    have hq := HQ.out
    exact ret_place rfl w.heap.size (recP (valB (xs.take 4))) rfl (hpl.put4 (recP (valB (xs.take 4)))).row rfl ⟨by rw [hq], below_put4 (thenB hb1 (thenB hb2 hb3)) (Nat.le_refl _) (recP (valB (xs.take 4)))⟩
  · by_cases hz2 : z = 2
    · subst hz2
      have hq := HZ.out
      rw [if_neg (by decide), if_pos rfl] at hq
      have HQ : Hid _ := hq
      clear hq HZ
      have hd2 := hr2.drop5
      obtain ⟨wc, hwc⟩ : ∃ wc, wc = w2.alloc (.cells #[.int .u8 0] 5) := ⟨_, rfl⟩
      have hbc : Below w2.heap.size w2 wc := by rw [hwc]; exact (Below.refl _ _).alloc (Nat.le_refl _) _
      have hgc : wc.cell? ⟨w2.heap.size, 0, none⟩ = some (.int .u8 0) := by
        rw [hwc, cell_of_row _ _ 0 _ 5 (0, 0) (heap_alloc_new w2 _)]; rfl
      have hrc := hd2.below hbc
      have hdl : (xs.drop 5).length = 9 := by simp [hl]
      have hcells : ∀ i, i < 9 → wc.cell? ⟨b, off + 5 + i, none⟩ = some (.int .u8 ((xs.drop 5).getD i 0)) := by
        obtain ⟨a, c, e, h1, h2, h3, h4⟩ := hrc
        obtain ⟨b', off', e', hlt, hc⟩ := h4 (by intro e; rw [e] at hdl; simp at hdl)
        subst e'
        simp only [Value.slice.injEq, Option.some.injEq, Addr.mk.injEq] at e
        obtain ⟨⟨rfl, rfl, _⟩, _⟩ := e
        intro i hi
        exact hc i (by omega)
      have hcut := cut_any wc b (off + 5) 9 (cap - 5) w2.heap.size (xs.drop 5) hdl (hy.drop 5) (by omega) (by omega) hcells hgc
      have hzl := zLen_le (xs.drop 5)
      clear hcells hgc
      go_wp2_with fail
      rw [← hwc]
      clear hwc
      refine hcut.mono ?_
      rintro e w3 ⟨v2, v3, rfl, hb3⟩
      have hr3 : Rd w3 (.slice (some ⟨b, off + 5, none⟩) (zLen (xs.drop 5)) (cap - 5)) ((xs.drop 5).take (zLen (xs.drop 5))) := by
        have hr3 := hrc.below hb3
        obtain ⟨a, c, e, h1, h2, h3, h4⟩ := hr3
        simp only [Value.slice.injEq] at e
        obtain ⟨rfl, _, rfl⟩ := e
        have hlt : ((xs.drop 5).take (zLen (xs.drop 5))).length = zLen (xs.drop 5) := by simp; omega
        refine ⟨_, _, by rw [hlt], by rw [hlt]; omega, h2, h3, fun hne => ?_⟩
        obtain ⟨b', off', e', hlt', hc⟩ := h4 (by intro e; rw [e] at hdl; simp at hdl)
        refine ⟨b', off', e', hlt', fun i hi => ?_⟩
        rw [hlt] at hi
        rw [hc i (by omega)]
        simp [hi]
      have hcv := hr3.conv
      clear hcut hrc
      go_wp2_with fail
      refine (entry_any _ _ _).mono ?_
      rintro e w4 ⟨rfl, hb4⟩
      clear hcv
      have hpl := hp2.below (thenB hbc (thenB hb3 hb4))
      have c0 := hpl.c0
      have c1 := hpl.c1
      have c2 := hpl.c2
      have c3 := hpl.c3
      have f0 := hpl.fr 0
      have f1 := hpl.fr 1
      have f2 := hpl.fr 2
      have f3 := hpl.fr 3
      unfold plV entP
      go_wp2
      have hq := HQ.out
      exact ret_place rfl w.heap.size (entP (valB (xs.take 4)) (strOfNums ((xs.drop 5).take (zLen (xs.drop 5))))) rfl (hpl.put4 (entP (valB (xs.take 4)) (strOfNums ((xs.drop 5).take (zLen (xs.drop 5)))))).row rfl ⟨by rw [hq], below_put4 (thenB hb1 (thenB hb2 (thenB hbc (thenB hb3 hb4)))) (Nat.le_refl _) (entP (valB (xs.take 4)) (strOfNums ((xs.drop 5).take (zLen (xs.drop 5)))))⟩
    · by_cases hz3 : z = 3
      · subst hz3
        have hq := HZ.out
        rw [if_neg (by decide), if_neg (by decide), if_pos rfl] at hq
        have HQ : Hid _ := hq
        clear hq HZ
        have hd2 := hr2.drop5
        have hnum := number4_any w2 _ (xs.drop 5) hd2 (hy.drop 5) (by simp; omega)
        go_wp2_with fail
        refine hnum.mono ?_
        rintro e w3 ⟨rfl, rfl⟩
        clear hnum
        go_wp2_with fail
        refine (data_any _ _ _).mono ?_
        rintro e w4 ⟨rfl, hb4⟩
        have hpl := hp2.below hb4
        have c0 := hpl.c0
        have c1 := hpl.c1
        have c2 := hpl.c2
        have c3 := hpl.c3
        have f0 := hpl.fr 0
        have f1 := hpl.fr 1
        have f2 := hpl.fr 2
        have f3 := hpl.fr 3
        unfold plV datP
        go_wp2
        have hq := HQ.out
        exact ret_place rfl w.heap.size (datP (valB (xs.take 4)) (valB ((xs.drop 5).take 4))) rfl (hpl.put4 (datP (valB (xs.take 4)) (valB ((xs.drop 5).take 4)))).row rfl ⟨by rw [hq], below_put4 (thenB hb1 (thenB hb2 hb4)) (Nat.le_refl _) (datP (valB (xs.take 4)) (valB ((xs.drop 5).take 4)))⟩
      · have hq := HZ.out
        rw [if_neg hz1, if_neg hz2, if_neg hz3] at hq
        have HQ : Hid _ := hq
        clear hq HZ
        have hz1' : (z == 1) = false := by simpa using hz1
        have hz2' : (z == 2) = false := by simpa using hz2
        have hz3' : (z == 3) = false := by simpa using hz3
        have hpl := hp2
        have c0 := hpl.c0
        have c1 := hpl.c1
        have c2 := hpl.c2
        have c3 := hpl.c3
        have f0 := hpl.fr 0
        have f1 := hpl.fr 1
        have f2 := hpl.fr 2
        have f3 := hpl.fr 3
        go_wp2
        have hq := HQ.out
        exact ret_place rfl w.heap.size (pl0) rfl (hpl.put4 (pl0)).row rfl ⟨by rw [hq], below_put4 (thenB hb1 hb2) (Nat.le_refl _) (pl0)⟩

end Go.Proofs.Ytmbiapobibfbaaa
