/- The contracts of the document's Horizon and Window. -/
import Derived.Test.YtakifnlfgaedjaaRBase
namespace Go.Proofs.Ytakifnlfgaedjaa
open Go.RowKit
set_option linter.unusedVariables false
set_option linter.unusedSimpArgs false
set_option maxRecDepth 4000

theorem sf_len2 (x : Sf) : (sfC x).length = 3 := rfl
theorem in_len2 (x : Int) : (inC x).length = 1 := rfl

/-- How far a version lies behind the first. -/
def offI (first v : Int) : Int := (v - first) % 18446744073709551616
def hzL (first : Int) (b : Int) (l : List Sf) : Int := l.foldl (fun b y => if y.id = 0 then b else min b (offI first y.ver)) b
def hzX (x : Rf) : Int := (x.first + hzL x.first (offI x.first x.ver) x.l) % 18446744073709551616

set_option maxHeartbeats 2000000 in
theorem rhorizon_any {B : Nat} {w : World} {p : Nat} {vp vl : Value} {x : Rf} (h : RfAt B w p vp vl x) (hln : x.l.length ≤ 1000) : Calls Try.prog 18 #[ptrR p] w fun e w' => e = .returned (.int .u64 (hzX x)) ∧ Below w.heap.size w w' := by
  obtain ⟨root, ver, first, base, pl, l⟩ := x
  obtain ⟨a, c, rfl⟩ := own_shape h.ol
  unfold hzX
  dsimp only at *
  have H : Hid (RfAt B w p vp (.slice a l.length c) ⟨root, ver, first, base, pl, l⟩) := h
  have hp := h.lt
  have c1 : ∀ W, Below w.heap.size w W → W.cell? ⟨p, 1, none⟩ = some (.int .u64 ver) := fun W hW => (hW.cell (p := ⟨p, 1, none⟩) hp).trans (h.cell 1 _ rfl)
  have c2 : ∀ W, Below w.heap.size w W → W.cell? ⟨p, 2, none⟩ = some (.int .u64 first) := fun W hW => (hW.cell (p := ⟨p, 2, none⟩) hp).trans (h.cell 2 _ rfl)
  obtain ⟨n, hn⟩ : ∃ n, l.length = n := ⟨_, rfl⟩
  have HN : Hid (l.length = n) := hn
  have c5 : ∀ W, Below w.heap.size w W → W.cell? ⟨p, 5, none⟩ = some (.slice a n c) := fun W hW => (hW.cell (p := ⟨p, 5, none⟩) hp).trans (by rw [← hn]; exact h.cell 5 _ rfl)
  obtain ⟨hc1, hc2⟩ := own_cap h.ol
  unfold maxLen at hc2
  (try dsimp only at hc1)
  rw [hn] at hln hc1
  obtain ⟨b0, hb0⟩ : ∃ b0, IntKind.u64.wrap (ver - first) = b0 := ⟨_, rfl⟩
  have hb0' : offI first ver = b0 := by rw [← hb0, IntKind.wrap_u64]; rfl
  rw [hb0']
  have C1 := c1 w (Below.refl _ _)
  have C2 := c2 w (Below.refl _ _)
  have C5 : ∀ q, (w.drewN q).cell? ⟨p, 5, none⟩ = some (.slice a n c) := fun q => c5 _ (belowQ _ _ _)
  have HC1 : Hid _ := c1
  have HC2 : Hid _ := c2
  clear h hn hb0' c1 c2 c5
  unfold ptrR
  go_enter Try.func18, Try.ntmps18
  go_wp2_with fail
  go_quiet (fail)
  have C5' := C5 nq
  go_wp2
  go_loopw [3, 5, 20] (fun s3 _ t wr => ∃ (j : Nat) (b : Int), j ≤ n ∧ t = .int .i64 j ∧ s3 = .int .u64 b ∧ Hid (hzL first b0 l = hzL first b (l.drop j)) ∧ Hid (Below w.heap.size w wr)) (fun _ _ t _ => n - (intOf t).toNat)
  case atStart => exact ⟨0, b0, Nat.zero_le _, rfl, rfl, rfl, belowQ _ _ _⟩
  case round =>
    obtain ⟨j, b, hj, rfl, rfl, HF, HB⟩ := hrel
    by_cases hjn : j < n
    · have hjI : (j : Int) < n := by omega
      obtain ⟨g, cap, hv, hcl, hcm, _, hgl, hcell⟩ := own_gs sf_len2 (H.out.below HB.out).ol (by have := HN.out; show 0 < l.length; omega)
      (try dsimp only at hv)
      simp only [Value.slice.injEq, true_and] at hv
      obtain ⟨rfl, rfl⟩ := hv
      have hjl : j < l.length := by have := HN.out; omega
      obtain ⟨y, hy⟩ : ∃ y, l[j]? = some y := ⟨_, List.getElem?_eq_getElem hjl⟩
      have hdr : l.drop j = y :: l.drop (j + 1) := by
        rw [List.getElem?_eq_getElem hjl] at hy; cases hy; exact List.drop_eq_getElem_cons hjl
      have HD : Hid _ := hdr
      obtain ⟨yi, yr, yv⟩ := y
      obtain ⟨ti, hti⟩ : ∃ ti : Int, (yi : Int) = ti := ⟨_, rfl⟩
      have HTI : Hid ((yi : Int) = ti) := hti
      have d0 : wr.cell? ⟨g, j * 3, none⟩ = some (.int .i64 ti) := by rw [← hti]; exact hcell j _ hy 0 _ rfl
      clear hti
      have d1 : wr.cell? ⟨g, j * 3 + 1, none⟩ = some (.int .u32 yr) := hcell j _ hy 1 _ rfl
      have d2 : wr.cell? ⟨g, j * 3 + 2, none⟩ = some (.int .u64 yv) := hcell j _ hy 2 _ rfl
      obtain ⟨w1, hw1⟩ : ∃ w1, wr.alloc (.cells #[.int .i64 ti, .int .u32 yr, .int .u64 yv] 66) = w1 := ⟨_, rfl⟩
      have hB1 : Below wr.heap.size wr w1 := by rw [← hw1]; exact (Below.refl _ wr).alloc (Nat.le_refl _) _
      have hg1 : w1.heap[wr.heap.size]? = some (.cells #[.int .i64 ti, .int .u32 yr, .int .u64 yv] 66 (0, 0)) := by rw [← hw1]; exact heap_alloc_new wr _
      have e0 : w1.cell? ⟨wr.heap.size, 0, none⟩ = some (.int .i64 ti) := by rw [cell_of_row _ _ 0 _ _ (0, 0) hg1]; rfl
      have hz1 : wr.heap.size < w1.heap.size := (Array.getElem?_eq_some_iff.1 hg1).1
      have E2 : ∀ W, Below w1.heap.size w1 W → W.cell? ⟨wr.heap.size, 2, none⟩ = some (.int .u64 yv) := fun W hW => (hW.cell (p := ⟨wr.heap.size, 2, none⟩) hz1).trans (by rw [cell_of_row _ _ 2 _ _ (0, 0) hg1]; rfl)
      have hBW : Below w.heap.size w w1 := thenB HB.out hB1
      have F2 : ∀ W, Below w1.heap.size w1 W → W.cell? ⟨p, 2, none⟩ = some (.int .u64 first) := fun W hW => HC2.out W (thenB hBW hW)
      have HB1 : Hid (Below w.heap.size w w1) := hBW
      clear hcell hy hg1 hB1 hdr hBW
      by_cases hid : ti = 0
      · have HF2 : Hid (hzL first b0 l = hzL first b (l.drop (j + 1))) := by
          unfold Hid; rw [HF.out, HD.out]; unfold hzL; rw [List.foldl_cons, if_pos (by show yi = 0; have := HTI.out; omega)]
        subst hid
        go_wp2
        go_roundw
        case rel => exact ⟨j + 1, b, by omega, by go_num, rfl, HF2, HB1⟩
        case measure => simp [intOf]; omega
      · obtain ⟨o, ho⟩ : ∃ o, IntKind.u64.wrap (yv - first) = o := ⟨_, rfl⟩
        have HF2 : Hid (hzL first b0 l = hzL first (min b o) (l.drop (j + 1))) := by
          unfold Hid; rw [HF.out, HD.out]; unfold hzL; rw [List.foldl_cons, if_neg (by show ¬ yi = 0; have := HTI.out; omega)]
          unfold offI
          rw [← IntKind.wrap_u64, ho]
        go_wp2_with fail
        refine wp_region_noPanic ?_
        refine wp_region_held_drew (S := fun W : World => Below w1.heap.size w1 W) (by kernel_rfl) (Below.refl _ _).drew (fun hHeld => ?_)
        refine wpAnyH_take (i := 0) (v := .int .u64 b) rfl (by kernel_rfl) (by kernel_rfl) (by kernel_rfl) (fun _ _ _ h => h) (Or.inl ⟨by rfl, fun W hSw => by (try dsimp only at hSw); go_simp⟩) (by assumption) ?_
        simp only [List.getElem_toArray, List.getElem_cons_zero, List.getElem_cons_succ, Act.put, List.setIfInBounds_toArray, List.set_cons_zero, List.set_cons_succ]
        refine wpAnyH_take (i := 1) (v := .pointer (some ⟨wr.heap.size, 2, none⟩)) rfl (by kernel_rfl) (by kernel_rfl) (by kernel_rfl) (fun _ _ _ h => h) (Or.inl ⟨by rfl, fun W hSw => by (try dsimp only at hSw); go_simp⟩) (by assumption) ?_
        simp only [List.getElem_toArray, List.getElem_cons_zero, List.getElem_cons_succ, Act.put, List.setIfInBounds_toArray, List.set_cons_zero, List.set_cons_succ]
        refine wpAnyH_take (i := 2) (v := .int .u64 yv) rfl (by kernel_rfl) (by kernel_rfl) (by kernel_rfl) (fun _ _ _ h => h) (Or.inl ⟨by rfl, fun W hSw => by (try dsimp only at hSw); go_simp⟩) (by assumption) ?_
        simp only [List.getElem_toArray, List.getElem_cons_zero, List.getElem_cons_succ, Act.put, List.setIfInBounds_toArray, List.set_cons_zero, List.set_cons_succ]
        refine wpAnyH_take (i := 3) (v := .pointer (some ⟨p, 0, none⟩)) rfl (by kernel_rfl) (by kernel_rfl) (by kernel_rfl) (fun _ _ _ h => h) (Or.inl ⟨by rfl, fun W hSw => by (try dsimp only at hSw); go_simp⟩) (by assumption) ?_
        simp only [List.getElem_toArray, List.getElem_cons_zero, List.getElem_cons_succ, Act.put, List.setIfInBounds_toArray, List.set_cons_zero, List.set_cons_succ]
        refine wpAnyH_take (i := 4) (v := .pointer (some ⟨p, 0, none⟩)) rfl (by kernel_rfl) (by kernel_rfl) (by kernel_rfl) (fun _ _ _ h => h) (Or.inl ⟨by rfl, fun W hSw => by (try dsimp only at hSw); go_simp⟩) (by assumption) ?_
        simp only [List.getElem_toArray, List.getElem_cons_zero, List.getElem_cons_succ, Act.put, List.setIfInBounds_toArray, List.set_cons_zero, List.set_cons_succ]
        refine wpAnyH_take (i := 5) (v := .pointer (some ⟨p, 2, none⟩)) rfl (by kernel_rfl) (by kernel_rfl) (by kernel_rfl) (fun _ _ _ h => h) (Or.inl ⟨by rfl, fun W hSw => by (try dsimp only at hSw); go_simp⟩) (by assumption) ?_
        simp only [List.getElem_toArray, List.getElem_cons_zero, List.getElem_cons_succ, Act.put, List.setIfInBounds_toArray, List.set_cons_zero, List.set_cons_succ]
        refine wpAnyH_take (i := 6) (v := .int .u64 first) rfl (by kernel_rfl) (by kernel_rfl) (by kernel_rfl) (fun _ _ _ h => h) (Or.inl ⟨by rfl, fun W hSw => by (try dsimp only at hSw); go_simp⟩) (by assumption) ?_
        simp only [List.getElem_toArray, List.getElem_cons_zero, List.getElem_cons_succ, Act.put, List.setIfInBounds_toArray, List.set_cons_zero, List.set_cons_succ]
        refine wpAnyH_take (i := 7) (v := .int .u64 o) rfl (by kernel_rfl) (by kernel_rfl) (by kernel_rfl) (fun _ _ _ h => h) (Or.inl ⟨by rfl, fun W hSw => by (try dsimp only at hSw); go_simp⟩) (by assumption) ?_
        simp only [List.getElem_toArray, List.getElem_cons_zero, List.getElem_cons_succ, Act.put, List.setIfInBounds_toArray, List.set_cons_zero, List.set_cons_succ]
        refine wpAnyH_ready (rs := [8]) (by kernel_rfl) (by simp) ?_
        refine AllReadyH.cons rfl (fun K hK => ?_) AllReadyH.nil
        go_simp
        go_wp2
        refine hK.out _ _ (by assumption) (fun hHeld2 => ?_)
        clear hK K
        try simp only [List.getElem_toArray, List.getElem_cons_zero, List.getElem_cons_succ, Act.put, List.setIfInBounds_toArray, List.set_cons_zero, List.set_cons_succ]
        refine wpAnyH_take (i := 9) (v := .int .u64 (min b o)) rfl (by kernel_rfl) (by kernel_rfl) (by kernel_rfl) (fun _ _ _ h => h) (Or.inl ⟨by rfl, fun W hSw => by (try dsimp only at hSw); go_simp⟩) (by assumption) ?_
        simp only [List.getElem_toArray, List.getElem_cons_zero, List.getElem_cons_succ, Act.put, List.setIfInBounds_toArray, List.set_cons_zero, List.set_cons_succ]
        refine wpAnyH_done (by kernel_rfl) ?_ _
        refine NoPanic.normal ?_
        have HB2 : Hid (Below w.heap.size w (w1.drewN 1)) := thenB HB1.out (belowQ _ _ _)
        clear hHeld hHeld2
        go_wp2
        go_roundw
        case rel => exact ⟨j + 1, min b o, by omega, by go_num, rfl, HF2, HB2⟩
        case measure => simp [intOf]; omega
    · have hjI : ¬ (j : Int) < n := by omega
      have hT : l.drop j = [] := List.drop_eq_nil_of_le (by have := HN.out; omega)
      have hR : hzL first b0 l = b := by rw [HF.out, hT]; rfl
      have D2 := HC2.out wr HB.out
      obtain ⟨r, hr⟩ : ∃ r, IntKind.u64.wrap (first + b) = r := ⟨_, rfl⟩
      have HRR : Hid ((first + hzL first b0 l) % 18446744073709551616 = r) := by unfold Hid; rw [hR, ← hr, IntKind.wrap_u64]
      clear hT hR
      go_wp2
      go_ret
      exact ⟨by rw [HRR.out]; rfl, HB.out⟩

def winX (x : Rf) : Int := (x.pl.drop (offI x.first x.base).toNat).sum

theorem sum_low : ∀ (l : List Int), (∀ v ∈ l, 0 ≤ v ∧ v < 100000) → 0 ≤ l.sum ∧ l.sum ≤ 100000 * l.length
  | [], _ => by simp
  | v :: l, h => by
    have h1 := h v List.mem_cons_self
    have h2 := sum_low l (fun u hu => h u (List.mem_cons_of_mem _ hu))
    simp only [List.sum_cons, List.length_cons]
    omega

set_option maxHeartbeats 2000000 in
theorem rwindow_any {B : Nat} {w : World} {p : Nat} {vp vl : Value} {x : Rf} (h : RfAt B w p vp vl x) (hln : x.pl.length ≤ 1000) (hpl : ∀ v ∈ x.pl, 0 ≤ v ∧ v < 100000) : Calls Try.prog 29 #[ptrR p] w fun e w' => e = .returned (.int .i64 (winX x)) ∧ Below w.heap.size w w' := by
  obtain ⟨root, ver, first, base, pl, l⟩ := x
  obtain ⟨a, c, rfl⟩ := own_shape h.op
  unfold winX
  dsimp only at *
  have H : Hid (RfAt B w p (.slice a pl.length c) vl ⟨root, ver, first, base, pl, l⟩) := h
  have hp := h.lt
  have c2 : ∀ W, Below w.heap.size w W → W.cell? ⟨p, 2, none⟩ = some (.int .u64 first) := fun W hW => (hW.cell (p := ⟨p, 2, none⟩) hp).trans (h.cell 2 _ rfl)
  have c3 : ∀ W, Below w.heap.size w W → W.cell? ⟨p, 3, none⟩ = some (.int .u64 base) := fun W hW => (hW.cell (p := ⟨p, 3, none⟩) hp).trans (h.cell 3 _ rfl)
  obtain ⟨n, hn⟩ : ∃ n, pl.length = n := ⟨_, rfl⟩
  have HN : Hid (pl.length = n) := hn
  have c4 : w.cell? ⟨p, 4, none⟩ = some (.slice a n c) := by rw [← hn]; exact h.cell 4 _ rfl
  obtain ⟨hc1, hc2⟩ := own_cap h.op
  unfold maxLen at hc2
  (try dsimp only at hc1)
  rw [hn] at hln hc1
  obtain ⟨o, ho⟩ : ∃ o, IntKind.u64.wrap (base - first) = o := ⟨_, rfl⟩
  have ho' : offI first base = o := by rw [← ho, IntKind.wrap_u64]; rfl
  have ho0 : 0 ≤ o := by rw [← ho']; unfold offI; omega
  rw [ho']
  obtain ⟨ob, hob⟩ : ∃ ob : Nat, o = ob := ⟨o.toNat, by omega⟩
  rw [show o.toNat = ob from by omega]
  have HOB : Hid (o = (ob : Int)) := hob
  have HPL : Hid _ := hpl
  have HC2 : Hid _ := c2
  have HC3 : Hid _ := c3
  clear h hn ho' c2 c3 hob hpl
  unfold ptrR
  go_enter Try.func29, Try.ntmps29
  go_wp2
  go_loopw [3, 4, 5, 11] (fun s3 _ _ t wr => ∃ (j : Nat) (b : Int), j ≤ n ∧ t = .int .i64 j ∧ s3 = .int .i64 b ∧ Hid (b = ((pl.take j).drop ob).sum) ∧ Hid (Below w.heap.size w wr)) (fun _ _ _ t _ => n - (intOf t).toNat)
  case atStart => exact ⟨0, 0, Nat.zero_le _, rfl, rfl, (by unfold Hid; simp), Below.refl _ _⟩
  case round =>
    obtain ⟨j, b, hj, rfl, rfl, HF, HB⟩ := hrel
    by_cases hjn : j < n
    · have hjI : (j : Int) < n := by omega
      obtain ⟨g, cap, hv, hcl, hcm, _, hgl, hcell⟩ := own_gs in_len2 (H.out.below HB.out).op (by have := HN.out; show 0 < pl.length; omega)
      (try dsimp only at hv)
      simp only [Value.slice.injEq, true_and] at hv
      obtain ⟨rfl, rfl⟩ := hv
      have hjl : j < pl.length := by have := HN.out; omega
      obtain ⟨y, hy⟩ : ∃ y, pl[j]? = some y := ⟨_, List.getElem?_eq_getElem hjl⟩
      have hyb := HPL.out y (List.mem_of_getElem? hy)
      have d0 : wr.cell? ⟨g, j, none⟩ = some (.int .i64 y) := by have := hcell j _ hy 0 _ rfl; simpa using this
      have htk : pl.take (j + 1) = pl.take j ++ [y] := by rw [List.take_add_one, hy]; rfl
      have HTK : Hid _ := htk
      have D2 := HC2.out wr HB.out
      have D3 := HC3.out wr HB.out
      have hbb : 0 ≤ b ∧ b ≤ 100000 * 1000 := by
        have h1 := sum_low ((pl.take j).drop ob) (fun v hv => HPL.out v (List.mem_of_mem_take (List.mem_of_mem_drop hv)))
        have h2 : ((pl.take j).drop ob).length ≤ 1000 := by rw [List.length_drop, List.length_take]; omega
        rw [← HF.out] at h1
        omega
      have hwj : IntKind.u64.wrap (j : Int) = (j : Int) := by rw [IntKind.wrap_u64]; omega
      clear hcell hy htk
      by_cases hge : ob ≤ j
      · have hgeI : (j : Int) ≥ o := by have := HOB.out; omega
        have hgeL : o ≤ (j : Int) := by have := HOB.out; omega
        have hw : IntKind.i64.wrap (b + y) = b + y := Go.IntWalk.i64_in _ (by omega)
        have HF2 : Hid (b + y = ((pl.take (j + 1)).drop ob).sum) := by
          unfold Hid
          rw [HTK.out, List.drop_append_of_le_length (by rw [List.length_take]; omega), List.sum_append, ← HF.out]
          simp
        go_wp2_with fail
        go_quiet (fail)
        have HB2 : Hid (Below w.heap.size w (wr.drewN nq)) := thenB HB.out (belowQ _ _ _)
        clear d0 D2 D3
        go_wp2
        go_roundw
        case rel => exact ⟨j + 1, b + y, by omega, by go_num, (by first | rfl | go_num), HF2, HB2⟩
        case measure => simp [intOf]; omega
      · have hgeI : ¬ (j : Int) ≥ o := by have := HOB.out; omega
        have hgeL : ¬ o ≤ (j : Int) := by have := HOB.out; omega
        have HF2 : Hid (b = ((pl.take (j + 1)).drop ob).sum) := by
          have e1 : (pl.take (j + 1)).drop ob = [] := List.drop_eq_nil_of_le (by rw [List.length_take]; omega)
          have e2 : (pl.take j).drop ob = [] := List.drop_eq_nil_of_le (by rw [List.length_take]; omega)
          unfold Hid
          rw [HF.out, e1, e2]
        go_wp2_with fail
        go_quiet (fail)
        have HB2 : Hid (Below w.heap.size w (wr.drewN nq)) := thenB HB.out (belowQ _ _ _)
        clear d0 D2 D3
        go_wp2
        go_roundw
        case rel => exact ⟨j + 1, b, by omega, by go_num, rfl, HF2, HB2⟩
        case measure => simp [intOf]; omega
    · have hjI : ¬ (j : Int) < n := by omega
      have hT : pl.take j = pl := List.take_of_length_le (by have := HN.out; omega)
      have hR : (pl.drop ob).sum = b := by rw [HF.out, hT]
      have HRR : Hid ((pl.drop ob).sum = b) := hR
      clear hT hR
      go_wp2
      go_ret
      exact ⟨by rw [HRR.out]; rfl, HB.out⟩

end Go.Proofs.Ytakifnlfgaedjaa
