/- The document's Put. -/
import Derived.Test.YtmifpeocgikbeabDgAll
import Derived.Deep.AppendSrc
namespace Go.Proofs.Ytmifpeocgikbeab
open Go.RowKit
set_option linter.unusedVariables false
set_option linter.unusedSimpArgs false
set_option maxRecDepth 100000

/-- What a call on the document's delta leaves. -/
structure KeepX (p : Nat) (w w' : World) : Prop where
  os : w'.os = w.os
  tape : w'.tape = w.tape
  output : w'.output = w.output
  size : w.heap.size ≤ w'.heap.size
  block : ∀ k, k < w.heap.size → k ≠ p → w'.heap[k]? = w.heap[k]?
theorem KeepX.of_below {p : Nat} {w w' : World} (h : Below w.heap.size w w') : KeepX p w w' := ⟨h.os, h.tape, h.output, h.size, fun k hk _ => h.block k hk⟩

/-- One change more behind a row that is full: a new row. -/
theorem run_append_cg (w : World) (a : Option Addr) (A : List Cg) (hA : ∀ c ∈ A, CgOk c) (h : RdC w (.slice a A.length A.length) A) (hlen : A.length ≤ 1000000) (g0 : Nat) (c : Cg) (hc : CgOk c) (hg0 : CgAt w g0 c) (ty : TypeId) :
    ∃ v W, (Builtin.append_ #[40, 40] ty #[.slice a A.length A.length, .slice (some ⟨g0, 0, none⟩) 1 1]).run Try.prog w = .ok v W ∧ W.ownsRow w.heap.size 37 46 v (A ++ [c]).length ((A ++ [c]).flatMap cgL) ∧ Below w.heap.size w W := by
  obtain ⟨i, hi, hz0, hz1, hz2⟩ := info3 info_cg
  have hcl := cgL_len hc.pt.ch.1
  have hsrc := Src.ofSlice (P := Try.prog) w (size := i.size) (tx := 40) Try.underlying40 ⟨g0, 0, none⟩ 1 1 (cgL c) (by rw [hz1, hcl]) (fun j u hj => by
    have hadd : (⟨g0, 0, none⟩ : Addr).add j = ⟨g0, j, none⟩ := by unfold Addr.add; split <;> simp_all
    rw [hadd, cell_of_row w g0 j _ _ (0, 0) hg0.row, ← hj]
    exact List.getElem?_toArray) (one_cgL c)
  have hold : (Builtin.firstCells i.size A.length (.slice a A.length A.length)).run Try.prog w.drew = .ok (A.flatMap cgL).toArray w.drew := by
    obtain ⟨a', c', e, _, h4⟩ := h
    simp only [Value.slice.injEq] at e
    obtain ⟨rfl, _, _⟩ := e
    rcases Nat.eq_zero_or_pos A.length with h0 | hp
    · obtain rfl : A = [] := List.eq_nil_of_length_eq_zero h0
      cases a with
      | none => simp [Builtin.firstCells]
      | some ad => simpa using run_firstCells_some (P := Try.prog) w.drew i.size 0 ad 0 0 [] (by simp) (fun j u hj => by simp at hj)
    · obtain ⟨b, off, rfl, hb, hcs⟩ := h4 hp
      refine run_firstCells_some (P := Try.prog) w.drew i.size A.length ⟨b, off, none⟩ A.length A.length _ (by rw [hz1, flatC_len hA]) (fun j u hj => ?_)
      have hadd : (⟨b, off, none⟩ : Addr).add j = ⟨b, off + j, none⟩ := by unfold Addr.add; split <;> simp_all
      rw [hadd]
      exact hcs j u hj
  have hr := run_append_grow_src (P := Try.prog) w 40 40 ty 37 i (.agg (cgC cg0)) Try.underlying40 hi hz0 a A.length A.length _ hold _ 1 _ hsrc (by omega) (by omega) (by rw [hz2]; exact growslice_fits (by omega) (by omega))
  obtain ⟨cp, hge, hcm, hce⟩ : ∃ cp, A.length + 1 ≤ cp ∧ cp ≤ maxLen ∧ cp = grownCap w (A.length + 1) A.length 37 := ⟨_, grownCap_ge w _ _ _, grownCap_le_maxLen w _ _ _ (by unfold maxLen; omega), rfl⟩
  rw [← hce] at hr
  have hzl : (Builtin.zeroCells (Value.agg (cgC cg0)).cells (cp - (A.length + 1))).size = (cp - (A.length + 1)) * 46 := by
    rw [show (Value.agg (cgC cg0)).cells = cgC cg0 from rfl, size_zeroCells, cgC_size cg0_ok.pt.ch.1]
  have hfl := flatC_len hA
  refine ⟨_, _, hr, ?_, (Below.refl _ w).drew.alloc (Nat.le_refl _) _⟩
  have hl1 : ((A ++ [c]).flatMap cgL) = A.flatMap cgL ++ cgL c := by simp
  have hln : (A ++ [c]).length = A.length + 1 := by simp
  rw [hl1, hln]
  refine ⟨by rw [List.length_append, hfl, hcl]; omega, .inr ⟨w.heap.size, cp, _, rfl, Nat.le_refl _, heap_alloc_new w.drew _, hge, hcm, ?_, ?_⟩⟩
  · rw [Array.size_append, hzl, List.size_toArray, List.length_append, hfl, hcl]
    have : cp = A.length + 1 + (cp - (A.length + 1)) := by omega
    rw [this, Nat.add_mul, Nat.add_mul, show A.length + 1 + (cp - (A.length + 1)) - (A.length + 1) = cp - (A.length + 1) by omega, Nat.one_mul]
  · rw [Array.toList_append]
    show ((A.flatMap cgL ++ cgL c) ++ _).take _ = A.flatMap cgL ++ cgL c
    rw [List.take_append_of_le_length (by rw [List.length_append, hfl, hcl]; omega)]
    exact List.take_of_length_le (by rw [List.length_append, hfl, hcl]; omega)

theorem cut3_run (w : World) (a : Option Addr) (n c : Nat) (hc : n ≤ c) : (Instr.sliceAt 40 (.slice a n c) none (some (.int .i64 n)) (some (.int .i64 n))).run Try.prog w = .ok (.slice a n n) w := by
  have u := Try.underlying40
  have h2 : (n : Int) ≤ (c : Int) := by omega
  go_simp

theorem put_err {s : Dl} {c : Cg} (h : ckOk c = false) : (putX s c).2 = 1 := by unfold putX behX; rw [h]; rfl
theorem put_full {s : Dl} {c : Cg} (h : ckOk c = true) (hi : isX s c.pl = false) (hb : (s.L.length : Int) ≥ s.most) : (putX s c).2 = 201 := by unfold putX behX; rw [h, hi, if_pos rfl, if_neg (by decide), if_pos hb]
theorem put_fine {s : Dl} {c : Cg} (h : ckOk c = true) (hi : isX s c.pl = false) (hb : ¬ (s.L.length : Int) ≥ s.most) : (putX s c).2 = 0 := by unfold putX behX; rw [h, hi, if_pos rfl, if_neg (by decide), if_neg hb]
theorem put_join {s : Dl} {c : Cg} (h : ckOk c = true) (hi : isX s c.pl = true) : (putX s c).2 = (joinX (wasX s c.pl) c).2 := by unfold putX behX; rw [h, hi, if_pos rfl, if_pos rfl]

set_option maxHeartbeats 8000000 in
theorem xput_any {w : World} {p : Nat} {v : Value} {M : Int} {xs : List Cg} {s : Dl} (hX : XdAt w p v M xs) (hr : Rel s xs) (hs : DlOk s) (hM : M = s.most) (hm : xs.length ≤ 1000) (hmL : s.L.length ≤ 1000) (c : Cg) (hc : CgOk c) : Calls Try.prog 8 #[.pointer (some ⟨p, 0, none⟩), .agg (cgC c)] w fun e w' =>
    e = .returned (.int .i64 (putX s c).2) ∧ ∃ v', XdAt w' p v' M (if (putX s c).2 = 0 then xs ++ [c] else xs) ∧ KeepX p w w' ∧ (∀ k, v'.ownBlock = some k → v.ownBlock = some k ∨ w.heap.size ≤ k) := by
  have HM : Hid (M = s.most) := hM
  clear hM
  have hz := zeroCg
  have len0 : cg0.pt.bytes.length = 32 := cg0_ok.pt.ch.1
  have HC : Hid (c.pt.bytes.length = 32) := hc.pt.ch.1
  have hwok := getL_ok hs.L c.pl
  have HW : Hid ((wasX s c.pl).pt.bytes.length = 32) := hwok.pt.ch.1
  have al : ∀ (A : World) (o : Obj), Below A.heap.size A (A.alloc o) := fun A o => (Below.refl _ A).alloc (Nat.le_refl _) o
  have hc1 := CgAt.laid w c
  have hB1 := al w (.cells (cgC c) 37)
  obtain ⟨w1, hw1⟩ : ∃ w1, w.alloc (.cells (cgC c) 37) = w1 := ⟨_, rfl⟩
  rw [hw1] at hc1 hB1
  have hl1 : Hid _ := hc1.load HC.out
  have ck := rck_any w1 c hc
  obtain ⟨er, her⟩ : ∃ er, (putX s c).2 = er := ⟨_, rfl⟩
  rw [her]
  go_enter Try.func8, Try.ntmps8
  go_wp2_with (refine wpList_loadG rfl 37 _ rfl _ rfl _ hl1.out ?_)
  refine ck.mono ?_
  rintro e w2 ⟨rfl, hb2⟩
  clear ck
  have hB2 := thenB hB1 hb2
  have hc2 := hc1.below hb2
  by_cases hck : ckOk c = true
  · have e1 : ckE c = 0 := by unfold ckE; rw [hck]; rfl
    rw [e1]
    clear e1
    have hX2 := hX.below hB2
    have hp2 : Hid _ := hc2.loadP
    have cg : Calls Try.prog 12 #[.pointer (some ⟨p, 0, none⟩), plV c.pl] w2 fun e w' => e = .returned (.tuple #[.agg (cgC (wasX s c.pl)), .bool (isX s c.pl)]) ∧ Below w2.heap.size w2 w' := by
      have := xget_any hX2 c.pl hc.pl
      rw [← hr.now c.pl] at this
      exact this
    go_wp2_with (refine wpList_loadG rfl 25 _ rfl _ rfl _ hp2.out ?_)
    refine cg.mono ?_
    rintro e w3 ⟨rfl, hb3⟩
    clear cg hp2
    have hn4 := CgAt.laid w3 cg0
    have hb4 := alloc_row (A := w3) (.cells (cgC cg0) 37) (cgC (wasX s c.pl))
    have ho4 := hn4.setRow (wasX s c.pl)
    obtain ⟨w4, hw4⟩ : ∃ w4, (w3.alloc (.cells (cgC cg0) 37)).setRow w3.heap.size (cgC (wasX s c.pl)) = w4 := ⟨_, rfl⟩
    rw [hw4] at hb4 ho4
    have hB4 := thenB (thenB hB2 hb3) hb4
    have hc4 := (hc2.below hb3).below hb4
    have hX4 := hX.below hB4
    have lo4 : Hid _ := ho4.load HW.out
    have lc4 : Hid _ := hc4.load HC.out
    cases his : isX s c.pl
    · go_wp2_with (first
        | (refine wpList_storeG rfl _ _ rfl w3.heap.size (wasX s c.pl) cg0 rfl rfl HW.out len0 hn4 ?_; rw [hw4]))
      have c41 := hX4.c1
      have ca := fun (W : World) (hW : Below w4.heap.size w4 W) => xall_any (hX4.below hW) hr hs hm hmL
      have q5 : ∀ W, Below w4.heap.size w4 W → W.cell? ⟨p, 1, none⟩ = some (.int .i64 M) := fun W hW => (hX4.below hW).c1
      obtain ⟨nl, hnl⟩ : ∃ nl, s.L.length = nl := ⟨_, rfl⟩
      by_cases hbig : (nl : Int) ≥ M
      · have e2 : er = 201 := by rw [← her]; exact put_full hck his (by rw [hnl, ← HM.out]; exact hbig)
        subst e2
        go_wp2_with fail
        refine wp_region_noPanic ?_
        refine wp_region_held_drew (S := fun W => Below w4.heap.size w4 W) (by kernel_rfl) (Below.refl _ _).drew (fun hHeld => ?_)
        refine wpAnyH_take (i := 0) (v := .pointer (some ⟨p, 0, none⟩)) rfl (by kernel_rfl) (by kernel_rfl) (by kernel_rfl) (fun _ _ _ h => h) (Or.inl ⟨by rfl, fun W hSw => by (try dsimp only at hSw); go_simp⟩) (by assumption) ?_
        try simp only [List.getElem_toArray, List.getElem_cons_zero, List.getElem_cons_succ, Act.put, List.setIfInBounds_toArray, List.set_cons_zero, List.set_cons_succ]
        refine wpAnyH_take (i := 3) (v := .pointer (some ⟨p, 0, none⟩)) rfl (by kernel_rfl) (by kernel_rfl) (by kernel_rfl) (fun _ _ _ h => h) (Or.inl ⟨by rfl, fun W hSw => by (try dsimp only at hSw); go_simp⟩) (by assumption) ?_
        try simp only [List.getElem_toArray, List.getElem_cons_zero, List.getElem_cons_succ, Act.put, List.setIfInBounds_toArray, List.set_cons_zero, List.set_cons_succ]
        refine wpAnyH_take (i := 4) (v := .pointer (some ⟨p, 0, none⟩)) rfl (by kernel_rfl) (by kernel_rfl) (by kernel_rfl) (fun _ _ _ h => h) (Or.inl ⟨by rfl, fun W hSw => by (try dsimp only at hSw); go_simp⟩) (by assumption) ?_
        try simp only [List.getElem_toArray, List.getElem_cons_zero, List.getElem_cons_succ, Act.put, List.setIfInBounds_toArray, List.set_cons_zero, List.set_cons_succ]
        refine wpAnyH_take (i := 5) (v := .pointer (some ⟨p, 1, none⟩)) rfl (by kernel_rfl) (by kernel_rfl) (by kernel_rfl) (fun _ _ _ h => h) (Or.inl ⟨by rfl, fun W hSw => by (try dsimp only at hSw); go_simp⟩) (by assumption) ?_
        try simp only [List.getElem_toArray, List.getElem_cons_zero, List.getElem_cons_succ, Act.put, List.setIfInBounds_toArray, List.set_cons_zero, List.set_cons_succ]
        refine wpAnyH_take (i := 6) (v := .int .i64 M) rfl (by kernel_rfl) (by kernel_rfl) (by kernel_rfl) (fun _ _ _ h => h) (Or.inl ⟨by rfl, fun W hSw => by (try dsimp only at hSw); (have z := q5 W hSw; go_simp)⟩) (by assumption) ?_
        try simp only [List.getElem_toArray, List.getElem_cons_zero, List.getElem_cons_succ, Act.put, List.setIfInBounds_toArray, List.set_cons_zero, List.set_cons_succ]
        refine wpAnyH_ready (rs := [1]) (by kernel_rfl) (by simp) ?_
        refine AllReadyH.cons rfl (fun K hK => ?_) AllReadyH.nil
        go_simp
        go_wp2_with (go_at_call 19; refine (ca _ (by assumption)).mono ?_; rintro e w5 ⟨u, rfl, hu, hb5⟩)
        obtain ⟨ua, uc, rfl⟩ := own_shape hu
        rw [hnl]
        refine hK.out _ _ (thenB (by assumption) hb5) (fun hHeld2 => ?_)
        clear hK K hu
        try simp only [List.getElem_toArray, List.getElem_cons_zero, List.getElem_cons_succ, Act.put, List.setIfInBounds_toArray, List.set_cons_zero, List.set_cons_succ]
        refine wpAnyH_take (i := 2) (v := .int .i64 nl) rfl (by kernel_rfl) (by kernel_rfl) (by kernel_rfl) (fun _ _ _ h => h) (Or.inl ⟨by rfl, fun W hSw => by (try dsimp only at hSw); go_simp⟩) (by assumption) ?_
        try simp only [List.getElem_toArray, List.getElem_cons_zero, List.getElem_cons_succ, Act.put, List.setIfInBounds_toArray, List.set_cons_zero, List.set_cons_succ]
        refine wpAnyH_take (i := 7) (v := .bool true) rfl (by kernel_rfl) (by kernel_rfl) (by kernel_rfl) (fun _ _ _ h => h) (Or.inl ⟨by rfl, fun W hSw => by (try dsimp only at hSw); go_simp⟩) (by assumption) ?_
        try simp only [List.getElem_toArray, List.getElem_cons_zero, List.getElem_cons_succ, Act.put, List.setIfInBounds_toArray, List.set_cons_zero, List.set_cons_succ]
        refine wpAnyH_done (by kernel_rfl) ?_ _
        refine NoPanic.normal ?_
        have hB6 := thenB hB4 hHeld2
        go_wp2_with fail
        go_ret
        exact ⟨rfl, v, by first | exact hX.below hB6 | (rw [if_neg (by decide)]; exact hX.below hB6), KeepX.of_below hB6, fun k hk => .inl hk⟩
      · have e2 : er = 0 := by rw [← her]; exact put_fine hck his (by rw [hnl, ← HM.out]; exact hbig)
        subst e2
        go_wp2_with fail
        refine wp_region_noPanic ?_
        refine wp_region_held_drew (S := fun W => Below w4.heap.size w4 W) (by kernel_rfl) (Below.refl _ _).drew (fun hHeld => ?_)
        refine wpAnyH_take (i := 0) (v := .pointer (some ⟨p, 0, none⟩)) rfl (by kernel_rfl) (by kernel_rfl) (by kernel_rfl) (fun _ _ _ h => h) (Or.inl ⟨by rfl, fun W hSw => by (try dsimp only at hSw); go_simp⟩) (by assumption) ?_
        try simp only [List.getElem_toArray, List.getElem_cons_zero, List.getElem_cons_succ, Act.put, List.setIfInBounds_toArray, List.set_cons_zero, List.set_cons_succ]
        refine wpAnyH_take (i := 3) (v := .pointer (some ⟨p, 0, none⟩)) rfl (by kernel_rfl) (by kernel_rfl) (by kernel_rfl) (fun _ _ _ h => h) (Or.inl ⟨by rfl, fun W hSw => by (try dsimp only at hSw); go_simp⟩) (by assumption) ?_
        try simp only [List.getElem_toArray, List.getElem_cons_zero, List.getElem_cons_succ, Act.put, List.setIfInBounds_toArray, List.set_cons_zero, List.set_cons_succ]
        refine wpAnyH_take (i := 4) (v := .pointer (some ⟨p, 0, none⟩)) rfl (by kernel_rfl) (by kernel_rfl) (by kernel_rfl) (fun _ _ _ h => h) (Or.inl ⟨by rfl, fun W hSw => by (try dsimp only at hSw); go_simp⟩) (by assumption) ?_
        try simp only [List.getElem_toArray, List.getElem_cons_zero, List.getElem_cons_succ, Act.put, List.setIfInBounds_toArray, List.set_cons_zero, List.set_cons_succ]
        refine wpAnyH_take (i := 5) (v := .pointer (some ⟨p, 1, none⟩)) rfl (by kernel_rfl) (by kernel_rfl) (by kernel_rfl) (fun _ _ _ h => h) (Or.inl ⟨by rfl, fun W hSw => by (try dsimp only at hSw); go_simp⟩) (by assumption) ?_
        try simp only [List.getElem_toArray, List.getElem_cons_zero, List.getElem_cons_succ, Act.put, List.setIfInBounds_toArray, List.set_cons_zero, List.set_cons_succ]
        refine wpAnyH_take (i := 6) (v := .int .i64 M) rfl (by kernel_rfl) (by kernel_rfl) (by kernel_rfl) (fun _ _ _ h => h) (Or.inl ⟨by rfl, fun W hSw => by (try dsimp only at hSw); (have z := q5 W hSw; go_simp)⟩) (by assumption) ?_
        try simp only [List.getElem_toArray, List.getElem_cons_zero, List.getElem_cons_succ, Act.put, List.setIfInBounds_toArray, List.set_cons_zero, List.set_cons_succ]
        refine wpAnyH_ready (rs := [1]) (by kernel_rfl) (by simp) ?_
        refine AllReadyH.cons rfl (fun K hK => ?_) AllReadyH.nil
        go_simp
        go_wp2_with (go_at_call 19; refine (ca _ (by assumption)).mono ?_; rintro e w5 ⟨u, rfl, hu, hb5⟩)
        obtain ⟨ua, uc, rfl⟩ := own_shape hu
        rw [hnl]
        refine hK.out _ _ (thenB (by assumption) hb5) (fun hHeld2 => ?_)
        clear hK K hu
        try simp only [List.getElem_toArray, List.getElem_cons_zero, List.getElem_cons_succ, Act.put, List.setIfInBounds_toArray, List.set_cons_zero, List.set_cons_succ]
        refine wpAnyH_take (i := 2) (v := .int .i64 nl) rfl (by kernel_rfl) (by kernel_rfl) (by kernel_rfl) (fun _ _ _ h => h) (Or.inl ⟨by rfl, fun W hSw => by (try dsimp only at hSw); go_simp⟩) (by assumption) ?_
        try simp only [List.getElem_toArray, List.getElem_cons_zero, List.getElem_cons_succ, Act.put, List.setIfInBounds_toArray, List.set_cons_zero, List.set_cons_succ]
        refine wpAnyH_take (i := 7) (v := .bool false) rfl (by kernel_rfl) (by kernel_rfl) (by kernel_rfl) (fun _ _ _ h => h) (Or.inl ⟨by rfl, fun W hSw => by (try dsimp only at hSw); go_simp⟩) (by assumption) ?_
        try simp only [List.getElem_toArray, List.getElem_cons_zero, List.getElem_cons_succ, Act.put, List.setIfInBounds_toArray, List.set_cons_zero, List.set_cons_succ]
        refine wpAnyH_done (by kernel_rfl) ?_ _
        refine NoPanic.normal ?_
        have HBW : Hid (Below w.heap.size w w5) := thenB hB4 hHeld2
        have hcW := hc4.below hHeld2
        obtain ⟨wt, rfl⟩ : ∃ wt, wt = w5 := ⟨_, rfl⟩
        clear hHeld hHeld2 ca q5 c41 hX4 hX2
        go_wp2_with fail
        obtain ⟨a0, cap0, rfl, hlc0, hcm0, hrw0⟩ := xrow_of hX.ok hX.at_
        have hXq := hX.below HBW.out
        have HRD : Hid (RdC wt (.slice a0 xs.length xs.length) xs) := by
          obtain ⟨a', c', e, z1, z2⟩ := rdC_own hXq.at_
          simp only [Value.slice.injEq] at e
          obtain ⟨rfl, _, rfl⟩ := e
          exact ⟨_, _, rfl, fun hn => by have := z1 hn; omega, z2⟩
        have HRT : Hid (wt.heap[p]? = some (.cells (xdC (.slice a0 xs.length cap0) M) 42 (0, 0))) := hXq.row
        have hXok := hX.ok
        have hold : ∀ k, (Value.slice a0 xs.length cap0).ownBlock = some k → k < w.heap.size := fun k hk => (World.ownsRow.lt hX.at_ k hk).2
        have hpl := hX.lt
        have hsW := HBW.out.size
        clear hXq hrw0
        obtain ⟨n, hn⟩ : ∃ n, xs.length = n := ⟨_, rfl⟩
        have HN : Hid (xs.length = n) := hn
        rw [hn] at hlc0 hm
        have q0 : ∀ W, Below wt.heap.size wt W → (Instr.loadAt 40 (.pointer (some ⟨p, 0, none⟩))).run Try.prog W = .ok (.slice a0 n cap0) W := fun W hW => by
          have e := (hW.block p (by omega)).trans HRT.out
          have c : W.cell? ⟨p, 0, none⟩ = some (.slice a0 n cap0) := by rw [cell_of_row _ _ _ _ _ (0, 0) e, ← HN.out]; rfl
          have u := Try.underlying40
          go_simp
        have q1 : ∀ W, Below wt.heap.size wt W → CgAt W w.heap.size c := fun W hW => hcW.below hW
        have hbs := fun W => slice_cg c HC.out W
        have hct := fun W => cut3_run W a0 n cap0 hlc0
        clear hn
        refine wp_region_noPanic ?_
        refine wp_region_sink 21 (S := fun W => Below wt.heap.size wt W) (by kernel_rfl) (by kernel_rfl) (Below.refl _ _).drew (fun hHeld => ?_)
        refine wpAnyH_take (i := 0) (v := .pointer (some ⟨p, 0, none⟩)) rfl (by kernel_rfl) (by kernel_rfl) (by kernel_rfl) (fun _ _ _ h => h) (Or.inl ⟨by rfl, fun W hSw => by (try dsimp only at hSw); go_simp⟩) (by assumption) ?_
        try simp only [List.getElem_toArray, List.getElem_cons_zero, List.getElem_cons_succ, Act.put, List.setIfInBounds_toArray, List.set_cons_zero, List.set_cons_succ]
        refine wpAnyH_take (i := 1) (v := .pointer (some ⟨p, 0, none⟩)) rfl (by kernel_rfl) (by kernel_rfl) (by kernel_rfl) (fun _ _ _ h => h) (Or.inl ⟨by rfl, fun W hSw => by (try dsimp only at hSw); go_simp⟩) (by assumption) ?_
        try simp only [List.getElem_toArray, List.getElem_cons_zero, List.getElem_cons_succ, Act.put, List.setIfInBounds_toArray, List.set_cons_zero, List.set_cons_succ]
        refine wpAnyH_take (i := 2) (v := .pointer (some ⟨p, 0, none⟩)) rfl (by kernel_rfl) (by kernel_rfl) (by kernel_rfl) (fun _ _ _ h => h) (Or.inl ⟨by rfl, fun W hSw => by (try dsimp only at hSw); go_simp⟩) (by assumption) ?_
        try simp only [List.getElem_toArray, List.getElem_cons_zero, List.getElem_cons_succ, Act.put, List.setIfInBounds_toArray, List.set_cons_zero, List.set_cons_succ]
        refine wpAnyH_take (i := 3) (v := .pointer (some ⟨p, 0, none⟩)) rfl (by kernel_rfl) (by kernel_rfl) (by kernel_rfl) (fun _ _ _ h => h) (Or.inl ⟨by rfl, fun W hSw => by (try dsimp only at hSw); go_simp⟩) (by assumption) ?_
        try simp only [List.getElem_toArray, List.getElem_cons_zero, List.getElem_cons_succ, Act.put, List.setIfInBounds_toArray, List.set_cons_zero, List.set_cons_succ]
        refine wpAnyH_take (i := 4) (v := .slice a0 n cap0) rfl (by kernel_rfl) (by kernel_rfl) (by kernel_rfl) (fun _ _ _ h => h) (yields_load (by rfl) _ _ rfl _ rfl _ q0) (by assumption) ?_
        try simp only [List.getElem_toArray, List.getElem_cons_zero, List.getElem_cons_succ, Act.put, List.setIfInBounds_toArray, List.set_cons_zero, List.set_cons_succ]
        refine wpAnyH_take (i := 5) (v := .pointer (some ⟨p, 0, none⟩)) rfl (by kernel_rfl) (by kernel_rfl) (by kernel_rfl) (fun _ _ _ h => h) (Or.inl ⟨by rfl, fun W hSw => by (try dsimp only at hSw); go_simp⟩) (by assumption) ?_
        try simp only [List.getElem_toArray, List.getElem_cons_zero, List.getElem_cons_succ, Act.put, List.setIfInBounds_toArray, List.set_cons_zero, List.set_cons_succ]
        refine wpAnyH_take (i := 6) (v := .pointer (some ⟨p, 0, none⟩)) rfl (by kernel_rfl) (by kernel_rfl) (by kernel_rfl) (fun _ _ _ h => h) (Or.inl ⟨by rfl, fun W hSw => by (try dsimp only at hSw); go_simp⟩) (by assumption) ?_
        try simp only [List.getElem_toArray, List.getElem_cons_zero, List.getElem_cons_succ, Act.put, List.setIfInBounds_toArray, List.set_cons_zero, List.set_cons_succ]
        refine wpAnyH_take (i := 7) (v := .pointer (some ⟨p, 0, none⟩)) rfl (by kernel_rfl) (by kernel_rfl) (by kernel_rfl) (fun _ _ _ h => h) (Or.inl ⟨by rfl, fun W hSw => by (try dsimp only at hSw); go_simp⟩) (by assumption) ?_
        try simp only [List.getElem_toArray, List.getElem_cons_zero, List.getElem_cons_succ, Act.put, List.setIfInBounds_toArray, List.set_cons_zero, List.set_cons_succ]
        refine wpAnyH_take (i := 8) (v := .slice a0 n cap0) rfl (by kernel_rfl) (by kernel_rfl) (by kernel_rfl) (fun _ _ _ h => h) (yields_load (by rfl) _ _ rfl _ rfl _ q0) (by assumption) ?_
        try simp only [List.getElem_toArray, List.getElem_cons_zero, List.getElem_cons_succ, Act.put, List.setIfInBounds_toArray, List.set_cons_zero, List.set_cons_succ]
        refine wpAnyH_take (i := 9) (v := .int .i64 n) rfl (by kernel_rfl) (by kernel_rfl) (by kernel_rfl) (fun _ _ _ h => h) (Or.inl ⟨by rfl, fun W hSw => by (try dsimp only at hSw); go_simp⟩) (by assumption) ?_
        try simp only [List.getElem_toArray, List.getElem_cons_zero, List.getElem_cons_succ, Act.put, List.setIfInBounds_toArray, List.set_cons_zero, List.set_cons_succ]
        refine wpAnyH_take (i := 10) (v := .pointer (some ⟨p, 0, none⟩)) rfl (by kernel_rfl) (by kernel_rfl) (by kernel_rfl) (fun _ _ _ h => h) (Or.inl ⟨by rfl, fun W hSw => by (try dsimp only at hSw); go_simp⟩) (by assumption) ?_
        try simp only [List.getElem_toArray, List.getElem_cons_zero, List.getElem_cons_succ, Act.put, List.setIfInBounds_toArray, List.set_cons_zero, List.set_cons_succ]
        refine wpAnyH_take (i := 11) (v := .pointer (some ⟨p, 0, none⟩)) rfl (by kernel_rfl) (by kernel_rfl) (by kernel_rfl) (fun _ _ _ h => h) (Or.inl ⟨by rfl, fun W hSw => by (try dsimp only at hSw); go_simp⟩) (by assumption) ?_
        try simp only [List.getElem_toArray, List.getElem_cons_zero, List.getElem_cons_succ, Act.put, List.setIfInBounds_toArray, List.set_cons_zero, List.set_cons_succ]
        refine wpAnyH_take (i := 12) (v := .pointer (some ⟨p, 0, none⟩)) rfl (by kernel_rfl) (by kernel_rfl) (by kernel_rfl) (fun _ _ _ h => h) (Or.inl ⟨by rfl, fun W hSw => by (try dsimp only at hSw); go_simp⟩) (by assumption) ?_
        try simp only [List.getElem_toArray, List.getElem_cons_zero, List.getElem_cons_succ, Act.put, List.setIfInBounds_toArray, List.set_cons_zero, List.set_cons_succ]
        refine wpAnyH_take (i := 13) (v := .slice a0 n cap0) rfl (by kernel_rfl) (by kernel_rfl) (by kernel_rfl) (fun _ _ _ h => h) (yields_load (by rfl) _ _ rfl _ rfl _ q0) (by assumption) ?_
        try simp only [List.getElem_toArray, List.getElem_cons_zero, List.getElem_cons_succ, Act.put, List.setIfInBounds_toArray, List.set_cons_zero, List.set_cons_succ]
        refine wpAnyH_take (i := 14) (v := .int .i64 n) rfl (by kernel_rfl) (by kernel_rfl) (by kernel_rfl) (fun _ _ _ h => h) (Or.inl ⟨by rfl, fun W hSw => by (try dsimp only at hSw); go_simp⟩) (by assumption) ?_
        try simp only [List.getElem_toArray, List.getElem_cons_zero, List.getElem_cons_succ, Act.put, List.setIfInBounds_toArray, List.set_cons_zero, List.set_cons_succ]
        refine wpAnyH_take (i := 15) (v := .slice a0 n n) rfl (by kernel_rfl) (by kernel_rfl) (by kernel_rfl) (fun _ _ _ h => h) (Or.inl ⟨by rfl, fun W hSw => by (try dsimp only at hSw); (have q := hct W; go_simp)⟩) (by assumption) ?_
        try simp only [List.getElem_toArray, List.getElem_cons_zero, List.getElem_cons_succ, Act.put, List.setIfInBounds_toArray, List.set_cons_zero, List.set_cons_succ]
        refine wpAnyH_take (i := 16) (v := .agg (cgC c)) rfl (by kernel_rfl) (by kernel_rfl) (by kernel_rfl) (fun _ _ _ h => h) (yields_load (by rfl) _ _ rfl _ rfl _ (fun W hW => (q1 W hW).load HC.out)) (by assumption) ?_
        try simp only [List.getElem_toArray, List.getElem_cons_zero, List.getElem_cons_succ, Act.put, List.setIfInBounds_toArray, List.set_cons_zero, List.set_cons_succ]
        refine wpAnyH_ready (rs := [17]) (by kernel_rfl) (by simp) ?_
        refine AllReadyH.cons rfl (fun K hK => ?_) AllReadyH.nil
        rw [if_pos (by rfl)]
        refine wp_buildS 40 1 _ rfl #[(0, .agg (cgC c))] (by kernel_rfl) (hbs _) ?_
        have hb6 : Below wt.heap.size wt (wt.drew.alloc (.cells (cgC c) 37)) := (Below.refl _ wt).drew.alloc (Nat.le_refl _) _
        refine hK.out _ _ hb6 (fun hHeld2 => ?_)
        clear hK K
        try simp only [List.getElem_toArray, List.getElem_cons_zero, List.getElem_cons_succ, Act.put, List.setIfInBounds_toArray, List.set_cons_zero, List.set_cons_succ]
        have hx6 := CgAt.laid wt.drew c
        obtain ⟨w6, hw6⟩ : ∃ w6, (wt.drew.alloc (.cells (cgC c) 37)) = w6 := ⟨_, rfl⟩
        rw [hw6] at hb6 hx6 hHeld2 ⊢
        refine wpAnyH_ready (rs := [18]) (by kernel_rfl) (by simp) ?_
        refine AllReadyH.cons rfl (fun K hK => ?_) AllReadyH.nil
        rw [if_pos (by rfl)]
        obtain ⟨v7, w7, hrun, h7o, h7b⟩ := run_append_cg w6 a0 xs hXok (HRD.out.below hb6) (by have := HN.out; omega) _ c hc hx6 40
        rw [HN.out] at hrun
        obtain ⟨a7, cap7, rfl⟩ := own_shape h7o
        refine wp_app _ _ 40 rfl _ _ rfl rfl hrun ?_
        have hb7 : Below wt.heap.size wt w7 := thenB hb6 h7b
        refine hK.out _ _ hb7 (fun hHeld4 => ?_)
        clear hK K
        try simp only [List.getElem_toArray, List.getElem_cons_zero, List.getElem_cons_succ, Act.put, List.setIfInBounds_toArray, List.set_cons_zero, List.set_cons_succ]
        refine wpAnyH_take (i := 19) (v := .pointer (some ⟨p, 0, none⟩)) rfl (by kernel_rfl) (by kernel_rfl) (by kernel_rfl) (fun _ _ _ h => h) (Or.inl ⟨by rfl, fun W hSw => by (try dsimp only at hSw); go_simp⟩) (by assumption) ?_
        try simp only [List.getElem_toArray, List.getElem_cons_zero, List.getElem_cons_succ, Act.put, List.setIfInBounds_toArray, List.set_cons_zero, List.set_cons_succ]
        refine wpAnyH_take (i := 20) (v := .pointer (some ⟨p, 0, none⟩)) rfl (by kernel_rfl) (by kernel_rfl) (by kernel_rfl) (fun _ _ _ h => h) (Or.inl ⟨by rfl, fun W hSw => by (try dsimp only at hSw); go_simp⟩) (by assumption) ?_
        try simp only [List.getElem_toArray, List.getElem_cons_zero, List.getElem_cons_succ, Act.put, List.setIfInBounds_toArray, List.set_cons_zero, List.set_cons_succ]
        have hG7 := (hb7.block p (by omega)).trans HRT.out
        have c70 : w7.cell? ⟨p, 0, none⟩ = some (.slice a0 n cap0) := by rw [cell_of_row _ _ _ _ _ (0, 0) hG7, ← HN.out]; rfl
        have f70 := frozen_of_row w7 p 0 _ _ hG7
        obtain ⟨n7, hn7⟩ : ∃ n7, (xs ++ [c]).length = n7 := ⟨_, rfl⟩
        have HN7 : Hid ((xs ++ [c]).length = n7) := hn7
        rw [hn7] at h7o
        try rw [hn7]
        have hG8 := heap_setCell_same w7 p 0 _ _ (.slice a7 n7 cap7) hG7
        obtain ⟨w8, hw8⟩ : ∃ w8, w7.setCell ⟨p, 0, none⟩ (.slice a7 n7 cap7) = w8 := ⟨_, rfl⟩
        have hS78 : Sole [p] w7 w8 := by rw [← hw8]; exact Sole.setCell _ _ (by simp)
        rw [hw8] at hG8
        have h7k : ∀ k, (Value.slice a7 n7 cap7).ownBlock = some k → w6.heap.size ≤ k := fun k hk => (World.ownsRow.lt h7o k hk).1
        have HO8 : Hid (w8.ownsRow 0 37 46 (.slice a7 n7 cap7) n7 ((xs ++ [c]).flatMap cgL)) := by
          have e1 := own_keep h7o hS78.size (fun k hk hl => hS78.block k hl (by have := h7k k hk; have := hb6.size; simp only [List.mem_singleton]; omega))
          obtain ⟨z1, z2 | ⟨g, cp, cur, z2, z3, z4⟩⟩ := e1
          · exact ⟨z1, .inl z2⟩
          · exact ⟨z1, .inr ⟨g, cp, cur, z2, Nat.zero_le _, z4⟩⟩
        have HG8 : Hid (w8.heap[p]? = some (.cells (xdC (.slice a7 n7 cap7) M) 42 (0, 0))) := hG8
        have HK8 : Hid (KeepX p w w8) := by
          have hbw7 : Below w.heap.size w w7 := thenB HBW.out hb7
          exact ⟨hS78.os.trans hbw7.os, hS78.tape.trans hbw7.tape, hS78.output.trans hbw7.output, Nat.le_trans hbw7.size hS78.size, fun k hk hkp => (hS78.block k (Nat.lt_of_lt_of_le hk hbw7.size) (by simpa using hkp)).trans (hbw7.block k hk)⟩
        have HW7 : Hid (∀ k, (Value.slice a7 n7 cap7).ownBlock = some k → (Value.slice a0 n cap0).ownBlock = some k ∨ w.heap.size ≤ k) := fun k hk => .inr (by have := h7k k hk; have := hb6.size; omega)
        refine wpAnyH_done (by kernel_rfl) ?_ _
        refine Behind.run (by rfl) ?_
        go_simp
        go_wp2
        refine NoPanic.normal ?_
        clear q0 q1 hrun h7o h7b hG7 hG8 c70 f70 hS78 hHeld hHeld2 hHeld4 hbs hct h7k
        go_wp2
        go_ret
        refine ⟨rfl, .slice a7 n7 cap7, ?_, ?_, by rw [HN.out]; exact HW7.out⟩
        · refine ⟨HG8.out, ?_, fun z hz => ?_⟩
          · try rw [if_pos rfl]
            rw [HN7.out]; exact HO8.out
          · try rw [if_pos rfl] at hz
            rcases List.mem_append.1 hz with hz | hz
            · exact hXok z hz
            · rw [List.mem_singleton] at hz; rw [hz]; exact hc
        · exact ⟨HK8.out.os, HK8.out.tape, HK8.out.output, HK8.out.size, HK8.out.block⟩
    · have her2 : er = (joinX (wasX s c.pl) c).2 := by rw [← her]; exact put_join hck his
      have cj := rj_any w4 (wasX s c.pl) c hwok hc
      go_wp2_with (first
        | (refine wpList_storeG rfl _ _ rfl w3.heap.size (wasX s c.pl) cg0 rfl rfl HW.out len0 hn4 ?_; rw [hw4])
        | (refine wpList_loadG rfl 37 _ rfl _ rfl _ lo4.out ?_)
        | (refine wpList_loadG rfl 37 _ rfl _ rfl _ lc4.out ?_))
      refine cj.mono ?_
      rintro e w5 ⟨rfl, hb5⟩
      clear cj
      have hjo := joinX_ok hwok hc
      have HJ : Hid ((joinX (wasX s c.pl) c).1.pt.bytes.length = 32) := hjo.pt.ch.1
      have hn6 := CgAt.laid w5 cg0
      have hb6' := alloc_row (A := w5) (.cells (cgC cg0) 37) (cgC (joinX (wasX s c.pl) c).1)
      obtain ⟨w6', hw6'⟩ : ∃ w6', (w5.alloc (.cells (cgC cg0) 37)).setRow w5.heap.size (cgC (joinX (wasX s c.pl) c).1) = w6' := ⟨_, rfl⟩
      rw [hw6'] at hb6'
      have hB6 := thenB (thenB hB4 hb5) hb6'
      obtain ⟨jn, hjn⟩ : ∃ jn, (joinX (wasX s c.pl) c).2 = jn := ⟨_, rfl⟩
      have HJN : Hid ((joinX (wasX s c.pl) c).2 = jn) := hjn
      rw [hjn]
      have hej : er = jn := her2.trans hjn
      clear her her2 hjn HJN
      subst hej
      by_cases hj0 : er = 0
      · subst hj0
        have HBW : Hid (Below w.heap.size w w6') := hB6
        have hcW := (hc4.below hb5).below hb6'
        go_wp2_with (refine wpList_storeG rfl _ _ rfl w5.heap.size (joinX (wasX s c.pl) c).1 cg0 rfl rfl HJ.out len0 hn6 ?_; rw [hw6'])
        obtain ⟨wt, rfl⟩ : ∃ wt, wt = w6' := ⟨_, rfl⟩
        clear hX4 hX2
        obtain ⟨a0, cap0, rfl, hlc0, hcm0, hrw0⟩ := xrow_of hX.ok hX.at_
        have hXq := hX.below HBW.out
        have HRD : Hid (RdC wt (.slice a0 xs.length xs.length) xs) := by
          obtain ⟨a', c', e, z1, z2⟩ := rdC_own hXq.at_
          simp only [Value.slice.injEq] at e
          obtain ⟨rfl, _, rfl⟩ := e
          exact ⟨_, _, rfl, fun hn => by have := z1 hn; omega, z2⟩
        have HRT : Hid (wt.heap[p]? = some (.cells (xdC (.slice a0 xs.length cap0) M) 42 (0, 0))) := hXq.row
        have hXok := hX.ok
        have hold : ∀ k, (Value.slice a0 xs.length cap0).ownBlock = some k → k < w.heap.size := fun k hk => (World.ownsRow.lt hX.at_ k hk).2
        have hpl := hX.lt
        have hsW := HBW.out.size
        clear hXq hrw0
        obtain ⟨n, hn⟩ : ∃ n, xs.length = n := ⟨_, rfl⟩
        have HN : Hid (xs.length = n) := hn
        rw [hn] at hlc0 hm
        have q0 : ∀ W, Below wt.heap.size wt W → (Instr.loadAt 40 (.pointer (some ⟨p, 0, none⟩))).run Try.prog W = .ok (.slice a0 n cap0) W := fun W hW => by
          have e := (hW.block p (by omega)).trans HRT.out
          have c : W.cell? ⟨p, 0, none⟩ = some (.slice a0 n cap0) := by rw [cell_of_row _ _ _ _ _ (0, 0) e, ← HN.out]; rfl
          have u := Try.underlying40
          go_simp
        have q1 : ∀ W, Below wt.heap.size wt W → CgAt W w.heap.size c := fun W hW => hcW.below hW
        have hbs := fun W => slice_cg c HC.out W
        have hct := fun W => cut3_run W a0 n cap0 hlc0
        clear hn
        refine wp_region_noPanic ?_
        refine wp_region_sink 21 (S := fun W => Below wt.heap.size wt W) (by kernel_rfl) (by kernel_rfl) (Below.refl _ _).drew (fun hHeld => ?_)
        refine wpAnyH_take (i := 0) (v := .pointer (some ⟨p, 0, none⟩)) rfl (by kernel_rfl) (by kernel_rfl) (by kernel_rfl) (fun _ _ _ h => h) (Or.inl ⟨by rfl, fun W hSw => by (try dsimp only at hSw); go_simp⟩) (by assumption) ?_
        try simp only [List.getElem_toArray, List.getElem_cons_zero, List.getElem_cons_succ, Act.put, List.setIfInBounds_toArray, List.set_cons_zero, List.set_cons_succ]
        refine wpAnyH_take (i := 1) (v := .pointer (some ⟨p, 0, none⟩)) rfl (by kernel_rfl) (by kernel_rfl) (by kernel_rfl) (fun _ _ _ h => h) (Or.inl ⟨by rfl, fun W hSw => by (try dsimp only at hSw); go_simp⟩) (by assumption) ?_
        try simp only [List.getElem_toArray, List.getElem_cons_zero, List.getElem_cons_succ, Act.put, List.setIfInBounds_toArray, List.set_cons_zero, List.set_cons_succ]
        refine wpAnyH_take (i := 2) (v := .pointer (some ⟨p, 0, none⟩)) rfl (by kernel_rfl) (by kernel_rfl) (by kernel_rfl) (fun _ _ _ h => h) (Or.inl ⟨by rfl, fun W hSw => by (try dsimp only at hSw); go_simp⟩) (by assumption) ?_
        try simp only [List.getElem_toArray, List.getElem_cons_zero, List.getElem_cons_succ, Act.put, List.setIfInBounds_toArray, List.set_cons_zero, List.set_cons_succ]
        refine wpAnyH_take (i := 3) (v := .pointer (some ⟨p, 0, none⟩)) rfl (by kernel_rfl) (by kernel_rfl) (by kernel_rfl) (fun _ _ _ h => h) (Or.inl ⟨by rfl, fun W hSw => by (try dsimp only at hSw); go_simp⟩) (by assumption) ?_
        try simp only [List.getElem_toArray, List.getElem_cons_zero, List.getElem_cons_succ, Act.put, List.setIfInBounds_toArray, List.set_cons_zero, List.set_cons_succ]
        refine wpAnyH_take (i := 4) (v := .slice a0 n cap0) rfl (by kernel_rfl) (by kernel_rfl) (by kernel_rfl) (fun _ _ _ h => h) (yields_load (by rfl) _ _ rfl _ rfl _ q0) (by assumption) ?_
        try simp only [List.getElem_toArray, List.getElem_cons_zero, List.getElem_cons_succ, Act.put, List.setIfInBounds_toArray, List.set_cons_zero, List.set_cons_succ]
        refine wpAnyH_take (i := 5) (v := .pointer (some ⟨p, 0, none⟩)) rfl (by kernel_rfl) (by kernel_rfl) (by kernel_rfl) (fun _ _ _ h => h) (Or.inl ⟨by rfl, fun W hSw => by (try dsimp only at hSw); go_simp⟩) (by assumption) ?_
        try simp only [List.getElem_toArray, List.getElem_cons_zero, List.getElem_cons_succ, Act.put, List.setIfInBounds_toArray, List.set_cons_zero, List.set_cons_succ]
        refine wpAnyH_take (i := 6) (v := .pointer (some ⟨p, 0, none⟩)) rfl (by kernel_rfl) (by kernel_rfl) (by kernel_rfl) (fun _ _ _ h => h) (Or.inl ⟨by rfl, fun W hSw => by (try dsimp only at hSw); go_simp⟩) (by assumption) ?_
        try simp only [List.getElem_toArray, List.getElem_cons_zero, List.getElem_cons_succ, Act.put, List.setIfInBounds_toArray, List.set_cons_zero, List.set_cons_succ]
        refine wpAnyH_take (i := 7) (v := .pointer (some ⟨p, 0, none⟩)) rfl (by kernel_rfl) (by kernel_rfl) (by kernel_rfl) (fun _ _ _ h => h) (Or.inl ⟨by rfl, fun W hSw => by (try dsimp only at hSw); go_simp⟩) (by assumption) ?_
        try simp only [List.getElem_toArray, List.getElem_cons_zero, List.getElem_cons_succ, Act.put, List.setIfInBounds_toArray, List.set_cons_zero, List.set_cons_succ]
        refine wpAnyH_take (i := 8) (v := .slice a0 n cap0) rfl (by kernel_rfl) (by kernel_rfl) (by kernel_rfl) (fun _ _ _ h => h) (yields_load (by rfl) _ _ rfl _ rfl _ q0) (by assumption) ?_
        try simp only [List.getElem_toArray, List.getElem_cons_zero, List.getElem_cons_succ, Act.put, List.setIfInBounds_toArray, List.set_cons_zero, List.set_cons_succ]
        refine wpAnyH_take (i := 9) (v := .int .i64 n) rfl (by kernel_rfl) (by kernel_rfl) (by kernel_rfl) (fun _ _ _ h => h) (Or.inl ⟨by rfl, fun W hSw => by (try dsimp only at hSw); go_simp⟩) (by assumption) ?_
        try simp only [List.getElem_toArray, List.getElem_cons_zero, List.getElem_cons_succ, Act.put, List.setIfInBounds_toArray, List.set_cons_zero, List.set_cons_succ]
        refine wpAnyH_take (i := 10) (v := .pointer (some ⟨p, 0, none⟩)) rfl (by kernel_rfl) (by kernel_rfl) (by kernel_rfl) (fun _ _ _ h => h) (Or.inl ⟨by rfl, fun W hSw => by (try dsimp only at hSw); go_simp⟩) (by assumption) ?_
        try simp only [List.getElem_toArray, List.getElem_cons_zero, List.getElem_cons_succ, Act.put, List.setIfInBounds_toArray, List.set_cons_zero, List.set_cons_succ]
        refine wpAnyH_take (i := 11) (v := .pointer (some ⟨p, 0, none⟩)) rfl (by kernel_rfl) (by kernel_rfl) (by kernel_rfl) (fun _ _ _ h => h) (Or.inl ⟨by rfl, fun W hSw => by (try dsimp only at hSw); go_simp⟩) (by assumption) ?_
        try simp only [List.getElem_toArray, List.getElem_cons_zero, List.getElem_cons_succ, Act.put, List.setIfInBounds_toArray, List.set_cons_zero, List.set_cons_succ]
        refine wpAnyH_take (i := 12) (v := .pointer (some ⟨p, 0, none⟩)) rfl (by kernel_rfl) (by kernel_rfl) (by kernel_rfl) (fun _ _ _ h => h) (Or.inl ⟨by rfl, fun W hSw => by (try dsimp only at hSw); go_simp⟩) (by assumption) ?_
        try simp only [List.getElem_toArray, List.getElem_cons_zero, List.getElem_cons_succ, Act.put, List.setIfInBounds_toArray, List.set_cons_zero, List.set_cons_succ]
        refine wpAnyH_take (i := 13) (v := .slice a0 n cap0) rfl (by kernel_rfl) (by kernel_rfl) (by kernel_rfl) (fun _ _ _ h => h) (yields_load (by rfl) _ _ rfl _ rfl _ q0) (by assumption) ?_
        try simp only [List.getElem_toArray, List.getElem_cons_zero, List.getElem_cons_succ, Act.put, List.setIfInBounds_toArray, List.set_cons_zero, List.set_cons_succ]
        refine wpAnyH_take (i := 14) (v := .int .i64 n) rfl (by kernel_rfl) (by kernel_rfl) (by kernel_rfl) (fun _ _ _ h => h) (Or.inl ⟨by rfl, fun W hSw => by (try dsimp only at hSw); go_simp⟩) (by assumption) ?_
        try simp only [List.getElem_toArray, List.getElem_cons_zero, List.getElem_cons_succ, Act.put, List.setIfInBounds_toArray, List.set_cons_zero, List.set_cons_succ]
        refine wpAnyH_take (i := 15) (v := .slice a0 n n) rfl (by kernel_rfl) (by kernel_rfl) (by kernel_rfl) (fun _ _ _ h => h) (Or.inl ⟨by rfl, fun W hSw => by (try dsimp only at hSw); (have q := hct W; go_simp)⟩) (by assumption) ?_
        try simp only [List.getElem_toArray, List.getElem_cons_zero, List.getElem_cons_succ, Act.put, List.setIfInBounds_toArray, List.set_cons_zero, List.set_cons_succ]
        refine wpAnyH_take (i := 16) (v := .agg (cgC c)) rfl (by kernel_rfl) (by kernel_rfl) (by kernel_rfl) (fun _ _ _ h => h) (yields_load (by rfl) _ _ rfl _ rfl _ (fun W hW => (q1 W hW).load HC.out)) (by assumption) ?_
        try simp only [List.getElem_toArray, List.getElem_cons_zero, List.getElem_cons_succ, Act.put, List.setIfInBounds_toArray, List.set_cons_zero, List.set_cons_succ]
        refine wpAnyH_ready (rs := [17]) (by kernel_rfl) (by simp) ?_
        refine AllReadyH.cons rfl (fun K hK => ?_) AllReadyH.nil
        rw [if_pos (by rfl)]
        refine wp_buildS 40 1 _ rfl #[(0, .agg (cgC c))] (by kernel_rfl) (hbs _) ?_
        have hb6 : Below wt.heap.size wt (wt.drew.alloc (.cells (cgC c) 37)) := (Below.refl _ wt).drew.alloc (Nat.le_refl _) _
        refine hK.out _ _ hb6 (fun hHeld2 => ?_)
        clear hK K
        try simp only [List.getElem_toArray, List.getElem_cons_zero, List.getElem_cons_succ, Act.put, List.setIfInBounds_toArray, List.set_cons_zero, List.set_cons_succ]
        have hx6 := CgAt.laid wt.drew c
        obtain ⟨w6, hw6⟩ : ∃ w6, (wt.drew.alloc (.cells (cgC c) 37)) = w6 := ⟨_, rfl⟩
        rw [hw6] at hb6 hx6 hHeld2 ⊢
        refine wpAnyH_ready (rs := [18]) (by kernel_rfl) (by simp) ?_
        refine AllReadyH.cons rfl (fun K hK => ?_) AllReadyH.nil
        rw [if_pos (by rfl)]
        obtain ⟨v7, w7, hrun, h7o, h7b⟩ := run_append_cg w6 a0 xs hXok (HRD.out.below hb6) (by have := HN.out; omega) _ c hc hx6 40
        rw [HN.out] at hrun
        obtain ⟨a7, cap7, rfl⟩ := own_shape h7o
        refine wp_app _ _ 40 rfl _ _ rfl rfl hrun ?_
        have hb7 : Below wt.heap.size wt w7 := thenB hb6 h7b
        refine hK.out _ _ hb7 (fun hHeld4 => ?_)
        clear hK K
        try simp only [List.getElem_toArray, List.getElem_cons_zero, List.getElem_cons_succ, Act.put, List.setIfInBounds_toArray, List.set_cons_zero, List.set_cons_succ]
        refine wpAnyH_take (i := 19) (v := .pointer (some ⟨p, 0, none⟩)) rfl (by kernel_rfl) (by kernel_rfl) (by kernel_rfl) (fun _ _ _ h => h) (Or.inl ⟨by rfl, fun W hSw => by (try dsimp only at hSw); go_simp⟩) (by assumption) ?_
        try simp only [List.getElem_toArray, List.getElem_cons_zero, List.getElem_cons_succ, Act.put, List.setIfInBounds_toArray, List.set_cons_zero, List.set_cons_succ]
        refine wpAnyH_take (i := 20) (v := .pointer (some ⟨p, 0, none⟩)) rfl (by kernel_rfl) (by kernel_rfl) (by kernel_rfl) (fun _ _ _ h => h) (Or.inl ⟨by rfl, fun W hSw => by (try dsimp only at hSw); go_simp⟩) (by assumption) ?_
        try simp only [List.getElem_toArray, List.getElem_cons_zero, List.getElem_cons_succ, Act.put, List.setIfInBounds_toArray, List.set_cons_zero, List.set_cons_succ]
        have hG7 := (hb7.block p (by omega)).trans HRT.out
        have c70 : w7.cell? ⟨p, 0, none⟩ = some (.slice a0 n cap0) := by rw [cell_of_row _ _ _ _ _ (0, 0) hG7, ← HN.out]; rfl
        have f70 := frozen_of_row w7 p 0 _ _ hG7
        obtain ⟨n7, hn7⟩ : ∃ n7, (xs ++ [c]).length = n7 := ⟨_, rfl⟩
        have HN7 : Hid ((xs ++ [c]).length = n7) := hn7
        rw [hn7] at h7o
        try rw [hn7]
        have hG8 := heap_setCell_same w7 p 0 _ _ (.slice a7 n7 cap7) hG7
        obtain ⟨w8, hw8⟩ : ∃ w8, w7.setCell ⟨p, 0, none⟩ (.slice a7 n7 cap7) = w8 := ⟨_, rfl⟩
        have hS78 : Sole [p] w7 w8 := by rw [← hw8]; exact Sole.setCell _ _ (by simp)
        rw [hw8] at hG8
        have h7k : ∀ k, (Value.slice a7 n7 cap7).ownBlock = some k → w6.heap.size ≤ k := fun k hk => (World.ownsRow.lt h7o k hk).1
        have HO8 : Hid (w8.ownsRow 0 37 46 (.slice a7 n7 cap7) n7 ((xs ++ [c]).flatMap cgL)) := by
          have e1 := own_keep h7o hS78.size (fun k hk hl => hS78.block k hl (by have := h7k k hk; have := hb6.size; simp only [List.mem_singleton]; omega))
          obtain ⟨z1, z2 | ⟨g, cp, cur, z2, z3, z4⟩⟩ := e1
          · exact ⟨z1, .inl z2⟩
          · exact ⟨z1, .inr ⟨g, cp, cur, z2, Nat.zero_le _, z4⟩⟩
        have HG8 : Hid (w8.heap[p]? = some (.cells (xdC (.slice a7 n7 cap7) M) 42 (0, 0))) := hG8
        have HK8 : Hid (KeepX p w w8) := by
          have hbw7 : Below w.heap.size w w7 := thenB HBW.out hb7
          exact ⟨hS78.os.trans hbw7.os, hS78.tape.trans hbw7.tape, hS78.output.trans hbw7.output, Nat.le_trans hbw7.size hS78.size, fun k hk hkp => (hS78.block k (Nat.lt_of_lt_of_le hk hbw7.size) (by simpa using hkp)).trans (hbw7.block k hk)⟩
        have HW7 : Hid (∀ k, (Value.slice a7 n7 cap7).ownBlock = some k → (Value.slice a0 n cap0).ownBlock = some k ∨ w.heap.size ≤ k) := fun k hk => .inr (by have := h7k k hk; have := hb6.size; omega)
        refine wpAnyH_done (by kernel_rfl) ?_ _
        refine Behind.run (by rfl) ?_
        go_simp
        go_wp2
        refine NoPanic.normal ?_
        clear q0 q1 hrun h7o h7b hG7 hG8 c70 f70 hS78 hHeld hHeld2 hHeld4 hbs hct h7k
        go_wp2
        go_ret
        refine ⟨rfl, .slice a7 n7 cap7, ?_, ?_, by rw [HN.out]; exact HW7.out⟩
        · refine ⟨HG8.out, ?_, fun z hz => ?_⟩
          · try rw [if_pos rfl]
            rw [HN7.out]; exact HO8.out
          · try rw [if_pos rfl] at hz
            rcases List.mem_append.1 hz with hz | hz
            · exact hXok z hz
            · rw [List.mem_singleton] at hz; rw [hz]; exact hc
        · exact ⟨HK8.out.os, HK8.out.tape, HK8.out.output, HK8.out.size, HK8.out.block⟩
      · go_wp2_with (refine wpList_storeG rfl _ _ rfl w5.heap.size (joinX (wasX s c.pl) c).1 cg0 rfl rfl HJ.out len0 hn6 ?_; rw [hw6'])
        go_ret
        exact ⟨rfl, v, by first | exact hX.below hB6 | (rw [if_neg hj0]; exact hX.below hB6), KeepX.of_below hB6, fun k hk => .inl hk⟩
  · have hk0 : ckOk c = false := by simpa using hck
    have e1 : ckE c = 1 := by unfold ckE; rw [hk0]; rfl
    have e2 : er = 1 := by rw [← her]; exact put_err hk0
    subst e2
    rw [e1]
    go_wp2
    go_ret
    exact ⟨rfl, v, by first | exact hX.below hB2 | (rw [if_neg (by decide)]; exact hX.below hB2), KeepX.of_below hB2, fun k hk => .inl hk⟩

end Go.Proofs.Ytmifpeocgikbeab
