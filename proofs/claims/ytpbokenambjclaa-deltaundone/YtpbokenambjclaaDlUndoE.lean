/- The contract of delta.Undo at the mark itself; Undo. -/
import Derived.Test.YtpbokenambjclaaDlUndo
namespace Go.Proofs.Ytpbokenambjclaa
open Go.RowKit Go.Shelf Go.Maps
set_option linter.unusedVariables false
set_option linter.unusedSimpArgs false
set_option maxRecDepth 100000
attribute [local go_sem] Oper.semAt_some

theorem undoS_all (s : Dl) : undoS s s.pus.length = s := by
  unfold undoS
  rw [List.drop_length, List.take_length]
  rfl

set_option maxHeartbeats 8000000 in
theorem undo_b2 {w : World} {p b : Nat} {s : Dl} {g cap N : Nat} (hne : ¬ cap = N) (hN : N ≤ cap) (hcap : cap ≤ maxLen) (hNe : s.pus.length = N) (h : DlAt w p b (.slice (some ⟨g, 0, none⟩) N cap) s) : Calls Try.prog 17 #[.pointer (some ⟨p, 0, none⟩), .int .i64 N] w fun e w' => e = .returned (.int .i64 0) ∧ DlAt w' p b (.slice (some ⟨g, 0, none⟩) N cap) s ∧ KeepQ p b (.slice (some ⟨g, 0, none⟩) N cap) w w' (.slice (some ⟨g, 0, none⟩) N cap) := by
  have hrow0 := heap_alloc_new w (.cells #[.pointer (some ⟨p, 0, none⟩)] 39)
  have hb1 : Below w.heap.size w (w.alloc (.cells #[.pointer (some ⟨p, 0, none⟩)] 39)) := (Below.refl _ w).alloc (Nat.le_refl _) _
  have hc1 : (w.alloc (.cells #[.pointer (some ⟨p, 0, none⟩)] 39)).cell? ⟨w.heap.size, 0, none⟩ = some (.pointer (some ⟨p, 0, none⟩)) := by rw [cell_of_row _ _ _ _ _ (0, 0) (heap_alloc_new w _)]; rfl
  have hD1 := h.below hb1
  have hmk := dmark_any hD1
  have c2 := hD1.c2
  obtain ⟨w1, hw1⟩ : ∃ w1, w.alloc (.cells #[.pointer (some ⟨p, 0, none⟩)] 39) = w1 := ⟨_, rfl⟩
  rw [hw1] at hb1 hc1 hmk hD1 c2 hrow0
  have hpw := h.lt
  have hbw := h.mp.lt
  have hvw : ∀ q, (.slice (some ⟨g, 0, none⟩) N cap : Value).ownBlock = some q → q < w.heap.size := fun q hq => (World.ownsRow.lt h.pus q hq).2
  have hs1 := hb1.size
  have hbp := h.bp
  have hlw1 := (Array.getElem?_eq_some_iff.1 hrow0).1
  have hdl := fun W => delPu_id W (some ⟨g, 0, none⟩) N cap (fun e => by cases e) hN hcap
  rw [hNe] at hmk
  clear hNe h
  have hs3 : (w1.alloc (.cells #[.slice (some ⟨g, N * 51, none⟩) 0 (cap - N)] 71)).heap.size = w1.heap.size + 1 := by simp
  have hb3 : Below w1.heap.size w1 (w1.alloc (.cells #[.slice (some ⟨g, N * 51, none⟩) 0 (cap - N)] 71)) := (Below.refl _ w1).alloc (Nat.le_refl _) _
  have hD3 := hD1.below hb3
  have hc3 : (w1.alloc (.cells #[.slice (some ⟨g, N * 51, none⟩) 0 (cap - N)] 71)).cell? ⟨w1.heap.size, 0, none⟩ = some (.slice (some ⟨g, N * 51, none⟩) 0 (cap - N)) := by rw [cell_of_row _ _ _ _ _ (0, 0) (heap_alloc_new w1 _)]; rfl
  have hrow3 := (hb3.block w.heap.size hlw1).trans hrow0
  have hseq := back_stops 2 (by decide) w1.heap.size b (w1.heap.size + 1) (some ⟨g, N * 51, none⟩) (cap - N) [] (fun x hx => by cases hx) (w1.alloc (.cells #[.slice (some ⟨g, N * 51, none⟩) 0 (cap - N)] 71)) (by omega) (by omega) (by rw [hs3]; exact Nat.le_refl _) hc3 (by unfold maxLen at *; omega) (Nat.zero_le _) (Nat.zero_le _) (fun h => absurd h (by decide))
  have eg : ∀ args w, (callFunc 52 args).run Try.prog w = .ok (.enter 52 args) w := enters_of Try.func52 (by kernel_rfl) rfl
  refine (callsIn_wide (n := 3)).1 ?_
  refine callsIn_of_wp_marks Try.func17 rfl trivial ?_ rfl
  refine wpIn_wide.2 ?_
  simp only [Try.ntmps17, List.size_toArray, List.length_cons, List.length_nil, Nat.reduceAdd, Nat.reduceSub, Array.replicate_succ, Array.replicate_zero, List.push_toArray, List.append_toArray, List.nil_append, List.cons_append]
  unfold maxLen at hcap
  have hm0 : ¬ ((N : Int) < 0) := by omega
  have hmc : (N : Int) ≤ (cap : Int) := by omega
  go_wp2_with fail
  refine hmk.mono ?_
  rintro e w2 ⟨rfl, rfl⟩
  go_wp2_with fail
  refine (backward_any _ _ _ _).mono ?_
  rintro e w3' ⟨rfl, rfl⟩
  go_wp2_with fail
  refine (wpIn_wide (n := 3)).1 ?_
  obtain ⟨w3, hw3⟩ : ∃ w3, w1.alloc (.cells #[.slice (some ⟨g, N * 51, none⟩) 0 (cap - N)] 71) = w3 := ⟨_, rfl⟩
  rw [hw3] at hs3 hb3 hD3 hc3 hrow3 hseq ⊢
  clear hw3 hc3 hmk c2 hc1 hw1
  have hz := zeroPu
  refine wpIn_rangeFunc_ownH rfl (by decide) (gf := 52) (lb := #[.pointer (some ⟨w1.heap.size, 0, none⟩)]) rfl trivial eg hseq KeepB.t (KeepB.b (by omega)) (Below.refl _ _) (fun _ => rfl)
    (fun pre W => DlAt W p b (.slice (some ⟨g, 0, none⟩) N cap) s ∧ Sole [b] w3 W ∧ pre.length = 0)
    (fun _ _ _ => False)
    (fun pre A B row ⟨k1, k2, k0⟩ hg hr => by
      have hlo : ∀ k, k < w3.heap.size → B.heap[k]? = A.heap[k]? := fun k hk => hg.block k (Nat.lt_of_lt_of_le hk k2.size) (fun e => by have := (hr k e.symm).1; omega)
      exact ⟨k1.keep3 hg.size (hlo p (by omega)) (hlo b (by omega)) (fun q hq => hlo q (by have := hvw q hq; omega)), k2.after (S' := row.toList) ⟨hg.os, hg.tape, hg.output, hg.size, fun k hk hn => hg.block k hk (fun e => hn (by rw [Option.mem_toList]; exact e.symm))⟩ (fun k hk => by rw [Option.mem_toList] at hk; exact .inr (hr k hk).1), k0⟩)
    (fun _ _ _ _ _ hs _ _ => hs)
    ⟨hD3, Sole.refl _ _, rfl⟩
    (fun x a' W => True)
    (fun x a' _ _ _ _ _ _ _ => trivial) ?assign ?body ?done ?stop
  case assign =>
    rintro l pre x W K ⟨k1, k2, k0⟩ hK
    have hn := heap_alloc_new W (.cells (puC pu0) 76)
    have hb := alloc_row (A := W) (.cells (puC pu0) 76) (puC x.x)
    obtain ⟨W1, hW1⟩ : ∃ W1, (W.alloc (.cells (puC pu0) 76)).setRow W.heap.size (puC x.x) = W1 := ⟨_, rfl⟩
    rw [hW1] at hb
    have hg : W.grownBy W1 none := ⟨hb.os, hb.tape, hb.output, hb.size, fun k hk _ => hb.block k hk⟩
    have hko : KeepsOthers W W1 := KeepsOthers.of_grownBy hg (fun j o ej => by cases ej)
    gi_wp2_with (refine wpListIn_storeS rfl 76 _ _ rfl W.heap.size (puC x.x) rfl rfl 76 (puC pu0) hn (by rw [puC_size x.ok]; exact size_pu) (by rw [puC_size x.ok, puC_size pu0_ok]) (one_pu _) ?_; rw [hW1])
    have hks := k2.size
    exact hK _ _ (hko.from _) ⟨hb.size, fun k hk _ => hb.block k (by omega)⟩ ⟨k1.below hb, k2.trans (Sole.of_below hb _), k0⟩ trivial
  case body =>
    rintro l pre x a' W hl0 hrec k1 k2 hlen
    exact absurd hlen (by simp)
  case done =>
    rintro D ys W hD hys ⟨k1, k2, _⟩ hK
    have hks := k2.size
    have hrowW := (k2.block w.heap.size (by omega) (by simp; omega)).trans hrow3
    have hrowP := k1.row
    have hlp := k1.lt
    have hDp : D ≠ p := fun e => by rw [e, hrowP] at hK; cases hK
    have hDb : D ≠ b := fun e => by
      obtain ⟨x, cl, hm⟩ := k1.mp.isMap
      rw [e, hm] at hK; cases hK
    have hDv : ∀ q, (.slice (some ⟨g, 0, none⟩) N cap : Value).ownBlock = some q → q ≠ D := fun q hq e => by
      obtain ⟨cs, e1⟩ := own_row k1.pus hq
      rw [e, hK] at e1; cases e1
    have q1 : ∀ X, Below W.heap.size W X → X.heap[p]? = some (.cells (dlC s.most b (.slice (some ⟨g, 0, none⟩) N cap)) 73 (0, 0)) := fun X hX => (hX.block p hlp).trans hrowP
    have q2 : ∀ X, Below W.heap.size W X → X.heap[w.heap.size]? = some (.cells #[.pointer (some ⟨p, 0, none⟩)] 39 (0, 0)) := fun X hX => (hX.block w.heap.size (by omega)).trans hrowW
    have hG1 : W.drew.heap[p]? = some (.cells (dlC s.most b (.slice (some ⟨g, 0, none⟩) N cap)) 73 (0, 0)) := hrowP
    have c12 : W.drew.cell? ⟨p, 2, none⟩ = some (.slice (some ⟨g, 0, none⟩) N cap) := by rw [cell_of_row _ _ _ _ _ (0, 0) hG1]; rfl
    have f12 := frozen_of_row W.drew p 2 _ _ hG1
    have hG2 := heap_setCell_same W.drew p 2 _ _ (.slice (some ⟨g, 0, none⟩) N cap) hG1
    obtain ⟨X2, hX2⟩ : ∃ X2, W.drew.setCell ⟨p, 2, none⟩ (.slice (some ⟨g, 0, none⟩) N cap) = X2 := ⟨_, rfl⟩
    have hS12 : Sole [p] W X2 := by rw [← hX2]; exact (Sole.drew W _).trans (Sole.setCell _ _ (by simp))
    rw [hX2] at hG2
    have hG2' : X2.heap[p]? = some (.cells (dlC s.most b (.slice (some ⟨g, 0, none⟩) N cap)) 73 (0, 0)) := hG2
    have HG2 : Hid _ := hG2'
    have HKD2 : Hid (X2.heap[D]? = some (.deferred (some []))) := (hS12.block D (Array.getElem?_eq_some_iff.1 hK).1 (by simpa using hDp)).trans hK
    have HX2 : Hid (Sole [p] W X2) := hS12
    have HK1 : Hid (DlAt W p b (.slice (some ⟨g, 0, none⟩) N cap) s) := k1
    have HK2 : Hid (Sole [b] w3 W) := k2
    have cd := hdl W.drew
    clear hG2 hG2' hS12 k1 k2 hK hdl hseq hrow3 hrow0
    go_wp2_with fail
    refine wp_region_noPanic ?_
    refine wp_region_sink 14 (S := fun X => Below W.heap.size W X) (by kernel_rfl) (by kernel_rfl) (Below.refl _ _).drew (fun hHeld => ?_)
    refine wpAnyH_take (i := 0) (v := .pointer (some ⟨p, 0, none⟩)) rfl (by kernel_rfl) (by kernel_rfl) (by kernel_rfl) (fun _ _ _ h => h) (yields_load (by rfl) _ _ rfl _ rfl _ (fun W h => load39 (q2 W h))) (by assumption) ?_
    try simp only [List.getElem_toArray, List.getElem_cons_zero, List.getElem_cons_succ, Act.put, List.setIfInBounds_toArray, List.set_cons_zero, List.set_cons_succ]
    refine wpAnyH_take (i := 1) (v := .pointer (some ⟨p, 0, none⟩)) rfl (by kernel_rfl) (by kernel_rfl) (by kernel_rfl) (fun _ _ _ h => h) (yields_load (by rfl) _ _ rfl _ rfl _ (fun W h => load39 (q2 W h))) (by assumption) ?_
    try simp only [List.getElem_toArray, List.getElem_cons_zero, List.getElem_cons_succ, Act.put, List.setIfInBounds_toArray, List.set_cons_zero, List.set_cons_succ]
    refine wpAnyH_take (i := 2) (v := .pointer (some ⟨p, 0, none⟩)) rfl (by kernel_rfl) (by kernel_rfl) (by kernel_rfl) (fun _ _ _ h => h) (Or.inl ⟨by rfl, fun W hSw => by (try dsimp only at hSw); go_simp⟩) (by assumption) ?_
    try simp only [List.getElem_toArray, List.getElem_cons_zero, List.getElem_cons_succ, Act.put, List.setIfInBounds_toArray, List.set_cons_zero, List.set_cons_succ]
    refine wpAnyH_take (i := 3) (v := .pointer (some ⟨p, 2, none⟩)) rfl (by kernel_rfl) (by kernel_rfl) (by kernel_rfl) (fun _ _ _ h => h) (Or.inl ⟨by rfl, fun W hSw => by (try dsimp only at hSw); go_simp⟩) (by assumption) ?_
    try simp only [List.getElem_toArray, List.getElem_cons_zero, List.getElem_cons_succ, Act.put, List.setIfInBounds_toArray, List.set_cons_zero, List.set_cons_succ]
    refine wpAnyH_take (i := 4) (v := .slice (some ⟨g, 0, none⟩) N cap) rfl (by kernel_rfl) (by kernel_rfl) (by kernel_rfl) (fun _ _ _ h => h) (yields_load (by rfl) _ _ rfl _ rfl _ (fun W h => load2_row (q1 W h))) (by assumption) ?_
    try simp only [List.getElem_toArray, List.getElem_cons_zero, List.getElem_cons_succ, Act.put, List.setIfInBounds_toArray, List.set_cons_zero, List.set_cons_succ]
    refine wpAnyH_take (i := 5) (v := .int .i64 N) rfl (by kernel_rfl) (by kernel_rfl) (by kernel_rfl) (fun _ _ _ h => h) (Or.inl ⟨by rfl, fun W hSw => by (try dsimp only at hSw); go_simp⟩) (by assumption) ?_
    try simp only [List.getElem_toArray, List.getElem_cons_zero, List.getElem_cons_succ, Act.put, List.setIfInBounds_toArray, List.set_cons_zero, List.set_cons_succ]
    refine wpAnyH_take (i := 6) (v := .pointer (some ⟨p, 0, none⟩)) rfl (by kernel_rfl) (by kernel_rfl) (by kernel_rfl) (fun _ _ _ h => h) (yields_load (by rfl) _ _ rfl _ rfl _ (fun W h => load39 (q2 W h))) (by assumption) ?_
    try simp only [List.getElem_toArray, List.getElem_cons_zero, List.getElem_cons_succ, Act.put, List.setIfInBounds_toArray, List.set_cons_zero, List.set_cons_succ]
    refine wpAnyH_take (i := 7) (v := .pointer (some ⟨p, 0, none⟩)) rfl (by kernel_rfl) (by kernel_rfl) (by kernel_rfl) (fun _ _ _ h => h) (Or.inl ⟨by rfl, fun W hSw => by (try dsimp only at hSw); go_simp⟩) (by assumption) ?_
    try simp only [List.getElem_toArray, List.getElem_cons_zero, List.getElem_cons_succ, Act.put, List.setIfInBounds_toArray, List.set_cons_zero, List.set_cons_succ]
    refine wpAnyH_take (i := 8) (v := .pointer (some ⟨p, 2, none⟩)) rfl (by kernel_rfl) (by kernel_rfl) (by kernel_rfl) (fun _ _ _ h => h) (Or.inl ⟨by rfl, fun W hSw => by (try dsimp only at hSw); go_simp⟩) (by assumption) ?_
    try simp only [List.getElem_toArray, List.getElem_cons_zero, List.getElem_cons_succ, Act.put, List.setIfInBounds_toArray, List.set_cons_zero, List.set_cons_succ]
    refine wpAnyH_take (i := 9) (v := .slice (some ⟨g, 0, none⟩) N cap) rfl (by kernel_rfl) (by kernel_rfl) (by kernel_rfl) (fun _ _ _ h => h) (yields_load (by rfl) _ _ rfl _ rfl _ (fun W h => load2_row (q1 W h))) (by assumption) ?_
    try simp only [List.getElem_toArray, List.getElem_cons_zero, List.getElem_cons_succ, Act.put, List.setIfInBounds_toArray, List.set_cons_zero, List.set_cons_succ]
    refine wpAnyH_take (i := 10) (v := .int .i64 N) rfl (by kernel_rfl) (by kernel_rfl) (by kernel_rfl) (fun _ _ _ h => h) (Or.inl ⟨by rfl, fun W hSw => by (try dsimp only at hSw); go_simp⟩) (by assumption) ?_
    try simp only [List.getElem_toArray, List.getElem_cons_zero, List.getElem_cons_succ, Act.put, List.setIfInBounds_toArray, List.set_cons_zero, List.set_cons_succ]
    refine wpAnyH_ready (rs := [11]) (by kernel_rfl) (by simp) ?_
    refine AllReadyH.cons rfl (fun K hK => ?_) AllReadyH.nil
    go_simp
    go_wp2_with (go_at_call 38; refine cd.mono ?_; rintro e X1 ⟨rfl, rfl⟩)
    refine hK.out _ _ hHeld (fun hHeld2 => ?_)
    clear hK K
    try simp only [List.getElem_toArray, List.getElem_cons_zero, List.getElem_cons_succ, Act.put, List.setIfInBounds_toArray, List.set_cons_zero, List.set_cons_succ]
    refine wpAnyH_take (i := 12) (v := .pointer (some ⟨p, 0, none⟩)) rfl (by kernel_rfl) (by kernel_rfl) (by kernel_rfl) (fun _ _ _ h => h) (Or.inl ⟨by rfl, fun W hSw => by (try dsimp only at hSw); go_simp⟩) (by assumption) ?_
    try simp only [List.getElem_toArray, List.getElem_cons_zero, List.getElem_cons_succ, Act.put, List.setIfInBounds_toArray, List.set_cons_zero, List.set_cons_succ]
    refine wpAnyH_take (i := 13) (v := .pointer (some ⟨p, 2, none⟩)) rfl (by kernel_rfl) (by kernel_rfl) (by kernel_rfl) (fun _ _ _ h => h) (Or.inl ⟨by rfl, fun W hSw => by (try dsimp only at hSw); go_simp⟩) (by assumption) ?_
    try simp only [List.getElem_toArray, List.getElem_cons_zero, List.getElem_cons_succ, Act.put, List.setIfInBounds_toArray, List.set_cons_zero, List.set_cons_succ]
    refine wpAnyH_done (by kernel_rfl) ?_ _
    refine Behind.run (by rfl) ?_
    go_simp
    go_wp2
    refine NoPanic.normal ?_
    clear q1 q2 hG1 c12 f12 hHeld hHeld2 cd
    go_wp2
    refine ⟨by simp, .inl ⟨_, _, rfl, run_takeDeferred HKD2.out, ?_⟩⟩
    have a1 := HX2.out
    have a3 := HK2.out
    have s3 := a3.size
    have s1 := a1.size
    have e9 : (X2.putObj D (.deferred none)).heap.size = X2.heap.size := by simp
    refine ⟨_, results_tmp rfl _ _ _, rfl, ?_, ?_⟩
    · have k1 := HK1.out
      refine k1.keep3 (by rw [e9]; exact s1) ((World.putObj_heap_other (Ne.symm hDp)).trans (HG2.out.trans k1.row.symm)) ((World.putObj_heap_other (Ne.symm hDb)).trans (a1.block b k1.mp.lt (by simpa using hbp))) (fun q hq => ?_)
      obtain ⟨cs, e1⟩ := own_row k1.pus hq
      exact (World.putObj_heap_other (hDv q hq)).trans (a1.block q (Array.getElem?_eq_some_iff.1 e1).1 (by simpa using ne_of_type e1 k1.row (by decide)))
    · exact ⟨a1.os.trans (a3.os.trans (hb3.os.trans hb1.os)), a1.tape.trans (a3.tape.trans (hb3.tape.trans hb1.tape)), a1.output.trans (a3.output.trans (hb3.output.trans hb1.output)), by rw [e9]; omega, fun k hk h1 h2 h3 => (World.putObj_heap_other (by omega)).trans ((a1.block k (by omega) (by simpa using h1)).trans ((a3.block k (by omega) (by simpa using h2)).trans ((hb3.block k (by omega)).trans (hb1.block k hk)))), fun k hk => .inl hk⟩
  case stop =>
    rintro D c pre W _ _ h _
    exact h.elim

set_option maxHeartbeats 8000000 in
theorem undo_b1 {w : World} {p b : Nat} {s : Dl} {g N : Nat} (hN : N ≤ maxLen) (hNe : s.pus.length = N) (h : DlAt w p b (.slice (some ⟨g, 0, none⟩) N N) s) : Calls Try.prog 17 #[.pointer (some ⟨p, 0, none⟩), .int .i64 N] w fun e w' => e = .returned (.int .i64 0) ∧ DlAt w' p b (.slice (some ⟨g, 0, none⟩) N N) s ∧ KeepQ p b (.slice (some ⟨g, 0, none⟩) N N) w w' (.slice (some ⟨g, 0, none⟩) N N) := by
  have hrow0 := heap_alloc_new w (.cells #[.pointer (some ⟨p, 0, none⟩)] 39)
  have hb1 : Below w.heap.size w (w.alloc (.cells #[.pointer (some ⟨p, 0, none⟩)] 39)) := (Below.refl _ w).alloc (Nat.le_refl _) _
  have hc1 : (w.alloc (.cells #[.pointer (some ⟨p, 0, none⟩)] 39)).cell? ⟨w.heap.size, 0, none⟩ = some (.pointer (some ⟨p, 0, none⟩)) := by rw [cell_of_row _ _ _ _ _ (0, 0) (heap_alloc_new w _)]; rfl
  have hD1 := h.below hb1
  have hmk := dmark_any hD1
  have c2 := hD1.c2
  obtain ⟨w1, hw1⟩ : ∃ w1, w.alloc (.cells #[.pointer (some ⟨p, 0, none⟩)] 39) = w1 := ⟨_, rfl⟩
  rw [hw1] at hb1 hc1 hmk hD1 c2 hrow0
  have hpw := h.lt
  have hbw := h.mp.lt
  have hvw : ∀ q, (.slice (some ⟨g, 0, none⟩) N N : Value).ownBlock = some q → q < w.heap.size := fun q hq => (World.ownsRow.lt h.pus q hq).2
  have hs1 := hb1.size
  have hbp := h.bp
  have hlw1 := (Array.getElem?_eq_some_iff.1 hrow0).1
  have hdl := fun W => delPu_id W (some ⟨g, 0, none⟩) N N (fun e => by cases e) (Nat.le_refl _) hN
  rw [hNe] at hmk
  clear hNe h
  have hs3 : (w1.alloc (.cells #[.slice (some ⟨g, 0, none⟩) 0 0] 71)).heap.size = w1.heap.size + 1 := by simp
  have hb3 : Below w1.heap.size w1 (w1.alloc (.cells #[.slice (some ⟨g, 0, none⟩) 0 0] 71)) := (Below.refl _ w1).alloc (Nat.le_refl _) _
  have hD3 := hD1.below hb3
  have hc3 : (w1.alloc (.cells #[.slice (some ⟨g, 0, none⟩) 0 0] 71)).cell? ⟨w1.heap.size, 0, none⟩ = some (.slice (some ⟨g, 0, none⟩) 0 0) := by rw [cell_of_row _ _ _ _ _ (0, 0) (heap_alloc_new w1 _)]; rfl
  have hrow3 := (hb3.block w.heap.size hlw1).trans hrow0
  have hseq := back_stops 2 (by decide) w1.heap.size b (w1.heap.size + 1) (some ⟨g, 0, none⟩) (0) [] (fun x hx => by cases hx) (w1.alloc (.cells #[.slice (some ⟨g, 0, none⟩) 0 0] 71)) (by omega) (by omega) (by rw [hs3]; exact Nat.le_refl _) hc3 (by unfold maxLen at *; omega) (Nat.zero_le _) (Nat.zero_le _) (fun h => absurd h (by decide))
  have eg : ∀ args w, (callFunc 52 args).run Try.prog w = .ok (.enter 52 args) w := enters_of Try.func52 (by kernel_rfl) rfl
  refine (callsIn_wide (n := 3)).1 ?_
  refine callsIn_of_wp_marks Try.func17 rfl trivial ?_ rfl
  refine wpIn_wide.2 ?_
  simp only [Try.ntmps17, List.size_toArray, List.length_cons, List.length_nil, Nat.reduceAdd, Nat.reduceSub, Array.replicate_succ, Array.replicate_zero, List.push_toArray, List.append_toArray, List.nil_append, List.cons_append]
  unfold maxLen at hN
  have hm0 : ¬ ((N : Int) < 0) := by omega
  go_wp2_with fail
  refine hmk.mono ?_
  rintro e w2 ⟨rfl, rfl⟩
  go_wp2_with fail
  refine (backward_any _ _ _ _).mono ?_
  rintro e w3' ⟨rfl, rfl⟩
  go_wp2_with fail
  refine (wpIn_wide (n := 3)).1 ?_
  obtain ⟨w3, hw3⟩ : ∃ w3, w1.alloc (.cells #[.slice (some ⟨g, 0, none⟩) 0 0] 71) = w3 := ⟨_, rfl⟩
  rw [hw3] at hs3 hb3 hD3 hc3 hrow3 hseq ⊢
  clear hw3 hc3 hmk c2 hc1 hw1
  have hz := zeroPu
  refine wpIn_rangeFunc_ownH rfl (by decide) (gf := 52) (lb := #[.pointer (some ⟨w1.heap.size, 0, none⟩)]) rfl trivial eg hseq KeepB.t (KeepB.b (by omega)) (Below.refl _ _) (fun _ => rfl)
    (fun pre W => DlAt W p b (.slice (some ⟨g, 0, none⟩) N N) s ∧ Sole [b] w3 W ∧ pre.length = 0)
    (fun _ _ _ => False)
    (fun pre A B row ⟨k1, k2, k0⟩ hg hr => by
      have hlo : ∀ k, k < w3.heap.size → B.heap[k]? = A.heap[k]? := fun k hk => hg.block k (Nat.lt_of_lt_of_le hk k2.size) (fun e => by have := (hr k e.symm).1; omega)
      exact ⟨k1.keep3 hg.size (hlo p (by omega)) (hlo b (by omega)) (fun q hq => hlo q (by have := hvw q hq; omega)), k2.after (S' := row.toList) ⟨hg.os, hg.tape, hg.output, hg.size, fun k hk hn => hg.block k hk (fun e => hn (by rw [Option.mem_toList]; exact e.symm))⟩ (fun k hk => by rw [Option.mem_toList] at hk; exact .inr (hr k hk).1), k0⟩)
    (fun _ _ _ _ _ hs _ _ => hs)
    ⟨hD3, Sole.refl _ _, rfl⟩
    (fun x a' W => True)
    (fun x a' _ _ _ _ _ _ _ => trivial) ?assign ?body ?done ?stop
  case assign =>
    rintro l pre x W K ⟨k1, k2, k0⟩ hK
    have hn := heap_alloc_new W (.cells (puC pu0) 76)
    have hb := alloc_row (A := W) (.cells (puC pu0) 76) (puC x.x)
    obtain ⟨W1, hW1⟩ : ∃ W1, (W.alloc (.cells (puC pu0) 76)).setRow W.heap.size (puC x.x) = W1 := ⟨_, rfl⟩
    rw [hW1] at hb
    have hg : W.grownBy W1 none := ⟨hb.os, hb.tape, hb.output, hb.size, fun k hk _ => hb.block k hk⟩
    have hko : KeepsOthers W W1 := KeepsOthers.of_grownBy hg (fun j o ej => by cases ej)
    gi_wp2_with (refine wpListIn_storeS rfl 76 _ _ rfl W.heap.size (puC x.x) rfl rfl 76 (puC pu0) hn (by rw [puC_size x.ok]; exact size_pu) (by rw [puC_size x.ok, puC_size pu0_ok]) (one_pu _) ?_; rw [hW1])
    have hks := k2.size
    exact hK _ _ (hko.from _) ⟨hb.size, fun k hk _ => hb.block k (by omega)⟩ ⟨k1.below hb, k2.trans (Sole.of_below hb _), k0⟩ trivial
  case body =>
    rintro l pre x a' W hl0 hrec k1 k2 hlen
    exact absurd hlen (by simp)
  case done =>
    rintro D ys W hD hys ⟨k1, k2, _⟩ hK
    have hks := k2.size
    have hrowW := (k2.block w.heap.size (by omega) (by simp; omega)).trans hrow3
    have hrowP := k1.row
    have hlp := k1.lt
    have hDp : D ≠ p := fun e => by rw [e, hrowP] at hK; cases hK
    have hDb : D ≠ b := fun e => by
      obtain ⟨x, cl, hm⟩ := k1.mp.isMap
      rw [e, hm] at hK; cases hK
    have hDv : ∀ q, (.slice (some ⟨g, 0, none⟩) N N : Value).ownBlock = some q → q ≠ D := fun q hq e => by
      obtain ⟨cs, e1⟩ := own_row k1.pus hq
      rw [e, hK] at e1; cases e1
    have q1 : ∀ X, Below W.heap.size W X → X.heap[p]? = some (.cells (dlC s.most b (.slice (some ⟨g, 0, none⟩) N N)) 73 (0, 0)) := fun X hX => (hX.block p hlp).trans hrowP
    have q2 : ∀ X, Below W.heap.size W X → X.heap[w.heap.size]? = some (.cells #[.pointer (some ⟨p, 0, none⟩)] 39 (0, 0)) := fun X hX => (hX.block w.heap.size (by omega)).trans hrowW
    have hG1 : W.drew.heap[p]? = some (.cells (dlC s.most b (.slice (some ⟨g, 0, none⟩) N N)) 73 (0, 0)) := hrowP
    have c12 : W.drew.cell? ⟨p, 2, none⟩ = some (.slice (some ⟨g, 0, none⟩) N N) := by rw [cell_of_row _ _ _ _ _ (0, 0) hG1]; rfl
    have f12 := frozen_of_row W.drew p 2 _ _ hG1
    have hG2 := heap_setCell_same W.drew p 2 _ _ (.slice (some ⟨g, 0, none⟩) N N) hG1
    obtain ⟨X2, hX2⟩ : ∃ X2, W.drew.setCell ⟨p, 2, none⟩ (.slice (some ⟨g, 0, none⟩) N N) = X2 := ⟨_, rfl⟩
    have hS12 : Sole [p] W X2 := by rw [← hX2]; exact (Sole.drew W _).trans (Sole.setCell _ _ (by simp))
    rw [hX2] at hG2
    have hG2' : X2.heap[p]? = some (.cells (dlC s.most b (.slice (some ⟨g, 0, none⟩) N N)) 73 (0, 0)) := hG2
    have HG2 : Hid _ := hG2'
    have HKD2 : Hid (X2.heap[D]? = some (.deferred (some []))) := (hS12.block D (Array.getElem?_eq_some_iff.1 hK).1 (by simpa using hDp)).trans hK
    have HX2 : Hid (Sole [p] W X2) := hS12
    have HK1 : Hid (DlAt W p b (.slice (some ⟨g, 0, none⟩) N N) s) := k1
    have HK2 : Hid (Sole [b] w3 W) := k2
    have cd := hdl W.drew
    clear hG2 hG2' hS12 k1 k2 hK hdl hseq hrow3 hrow0
    go_wp2_with fail
    refine wp_region_noPanic ?_
    refine wp_region_sink 14 (S := fun X => Below W.heap.size W X) (by kernel_rfl) (by kernel_rfl) (Below.refl _ _).drew (fun hHeld => ?_)
    refine wpAnyH_take (i := 0) (v := .pointer (some ⟨p, 0, none⟩)) rfl (by kernel_rfl) (by kernel_rfl) (by kernel_rfl) (fun _ _ _ h => h) (yields_load (by rfl) _ _ rfl _ rfl _ (fun W h => load39 (q2 W h))) (by assumption) ?_
    try simp only [List.getElem_toArray, List.getElem_cons_zero, List.getElem_cons_succ, Act.put, List.setIfInBounds_toArray, List.set_cons_zero, List.set_cons_succ]
    refine wpAnyH_take (i := 1) (v := .pointer (some ⟨p, 0, none⟩)) rfl (by kernel_rfl) (by kernel_rfl) (by kernel_rfl) (fun _ _ _ h => h) (yields_load (by rfl) _ _ rfl _ rfl _ (fun W h => load39 (q2 W h))) (by assumption) ?_
    try simp only [List.getElem_toArray, List.getElem_cons_zero, List.getElem_cons_succ, Act.put, List.setIfInBounds_toArray, List.set_cons_zero, List.set_cons_succ]
    refine wpAnyH_take (i := 2) (v := .pointer (some ⟨p, 0, none⟩)) rfl (by kernel_rfl) (by kernel_rfl) (by kernel_rfl) (fun _ _ _ h => h) (Or.inl ⟨by rfl, fun W hSw => by (try dsimp only at hSw); go_simp⟩) (by assumption) ?_
    try simp only [List.getElem_toArray, List.getElem_cons_zero, List.getElem_cons_succ, Act.put, List.setIfInBounds_toArray, List.set_cons_zero, List.set_cons_succ]
    refine wpAnyH_take (i := 3) (v := .pointer (some ⟨p, 2, none⟩)) rfl (by kernel_rfl) (by kernel_rfl) (by kernel_rfl) (fun _ _ _ h => h) (Or.inl ⟨by rfl, fun W hSw => by (try dsimp only at hSw); go_simp⟩) (by assumption) ?_
    try simp only [List.getElem_toArray, List.getElem_cons_zero, List.getElem_cons_succ, Act.put, List.setIfInBounds_toArray, List.set_cons_zero, List.set_cons_succ]
    refine wpAnyH_take (i := 4) (v := .slice (some ⟨g, 0, none⟩) N N) rfl (by kernel_rfl) (by kernel_rfl) (by kernel_rfl) (fun _ _ _ h => h) (yields_load (by rfl) _ _ rfl _ rfl _ (fun W h => load2_row (q1 W h))) (by assumption) ?_
    try simp only [List.getElem_toArray, List.getElem_cons_zero, List.getElem_cons_succ, Act.put, List.setIfInBounds_toArray, List.set_cons_zero, List.set_cons_succ]
    refine wpAnyH_take (i := 5) (v := .int .i64 N) rfl (by kernel_rfl) (by kernel_rfl) (by kernel_rfl) (fun _ _ _ h => h) (Or.inl ⟨by rfl, fun W hSw => by (try dsimp only at hSw); go_simp⟩) (by assumption) ?_
    try simp only [List.getElem_toArray, List.getElem_cons_zero, List.getElem_cons_succ, Act.put, List.setIfInBounds_toArray, List.set_cons_zero, List.set_cons_succ]
    refine wpAnyH_take (i := 6) (v := .pointer (some ⟨p, 0, none⟩)) rfl (by kernel_rfl) (by kernel_rfl) (by kernel_rfl) (fun _ _ _ h => h) (yields_load (by rfl) _ _ rfl _ rfl _ (fun W h => load39 (q2 W h))) (by assumption) ?_
    try simp only [List.getElem_toArray, List.getElem_cons_zero, List.getElem_cons_succ, Act.put, List.setIfInBounds_toArray, List.set_cons_zero, List.set_cons_succ]
    refine wpAnyH_take (i := 7) (v := .pointer (some ⟨p, 0, none⟩)) rfl (by kernel_rfl) (by kernel_rfl) (by kernel_rfl) (fun _ _ _ h => h) (Or.inl ⟨by rfl, fun W hSw => by (try dsimp only at hSw); go_simp⟩) (by assumption) ?_
    try simp only [List.getElem_toArray, List.getElem_cons_zero, List.getElem_cons_succ, Act.put, List.setIfInBounds_toArray, List.set_cons_zero, List.set_cons_succ]
    refine wpAnyH_take (i := 8) (v := .pointer (some ⟨p, 2, none⟩)) rfl (by kernel_rfl) (by kernel_rfl) (by kernel_rfl) (fun _ _ _ h => h) (Or.inl ⟨by rfl, fun W hSw => by (try dsimp only at hSw); go_simp⟩) (by assumption) ?_
    try simp only [List.getElem_toArray, List.getElem_cons_zero, List.getElem_cons_succ, Act.put, List.setIfInBounds_toArray, List.set_cons_zero, List.set_cons_succ]
    refine wpAnyH_take (i := 9) (v := .slice (some ⟨g, 0, none⟩) N N) rfl (by kernel_rfl) (by kernel_rfl) (by kernel_rfl) (fun _ _ _ h => h) (yields_load (by rfl) _ _ rfl _ rfl _ (fun W h => load2_row (q1 W h))) (by assumption) ?_
    try simp only [List.getElem_toArray, List.getElem_cons_zero, List.getElem_cons_succ, Act.put, List.setIfInBounds_toArray, List.set_cons_zero, List.set_cons_succ]
    refine wpAnyH_take (i := 10) (v := .int .i64 N) rfl (by kernel_rfl) (by kernel_rfl) (by kernel_rfl) (fun _ _ _ h => h) (Or.inl ⟨by rfl, fun W hSw => by (try dsimp only at hSw); go_simp⟩) (by assumption) ?_
    try simp only [List.getElem_toArray, List.getElem_cons_zero, List.getElem_cons_succ, Act.put, List.setIfInBounds_toArray, List.set_cons_zero, List.set_cons_succ]
    refine wpAnyH_ready (rs := [11]) (by kernel_rfl) (by simp) ?_
    refine AllReadyH.cons rfl (fun K hK => ?_) AllReadyH.nil
    go_simp
    go_wp2_with (go_at_call 38; refine cd.mono ?_; rintro e X1 ⟨rfl, rfl⟩)
    refine hK.out _ _ hHeld (fun hHeld2 => ?_)
    clear hK K
    try simp only [List.getElem_toArray, List.getElem_cons_zero, List.getElem_cons_succ, Act.put, List.setIfInBounds_toArray, List.set_cons_zero, List.set_cons_succ]
    refine wpAnyH_take (i := 12) (v := .pointer (some ⟨p, 0, none⟩)) rfl (by kernel_rfl) (by kernel_rfl) (by kernel_rfl) (fun _ _ _ h => h) (Or.inl ⟨by rfl, fun W hSw => by (try dsimp only at hSw); go_simp⟩) (by assumption) ?_
    try simp only [List.getElem_toArray, List.getElem_cons_zero, List.getElem_cons_succ, Act.put, List.setIfInBounds_toArray, List.set_cons_zero, List.set_cons_succ]
    refine wpAnyH_take (i := 13) (v := .pointer (some ⟨p, 2, none⟩)) rfl (by kernel_rfl) (by kernel_rfl) (by kernel_rfl) (fun _ _ _ h => h) (Or.inl ⟨by rfl, fun W hSw => by (try dsimp only at hSw); go_simp⟩) (by assumption) ?_
    try simp only [List.getElem_toArray, List.getElem_cons_zero, List.getElem_cons_succ, Act.put, List.setIfInBounds_toArray, List.set_cons_zero, List.set_cons_succ]
    refine wpAnyH_done (by kernel_rfl) ?_ _
    refine Behind.run (by rfl) ?_
    go_simp
    go_wp2
    refine NoPanic.normal ?_
    clear q1 q2 hG1 c12 f12 hHeld hHeld2 cd
    go_wp2
    refine ⟨by simp, .inl ⟨_, _, rfl, run_takeDeferred HKD2.out, ?_⟩⟩
    have a1 := HX2.out
    have a3 := HK2.out
    have s3 := a3.size
    have s1 := a1.size
    have e9 : (X2.putObj D (.deferred none)).heap.size = X2.heap.size := by simp
    refine ⟨_, results_tmp rfl _ _ _, rfl, ?_, ?_⟩
    · have k1 := HK1.out
      refine k1.keep3 (by rw [e9]; exact s1) ((World.putObj_heap_other (Ne.symm hDp)).trans (HG2.out.trans k1.row.symm)) ((World.putObj_heap_other (Ne.symm hDb)).trans (a1.block b k1.mp.lt (by simpa using hbp))) (fun q hq => ?_)
      obtain ⟨cs, e1⟩ := own_row k1.pus hq
      exact (World.putObj_heap_other (hDv q hq)).trans (a1.block q (Array.getElem?_eq_some_iff.1 e1).1 (by simpa using ne_of_type e1 k1.row (by decide)))
    · exact ⟨a1.os.trans (a3.os.trans (hb3.os.trans hb1.os)), a1.tape.trans (a3.tape.trans (hb3.tape.trans hb1.tape)), a1.output.trans (a3.output.trans (hb3.output.trans hb1.output)), by rw [e9]; omega, fun k hk h1 h2 h3 => (World.putObj_heap_other (by omega)).trans ((a1.block k (by omega) (by simpa using h1)).trans ((a3.block k (by omega) (by simpa using h2)).trans ((hb3.block k (by omega)).trans (hb1.block k hk)))), fun k hk => .inl hk⟩
  case stop =>
    rintro D c pre W _ _ h _
    exact h.elim

set_option maxHeartbeats 8000000 in
theorem undo_c {w : World} {p b : Nat} {s : Dl} (hNe : s.pus.length = 0) (h : DlAt w p b (.slice none 0 0) s) : Calls Try.prog 17 #[.pointer (some ⟨p, 0, none⟩), .int .i64 0] w fun e w' => e = .returned (.int .i64 0) ∧ DlAt w' p b (.slice none 0 0) s ∧ KeepQ p b (.slice none 0 0) w w' (.slice none 0 0) := by
  have hrow0 := heap_alloc_new w (.cells #[.pointer (some ⟨p, 0, none⟩)] 39)
  have hb1 : Below w.heap.size w (w.alloc (.cells #[.pointer (some ⟨p, 0, none⟩)] 39)) := (Below.refl _ w).alloc (Nat.le_refl _) _
  have hc1 : (w.alloc (.cells #[.pointer (some ⟨p, 0, none⟩)] 39)).cell? ⟨w.heap.size, 0, none⟩ = some (.pointer (some ⟨p, 0, none⟩)) := by rw [cell_of_row _ _ _ _ _ (0, 0) (heap_alloc_new w _)]; rfl
  have hD1 := h.below hb1
  have hmk := dmark_any hD1
  have c2 := hD1.c2
  obtain ⟨w1, hw1⟩ : ∃ w1, w.alloc (.cells #[.pointer (some ⟨p, 0, none⟩)] 39) = w1 := ⟨_, rfl⟩
  rw [hw1] at hb1 hc1 hmk hD1 c2 hrow0
  have hpw := h.lt
  have hbw := h.mp.lt
  have hvw : ∀ q, (.slice none 0 0 : Value).ownBlock = some q → q < w.heap.size := fun q hq => (World.ownsRow.lt h.pus q hq).2
  have hs1 := hb1.size
  have hbp := h.bp
  have hlw1 := (Array.getElem?_eq_some_iff.1 hrow0).1
  have hdl := fun W => delPu_id W none 0 0 (fun _ => rfl) (Nat.le_refl _) (Nat.zero_le _)
  rw [hNe] at hmk
  clear hNe h
  have hs3 : (w1.alloc (.cells #[.slice none 0 0] 71)).heap.size = w1.heap.size + 1 := by simp
  have hb3 : Below w1.heap.size w1 (w1.alloc (.cells #[.slice none 0 0] 71)) := (Below.refl _ w1).alloc (Nat.le_refl _) _
  have hD3 := hD1.below hb3
  have hc3 : (w1.alloc (.cells #[.slice none 0 0] 71)).cell? ⟨w1.heap.size, 0, none⟩ = some (.slice none 0 0) := by rw [cell_of_row _ _ _ _ _ (0, 0) (heap_alloc_new w1 _)]; rfl
  have hrow3 := (hb3.block w.heap.size hlw1).trans hrow0
  have hseq := back_stops 2 (by decide) w1.heap.size b (w1.heap.size + 1) (none) (0) [] (fun x hx => by cases hx) (w1.alloc (.cells #[.slice none 0 0] 71)) (by omega) (by omega) (by rw [hs3]; exact Nat.le_refl _) hc3 (by unfold maxLen at *; omega) (Nat.zero_le _) (Nat.zero_le _) (fun h => absurd h (by decide))
  have eg : ∀ args w, (callFunc 52 args).run Try.prog w = .ok (.enter 52 args) w := enters_of Try.func52 (by kernel_rfl) rfl
  refine (callsIn_wide (n := 3)).1 ?_
  refine callsIn_of_wp_marks Try.func17 rfl trivial ?_ rfl
  refine wpIn_wide.2 ?_
  simp only [Try.ntmps17, List.size_toArray, List.length_cons, List.length_nil, Nat.reduceAdd, Nat.reduceSub, Array.replicate_succ, Array.replicate_zero, List.push_toArray, List.append_toArray, List.nil_append, List.cons_append]
  go_wp2_with fail
  refine hmk.mono ?_
  rintro e w2 ⟨rfl, rfl⟩
  go_wp2_with fail
  refine (backward_any _ _ _ _).mono ?_
  rintro e w3' ⟨rfl, rfl⟩
  go_wp2_with fail
  refine (wpIn_wide (n := 3)).1 ?_
  obtain ⟨w3, hw3⟩ : ∃ w3, w1.alloc (.cells #[.slice none 0 0] 71) = w3 := ⟨_, rfl⟩
  rw [hw3] at hs3 hb3 hD3 hc3 hrow3 hseq ⊢
  clear hw3 hc3 hmk c2 hc1 hw1
  have hz := zeroPu
  refine wpIn_rangeFunc_ownH rfl (by decide) (gf := 52) (lb := #[.pointer (some ⟨w1.heap.size, 0, none⟩)]) rfl trivial eg hseq KeepB.t (KeepB.b (by omega)) (Below.refl _ _) (fun _ => rfl)
    (fun pre W => DlAt W p b (.slice none 0 0) s ∧ Sole [b] w3 W ∧ pre.length = 0)
    (fun _ _ _ => False)
    (fun pre A B row ⟨k1, k2, k0⟩ hg hr => by
      have hlo : ∀ k, k < w3.heap.size → B.heap[k]? = A.heap[k]? := fun k hk => hg.block k (Nat.lt_of_lt_of_le hk k2.size) (fun e => by have := (hr k e.symm).1; omega)
      exact ⟨k1.keep3 hg.size (hlo p (by omega)) (hlo b (by omega)) (fun q hq => hlo q (by have := hvw q hq; omega)), k2.after (S' := row.toList) ⟨hg.os, hg.tape, hg.output, hg.size, fun k hk hn => hg.block k hk (fun e => hn (by rw [Option.mem_toList]; exact e.symm))⟩ (fun k hk => by rw [Option.mem_toList] at hk; exact .inr (hr k hk).1), k0⟩)
    (fun _ _ _ _ _ hs _ _ => hs)
    ⟨hD3, Sole.refl _ _, rfl⟩
    (fun x a' W => True)
    (fun x a' _ _ _ _ _ _ _ => trivial) ?assign ?body ?done ?stop
  case assign =>
    rintro l pre x W K ⟨k1, k2, k0⟩ hK
    have hn := heap_alloc_new W (.cells (puC pu0) 76)
    have hb := alloc_row (A := W) (.cells (puC pu0) 76) (puC x.x)
    obtain ⟨W1, hW1⟩ : ∃ W1, (W.alloc (.cells (puC pu0) 76)).setRow W.heap.size (puC x.x) = W1 := ⟨_, rfl⟩
    rw [hW1] at hb
    have hg : W.grownBy W1 none := ⟨hb.os, hb.tape, hb.output, hb.size, fun k hk _ => hb.block k hk⟩
    have hko : KeepsOthers W W1 := KeepsOthers.of_grownBy hg (fun j o ej => by cases ej)
    gi_wp2_with (refine wpListIn_storeS rfl 76 _ _ rfl W.heap.size (puC x.x) rfl rfl 76 (puC pu0) hn (by rw [puC_size x.ok]; exact size_pu) (by rw [puC_size x.ok, puC_size pu0_ok]) (one_pu _) ?_; rw [hW1])
    have hks := k2.size
    exact hK _ _ (hko.from _) ⟨hb.size, fun k hk _ => hb.block k (by omega)⟩ ⟨k1.below hb, k2.trans (Sole.of_below hb _), k0⟩ trivial
  case body =>
    rintro l pre x a' W hl0 hrec k1 k2 hlen
    exact absurd hlen (by simp)
  case done =>
    rintro D ys W hD hys ⟨k1, k2, _⟩ hK
    have hks := k2.size
    have hrowW := (k2.block w.heap.size (by omega) (by simp; omega)).trans hrow3
    have hrowP := k1.row
    have hlp := k1.lt
    have hDp : D ≠ p := fun e => by rw [e, hrowP] at hK; cases hK
    have hDb : D ≠ b := fun e => by
      obtain ⟨x, cl, hm⟩ := k1.mp.isMap
      rw [e, hm] at hK; cases hK
    have hDv : ∀ q, (.slice none 0 0 : Value).ownBlock = some q → q ≠ D := fun q hq e => by
      obtain ⟨cs, e1⟩ := own_row k1.pus hq
      rw [e, hK] at e1; cases e1
    have q1 : ∀ X, Below W.heap.size W X → X.heap[p]? = some (.cells (dlC s.most b (.slice none 0 0)) 73 (0, 0)) := fun X hX => (hX.block p hlp).trans hrowP
    have q2 : ∀ X, Below W.heap.size W X → X.heap[w.heap.size]? = some (.cells #[.pointer (some ⟨p, 0, none⟩)] 39 (0, 0)) := fun X hX => (hX.block w.heap.size (by omega)).trans hrowW
    have hG1 : W.drew.heap[p]? = some (.cells (dlC s.most b (.slice none 0 0)) 73 (0, 0)) := hrowP
    have c12 : W.drew.cell? ⟨p, 2, none⟩ = some (.slice none 0 0) := by rw [cell_of_row _ _ _ _ _ (0, 0) hG1]; rfl
    have f12 := frozen_of_row W.drew p 2 _ _ hG1
    have hG2 := heap_setCell_same W.drew p 2 _ _ (.slice none 0 0) hG1
    obtain ⟨X2, hX2⟩ : ∃ X2, W.drew.setCell ⟨p, 2, none⟩ (.slice none 0 0) = X2 := ⟨_, rfl⟩
    have hS12 : Sole [p] W X2 := by rw [← hX2]; exact (Sole.drew W _).trans (Sole.setCell _ _ (by simp))
    rw [hX2] at hG2
    have hG2' : X2.heap[p]? = some (.cells (dlC s.most b (.slice none 0 0)) 73 (0, 0)) := hG2
    have HG2 : Hid _ := hG2'
    have HKD2 : Hid (X2.heap[D]? = some (.deferred (some []))) := (hS12.block D (Array.getElem?_eq_some_iff.1 hK).1 (by simpa using hDp)).trans hK
    have HX2 : Hid (Sole [p] W X2) := hS12
    have HK1 : Hid (DlAt W p b (.slice none 0 0) s) := k1
    have HK2 : Hid (Sole [b] w3 W) := k2
    have cd := hdl W.drew
    clear hG2 hG2' hS12 k1 k2 hK hdl hseq hrow3 hrow0
    go_wp2_with fail
    refine wp_region_noPanic ?_
    refine wp_region_sink 14 (S := fun X => Below W.heap.size W X) (by kernel_rfl) (by kernel_rfl) (Below.refl _ _).drew (fun hHeld => ?_)
    refine wpAnyH_take (i := 0) (v := .pointer (some ⟨p, 0, none⟩)) rfl (by kernel_rfl) (by kernel_rfl) (by kernel_rfl) (fun _ _ _ h => h) (yields_load (by rfl) _ _ rfl _ rfl _ (fun W h => load39 (q2 W h))) (by assumption) ?_
    try simp only [List.getElem_toArray, List.getElem_cons_zero, List.getElem_cons_succ, Act.put, List.setIfInBounds_toArray, List.set_cons_zero, List.set_cons_succ]
    refine wpAnyH_take (i := 1) (v := .pointer (some ⟨p, 0, none⟩)) rfl (by kernel_rfl) (by kernel_rfl) (by kernel_rfl) (fun _ _ _ h => h) (yields_load (by rfl) _ _ rfl _ rfl _ (fun W h => load39 (q2 W h))) (by assumption) ?_
    try simp only [List.getElem_toArray, List.getElem_cons_zero, List.getElem_cons_succ, Act.put, List.setIfInBounds_toArray, List.set_cons_zero, List.set_cons_succ]
    refine wpAnyH_take (i := 2) (v := .pointer (some ⟨p, 0, none⟩)) rfl (by kernel_rfl) (by kernel_rfl) (by kernel_rfl) (fun _ _ _ h => h) (Or.inl ⟨by rfl, fun W hSw => by (try dsimp only at hSw); go_simp⟩) (by assumption) ?_
    try simp only [List.getElem_toArray, List.getElem_cons_zero, List.getElem_cons_succ, Act.put, List.setIfInBounds_toArray, List.set_cons_zero, List.set_cons_succ]
    refine wpAnyH_take (i := 3) (v := .pointer (some ⟨p, 2, none⟩)) rfl (by kernel_rfl) (by kernel_rfl) (by kernel_rfl) (fun _ _ _ h => h) (Or.inl ⟨by rfl, fun W hSw => by (try dsimp only at hSw); go_simp⟩) (by assumption) ?_
    try simp only [List.getElem_toArray, List.getElem_cons_zero, List.getElem_cons_succ, Act.put, List.setIfInBounds_toArray, List.set_cons_zero, List.set_cons_succ]
    refine wpAnyH_take (i := 4) (v := .slice none 0 0) rfl (by kernel_rfl) (by kernel_rfl) (by kernel_rfl) (fun _ _ _ h => h) (yields_load (by rfl) _ _ rfl _ rfl _ (fun W h => load2_row (q1 W h))) (by assumption) ?_
    try simp only [List.getElem_toArray, List.getElem_cons_zero, List.getElem_cons_succ, Act.put, List.setIfInBounds_toArray, List.set_cons_zero, List.set_cons_succ]
    refine wpAnyH_take (i := 5) (v := .int .i64 0) rfl (by kernel_rfl) (by kernel_rfl) (by kernel_rfl) (fun _ _ _ h => h) (Or.inl ⟨by rfl, fun W hSw => by (try dsimp only at hSw); go_simp⟩) (by assumption) ?_
    try simp only [List.getElem_toArray, List.getElem_cons_zero, List.getElem_cons_succ, Act.put, List.setIfInBounds_toArray, List.set_cons_zero, List.set_cons_succ]
    refine wpAnyH_take (i := 6) (v := .pointer (some ⟨p, 0, none⟩)) rfl (by kernel_rfl) (by kernel_rfl) (by kernel_rfl) (fun _ _ _ h => h) (yields_load (by rfl) _ _ rfl _ rfl _ (fun W h => load39 (q2 W h))) (by assumption) ?_
    try simp only [List.getElem_toArray, List.getElem_cons_zero, List.getElem_cons_succ, Act.put, List.setIfInBounds_toArray, List.set_cons_zero, List.set_cons_succ]
    refine wpAnyH_take (i := 7) (v := .pointer (some ⟨p, 0, none⟩)) rfl (by kernel_rfl) (by kernel_rfl) (by kernel_rfl) (fun _ _ _ h => h) (Or.inl ⟨by rfl, fun W hSw => by (try dsimp only at hSw); go_simp⟩) (by assumption) ?_
    try simp only [List.getElem_toArray, List.getElem_cons_zero, List.getElem_cons_succ, Act.put, List.setIfInBounds_toArray, List.set_cons_zero, List.set_cons_succ]
    refine wpAnyH_take (i := 8) (v := .pointer (some ⟨p, 2, none⟩)) rfl (by kernel_rfl) (by kernel_rfl) (by kernel_rfl) (fun _ _ _ h => h) (Or.inl ⟨by rfl, fun W hSw => by (try dsimp only at hSw); go_simp⟩) (by assumption) ?_
    try simp only [List.getElem_toArray, List.getElem_cons_zero, List.getElem_cons_succ, Act.put, List.setIfInBounds_toArray, List.set_cons_zero, List.set_cons_succ]
    refine wpAnyH_take (i := 9) (v := .slice none 0 0) rfl (by kernel_rfl) (by kernel_rfl) (by kernel_rfl) (fun _ _ _ h => h) (yields_load (by rfl) _ _ rfl _ rfl _ (fun W h => load2_row (q1 W h))) (by assumption) ?_
    try simp only [List.getElem_toArray, List.getElem_cons_zero, List.getElem_cons_succ, Act.put, List.setIfInBounds_toArray, List.set_cons_zero, List.set_cons_succ]
    refine wpAnyH_take (i := 10) (v := .int .i64 0) rfl (by kernel_rfl) (by kernel_rfl) (by kernel_rfl) (fun _ _ _ h => h) (Or.inl ⟨by rfl, fun W hSw => by (try dsimp only at hSw); go_simp⟩) (by assumption) ?_
    try simp only [List.getElem_toArray, List.getElem_cons_zero, List.getElem_cons_succ, Act.put, List.setIfInBounds_toArray, List.set_cons_zero, List.set_cons_succ]
    refine wpAnyH_ready (rs := [11]) (by kernel_rfl) (by simp) ?_
    refine AllReadyH.cons rfl (fun K hK => ?_) AllReadyH.nil
    go_simp
    go_wp2_with (go_at_call 38; refine cd.mono ?_; rintro e X1 ⟨rfl, rfl⟩)
    refine hK.out _ _ hHeld (fun hHeld2 => ?_)
    clear hK K
    try simp only [List.getElem_toArray, List.getElem_cons_zero, List.getElem_cons_succ, Act.put, List.setIfInBounds_toArray, List.set_cons_zero, List.set_cons_succ]
    refine wpAnyH_take (i := 12) (v := .pointer (some ⟨p, 0, none⟩)) rfl (by kernel_rfl) (by kernel_rfl) (by kernel_rfl) (fun _ _ _ h => h) (Or.inl ⟨by rfl, fun W hSw => by (try dsimp only at hSw); go_simp⟩) (by assumption) ?_
    try simp only [List.getElem_toArray, List.getElem_cons_zero, List.getElem_cons_succ, Act.put, List.setIfInBounds_toArray, List.set_cons_zero, List.set_cons_succ]
    refine wpAnyH_take (i := 13) (v := .pointer (some ⟨p, 2, none⟩)) rfl (by kernel_rfl) (by kernel_rfl) (by kernel_rfl) (fun _ _ _ h => h) (Or.inl ⟨by rfl, fun W hSw => by (try dsimp only at hSw); go_simp⟩) (by assumption) ?_
    try simp only [List.getElem_toArray, List.getElem_cons_zero, List.getElem_cons_succ, Act.put, List.setIfInBounds_toArray, List.set_cons_zero, List.set_cons_succ]
    refine wpAnyH_done (by kernel_rfl) ?_ _
    refine Behind.run (by rfl) ?_
    go_simp
    go_wp2
    refine NoPanic.normal ?_
    clear q1 q2 hG1 c12 f12 hHeld hHeld2 cd
    go_wp2
    refine ⟨by simp, .inl ⟨_, _, rfl, run_takeDeferred HKD2.out, ?_⟩⟩
    have a1 := HX2.out
    have a3 := HK2.out
    have s3 := a3.size
    have s1 := a1.size
    have e9 : (X2.putObj D (.deferred none)).heap.size = X2.heap.size := by simp
    refine ⟨_, results_tmp rfl _ _ _, rfl, ?_, ?_⟩
    · have k1 := HK1.out
      refine k1.keep3 (by rw [e9]; exact s1) ((World.putObj_heap_other (Ne.symm hDp)).trans (HG2.out.trans k1.row.symm)) ((World.putObj_heap_other (Ne.symm hDb)).trans (a1.block b k1.mp.lt (by simpa using hbp))) (fun q hq => ?_)
      obtain ⟨cs, e1⟩ := own_row k1.pus hq
      exact (World.putObj_heap_other (hDv q hq)).trans (a1.block q (Array.getElem?_eq_some_iff.1 e1).1 (by simpa using ne_of_type e1 k1.row (by decide)))
    · exact ⟨a1.os.trans (a3.os.trans (hb3.os.trans hb1.os)), a1.tape.trans (a3.tape.trans (hb3.tape.trans hb1.tape)), a1.output.trans (a3.output.trans (hb3.output.trans hb1.output)), by rw [e9]; omega, fun k hk h1 h2 h3 => (World.putObj_heap_other (by omega)).trans ((a1.block k (by omega) (by simpa using h1)).trans ((a3.block k (by omega) (by simpa using h2)).trans ((hb3.block k (by omega)).trans (hb1.block k hk)))), fun k hk => .inl hk⟩
  case stop =>
    rintro D c pre W _ _ h _
    exact h.elim

def undoOk (s : Dl) (m : Int) : Prop := 0 ≤ m ∧ m ≤ s.pus.length
theorem dundo_any {w : World} {p b : Nat} {v : Value} {s : Dl} (h : DlAt w p b v s) (m : Nat) (hm : m ≤ s.pus.length) (hbd : s.L.length + s.pus.length ≤ 1000) : Calls Try.prog 17 #[.pointer (some ⟨p, 0, none⟩), .int .i64 m] w fun e w' => e = .returned (.int .i64 0) ∧ ∃ v', DlAt w' p b v' (undoS s m) ∧ KeepQ p b v w w' v' := by
  obtain ⟨hx, ⟨e, hn⟩ | ⟨g, cap, cur, e, hb, hg, h5, h6, h7, h8⟩⟩ := h.pus
  · subst e
    have hm0 : m = 0 := by omega
    subst hm0
    refine (undo_c hn h).mono ?_
    rintro e w' ⟨rfl, h1, h2⟩
    refine ⟨rfl, _, ?_, h2⟩
    have := undoS_all s
    rw [hn] at this
    rw [this]; exact h1
  · subst e
    by_cases hlt : m < s.pus.length
    · exact undo_row hlt h5 h6 rfl hbd h
    · have hme : m = s.pus.length := by omega
      subst hme
      rw [undoS_all]
      by_cases hc : cap = s.pus.length
      · subst hc
        refine (undo_b1 h6 rfl h).mono ?_
        rintro e w' ⟨rfl, h1, h2⟩
        exact ⟨rfl, _, h1, h2⟩
      · refine (undo_b2 hc h5 h6 rfl h).mono ?_
        rintro e w' ⟨rfl, h1, h2⟩
        exact ⟨rfl, _, h1, h2⟩

end Go.Proofs.Ytpbokenambjclaa
