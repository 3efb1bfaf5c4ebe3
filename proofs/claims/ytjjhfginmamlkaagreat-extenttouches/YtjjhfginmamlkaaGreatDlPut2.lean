/- The contract of delta.Put. -/
import Derived.Test.YtjjhfginmamlkaaGreatD4
import Derived.Test.YtjjhfginmamlkaaGreatM3
namespace Go.Proofs.YtjjhfginmamlkaaGreat
open Go.RowKit Go.Maps
set_option linter.unusedVariables false
set_option linter.unusedSimpArgs false
set_option maxRecDepth 100000

theorem info_pu : (Tryz.prog.info? 170).map (fun i => (i.zero, i.size, i.bytes)) = some (some (.agg (puC ⟨pl0, cg0, false⟩)), 51, 184) := by kernel_rfl
theorem info3 {t : TypeId} {z : Value} {n b : Nat} (h : (Tryz.prog.info? t).map (fun i => (i.zero, i.size, i.bytes)) = some (some z, n, b)) : ∃ i, Tryz.prog.info? t = some i ∧ i.zero = some z ∧ i.size = n ∧ i.bytes = b := by
  cases hq : Tryz.prog.info? t with
  | none => rw [hq] at h; cases h
  | some i =>
    rw [hq] at h
    simp only [Option.map_some, Option.some.injEq, Prod.mk.injEq] at h
    exact ⟨i, rfl, h.1, h.2.1, h.2.2⟩
theorem puL_one (x : Pu) : ∀ u ∈ puL x, u.oneCell' = true := by
  intro u hu
  unfold puL at hu
  rcases List.mem_append.1 hu with hu | hu
  · simp only [plCells, List.mem_cons, List.not_mem_nil, or_false] at hu
    rcases hu with rfl | rfl | rfl | rfl <;> rfl
  · rcases List.mem_append.1 hu with hu | hu
    · exact one_cgL _ u hu
    · rw [List.mem_singleton] at hu; subst hu; rfl
theorem load2_row {w : World} {p b : Nat} {v : Value} {m : Int} (h : w.heap[p]? = some (.cells (dlC m b v) 111 (0, 0))) : (Instr.loadAt 109 (.pointer (some ⟨p, 2, none⟩))).run Tryz.prog w = .ok v w := by
  have c : w.cell? ⟨p, 2, none⟩ = some v := by rw [cell_of_row _ _ _ _ _ (0, 0) h]; rfl
  have u := Tryz.underlying109
  go_simp
theorem alloc_row {A : World} (o : Obj) (z : Array Value) : Below A.heap.size A ((A.alloc o).setRow A.heap.size z) := below_setRow ((Below.refl _ A).alloc (Nat.le_refl _) o) (Nat.le_refl _) z
theorem ne_of_type {w : World} {k q : Nat} {e e' : TypeId} {cs cs' : Array Value} {fr fr' : Nat × Nat} (h : w.heap[k]? = some (.cells cs e fr)) (h' : w.heap[q]? = some (.cells cs' e' fr')) (he : e ≠ e') : k ≠ q := fun x => by
  rw [x, h'] at h
  simp only [Option.some.injEq, Obj.cells.injEq] at h
  exact he h.2.1.symm

theorem wp_buildS {w w' : World} {v : Value} {o : Oper} {a : Act} {K : Act → World → Prop} {Q : Exit → Act → World → Prop} (t : TypeId) (n : Nat) (parts : Array (Nat × Operand)) (ho : o.op = .buildSlice t n parts)
    (vs : Array (Nat × Value)) (hp : (parts.map fun (i, x) => (i, a.eval x)) = vs) (hr : (Instr.buildSlice t n vs).run Tryz.prog w = .ok v w') (h : K (a.put o.dst v) w') : o.wp Tryz.prog a w K Q := by
  unfold Oper.wp execOp
  simp only [ho, Sem.run_bind, Sem.run_pure, Result.andThen_ok, hp, hr]
  exact h

/-- What a Put leaves. -/
structure KeepQ (p b : Nat) (v : Value) (w w' : World) (v' : Value) : Prop where
  os : w'.os = w.os
  tape : w'.tape = w.tape
  output : w'.output = w.output
  size : w.heap.size ≤ w'.heap.size
  block : ∀ k, k < w.heap.size → k ≠ p → k ≠ b → v.ownBlock ≠ some k → w'.heap[k]? = w.heap[k]?
  own : ∀ k, v'.ownBlock = some k → v.ownBlock = some k ∨ w.heap.size ≤ k
theorem KeepQ.of_below {p b : Nat} {v : Value} {w w' : World} (h : Below w.heap.size w w') : KeepQ p b v w w' v := ⟨h.os, h.tape, h.output, h.size, fun k hk _ _ _ => h.block k hk, fun k hk => .inl hk⟩
theorem KeepQ.trans {p b : Nat} {v v' v'' : Value} {A B C : World} (h : KeepQ p b v A B v') (k : KeepQ p b v' B C v'') : KeepQ p b v A C v'' :=
  ⟨k.os.trans h.os, k.tape.trans h.tape, k.output.trans h.output, Nat.le_trans h.size k.size, fun i hi h1 h2 h3 => (k.block i (Nat.lt_of_lt_of_le hi h.size) h1 h2 (fun e => by rcases h.own i e with e' | e'; exact h3 e'; omega)).trans (h.block i hi h1 h2 h3),
   fun i hi => by
    rcases k.own i hi with e | e
    · exact h.own i e
    · exact .inr (Nat.le_trans h.size e)⟩
theorem KeepQ.keepD {p b : Nat} {v v' : Value} {w w' : World} {s : Dl} (h : KeepQ p b v w w' v') (hD : DlAt w p b v s) : KeepD b w w' :=
  ⟨h.os, h.tape, h.output, h.size, fun k hk hn => h.block k hk (fun e => hn (.inr (.inl ⟨dlC s.most b v, (0, 0), by rw [e]; exact hD.row⟩))) (fun e => hn (.inl e)) (fun e => hn (.inr (.inr (by obtain ⟨cs, e1⟩ := own_row hD.pus e; exact ⟨cs, _, e1⟩))))⟩
theorem KeepQ.below {p b B : Nat} {v v' : Value} {w w' : World} (h : KeepQ p b v w w' v') (hp : B ≤ p) (hb : B ≤ b) (hv : ∀ k, v.ownBlock = some k → B ≤ k) (hB : B ≤ w.heap.size) : Below B w w' ∧ ∀ k, v'.ownBlock = some k → B ≤ k :=
  ⟨⟨h.os, h.tape, h.output, h.size, fun k hk => h.block k (by omega) (by omega) (by omega) (fun e => by have := hv k e; omega)⟩, fun k hk => by
    rcases h.own k hk with e | e
    · exact hv k e
    · omega⟩

def PutOut (w : World) (p b : Nat) (v : Value) (s : Dl) (c : Cg) (w' : World) : Prop := ∃ v', DlAt w' p b v' (putS s c) ∧ KeepQ p b v w w' v'

set_option maxHeartbeats 8000000 in
theorem dput_any {w : World} {p b : Nat} {v : Value} {s : Dl} (h : DlAt w p b v s) (c : Cg) (hc : CgOk c) (hL : s.L.length ≤ 5000) (hP : s.pus.length ≤ 5000) : Calls Tryz.prog 65 #[.pointer (some ⟨p, 0, none⟩), .agg (cgC c)] w fun e w' =>
    e = .returned (.int .i64 (putX s c).2) ∧ PutOut w p b v s c w' := by
  have HB : Hid (c.pt.bytes.length = 32) := hc.pt.ch.1
  have hwas := getL_ok h.ok.L c.pl
  have HA : Hid ((wasX s c.pl).pt.bytes.length = 32) := hwas.pt.ch.1
  have HN : Hid ((putX s c).1.pt.bytes.length = 32) := (putX_ok h.ok hc).pt.ch.1
  have hz := zeroCg
  have al : ∀ (A : World) (o : Obj), Below A.heap.size A (A.alloc o) := fun A o => (Below.refl _ A).alloc (Nat.le_refl _) o
  have hc1 := CgAt.laid w c
  have hB1 := al w (.cells (cgC c) 94)
  have hD1 := h.below hB1
  obtain ⟨w1, hw1⟩ : ∃ w1, w.alloc (.cells (cgC c) 94) = w1 := ⟨_, rfl⟩
  rw [hw1] at hc1 hB1 hD1
  have hp1 : Hid _ := hc1.loadP
  go_enter Tryz.func65, Tryz.ntmps65
  go_wp2_with (refine wpList_loadG rfl 87 _ rfl _ rfl _ hp1.out ?_)
  refine (dget_any hD1 c.pl hc.pl).mono ?_
  rintro e w2 ⟨rfl, hb2⟩
  have hc2 := hc1.below hb2
  have hD2 := hD1.below hb2
  have hB2 := thenB hB1 hb2
  have hn2 := CgAt.laid w2 cg0
  have hb3 := alloc_row (A := w2) (.cells (cgC cg0) 94) (cgC (wasX s c.pl))
  have hg3 := hn2.setRow (wasX s c.pl)
  obtain ⟨w3, hw3⟩ : ∃ w3, (w2.alloc (.cells (cgC cg0) 94)).setRow w2.heap.size (cgC (wasX s c.pl)) = w3 := ⟨_, rfl⟩
  rw [hw3] at hb3 hg3
  have hc3 := hc2.below hb3
  have hD3 := hD2.below hb3
  have hB3 := thenB hB2 hb3
  have hl3 : Hid _ := hg3.load HA.out
  have hk3 : Hid _ := hc3.load HB.out
  go_wp2_with (first
    | (refine wpList_storeG rfl _ _ rfl w2.heap.size (wasX s c.pl) cg0 rfl rfl HA.out len0 hn2 ?_; rw [hw3])
    | (refine wpList_loadG rfl 94 _ rfl _ rfl _ hl3.out ?_)
    | (refine wpList_loadG rfl 94 _ rfl _ rfl _ hk3.out ?_))
  refine (behind_any hD3 (wasX s c.pl) c (isX s c.pl) hwas hc).mono ?_
  rintro e w4 ⟨rfl, hb4⟩
  rw [show behX s (wasX s c.pl) (isX s c.pl) c = putX s c from rfl]
  have hc4 := hc3.below hb4
  have hg4 := hg3.below hb4
  have hD4 := hD3.below hb4
  have hB4 := thenB hB3 hb4
  have hn4 := CgAt.laid w4 cg0
  have hb5 := alloc_row (A := w4) (.cells (cgC cg0) 94) (cgC (putX s c).1)
  have hx5 := hn4.setRow (putX s c).1
  obtain ⟨w5, hw5⟩ : ∃ w5, (w4.alloc (.cells (cgC cg0) 94)).setRow w4.heap.size (cgC (putX s c).1) = w5 := ⟨_, rfl⟩
  rw [hw5] at hb5 hx5
  have hc5 := hc4.below hb5
  have hg5 := hg4.below hb5
  have hD5 := hD4.below hb5
  have hB5 := thenB hB4 hb5
  have hK5 : KeepQ p b v w w5 v := KeepQ.of_below hB5
  obtain ⟨er, her⟩ : ∃ er, (putX s c).2 = er := ⟨_, rfl⟩
  have HE : Hid ((putX s c).2 = er) := her
  rw [her]
  clear her
  by_cases he : er = 0
  · subst he
    have HS : Hid (putS s c = ⟨s.most, setL s.L (putX s c).1, s.pus ++ [⟨c.pl, wasX s c.pl, isX s c.pl⟩]⟩) := by unfold Hid putS; rw [if_pos HE.out]
    have HPL : Hid ((putX s c).1.pl = c.pl) := putX_pl HE.out
    have hpok : PuOk ⟨c.pl, wasX s c.pl, isX s c.pl⟩ := ⟨hc.pl, hwas, fun hh => was_pl h.ok hh⟩
    obtain ⟨a0, cap0, rfl⟩ := h.shape
    obtain ⟨RB, hRB⟩ : ∃ RB, RB = (Value.slice a0 s.pus.length cap0).ownBlock.toList := ⟨_, rfl⟩
    have hRt : ∀ k ∈ RB, ∃ cs, w5.heap[k]? = some (.cells cs 170 (0, 0)) := fun k hk => by
      rw [hRB, Option.mem_toList] at hk; exact own_row hD5.pus hk
    have hr5 := hD5.row
    have n1 : ∀ k ∈ RB, k ≠ p := fun k hk => by obtain ⟨cs, e⟩ := hRt k hk; exact ne_of_type e hr5 (by decide)
    have n2 : ∀ k ∈ RB, k ≠ w.heap.size := fun k hk => by obtain ⟨cs, e⟩ := hRt k hk; exact ne_of_type e hc5.row (by decide)
    have n3 : ∀ k ∈ RB, k ≠ w2.heap.size := fun k hk => by obtain ⟨cs, e⟩ := hRt k hk; exact ne_of_type e hg5.row (by decide)
    have n4 : ∀ k ∈ RB, k ≠ w4.heap.size := fun k hk => by obtain ⟨cs, e⟩ := hRt k hk; exact ne_of_type e hx5.row (by decide)
    have n5 : ∀ k ∈ RB, k ≠ b := fun k hk e => by
      obtain ⟨cs, e1⟩ := hRt k hk
      obtain ⟨x, cl, e2⟩ := hD5.mp.isMap
      rw [e, e2] at e1; cases e1
    have q1 : ∀ W, Sole RB w5 W → W.heap[p]? = some (.cells (dlC s.most b (.slice a0 s.pus.length cap0)) 111 (0, 0)) := fun W hW => (hW.block p hD5.lt (fun hk => n1 p hk rfl)).trans hr5
    have q2 : ∀ W, Sole RB w5 W → CgAt W w.heap.size c := fun W hW => ⟨(hW.block _ hc5.lt (fun hk => n2 _ hk rfl)).trans hc5.row⟩
    have q3 : ∀ W, Sole RB w5 W → CgAt W w2.heap.size (wasX s c.pl) := fun W hW => ⟨(hW.block _ hg5.lt (fun hk => n3 _ hk rfl)).trans hg5.row⟩
    have q4 : ∀ W, Sole RB w5 W → CgAt W w4.heap.size (putX s c).1 := fun W hW => ⟨(hW.block _ hx5.lt (fun hk => n4 _ hk rfl)).trans hx5.row⟩
    have hbs := fun W => slice_pu ⟨c.pl, wasX s c.pl, isX s c.pl⟩ HA.out W
    obtain ⟨iP, hiP, hp0, hp1', hp2⟩ := info3 info_pu
    go_wp2_with (refine wpList_storeG rfl _ _ rfl w4.heap.size (putX s c).1 cg0 rfl rfl HN.out len0 hn4 ?_; rw [hw5])
    refine wp_region_noPanic ?_
    refine wp_region_sink 14 (S := fun W => Sole RB w5 W) (by kernel_rfl) (by kernel_rfl) (Sole.drew _ _) (fun hHeld => ?_)
    refine wpAnyH_take (i := 0) (v := .pointer (some ⟨p, 0, none⟩)) rfl (by kernel_rfl) (by kernel_rfl) (by kernel_rfl) (fun _ _ _ h => h) (Or.inl ⟨by rfl, fun W hSw => by (try dsimp only at hSw); go_simp⟩) (by assumption) ?_
    try simp only [List.getElem_toArray, List.getElem_cons_zero, List.getElem_cons_succ, Act.put, List.setIfInBounds_toArray, List.set_cons_zero, List.set_cons_succ]
    refine wpAnyH_take (i := 1) (v := .pointer (some ⟨p, 0, none⟩)) rfl (by kernel_rfl) (by kernel_rfl) (by kernel_rfl) (fun _ _ _ h => h) (Or.inl ⟨by rfl, fun W hSw => by (try dsimp only at hSw); go_simp⟩) (by assumption) ?_
    try simp only [List.getElem_toArray, List.getElem_cons_zero, List.getElem_cons_succ, Act.put, List.setIfInBounds_toArray, List.set_cons_zero, List.set_cons_succ]
    refine wpAnyH_take (i := 2) (v := .pointer (some ⟨p, 0, none⟩)) rfl (by kernel_rfl) (by kernel_rfl) (by kernel_rfl) (fun _ _ _ h => h) (Or.inl ⟨by rfl, fun W hSw => by (try dsimp only at hSw); go_simp⟩) (by assumption) ?_
    try simp only [List.getElem_toArray, List.getElem_cons_zero, List.getElem_cons_succ, Act.put, List.setIfInBounds_toArray, List.set_cons_zero, List.set_cons_succ]
    refine wpAnyH_take (i := 3) (v := .pointer (some ⟨p, 2, none⟩)) rfl (by kernel_rfl) (by kernel_rfl) (by kernel_rfl) (fun _ _ _ h => h) (Or.inl ⟨by rfl, fun W hSw => by (try dsimp only at hSw); go_simp⟩) (by assumption) ?_
    try simp only [List.getElem_toArray, List.getElem_cons_zero, List.getElem_cons_succ, Act.put, List.setIfInBounds_toArray, List.set_cons_zero, List.set_cons_succ]
    refine wpAnyH_take (i := 4) (v := .slice a0 s.pus.length cap0) rfl (by kernel_rfl) (by kernel_rfl) (by kernel_rfl) (fun _ _ _ h => h) (yields_load (by rfl) _ _ rfl _ rfl _ (fun W h => load2_row (q1 W h))) (by assumption) ?_
    try simp only [List.getElem_toArray, List.getElem_cons_zero, List.getElem_cons_succ, Act.put, List.setIfInBounds_toArray, List.set_cons_zero, List.set_cons_succ]
    refine wpAnyH_take (i := 5) (v := .pointer (some ⟨w.heap.size, 0, none⟩)) rfl (by kernel_rfl) (by kernel_rfl) (by kernel_rfl) (fun _ _ _ h => h) (Or.inl ⟨by rfl, fun W hSw => by (try dsimp only at hSw); go_simp⟩) (by assumption) ?_
    try simp only [List.getElem_toArray, List.getElem_cons_zero, List.getElem_cons_succ, Act.put, List.setIfInBounds_toArray, List.set_cons_zero, List.set_cons_succ]
    refine wpAnyH_take (i := 6) (v := plV c.pl) rfl (by kernel_rfl) (by kernel_rfl) (by kernel_rfl) (fun _ _ _ h => h) (yields_load (by rfl) _ _ rfl _ rfl _ (fun W h => (q2 W h).loadP)) (by assumption) ?_
    try simp only [List.getElem_toArray, List.getElem_cons_zero, List.getElem_cons_succ, Act.put, List.setIfInBounds_toArray, List.set_cons_zero, List.set_cons_succ]
    refine wpAnyH_take (i := 7) (v := .agg (cgC (wasX s c.pl))) rfl (by kernel_rfl) (by kernel_rfl) (by kernel_rfl) (fun _ _ _ h => h) (yields_load (by rfl) _ _ rfl _ rfl _ (fun W h => (q3 W h).load HA.out)) (by assumption) ?_
    try simp only [List.getElem_toArray, List.getElem_cons_zero, List.getElem_cons_succ, Act.put, List.setIfInBounds_toArray, List.set_cons_zero, List.set_cons_succ]
    refine wpAnyH_take (i := 8) (v := .bool (isX s c.pl)) rfl (by kernel_rfl) (by kernel_rfl) (by kernel_rfl) (fun _ _ _ h => h) (Or.inl ⟨by rfl, fun W hSw => by (try dsimp only at hSw); go_simp⟩) (by assumption) ?_
    try simp only [List.getElem_toArray, List.getElem_cons_zero, List.getElem_cons_succ, Act.put, List.setIfInBounds_toArray, List.set_cons_zero, List.set_cons_succ]
    refine wpAnyH_take (i := 9) (v := .agg (puC ⟨c.pl, wasX s c.pl, isX s c.pl⟩)) rfl (by kernel_rfl) (by kernel_rfl) (by kernel_rfl) (fun _ _ _ h => h) (yields_build (by rfl) 170 _ rfl [(0, plV c.pl), (1, .agg (cgC (wasX s c.pl))), (2, .bool (isX s c.pl))] (by kernel_rfl) _ (built_pu c.pl (wasX s c.pl) (isX s c.pl) HA.out)) (by assumption) ?_
    try simp only [List.getElem_toArray, List.getElem_cons_zero, List.getElem_cons_succ, Act.put, List.setIfInBounds_toArray, List.set_cons_zero, List.set_cons_succ]
    refine wpAnyH_ready (rs := [10]) (by kernel_rfl) (by simp) ?_
    refine AllReadyH.cons rfl (fun K hK => ?_) AllReadyH.nil
    rw [if_pos (by rfl)]
    refine wp_buildS 109 1 _ rfl #[(0, .agg (puC ⟨c.pl, wasX s c.pl, isX s c.pl⟩))] (by kernel_rfl) (hbs w5.drew) ?_
    have hS6 : Sole RB w5 (w5.drew.alloc (.cells (puC ⟨c.pl, wasX s c.pl, isX s c.pl⟩) 170)) := Sole.of_below ((Below.refl _ w5).drew.alloc (Nat.le_refl _) _) _
    refine hK.out _ _ hS6 (fun hHeld2 => ?_)
    clear hK K
    try simp only [List.getElem_toArray, List.getElem_cons_zero, List.getElem_cons_succ, Act.put, List.setIfInBounds_toArray, List.set_cons_zero, List.set_cons_succ]
    have hb6 : Below w5.heap.size w5 (w5.drew.alloc (.cells (puC ⟨c.pl, wasX s c.pl, isX s c.pl⟩) 170)) := (Below.refl _ w5).drew.alloc (Nat.le_refl _) _
    have hrow6 : (w5.drew.alloc (.cells (puC ⟨c.pl, wasX s c.pl, isX s c.pl⟩) 170)).heap[w5.heap.size]? = some (.cells (puC ⟨c.pl, wasX s c.pl, isX s c.pl⟩) 170 (0, 0)) := heap_alloc_new _ _
    have hsz6 : w5.heap.size < (w5.drew.alloc (.cells (puC ⟨c.pl, wasX s c.pl, isX s c.pl⟩) 170)).heap.size := (Array.getElem?_eq_some_iff.1 hrow6).1
    obtain ⟨w6, hw6⟩ : ∃ w6, (w5.drew.alloc (.cells (puC ⟨c.pl, wasX s c.pl, isX s c.pl⟩) 170)) = w6 := ⟨_, rfl⟩
    rw [hw6] at hb6 hrow6 hS6 hHeld2 hsz6 ⊢
    have hO6 := own_keep hD5.pus hb6.size (fun q _ hl => hb6.block q hl)
    refine wpAnyH_ready (rs := [11]) (by kernel_rfl) (by simp) ?_
    refine AllReadyH.cons rfl (fun K' hK' => ?_) AllReadyH.nil
    rw [if_pos (by rfl)]
    obtain ⟨v7, w7, hrun, h7o, h7g, _, h7a⟩ := run_append_own_at (P := Tryz.prog) w6 0 109 109 170 iP _ 51 184 Tryz.underlying109 hiP hp0 hp1' hp2 (by rw [show (Value.agg (puC ⟨pl0, cg0, false⟩)).cells = puC ⟨pl0, cg0, false⟩ from rfl]; exact puL_len ⟨pl0_ok, cg0_ok, fun e => by cases e⟩) (by decide) (.slice a0 s.pus.length cap0) s.pus.length (s.pus.flatMap puL) hO6 ⟨w5.heap.size, 0, none⟩ 1 1 (puL ⟨c.pl, wasX s c.pl, isX s c.pl⟩) (by rw [puL_len hpok]) (fun j u hu => by rw [show (⟨w5.heap.size, 0, none⟩ : Addr).add j = ⟨w5.heap.size, j, none⟩ by unfold Addr.add; split <;> simp_all]; rw [cell_of_row _ _ _ _ _ (0, 0) hrow6]; simpa [puC] using hu) (puL_one _) (by unfold maxLen; omega) (by omega) (Nat.zero_le _)
    obtain ⟨a7, cap7, rfl⟩ := own_shape h7o
    refine wp_app _ _ 109 rfl _ _ rfl rfl hrun ?_
    have hS67 : Sole RB w6 w7 := ⟨h7g.os, h7g.tape, h7g.output, h7g.size, fun k hk hn => h7g.block k hk (fun e => hn (by rw [hRB, Option.mem_toList]; exact e.symm))⟩
    have hS7 : Sole RB w5 w7 := hS6.trans hS67
    refine hK'.out _ _ hS7 (fun hHeld4 => ?_)
    clear hK' K'
    try simp only [List.getElem_toArray, List.getElem_cons_zero, List.getElem_cons_succ, Act.put, List.setIfInBounds_toArray, List.set_cons_zero, List.set_cons_succ]
    refine wpAnyH_take (i := 12) (v := .pointer (some ⟨p, 0, none⟩)) rfl (by kernel_rfl) (by kernel_rfl) (by kernel_rfl) (fun _ _ _ h => h) (Or.inl ⟨by rfl, fun W hSw => by (try dsimp only at hSw); go_simp⟩) (by assumption) ?_
    try simp only [List.getElem_toArray, List.getElem_cons_zero, List.getElem_cons_succ, Act.put, List.setIfInBounds_toArray, List.set_cons_zero, List.set_cons_succ]
    refine wpAnyH_take (i := 13) (v := .pointer (some ⟨p, 2, none⟩)) rfl (by kernel_rfl) (by kernel_rfl) (by kernel_rfl) (fun _ _ _ h => h) (Or.inl ⟨by rfl, fun W hSw => by (try dsimp only at hSw); go_simp⟩) (by assumption) ?_
    try simp only [List.getElem_toArray, List.getElem_cons_zero, List.getElem_cons_succ, Act.put, List.setIfInBounds_toArray, List.set_cons_zero, List.set_cons_succ]
    have hG7 := q1 w7 hS7
    have c72 : w7.cell? ⟨p, 2, none⟩ = some (.slice a0 s.pus.length cap0) := by rw [cell_of_row _ _ _ _ _ (0, 0) hG7]; rfl
    have f72 := frozen_of_row w7 p 2 _ _ hG7
    have hG8 := heap_setCell_same w7 p 2 _ _ (.slice a7 (s.pus.length + 1) cap7) hG7
    have hm7 : MpAt w7 b s.L := hD5.mp.keep (hS7.block b hD5.mp.lt (fun hk => n5 _ hk rfl))
    obtain ⟨w8, hw8⟩ : ∃ w8, w7.setCell ⟨p, 2, none⟩ (.slice a7 (s.pus.length + 1) cap7) = w8 := ⟨_, rfl⟩
    have hS78 : Sole [p] w7 w8 := by rw [← hw8]; exact Sole.setCell _ _ (by simp)
    rw [hw8] at hG8
    have hne7 : ∀ k, (Value.slice a7 (s.pus.length + 1) cap7).ownBlock = some k → k ≠ p := fun k hk => by
      obtain ⟨cs, e⟩ := own_row h7o hk; exact ne_of_type e hG7 (by decide)
    have hO8 : w8.ownsRow 0 170 51 (.slice a7 (s.pus.length + 1) cap7) (s.pus.length + 1) ((s.pus ++ [(⟨c.pl, wasX s c.pl, isX s c.pl⟩ : Pu)]).flatMap puL) := by
      rw [List.flatMap_append, List.flatMap_cons, List.flatMap_nil, List.append_nil]
      exact own_keep h7o hS78.size (fun k hk hl => hS78.block k hl (by have := hne7 k hk; simpa using this))
    have hbp := hD5.bp
    have hm8 : MpAt w8 b s.L := hm7.keep (hS78.block b hm7.lt (by simpa using hbp))
    have x1 := q2 w7 hS7
    have x2 := q4 w7 hS7
    have np1 : w.heap.size ≠ p := by have := h.lt; omega
    have np2 : w4.heap.size ≠ p := by have := h.lt; have := hB4.size; omega
    have hc8 : CgAt w8 w.heap.size c := ⟨(hS78.block _ x1.lt (by simpa using np1)).trans x1.row⟩
    have hx8 : CgAt w8 w4.heap.size (putX s c).1 := ⟨(hS78.block _ x2.lt (by simpa using np2)).trans x2.row⟩
    have hK8 : Sole (p :: RB) w w8 := ((Sole.of_below hB5 _).trans (hS7.mono fun k hk => List.mem_cons_of_mem _ hk)).trans (hS78.mono fun k hk => by rw [List.mem_singleton] at hk; subst hk; exact List.mem_cons_self)
    have HA7 : Hid (∀ k, (Value.slice a7 (s.pus.length + 1) cap7).ownBlock = some k → (Value.slice a0 s.pus.length cap0).ownBlock = some k ∨ w.heap.size ≤ k) := fun k hk => by
      rcases h7a with e | e
      · left; rw [← e]; exact hk
      · rw [hk] at e; cases e; right; have := hB5.size; have := hb6.size; omega
    have hG8' : w8.heap[p]? = some (.cells (dlC s.most b (.slice a7 (s.pus.length + 1) cap7)) 111 (0, 0)) := hG8
    have HG8 : Hid _ := hG8'
    have HO8 : Hid (w8.ownsRow 0 170 51 (.slice a7 (s.pus.length + 1) cap7) (s.pus.length + 1) ((s.pus ++ [(⟨c.pl, wasX s c.pl, isX s c.pl⟩ : Pu)]).flatMap puL)) := hO8
    have HK8 : Hid (Sole (p :: RB) w w8) := hK8
    have HM8 : Hid (MpAt w8 b s.L) := hm8
    refine wpAnyH_done (by kernel_rfl) ?_ _
    refine Behind.run (by rfl) ?_
    go_simp
    go_wp2
    refine NoPanic.normal ?_
    clear q1 q2 q3 q4 hrun h7o h7g h7a hO6 hG7 hG8 hG8' hO8 hK8 hm8 hm7 c72 f72 hS6 hS67 hS7 hS78 hHeld hHeld2 hHeld4 x1 x2
    have c81 : w8.cell? ⟨p, 1, none⟩ = some (.map (some b)) := by rw [cell_of_row _ _ _ _ _ (0, 0) HG8.out]; rfl
    obtain ⟨w9, hmu, hm9, ht9⟩ := (HM8.out.keep (w' := w8.drew) rfl).put h.ok.L (by unfold maxLen; omega) (putX_ok h.ok hc)
    rw [HPL.out] at hmu
    have hg9 := ht9.grown
    go_wp2_with fail
    refine wp_region_noPanic ?_
    refine wp_region_sink 7 (S := fun W => Below w8.heap.size w8 W) (by kernel_rfl) (by kernel_rfl) (Below.refl _ _).drew (fun hHeld => ?_)
    refine wpAnyH_take (i := 0) (v := .pointer (some ⟨p, 0, none⟩)) rfl (by kernel_rfl) (by kernel_rfl) (by kernel_rfl) (fun _ _ _ h => h) (Or.inl ⟨by rfl, fun W hSw => by (try dsimp only at hSw); go_simp⟩) (by assumption) ?_
    try simp only [List.getElem_toArray, List.getElem_cons_zero, List.getElem_cons_succ, Act.put, List.setIfInBounds_toArray, List.set_cons_zero, List.set_cons_succ]
    refine wpAnyH_take (i := 1) (v := .pointer (some ⟨p, 0, none⟩)) rfl (by kernel_rfl) (by kernel_rfl) (by kernel_rfl) (fun _ _ _ h => h) (Or.inl ⟨by rfl, fun W hSw => by (try dsimp only at hSw); go_simp⟩) (by assumption) ?_
    try simp only [List.getElem_toArray, List.getElem_cons_zero, List.getElem_cons_succ, Act.put, List.setIfInBounds_toArray, List.set_cons_zero, List.set_cons_succ]
    refine wpAnyH_take (i := 2) (v := .pointer (some ⟨p, 1, none⟩)) rfl (by kernel_rfl) (by kernel_rfl) (by kernel_rfl) (fun _ _ _ h => h) (Or.inl ⟨by rfl, fun W hSw => by (try dsimp only at hSw); go_simp⟩) (by assumption) ?_
    try simp only [List.getElem_toArray, List.getElem_cons_zero, List.getElem_cons_succ, Act.put, List.setIfInBounds_toArray, List.set_cons_zero, List.set_cons_succ]
    refine wpAnyH_take (i := 3) (v := .map (some b)) rfl (by kernel_rfl) (by kernel_rfl) (by kernel_rfl) (fun _ _ _ h => h) (Or.inl ⟨by rfl, fun W hSw => by (try dsimp only at hSw); have cc := (hSw.cell (p := ⟨p, 1, none⟩) (Array.getElem?_eq_some_iff.1 HG8.out).1).trans c81; go_simp⟩) (by assumption) ?_
    try simp only [List.getElem_toArray, List.getElem_cons_zero, List.getElem_cons_succ, Act.put, List.setIfInBounds_toArray, List.set_cons_zero, List.set_cons_succ]
    refine wpAnyH_take (i := 4) (v := .pointer (some ⟨w.heap.size, 0, none⟩)) rfl (by kernel_rfl) (by kernel_rfl) (by kernel_rfl) (fun _ _ _ h => h) (Or.inl ⟨by rfl, fun W hSw => by (try dsimp only at hSw); go_simp⟩) (by assumption) ?_
    try simp only [List.getElem_toArray, List.getElem_cons_zero, List.getElem_cons_succ, Act.put, List.setIfInBounds_toArray, List.set_cons_zero, List.set_cons_succ]
    refine wpAnyH_take (i := 5) (v := plV c.pl) rfl (by kernel_rfl) (by kernel_rfl) (by kernel_rfl) (fun _ _ _ h => h) (yields_load (by rfl) _ _ rfl _ rfl _ (fun W h => (hc8.below h).loadP)) (by assumption) ?_
    try simp only [List.getElem_toArray, List.getElem_cons_zero, List.getElem_cons_succ, Act.put, List.setIfInBounds_toArray, List.set_cons_zero, List.set_cons_succ]
    refine wpAnyH_take (i := 6) (v := .agg (cgC (putX s c).1)) rfl (by kernel_rfl) (by kernel_rfl) (by kernel_rfl) (fun _ _ _ h => h) (yields_load (by rfl) _ _ rfl _ rfl _ (fun W h => (hx8.below h).load HN.out)) (by assumption) ?_
    try simp only [List.getElem_toArray, List.getElem_cons_zero, List.getElem_cons_succ, Act.put, List.setIfInBounds_toArray, List.set_cons_zero, List.set_cons_succ]
    refine wpAnyH_done (by kernel_rfl) ?_ _
    refine Behind.run (by rfl) ?_
    go_simp
    go_wp2
    refine NoPanic.normal ?_
    go_wp2
    go_ret
    refine ⟨by rw [HE.out]; rfl, .slice a7 (s.pus.length + 1) cap7, ?_, ?_⟩
    · rw [HS.out]
      have hsz : w8.drew.heap.size ≤ w9.heap.size := hg9.size
      have hpl9 : w9.heap[p]? = w8.heap[p]? := hg9.block p (Array.getElem?_eq_some_iff.1 HG8.out).1 (fun e => hbp (by cases e; rfl))
      have hfin := own_keep HO8.out hsz (fun q hq hl => hg9.block q hl (fun e => by
          cases e
          obtain ⟨cs, e1⟩ := own_row HO8.out hq
          obtain ⟨x, cl, e2⟩ := HM8.out.isMap
          rw [e1] at e2; cases e2))
      have hlen : (s.pus ++ [(⟨c.pl, wasX s c.pl, isX s c.pl⟩ : Pu)]).length = s.pus.length + 1 := List.length_append
      refine ⟨hpl9.trans HG8.out, hm9, ?_, ?_⟩
      · dsimp only
        rw [hlen]
        exact hfin
      · have := putS_ok h.ok hc
        rwa [HS.out] at this
    · have k8 := HK8.out
      exact ⟨hg9.os.trans k8.os, hg9.tape.trans k8.tape, hg9.output.trans k8.output, Nat.le_trans k8.size hg9.size, fun k hk h1 h2 h3 => (hg9.block k (Nat.lt_of_lt_of_le hk k8.size) (fun e => h2 (by cases e; rfl))).trans (k8.block k hk (fun e => by rcases List.mem_cons.1 e with e | e; exact h1 e; rw [hRB, Option.mem_toList] at e; exact h3 e)), HA7.out⟩
  · have HS : Hid (putS s c = s) := by unfold Hid putS; rw [if_neg (by rw [HE.out]; exact he)]
    go_wp2_with (refine wpList_storeG rfl _ _ rfl w4.heap.size (putX s c).1 cg0 rfl rfl HN.out len0 hn4 ?_; rw [hw5])
    go_ret
    exact ⟨by rw [HE.out]; rfl, v, by rw [HS.out]; exact hD5, hK5⟩

end Go.Proofs.YtjjhfginmamlkaaGreat
