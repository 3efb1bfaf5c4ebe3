/- Over a store that may fail: an error is handed on, or all goes as over one that never fails (mathematics); the contract of the law's did. -/
import Derived.Test.YtkmckipfjahlcaaGreatInEr
namespace Go.Proofs.YtkmckipfjahlcaaGreat.L
open Go.RowKit Go.Maps
set_option linter.unusedVariables false
set_option linter.unusedSimpArgs false
set_option maxRecDepth 100000

theorem _root_.Go.Proofs.YtkmckipfjahlcaaGreat.IOpAt.c1 {w : World} {g : Nat} {d a b ino : Int} {fa : Option Addr} {fn fc : Nat} (h : IOpAt w g ⟨d, a, b, ino⟩ fa fn fc) : w.cell? ⟨g, 1, none⟩ = some (.int .i64 a) := h.cell 1 _ rfl
theorem _root_.Go.Proofs.YtkmckipfjahlcaaGreat.IOpAt.c2 {w : World} {g : Nat} {d a b ino : Int} {fa : Option Addr} {fn fc : Nat} (h : IOpAt w g ⟨d, a, b, ino⟩ fa fn fc) : w.cell? ⟨g, 2, none⟩ = some (.int .i64 b) := h.cell 2 _ rfl
theorem _root_.Go.Proofs.YtkmckipfjahlcaaGreat.IOpAt.c3 {w : World} {g : Nat} {d a b ino : Int} {fa : Option Addr} {fn fc : Nat} (h : IOpAt w g ⟨d, a, b, ino⟩ fa fn fc) : w.cell? ⟨g, 3, none⟩ = some (.int .u32 ino) := h.cell 3 _ rfl
theorem _root_.Go.Proofs.YtkmckipfjahlcaaGreat.IOpAt.c4 {w : World} {g : Nat} {d a b ino : Int} {fa : Option Addr} {fn fc : Nat} (h : IOpAt w g ⟨d, a, b, ino⟩ fa fn fc) : w.cell? ⟨g, 4, none⟩ = some (.slice fa fn fc) := h.cell 4 _ rfl
theorem fdS_d (s : Sg) (ino : Int) : (fdS s ino).d = s.d := (fdS_same s ino).1
theorem goneL_err : ∀ (ps : List Pl) {s t : Sg}, s.d = t.d → (goneL s ps).2 = (goneL t ps).2
  | [], s, t, h => rfl
  | p :: ps, s, t, h => by
    unfold goneL goneE
    rw [h]
    split
    · rfl
    · exact goneL_err ps (by show putS s.d (goneC p) = putS t.d (goneC p); rw [h])
theorem rmE_err (g : Sg × Int) (ino : Int) : (rmE g ino).2 = g.2 := by
  unfold rmE
  by_cases h : g.2 = 0
  · rw [if_neg (by simpa using h)]; exact h.symm
  · rw [if_pos h]
theorem rm_lf {s t : Sg} (hl : s.l = t.l) (hd : s.d = t.d) (ht : t.lf = -1) (hL : s.d.L = []) {ino : Int} (h0 : 0 ≤ ino) : (rmR s ino).2 = (rmR t ino).2 ∨ ((rmR s ino).2 = 70 ∧ (rmR s ino).1.lf = 0) := by
  by_cases hz : s.lf = 0 ∧ ino ≠ 0
  · obtain ⟨e1, e2⟩ := fd_fails hL hz.1 (show 0 < ino by omega)
    have e : rmR s ino = (fdS s ino, 70) := by unfold rmR rmF; rw [e1, if_pos (by decide)]
    rw [e]
    exact .inr ⟨rfl, e2⟩
  · have e := fd_lf hl hd ht (ino := ino) (by by_cases h : s.lf = 0; exact .inr (Classical.byContradiction fun h' => hz ⟨h, h'⟩); exact .inl h)
    refine .inl ?_
    unfold rmR rmF
    rw [e]
    split
    · rfl
    · rw [rmE_err, rmE_err]
      refine goneL_err _ ?_
      unfold rmB
      split
      · show (fdS s ino).d = (fdS t ino).d; rw [fdS_d, fdS_d, hd]
      · rw [fdS_d, fdS_d, hd]
theorem set_lf {s t : Sg} (hl : s.l = t.l) (hd : s.d = t.d) (ht : t.lf = -1) (hL : s.d.L = []) {ino : Int} (h0 : 0 ≤ ino) (fs : List (Int × Int)) : (setR s ino fs).2 = (setR t ino fs).2 ∨ ((setR s ino fs).2 = 70 ∧ (setR s ino fs).1.lf = 0) := by
  by_cases hz : s.lf = 0 ∧ ino ≠ 0
  · obtain ⟨e1, e2⟩ := fd_fails hL hz.1 (show 0 < ino by omega)
    have e : setR s ino fs = (fdS s ino, 70) := by unfold setR setF; rw [e1, if_pos (by decide)]
    rw [e]
    exact .inr ⟨rfl, e2⟩
  · have e := fd_lf hl hd ht (ino := ino) (by by_cases h : s.lf = 0; exact .inr (Classical.byContradiction fun h' => hz ⟨h, h'⟩); exact .inl h)
    refine .inl ?_
    unfold setR setF
    rw [e, fdS_d, fdS_d, hd]
    repeat' split
    all_goals rfl
theorem lkE_err (g : Sg × Int) (n : Int) : (lkE g n).2.2 = g.2 ∧ (lkE g n).1 = g.1 := by
  unfold lkE
  by_cases h : g.2 = 0
  · rw [if_neg (by simpa using h)]; exact ⟨h.symm, rfl⟩
  · rw [if_pos h]; exact ⟨rfl, rfl⟩
theorem lk_lf {s t : Sg} (hl : s.l = t.l) (hd : s.d = t.d) (ht : t.lf = -1) (hL : s.d.L = []) {ino : Int} (h0 : 0 ≤ ino) (y : Int) : (lkR s ino y).2.2 = (lkR t ino y).2.2 ∨ ((lkR s ino y).2.2 = 70 ∧ (lkR s ino y).1.lf = 0) := by
  by_cases hz : s.lf = 0 ∧ ino ≠ 0
  · obtain ⟨e1, e2⟩ := fd_fails hL hz.1 (show 0 < ino by omega)
    have e : lkR s ino y = (fdS s ino, 0, 70) := by unfold lkR; rw [e1, if_pos (by decide)]
    rw [e]
    exact .inr ⟨rfl, e2⟩
  · have e := fd_lf hl hd ht (ino := ino) (by by_cases h : s.lf = 0; exact .inr (Classical.byContradiction fun h' => hz ⟨h, h'⟩); exact .inl h)
    have hl2 : (fdS s ino).l = (fdS t ino).l := by rw [(fdS_same s ino).2.2.2.1, (fdS_same t ino).2.2.2.1, hl]
    have hd2 : (fdS s ino).d = (fdS t ino).d := by rw [fdS_d, fdS_d, hd]
    have ht2 := fdS_neg ht ino
    have hL2 : (fdS s ino).d.L = [] := by rw [fdS_d]; exact hL
    unfold lkR
    rw [e]
    split
    · exact .inl rfl
    split
    · exact .inl rfl
    · unfold lkB
      split
      · exact .inl rfl
      split
      · rw [(lkE_err _ _).1, (lkE_err _ _).1, (lkE_err _ _).2]
        exact rm_lf (s := { fdS s ino with R := addK (fdS s ino).R ino [2] }) (t := { fdS t ino with R := addK (fdS t ino).R ino [2] }) hl2 hd2 ht2 hL2 h0
      split
      · exact .inl rfl
      · rw [(lkE_err _ _).1, (lkE_err _ _).1, (lkE_err _ _).2]
        exact set_lf (s := { fdS s ino with R := addK (fdS s ino).R ino [2] }) (t := { fdS t ino with R := addK (fdS t ino).R ino [2] }) hl2 hd2 ht2 hL2 h0 _
theorem did_lf {s t : Sg} (hl : s.l = t.l) (hd : s.d = t.d) (hn : s.n = t.n) (ht : t.lf = -1) (hL : s.d.L = []) {o : IOp} (ho : IOpOk o) (fs : List (Int × Int)) : (didR s o fs).2 = (didR t o fs).2 ∨ ((didR s o fs).2 = 70 ∧ (didR s o fs).1.lf = 0) := by
  unfold didR
  split
  · refine .inl ?_
    have hm : makC s o.a o.b = makC t o.a o.b := by unfold makC; rw [hn]
    unfold makR
    rw [hm, hd]
    repeat' split
    all_goals rfl
  have hx : (s.lf = 0 ∧ o.ino ≠ 0) ∨ fdR s o.ino = fdR t o.ino := by
    by_cases hz : s.lf = 0 ∧ o.ino ≠ 0
    · exact .inl hz
    · exact .inr (fd_lf hl hd ht (by by_cases h : s.lf = 0; exact .inr (Classical.byContradiction fun h' => hz ⟨h, h'⟩); exact .inl h))
  have hf : s.lf = 0 ∧ o.ino ≠ 0 → fdR s o.ino = (in0, 70) ∧ (fdS s o.ino).lf = 0 := fun hz => fd_fails hL hz.1 (by have := ho.i0; omega)
  split
  · rcases hx with hz | e
    · obtain ⟨e1, e2⟩ := hf hz
      rw [e1]
      exact .inr ⟨rfl, e2⟩
    · rw [e]; exact .inl rfl
  split
  · rcases hx with hz | e
    · obtain ⟨e1, e2⟩ := hf hz
      have e : statR s o.ino = (fdS s o.ino, in0, 70) := by unfold statR; rw [e1, if_pos (by decide)]
      rw [e]
      exact .inr ⟨rfl, e2⟩
    · refine .inl ?_
      unfold statR
      rw [e]
      split <;> rfl
  split
  · rcases hx with hz | e
    · obtain ⟨e1, e2⟩ := hf hz
      have e : sizeR s o.ino = (fdS s o.ino, 0, 70) := by unfold sizeR; rw [e1, if_pos (by decide)]
      rw [e]
      exact .inr ⟨rfl, e2⟩
    · refine .inl ?_
      unfold sizeR
      rw [e]
      split <;> rfl
  split
  · exact set_lf hl hd ht hL ho.i0 fs
  split
  · exact lk_lf hl hd ht hL ho.i0 o.a
  split
  · exact rm_lf hl hd ht hL ho.i0
  · exact .inl rfl

set_option maxHeartbeats 8000000 in
theorem did_any {B : Nat} {w : World} {pp x : Nat} {a : Sa} {X : List Nat} {s : Sg} (hp : PrAt w pp a x) (h : SgIn B w a X s) {N : Nat} (hk : Sk s N) (hN : N ≤ 800) {o : IOp} (ho : IOpOk o) (fa : Option Addr) (fn fc : Nat) (fs : List (Int × Int)) (hr : RdZ 2 fiE w (.slice fa fn fc) fs) (hrx : ∀ b off, fa = some ⟨b, off, none⟩ → fs ≠ [] → b ∉ X) (hn : fn ≤ 1000) (hf : fiOk fs) :
    Calls Tryz.prog 21 #[.pointer (some ⟨pp, 0, none⟩), .agg (iopC o fa fn fc)] w fun e w' => e = .returned (.int .i64 (didR s o fs).2) ∧ SgOut B w a X (didR s o fs).1 w' := by
  have hb1 := bel1 w (.cells (iopC o fa fn fc) 31)
  have ho1 : IOpAt (w.alloc (.cells (iopC o fa fn fc) 31)) w.heap.size o fa fn fc := ⟨heap_alloc_new w _⟩
  obtain ⟨w1, hw1⟩ : ∃ w1, w.alloc (.cells (iopC o fa fn fc) 31) = w1 := ⟨_, rfl⟩
  rw [hw1] at hb1 ho1
  have hp1 : PrAt w1 pp a x := (hb1.block _ (lt_of_row hp)).trans hp
  have h1 := h.below hb1
  have v0 : w1.cell? ⟨w.heap.size, 0, none⟩ = some (.int .i64 o.d) := ho1.cell 0 _ rfl
  have h1 := h1.drew
  have cm := make_in h1 o.a o.b (Nat.le_trans hk.L (by omega)) (Nat.le_trans hk.P (by omega))
  have ck := kind_in h1 o.ino ho.i0 ho.i1
  have ct := stat_in h1 o.ino ho.i0 ho.i1 (Nat.le_trans hk.R (by omega))
  have cz := size_in h1 o.ino ho.i0 ho.i1 (Nat.le_trans hk.R (by omega))
  have cs := set_in h1 o.ino ho.i0 ho.i1 fa fn fc fs ((hr.below hb1).below (Below.refl _ w1).drew) hrx hn hf (Nat.le_trans hk.L (by omega)) (Nat.le_trans hk.P (by omega)) (Nat.le_trans hk.U (by omega))
  have cl := link_in h1 o.ino ho.i0 ho.i1 o.a ho.a0 ho.a1 hk (by omega) (Nat.le_trans hk.R (by omega)) (Nat.le_trans hk.U (by omega))
  have cr := rm_in h1 o.ino ho.i0 ho.i1 hk (by omega) (Nat.le_trans hk.R (by omega)) (Nat.le_trans hk.U (by omega))
  have HB1 : Hid (Below w.heap.size w w1) := hb1
  have HN : Hid (SgOut B w a X s w1) := h.out hb1
  have HNX : Hid (pp ∉ X ∧ w.heap.size ∉ X) := ⟨h.not_pair hp, fun hm => by have := h.lt _ hm; omega⟩
  have HR : Hid (didR s o fs = if o.d = 0 then ((makR s o.a o.b).1, (makR s o.a o.b).2.2)
  else if o.d = 1 then (fdS s o.ino, (fdR s o.ino).2)
  else if o.d = 2 then ((statR s o.ino).1, (statR s o.ino).2.2)
  else if o.d = 3 then ((sizeR s o.ino).1, (sizeR s o.ino).2.2)
  else if o.d = 4 then setR s o.ino fs
  else if o.d = 5 then ((lkR s o.ino o.a).1, (lkR s o.ino o.a).2.2)
  else if o.d = 6 then rmR s o.ino
  else (s, 0)) := rfl
  obtain ⟨od, oa, ob, oi⟩ := o
  have HO1 : Hid (IOpAt w1 w.heap.size ⟨od, oa, ob, oi⟩ fa fn fc) := ho1
  have HP1 : Hid (PrAt w1 pp a x) := hp1
  unfold iopC at hw1 ⊢
  dsimp only at *
  generalize didR s ⟨od, oa, ob, oi⟩ fs = R at *
  unfold inV at ct
  clear h h1 hb1 hr hk ho
  by_cases e0 : od = 0
  · subst e0
    have HE : Hid (R = ((makR s oa ob).1, (makR s oa ob).2.2)) := by unfold Hid; rw [HR.out, if_pos rfl]
    clear HR ck ct cz cs cl cr ho1 hp1
    have hS0 : PrAt w1.drew pp a x ∧ IOpAt w1.drew w.heap.size ⟨0, oa, ob, oi⟩ fa fn fc := ⟨HP1.out, ⟨HO1.out.row⟩⟩
    go_enter Tryz.func21, Tryz.ntmps21
    go_wp2_with fail
    refine wp_region_noPanic ?_
    refine wp_region_held_drew (S := fun W => PrAt W pp a x ∧ IOpAt W w.heap.size ⟨0, oa, ob, oi⟩ fa fn fc) (by kernel_rfl) hS0 (fun hHeld => ?_)
    refine wpAnyH_take (i := 0) (v := .pointer (some ⟨pp, 0, none⟩)) rfl (by kernel_rfl) (by kernel_rfl) (by kernel_rfl) (fun _ _ _ h => h) (Or.inl ⟨by rfl, fun W hSw => by (try dsimp only at hSw); go_simp⟩) (by assumption) ?_
    try simp only [List.getElem_toArray, List.getElem_cons_zero, List.getElem_cons_succ, Act.put, List.setIfInBounds_toArray, List.set_cons_zero, List.set_cons_succ]
    refine wpAnyH_take (i := 1) (v := .pointer (some ⟨pp, 0, none⟩)) rfl (by kernel_rfl) (by kernel_rfl) (by kernel_rfl) (fun _ _ _ h => h) (Or.inl ⟨by rfl, fun W hSw => by (try dsimp only at hSw); go_simp⟩) (by assumption) ?_
    try simp only [List.getElem_toArray, List.getElem_cons_zero, List.getElem_cons_succ, Act.put, List.setIfInBounds_toArray, List.set_cons_zero, List.set_cons_succ]
    refine wpAnyH_take (i := 2) (v := .pointer (some ⟨pp, 0, none⟩)) rfl (by kernel_rfl) (by kernel_rfl) (by kernel_rfl) (fun _ _ _ h => h) (Or.inl ⟨by rfl, fun W hSw => by (try dsimp only at hSw); go_simp⟩) (by assumption) ?_
    try simp only [List.getElem_toArray, List.getElem_cons_zero, List.getElem_cons_succ, Act.put, List.setIfInBounds_toArray, List.set_cons_zero, List.set_cons_succ]
    refine wpAnyH_take (i := 3) (v := .pointer (some ⟨a.s, 0, none⟩)) rfl (by kernel_rfl) (by kernel_rfl) (by kernel_rfl) (fun _ _ _ h => h) (Or.inl ⟨by rfl, fun W hSw => by (try dsimp only at hSw); (have z := PrAt.c0 hSw.1; go_simp)⟩) (by assumption) ?_
    try simp only [List.getElem_toArray, List.getElem_cons_zero, List.getElem_cons_succ, Act.put, List.setIfInBounds_toArray, List.set_cons_zero, List.set_cons_succ]
    refine wpAnyH_take (i := 4) (v := .pointer (some ⟨w.heap.size, 1, none⟩)) rfl (by kernel_rfl) (by kernel_rfl) (by kernel_rfl) (fun _ _ _ h => h) (Or.inl ⟨by rfl, fun W hSw => by (try dsimp only at hSw); go_simp⟩) (by assumption) ?_
    try simp only [List.getElem_toArray, List.getElem_cons_zero, List.getElem_cons_succ, Act.put, List.setIfInBounds_toArray, List.set_cons_zero, List.set_cons_succ]
    refine wpAnyH_take (i := 5) (v := .int .i64 oa) rfl (by kernel_rfl) (by kernel_rfl) (by kernel_rfl) (fun _ _ _ h => h) (Or.inl ⟨by rfl, fun W hSw => by (try dsimp only at hSw); (have z := hSw.2.c1; go_simp)⟩) (by assumption) ?_
    try simp only [List.getElem_toArray, List.getElem_cons_zero, List.getElem_cons_succ, Act.put, List.setIfInBounds_toArray, List.set_cons_zero, List.set_cons_succ]
    refine wpAnyH_take (i := 6) (v := .pointer (some ⟨w.heap.size, 2, none⟩)) rfl (by kernel_rfl) (by kernel_rfl) (by kernel_rfl) (fun _ _ _ h => h) (Or.inl ⟨by rfl, fun W hSw => by (try dsimp only at hSw); go_simp⟩) (by assumption) ?_
    try simp only [List.getElem_toArray, List.getElem_cons_zero, List.getElem_cons_succ, Act.put, List.setIfInBounds_toArray, List.set_cons_zero, List.set_cons_succ]
    refine wpAnyH_take (i := 7) (v := .int .i64 ob) rfl (by kernel_rfl) (by kernel_rfl) (by kernel_rfl) (fun _ _ _ h => h) (Or.inl ⟨by rfl, fun W hSw => by (try dsimp only at hSw); (have z := hSw.2.c2; go_simp)⟩) (by assumption) ?_
    try simp only [List.getElem_toArray, List.getElem_cons_zero, List.getElem_cons_succ, Act.put, List.setIfInBounds_toArray, List.set_cons_zero, List.set_cons_succ]
    refine wpAnyH_ready (rs := [8]) (by kernel_rfl) (by simp) ?_
    refine AllReadyH.cons rfl (fun K hK => ?_) AllReadyH.nil
    go_simp
    go_wp2_with (go_at_call 20; refine (cm).mono ?_; rintro e w2 ⟨rfl, hb2⟩)
    have HO : Hid (SgOut B w a X _ w2) := SgOut.pre HB1.out.drew hb2
    refine hK.out _ _ ⟨hb2.sole.row hHeld.1 HNX.out.1, ⟨hb2.sole.row hHeld.2.row HNX.out.2⟩⟩ (fun hHeld2 => ?_)
    clear hK K cm
    try simp only [List.getElem_toArray, List.getElem_cons_zero, List.getElem_cons_succ, Act.put, List.setIfInBounds_toArray, List.set_cons_zero, List.set_cons_succ]
    refine wpAnyH_take (i := 9) (v := .tuple #[.int .u32 (makR s oa ob).2.1, .int .i64 (makR s oa ob).2.2]) rfl (by kernel_rfl) (by kernel_rfl) (by kernel_rfl) (fun _ _ _ h => h) (Or.inl ⟨by rfl, fun W hSw => by (try dsimp only at hSw); go_simp⟩) (by assumption) ?_
    try simp only [List.getElem_toArray, List.getElem_cons_zero, List.getElem_cons_succ, Act.put, List.setIfInBounds_toArray, List.set_cons_zero, List.set_cons_succ]
    refine wpAnyH_take (i := 10) (v := .int .u32 (makR s oa ob).2.1) rfl (by kernel_rfl) (by kernel_rfl) (by kernel_rfl) (fun _ _ _ h => h) (Or.inl ⟨by rfl, fun W hSw => by (try dsimp only at hSw); go_simp⟩) (by assumption) ?_
    try simp only [List.getElem_toArray, List.getElem_cons_zero, List.getElem_cons_succ, Act.put, List.setIfInBounds_toArray, List.set_cons_zero, List.set_cons_succ]
    refine wpAnyH_take (i := 11) (v := .int .i64 (makR s oa ob).2.2) rfl (by kernel_rfl) (by kernel_rfl) (by kernel_rfl) (fun _ _ _ h => h) (Or.inl ⟨by rfl, fun W hSw => by (try dsimp only at hSw); go_simp⟩) (by assumption) ?_
    try simp only [List.getElem_toArray, List.getElem_cons_zero, List.getElem_cons_succ, Act.put, List.setIfInBounds_toArray, List.set_cons_zero, List.set_cons_succ]
    refine wpAnyH_take (i := 12) (v := .int .i64 (makR s oa ob).2.2) rfl (by kernel_rfl) (by kernel_rfl) (by kernel_rfl) (fun _ _ _ h => h) (Or.inl ⟨by rfl, fun W hSw => by (try dsimp only at hSw); go_simp⟩) (by assumption) ?_
    try simp only [List.getElem_toArray, List.getElem_cons_zero, List.getElem_cons_succ, Act.put, List.setIfInBounds_toArray, List.set_cons_zero, List.set_cons_succ]
    refine wpAnyH_done (by kernel_rfl) ?_ _
    refine NoPanic.normal ?_
    clear hHeld hHeld2 hb2 hS0
    go_wp2
    go_ret
    exact ⟨by rw [HE.out]; first | done | rfl, by rw [HE.out]; exact HO.out⟩
  by_cases e1 : od = 1
  · subst e1
    have HE : Hid (R = (fdS s oi, (fdR s oi).2)) := by unfold Hid; rw [HR.out, if_neg (by decide), if_pos rfl]
    clear HR cm ct cz cs cl cr ho1 hp1
    have hS0 : PrAt w1.drew pp a x ∧ IOpAt w1.drew w.heap.size ⟨1, oa, ob, oi⟩ fa fn fc := ⟨HP1.out, ⟨HO1.out.row⟩⟩
    go_enter Tryz.func21, Tryz.ntmps21
    go_wp2_with fail
    refine wp_region_noPanic ?_
    refine wp_region_held_drew (S := fun W => PrAt W pp a x ∧ IOpAt W w.heap.size ⟨1, oa, ob, oi⟩ fa fn fc) (by kernel_rfl) hS0 (fun hHeld => ?_)
    refine wpAnyH_take (i := 0) (v := .pointer (some ⟨pp, 0, none⟩)) rfl (by kernel_rfl) (by kernel_rfl) (by kernel_rfl) (fun _ _ _ h => h) (Or.inl ⟨by rfl, fun W hSw => by (try dsimp only at hSw); go_simp⟩) (by assumption) ?_
    try simp only [List.getElem_toArray, List.getElem_cons_zero, List.getElem_cons_succ, Act.put, List.setIfInBounds_toArray, List.set_cons_zero, List.set_cons_succ]
    refine wpAnyH_take (i := 1) (v := .pointer (some ⟨pp, 0, none⟩)) rfl (by kernel_rfl) (by kernel_rfl) (by kernel_rfl) (fun _ _ _ h => h) (Or.inl ⟨by rfl, fun W hSw => by (try dsimp only at hSw); go_simp⟩) (by assumption) ?_
    try simp only [List.getElem_toArray, List.getElem_cons_zero, List.getElem_cons_succ, Act.put, List.setIfInBounds_toArray, List.set_cons_zero, List.set_cons_succ]
    refine wpAnyH_take (i := 2) (v := .pointer (some ⟨pp, 0, none⟩)) rfl (by kernel_rfl) (by kernel_rfl) (by kernel_rfl) (fun _ _ _ h => h) (Or.inl ⟨by rfl, fun W hSw => by (try dsimp only at hSw); go_simp⟩) (by assumption) ?_
    try simp only [List.getElem_toArray, List.getElem_cons_zero, List.getElem_cons_succ, Act.put, List.setIfInBounds_toArray, List.set_cons_zero, List.set_cons_succ]
    refine wpAnyH_take (i := 3) (v := .pointer (some ⟨a.s, 0, none⟩)) rfl (by kernel_rfl) (by kernel_rfl) (by kernel_rfl) (fun _ _ _ h => h) (Or.inl ⟨by rfl, fun W hSw => by (try dsimp only at hSw); (have z := PrAt.c0 hSw.1; go_simp)⟩) (by assumption) ?_
    try simp only [List.getElem_toArray, List.getElem_cons_zero, List.getElem_cons_succ, Act.put, List.setIfInBounds_toArray, List.set_cons_zero, List.set_cons_succ]
    refine wpAnyH_take (i := 4) (v := .pointer (some ⟨w.heap.size, 3, none⟩)) rfl (by kernel_rfl) (by kernel_rfl) (by kernel_rfl) (fun _ _ _ h => h) (Or.inl ⟨by rfl, fun W hSw => by (try dsimp only at hSw); go_simp⟩) (by assumption) ?_
    try simp only [List.getElem_toArray, List.getElem_cons_zero, List.getElem_cons_succ, Act.put, List.setIfInBounds_toArray, List.set_cons_zero, List.set_cons_succ]
    refine wpAnyH_take (i := 5) (v := .int .u32 oi) rfl (by kernel_rfl) (by kernel_rfl) (by kernel_rfl) (fun _ _ _ h => h) (Or.inl ⟨by rfl, fun W hSw => by (try dsimp only at hSw); (have z := hSw.2.c3; go_simp)⟩) (by assumption) ?_
    try simp only [List.getElem_toArray, List.getElem_cons_zero, List.getElem_cons_succ, Act.put, List.setIfInBounds_toArray, List.set_cons_zero, List.set_cons_succ]
    refine wpAnyH_ready (rs := [6]) (by kernel_rfl) (by simp) ?_
    refine AllReadyH.cons rfl (fun K hK => ?_) AllReadyH.nil
    go_simp
    go_wp2_with (go_at_call 14; refine (ck).mono ?_; rintro e w2 ⟨rfl, hb2⟩)
    have HO : Hid (SgOut B w a X _ w2) := SgOut.pre HB1.out.drew hb2
    refine hK.out _ _ ⟨hb2.sole.row hHeld.1 HNX.out.1, ⟨hb2.sole.row hHeld.2.row HNX.out.2⟩⟩ (fun hHeld2 => ?_)
    clear hK K ck
    try simp only [List.getElem_toArray, List.getElem_cons_zero, List.getElem_cons_succ, Act.put, List.setIfInBounds_toArray, List.set_cons_zero, List.set_cons_succ]
    refine wpAnyH_take (i := 7) (v := .tuple #[.int .i64 (fdR s oi).1.k, .int .i64 (fdR s oi).2]) rfl (by kernel_rfl) (by kernel_rfl) (by kernel_rfl) (fun _ _ _ h => h) (Or.inl ⟨by rfl, fun W hSw => by (try dsimp only at hSw); go_simp⟩) (by assumption) ?_
    try simp only [List.getElem_toArray, List.getElem_cons_zero, List.getElem_cons_succ, Act.put, List.setIfInBounds_toArray, List.set_cons_zero, List.set_cons_succ]
    refine wpAnyH_take (i := 8) (v := .int .i64 (fdR s oi).1.k) rfl (by kernel_rfl) (by kernel_rfl) (by kernel_rfl) (fun _ _ _ h => h) (Or.inl ⟨by rfl, fun W hSw => by (try dsimp only at hSw); go_simp⟩) (by assumption) ?_
    try simp only [List.getElem_toArray, List.getElem_cons_zero, List.getElem_cons_succ, Act.put, List.setIfInBounds_toArray, List.set_cons_zero, List.set_cons_succ]
    refine wpAnyH_take (i := 9) (v := .int .i64 (fdR s oi).2) rfl (by kernel_rfl) (by kernel_rfl) (by kernel_rfl) (fun _ _ _ h => h) (Or.inl ⟨by rfl, fun W hSw => by (try dsimp only at hSw); go_simp⟩) (by assumption) ?_
    try simp only [List.getElem_toArray, List.getElem_cons_zero, List.getElem_cons_succ, Act.put, List.setIfInBounds_toArray, List.set_cons_zero, List.set_cons_succ]
    refine wpAnyH_take (i := 10) (v := .int .i64 (fdR s oi).2) rfl (by kernel_rfl) (by kernel_rfl) (by kernel_rfl) (fun _ _ _ h => h) (Or.inl ⟨by rfl, fun W hSw => by (try dsimp only at hSw); go_simp⟩) (by assumption) ?_
    try simp only [List.getElem_toArray, List.getElem_cons_zero, List.getElem_cons_succ, Act.put, List.setIfInBounds_toArray, List.set_cons_zero, List.set_cons_succ]
    refine wpAnyH_done (by kernel_rfl) ?_ _
    refine NoPanic.normal ?_
    clear hHeld hHeld2 hb2 hS0
    go_wp2
    go_ret
    exact ⟨by rw [HE.out]; first | done | rfl, by rw [HE.out]; exact HO.out⟩
  by_cases e2 : od = 2
  · subst e2
    have HE : Hid (R = ((statR s oi).1, (statR s oi).2.2)) := by unfold Hid; rw [HR.out, if_neg (by decide), if_neg (by decide), if_pos rfl]
    clear HR cm ck cz cs cl cr ho1 hp1
    have hS0 : PrAt w1.drew pp a x ∧ IOpAt w1.drew w.heap.size ⟨2, oa, ob, oi⟩ fa fn fc := ⟨HP1.out, ⟨HO1.out.row⟩⟩
    go_enter Tryz.func21, Tryz.ntmps21
    go_wp2_with fail
    refine wp_region_noPanic ?_
    refine wp_region_held_drew (S := fun W => PrAt W pp a x ∧ IOpAt W w.heap.size ⟨2, oa, ob, oi⟩ fa fn fc) (by kernel_rfl) hS0 (fun hHeld => ?_)
    refine wpAnyH_take (i := 0) (v := .pointer (some ⟨pp, 0, none⟩)) rfl (by kernel_rfl) (by kernel_rfl) (by kernel_rfl) (fun _ _ _ h => h) (Or.inl ⟨by rfl, fun W hSw => by (try dsimp only at hSw); go_simp⟩) (by assumption) ?_
    try simp only [List.getElem_toArray, List.getElem_cons_zero, List.getElem_cons_succ, Act.put, List.setIfInBounds_toArray, List.set_cons_zero, List.set_cons_succ]
    refine wpAnyH_take (i := 1) (v := .pointer (some ⟨pp, 0, none⟩)) rfl (by kernel_rfl) (by kernel_rfl) (by kernel_rfl) (fun _ _ _ h => h) (Or.inl ⟨by rfl, fun W hSw => by (try dsimp only at hSw); go_simp⟩) (by assumption) ?_
    try simp only [List.getElem_toArray, List.getElem_cons_zero, List.getElem_cons_succ, Act.put, List.setIfInBounds_toArray, List.set_cons_zero, List.set_cons_succ]
    refine wpAnyH_take (i := 2) (v := .pointer (some ⟨pp, 0, none⟩)) rfl (by kernel_rfl) (by kernel_rfl) (by kernel_rfl) (fun _ _ _ h => h) (Or.inl ⟨by rfl, fun W hSw => by (try dsimp only at hSw); go_simp⟩) (by assumption) ?_
    try simp only [List.getElem_toArray, List.getElem_cons_zero, List.getElem_cons_succ, Act.put, List.setIfInBounds_toArray, List.set_cons_zero, List.set_cons_succ]
    refine wpAnyH_take (i := 3) (v := .pointer (some ⟨a.s, 0, none⟩)) rfl (by kernel_rfl) (by kernel_rfl) (by kernel_rfl) (fun _ _ _ h => h) (Or.inl ⟨by rfl, fun W hSw => by (try dsimp only at hSw); (have z := PrAt.c0 hSw.1; go_simp)⟩) (by assumption) ?_
    try simp only [List.getElem_toArray, List.getElem_cons_zero, List.getElem_cons_succ, Act.put, List.setIfInBounds_toArray, List.set_cons_zero, List.set_cons_succ]
    refine wpAnyH_take (i := 4) (v := .pointer (some ⟨w.heap.size, 3, none⟩)) rfl (by kernel_rfl) (by kernel_rfl) (by kernel_rfl) (fun _ _ _ h => h) (Or.inl ⟨by rfl, fun W hSw => by (try dsimp only at hSw); go_simp⟩) (by assumption) ?_
    try simp only [List.getElem_toArray, List.getElem_cons_zero, List.getElem_cons_succ, Act.put, List.setIfInBounds_toArray, List.set_cons_zero, List.set_cons_succ]
    refine wpAnyH_take (i := 5) (v := .int .u32 oi) rfl (by kernel_rfl) (by kernel_rfl) (by kernel_rfl) (fun _ _ _ h => h) (Or.inl ⟨by rfl, fun W hSw => by (try dsimp only at hSw); (have z := hSw.2.c3; go_simp)⟩) (by assumption) ?_
    try simp only [List.getElem_toArray, List.getElem_cons_zero, List.getElem_cons_succ, Act.put, List.setIfInBounds_toArray, List.set_cons_zero, List.set_cons_succ]
    refine wpAnyH_ready (rs := [6]) (by kernel_rfl) (by simp) ?_
    refine AllReadyH.cons rfl (fun K hK => ?_) AllReadyH.nil
    go_simp
    go_wp2_with (go_at_call 16; refine (ct).mono ?_; rintro e w2 ⟨rfl, hb2⟩)
    have HO : Hid (SgOut B w a X _ w2) := SgOut.pre HB1.out.drew hb2
    refine hK.out _ _ ⟨hb2.sole.row hHeld.1 HNX.out.1, ⟨hb2.sole.row hHeld.2.row HNX.out.2⟩⟩ (fun hHeld2 => ?_)
    clear hK K ct
    try simp only [List.getElem_toArray, List.getElem_cons_zero, List.getElem_cons_succ, Act.put, List.setIfInBounds_toArray, List.set_cons_zero, List.set_cons_succ]
    refine wpAnyH_take (i := 7) (v := .tuple #[.agg #[.int .i64 (statR s oi).2.1.k, .int .i64 (statR s oi).2.1.m, .int .i64 (statR s oi).2.1.l, .int .i64 (statR s oi).2.1.s], .int .i64 (statR s oi).2.2]) rfl (by kernel_rfl) (by kernel_rfl) (by kernel_rfl) (fun _ _ _ h => h) (Or.inl ⟨by rfl, fun W hSw => by (try dsimp only at hSw); go_simp⟩) (by assumption) ?_
    try simp only [List.getElem_toArray, List.getElem_cons_zero, List.getElem_cons_succ, Act.put, List.setIfInBounds_toArray, List.set_cons_zero, List.set_cons_succ]
    refine wpAnyH_take (i := 8) (v := .agg #[.int .i64 (statR s oi).2.1.k, .int .i64 (statR s oi).2.1.m, .int .i64 (statR s oi).2.1.l, .int .i64 (statR s oi).2.1.s]) rfl (by kernel_rfl) (by kernel_rfl) (by kernel_rfl) (fun _ _ _ h => h) (Or.inl ⟨by rfl, fun W hSw => by (try dsimp only at hSw); go_simp⟩) (by assumption) ?_
    try simp only [List.getElem_toArray, List.getElem_cons_zero, List.getElem_cons_succ, Act.put, List.setIfInBounds_toArray, List.set_cons_zero, List.set_cons_succ]
    refine wpAnyH_take (i := 9) (v := .int .i64 (statR s oi).2.2) rfl (by kernel_rfl) (by kernel_rfl) (by kernel_rfl) (fun _ _ _ h => h) (Or.inl ⟨by rfl, fun W hSw => by (try dsimp only at hSw); go_simp⟩) (by assumption) ?_
    try simp only [List.getElem_toArray, List.getElem_cons_zero, List.getElem_cons_succ, Act.put, List.setIfInBounds_toArray, List.set_cons_zero, List.set_cons_succ]
    refine wpAnyH_take (i := 10) (v := .int .i64 (statR s oi).2.2) rfl (by kernel_rfl) (by kernel_rfl) (by kernel_rfl) (fun _ _ _ h => h) (Or.inl ⟨by rfl, fun W hSw => by (try dsimp only at hSw); go_simp⟩) (by assumption) ?_
    try simp only [List.getElem_toArray, List.getElem_cons_zero, List.getElem_cons_succ, Act.put, List.setIfInBounds_toArray, List.set_cons_zero, List.set_cons_succ]
    refine wpAnyH_done (by kernel_rfl) ?_ _
    refine NoPanic.normal ?_
    clear hHeld hHeld2 hb2 hS0
    go_wp2
    go_ret
    exact ⟨by rw [HE.out]; first | done | rfl, by rw [HE.out]; exact HO.out⟩
  by_cases e3 : od = 3
  · subst e3
    have HE : Hid (R = ((sizeR s oi).1, (sizeR s oi).2.2)) := by unfold Hid; rw [HR.out, if_neg (by decide), if_neg (by decide), if_neg (by decide), if_pos rfl]
    clear HR cm ck ct cs cl cr ho1 hp1
    have hS0 : PrAt w1.drew pp a x ∧ IOpAt w1.drew w.heap.size ⟨3, oa, ob, oi⟩ fa fn fc := ⟨HP1.out, ⟨HO1.out.row⟩⟩
    go_enter Tryz.func21, Tryz.ntmps21
    go_wp2_with fail
    refine wp_region_noPanic ?_
    refine wp_region_held_drew (S := fun W => PrAt W pp a x ∧ IOpAt W w.heap.size ⟨3, oa, ob, oi⟩ fa fn fc) (by kernel_rfl) hS0 (fun hHeld => ?_)
    refine wpAnyH_take (i := 0) (v := .pointer (some ⟨pp, 0, none⟩)) rfl (by kernel_rfl) (by kernel_rfl) (by kernel_rfl) (fun _ _ _ h => h) (Or.inl ⟨by rfl, fun W hSw => by (try dsimp only at hSw); go_simp⟩) (by assumption) ?_
    try simp only [List.getElem_toArray, List.getElem_cons_zero, List.getElem_cons_succ, Act.put, List.setIfInBounds_toArray, List.set_cons_zero, List.set_cons_succ]
    refine wpAnyH_take (i := 1) (v := .pointer (some ⟨pp, 0, none⟩)) rfl (by kernel_rfl) (by kernel_rfl) (by kernel_rfl) (fun _ _ _ h => h) (Or.inl ⟨by rfl, fun W hSw => by (try dsimp only at hSw); go_simp⟩) (by assumption) ?_
    try simp only [List.getElem_toArray, List.getElem_cons_zero, List.getElem_cons_succ, Act.put, List.setIfInBounds_toArray, List.set_cons_zero, List.set_cons_succ]
    refine wpAnyH_take (i := 2) (v := .pointer (some ⟨pp, 0, none⟩)) rfl (by kernel_rfl) (by kernel_rfl) (by kernel_rfl) (fun _ _ _ h => h) (Or.inl ⟨by rfl, fun W hSw => by (try dsimp only at hSw); go_simp⟩) (by assumption) ?_
    try simp only [List.getElem_toArray, List.getElem_cons_zero, List.getElem_cons_succ, Act.put, List.setIfInBounds_toArray, List.set_cons_zero, List.set_cons_succ]
    refine wpAnyH_take (i := 3) (v := .pointer (some ⟨a.s, 0, none⟩)) rfl (by kernel_rfl) (by kernel_rfl) (by kernel_rfl) (fun _ _ _ h => h) (Or.inl ⟨by rfl, fun W hSw => by (try dsimp only at hSw); (have z := PrAt.c0 hSw.1; go_simp)⟩) (by assumption) ?_
    try simp only [List.getElem_toArray, List.getElem_cons_zero, List.getElem_cons_succ, Act.put, List.setIfInBounds_toArray, List.set_cons_zero, List.set_cons_succ]
    refine wpAnyH_take (i := 4) (v := .pointer (some ⟨w.heap.size, 3, none⟩)) rfl (by kernel_rfl) (by kernel_rfl) (by kernel_rfl) (fun _ _ _ h => h) (Or.inl ⟨by rfl, fun W hSw => by (try dsimp only at hSw); go_simp⟩) (by assumption) ?_
    try simp only [List.getElem_toArray, List.getElem_cons_zero, List.getElem_cons_succ, Act.put, List.setIfInBounds_toArray, List.set_cons_zero, List.set_cons_succ]
    refine wpAnyH_take (i := 5) (v := .int .u32 oi) rfl (by kernel_rfl) (by kernel_rfl) (by kernel_rfl) (fun _ _ _ h => h) (Or.inl ⟨by rfl, fun W hSw => by (try dsimp only at hSw); (have z := hSw.2.c3; go_simp)⟩) (by assumption) ?_
    try simp only [List.getElem_toArray, List.getElem_cons_zero, List.getElem_cons_succ, Act.put, List.setIfInBounds_toArray, List.set_cons_zero, List.set_cons_succ]
    refine wpAnyH_ready (rs := [6]) (by kernel_rfl) (by simp) ?_
    refine AllReadyH.cons rfl (fun K hK => ?_) AllReadyH.nil
    go_simp
    go_wp2_with (go_at_call 31; refine (cz).mono ?_; rintro e w2 ⟨rfl, hb2⟩)
    have HO : Hid (SgOut B w a X _ w2) := SgOut.pre HB1.out.drew hb2
    refine hK.out _ _ ⟨hb2.sole.row hHeld.1 HNX.out.1, ⟨hb2.sole.row hHeld.2.row HNX.out.2⟩⟩ (fun hHeld2 => ?_)
    clear hK K cz
    try simp only [List.getElem_toArray, List.getElem_cons_zero, List.getElem_cons_succ, Act.put, List.setIfInBounds_toArray, List.set_cons_zero, List.set_cons_succ]
    refine wpAnyH_take (i := 7) (v := .tuple #[.int .i64 (sizeR s oi).2.1, .int .i64 (sizeR s oi).2.2]) rfl (by kernel_rfl) (by kernel_rfl) (by kernel_rfl) (fun _ _ _ h => h) (Or.inl ⟨by rfl, fun W hSw => by (try dsimp only at hSw); go_simp⟩) (by assumption) ?_
    try simp only [List.getElem_toArray, List.getElem_cons_zero, List.getElem_cons_succ, Act.put, List.setIfInBounds_toArray, List.set_cons_zero, List.set_cons_succ]
    refine wpAnyH_take (i := 8) (v := .int .i64 (sizeR s oi).2.1) rfl (by kernel_rfl) (by kernel_rfl) (by kernel_rfl) (fun _ _ _ h => h) (Or.inl ⟨by rfl, fun W hSw => by (try dsimp only at hSw); go_simp⟩) (by assumption) ?_
    try simp only [List.getElem_toArray, List.getElem_cons_zero, List.getElem_cons_succ, Act.put, List.setIfInBounds_toArray, List.set_cons_zero, List.set_cons_succ]
    refine wpAnyH_take (i := 9) (v := .int .i64 (sizeR s oi).2.2) rfl (by kernel_rfl) (by kernel_rfl) (by kernel_rfl) (fun _ _ _ h => h) (Or.inl ⟨by rfl, fun W hSw => by (try dsimp only at hSw); go_simp⟩) (by assumption) ?_
    try simp only [List.getElem_toArray, List.getElem_cons_zero, List.getElem_cons_succ, Act.put, List.setIfInBounds_toArray, List.set_cons_zero, List.set_cons_succ]
    refine wpAnyH_take (i := 10) (v := .int .i64 (sizeR s oi).2.2) rfl (by kernel_rfl) (by kernel_rfl) (by kernel_rfl) (fun _ _ _ h => h) (Or.inl ⟨by rfl, fun W hSw => by (try dsimp only at hSw); go_simp⟩) (by assumption) ?_
    try simp only [List.getElem_toArray, List.getElem_cons_zero, List.getElem_cons_succ, Act.put, List.setIfInBounds_toArray, List.set_cons_zero, List.set_cons_succ]
    refine wpAnyH_done (by kernel_rfl) ?_ _
    refine NoPanic.normal ?_
    clear hHeld hHeld2 hb2 hS0
    go_wp2
    go_ret
    exact ⟨by rw [HE.out]; first | done | rfl, by rw [HE.out]; exact HO.out⟩
  by_cases e4 : od = 4
  · subst e4
    have HE : Hid (R = setR s oi fs) := by unfold Hid; rw [HR.out, if_neg (by decide), if_neg (by decide), if_neg (by decide), if_neg (by decide), if_pos rfl]
    clear HR cm ck ct cz cl cr ho1 hp1
    have hS0 : PrAt w1.drew pp a x ∧ IOpAt w1.drew w.heap.size ⟨4, oa, ob, oi⟩ fa fn fc := ⟨HP1.out, ⟨HO1.out.row⟩⟩
    go_enter Tryz.func21, Tryz.ntmps21
    go_wp2_with fail
    refine wp_region_noPanic ?_
    refine wp_region_held_drew (S := fun W => PrAt W pp a x ∧ IOpAt W w.heap.size ⟨4, oa, ob, oi⟩ fa fn fc) (by kernel_rfl) hS0 (fun hHeld => ?_)
    refine wpAnyH_take (i := 0) (v := .pointer (some ⟨pp, 0, none⟩)) rfl (by kernel_rfl) (by kernel_rfl) (by kernel_rfl) (fun _ _ _ h => h) (Or.inl ⟨by rfl, fun W hSw => by (try dsimp only at hSw); go_simp⟩) (by assumption) ?_
    try simp only [List.getElem_toArray, List.getElem_cons_zero, List.getElem_cons_succ, Act.put, List.setIfInBounds_toArray, List.set_cons_zero, List.set_cons_succ]
    refine wpAnyH_take (i := 1) (v := .pointer (some ⟨pp, 0, none⟩)) rfl (by kernel_rfl) (by kernel_rfl) (by kernel_rfl) (fun _ _ _ h => h) (Or.inl ⟨by rfl, fun W hSw => by (try dsimp only at hSw); go_simp⟩) (by assumption) ?_
    try simp only [List.getElem_toArray, List.getElem_cons_zero, List.getElem_cons_succ, Act.put, List.setIfInBounds_toArray, List.set_cons_zero, List.set_cons_succ]
    refine wpAnyH_take (i := 2) (v := .pointer (some ⟨pp, 0, none⟩)) rfl (by kernel_rfl) (by kernel_rfl) (by kernel_rfl) (fun _ _ _ h => h) (Or.inl ⟨by rfl, fun W hSw => by (try dsimp only at hSw); go_simp⟩) (by assumption) ?_
    try simp only [List.getElem_toArray, List.getElem_cons_zero, List.getElem_cons_succ, Act.put, List.setIfInBounds_toArray, List.set_cons_zero, List.set_cons_succ]
    refine wpAnyH_take (i := 3) (v := .pointer (some ⟨a.s, 0, none⟩)) rfl (by kernel_rfl) (by kernel_rfl) (by kernel_rfl) (fun _ _ _ h => h) (Or.inl ⟨by rfl, fun W hSw => by (try dsimp only at hSw); (have z := PrAt.c0 hSw.1; go_simp)⟩) (by assumption) ?_
    try simp only [List.getElem_toArray, List.getElem_cons_zero, List.getElem_cons_succ, Act.put, List.setIfInBounds_toArray, List.set_cons_zero, List.set_cons_succ]
    refine wpAnyH_take (i := 4) (v := .pointer (some ⟨w.heap.size, 3, none⟩)) rfl (by kernel_rfl) (by kernel_rfl) (by kernel_rfl) (fun _ _ _ h => h) (Or.inl ⟨by rfl, fun W hSw => by (try dsimp only at hSw); go_simp⟩) (by assumption) ?_
    try simp only [List.getElem_toArray, List.getElem_cons_zero, List.getElem_cons_succ, Act.put, List.setIfInBounds_toArray, List.set_cons_zero, List.set_cons_succ]
    refine wpAnyH_take (i := 5) (v := .int .u32 oi) rfl (by kernel_rfl) (by kernel_rfl) (by kernel_rfl) (fun _ _ _ h => h) (Or.inl ⟨by rfl, fun W hSw => by (try dsimp only at hSw); (have z := hSw.2.c3; go_simp)⟩) (by assumption) ?_
    try simp only [List.getElem_toArray, List.getElem_cons_zero, List.getElem_cons_succ, Act.put, List.setIfInBounds_toArray, List.set_cons_zero, List.set_cons_succ]
    refine wpAnyH_take (i := 6) (v := .pointer (some ⟨w.heap.size, 4, none⟩)) rfl (by kernel_rfl) (by kernel_rfl) (by kernel_rfl) (fun _ _ _ h => h) (Or.inl ⟨by rfl, fun W hSw => by (try dsimp only at hSw); go_simp⟩) (by assumption) ?_
    try simp only [List.getElem_toArray, List.getElem_cons_zero, List.getElem_cons_succ, Act.put, List.setIfInBounds_toArray, List.set_cons_zero, List.set_cons_succ]
    refine wpAnyH_take (i := 7) (v := .slice fa fn fc) rfl (by kernel_rfl) (by kernel_rfl) (by kernel_rfl) (fun _ _ _ h => h) (Or.inl ⟨by rfl, fun W hSw => by (try dsimp only at hSw); (have z := hSw.2.c4; go_simp)⟩) (by assumption) ?_
    try simp only [List.getElem_toArray, List.getElem_cons_zero, List.getElem_cons_succ, Act.put, List.setIfInBounds_toArray, List.set_cons_zero, List.set_cons_succ]
    refine wpAnyH_ready (rs := [8]) (by kernel_rfl) (by simp) ?_
    refine AllReadyH.cons rfl (fun K hK => ?_) AllReadyH.nil
    go_simp
    go_wp2_with (go_at_call 13; refine (cs).mono ?_; rintro e w2 ⟨rfl, hb2⟩)
    have HO : Hid (SgOut B w a X _ w2) := SgOut.pre HB1.out.drew hb2
    refine hK.out _ _ ⟨hb2.sole.row hHeld.1 HNX.out.1, ⟨hb2.sole.row hHeld.2.row HNX.out.2⟩⟩ (fun hHeld2 => ?_)
    clear hK K cs
    try simp only [List.getElem_toArray, List.getElem_cons_zero, List.getElem_cons_succ, Act.put, List.setIfInBounds_toArray, List.set_cons_zero, List.set_cons_succ]
    refine wpAnyH_take (i := 9) (v := .int .i64 (setR s oi fs).2) rfl (by kernel_rfl) (by kernel_rfl) (by kernel_rfl) (fun _ _ _ h => h) (Or.inl ⟨by rfl, fun W hSw => by (try dsimp only at hSw); go_simp⟩) (by assumption) ?_
    try simp only [List.getElem_toArray, List.getElem_cons_zero, List.getElem_cons_succ, Act.put, List.setIfInBounds_toArray, List.set_cons_zero, List.set_cons_succ]
    refine wpAnyH_done (by kernel_rfl) ?_ _
    refine NoPanic.normal ?_
    clear hHeld hHeld2 hb2 hS0
    go_wp2
    go_ret
    exact ⟨by rw [HE.out]; first | done | rfl, by rw [HE.out]; exact HO.out⟩
  by_cases e5 : od = 5
  · subst e5
    have HE : Hid (R = ((lkR s oi oa).1, (lkR s oi oa).2.2)) := by unfold Hid; rw [HR.out, if_neg (by decide), if_neg (by decide), if_neg (by decide), if_neg (by decide), if_neg (by decide), if_pos rfl]
    clear HR cm ck ct cz cs cr ho1 hp1
    have hS0 : PrAt w1.drew pp a x ∧ IOpAt w1.drew w.heap.size ⟨5, oa, ob, oi⟩ fa fn fc := ⟨HP1.out, ⟨HO1.out.row⟩⟩
    go_enter Tryz.func21, Tryz.ntmps21
    go_wp2_with fail
    refine wp_region_noPanic ?_
    refine wp_region_held_drew (S := fun W => PrAt W pp a x ∧ IOpAt W w.heap.size ⟨5, oa, ob, oi⟩ fa fn fc) (by kernel_rfl) hS0 (fun hHeld => ?_)
    refine wpAnyH_take (i := 0) (v := .pointer (some ⟨pp, 0, none⟩)) rfl (by kernel_rfl) (by kernel_rfl) (by kernel_rfl) (fun _ _ _ h => h) (Or.inl ⟨by rfl, fun W hSw => by (try dsimp only at hSw); go_simp⟩) (by assumption) ?_
    try simp only [List.getElem_toArray, List.getElem_cons_zero, List.getElem_cons_succ, Act.put, List.setIfInBounds_toArray, List.set_cons_zero, List.set_cons_succ]
    refine wpAnyH_take (i := 1) (v := .pointer (some ⟨pp, 0, none⟩)) rfl (by kernel_rfl) (by kernel_rfl) (by kernel_rfl) (fun _ _ _ h => h) (Or.inl ⟨by rfl, fun W hSw => by (try dsimp only at hSw); go_simp⟩) (by assumption) ?_
    try simp only [List.getElem_toArray, List.getElem_cons_zero, List.getElem_cons_succ, Act.put, List.setIfInBounds_toArray, List.set_cons_zero, List.set_cons_succ]
    refine wpAnyH_take (i := 2) (v := .pointer (some ⟨pp, 0, none⟩)) rfl (by kernel_rfl) (by kernel_rfl) (by kernel_rfl) (fun _ _ _ h => h) (Or.inl ⟨by rfl, fun W hSw => by (try dsimp only at hSw); go_simp⟩) (by assumption) ?_
    try simp only [List.getElem_toArray, List.getElem_cons_zero, List.getElem_cons_succ, Act.put, List.setIfInBounds_toArray, List.set_cons_zero, List.set_cons_succ]
    refine wpAnyH_take (i := 3) (v := .pointer (some ⟨a.s, 0, none⟩)) rfl (by kernel_rfl) (by kernel_rfl) (by kernel_rfl) (fun _ _ _ h => h) (Or.inl ⟨by rfl, fun W hSw => by (try dsimp only at hSw); (have z := PrAt.c0 hSw.1; go_simp)⟩) (by assumption) ?_
    try simp only [List.getElem_toArray, List.getElem_cons_zero, List.getElem_cons_succ, Act.put, List.setIfInBounds_toArray, List.set_cons_zero, List.set_cons_succ]
    refine wpAnyH_take (i := 4) (v := .pointer (some ⟨w.heap.size, 3, none⟩)) rfl (by kernel_rfl) (by kernel_rfl) (by kernel_rfl) (fun _ _ _ h => h) (Or.inl ⟨by rfl, fun W hSw => by (try dsimp only at hSw); go_simp⟩) (by assumption) ?_
    try simp only [List.getElem_toArray, List.getElem_cons_zero, List.getElem_cons_succ, Act.put, List.setIfInBounds_toArray, List.set_cons_zero, List.set_cons_succ]
    refine wpAnyH_take (i := 5) (v := .int .u32 oi) rfl (by kernel_rfl) (by kernel_rfl) (by kernel_rfl) (fun _ _ _ h => h) (Or.inl ⟨by rfl, fun W hSw => by (try dsimp only at hSw); (have z := hSw.2.c3; go_simp)⟩) (by assumption) ?_
    try simp only [List.getElem_toArray, List.getElem_cons_zero, List.getElem_cons_succ, Act.put, List.setIfInBounds_toArray, List.set_cons_zero, List.set_cons_succ]
    refine wpAnyH_take (i := 6) (v := .pointer (some ⟨w.heap.size, 1, none⟩)) rfl (by kernel_rfl) (by kernel_rfl) (by kernel_rfl) (fun _ _ _ h => h) (Or.inl ⟨by rfl, fun W hSw => by (try dsimp only at hSw); go_simp⟩) (by assumption) ?_
    try simp only [List.getElem_toArray, List.getElem_cons_zero, List.getElem_cons_succ, Act.put, List.setIfInBounds_toArray, List.set_cons_zero, List.set_cons_succ]
    refine wpAnyH_take (i := 7) (v := .int .i64 oa) rfl (by kernel_rfl) (by kernel_rfl) (by kernel_rfl) (fun _ _ _ h => h) (Or.inl ⟨by rfl, fun W hSw => by (try dsimp only at hSw); (have z := hSw.2.c1; go_simp)⟩) (by assumption) ?_
    try simp only [List.getElem_toArray, List.getElem_cons_zero, List.getElem_cons_succ, Act.put, List.setIfInBounds_toArray, List.set_cons_zero, List.set_cons_succ]
    refine wpAnyH_ready (rs := [8]) (by kernel_rfl) (by simp) ?_
    refine AllReadyH.cons rfl (fun K hK => ?_) AllReadyH.nil
    go_simp
    go_wp2_with (go_at_call 22; refine (cl).mono ?_; rintro e w2 ⟨rfl, hb2⟩)
    have HO : Hid (SgOut B w a X _ w2) := SgOut.pre HB1.out.drew hb2
    refine hK.out _ _ ⟨hb2.sole.row hHeld.1 HNX.out.1, ⟨hb2.sole.row hHeld.2.row HNX.out.2⟩⟩ (fun hHeld2 => ?_)
    clear hK K cl
    try simp only [List.getElem_toArray, List.getElem_cons_zero, List.getElem_cons_succ, Act.put, List.setIfInBounds_toArray, List.set_cons_zero, List.set_cons_succ]
    refine wpAnyH_take (i := 9) (v := .tuple #[.int .i64 (lkR s oi oa).2.1, .int .i64 (lkR s oi oa).2.2]) rfl (by kernel_rfl) (by kernel_rfl) (by kernel_rfl) (fun _ _ _ h => h) (Or.inl ⟨by rfl, fun W hSw => by (try dsimp only at hSw); go_simp⟩) (by assumption) ?_
    try simp only [List.getElem_toArray, List.getElem_cons_zero, List.getElem_cons_succ, Act.put, List.setIfInBounds_toArray, List.set_cons_zero, List.set_cons_succ]
    refine wpAnyH_take (i := 10) (v := .int .i64 (lkR s oi oa).2.1) rfl (by kernel_rfl) (by kernel_rfl) (by kernel_rfl) (fun _ _ _ h => h) (Or.inl ⟨by rfl, fun W hSw => by (try dsimp only at hSw); go_simp⟩) (by assumption) ?_
    try simp only [List.getElem_toArray, List.getElem_cons_zero, List.getElem_cons_succ, Act.put, List.setIfInBounds_toArray, List.set_cons_zero, List.set_cons_succ]
    refine wpAnyH_take (i := 11) (v := .int .i64 (lkR s oi oa).2.2) rfl (by kernel_rfl) (by kernel_rfl) (by kernel_rfl) (fun _ _ _ h => h) (Or.inl ⟨by rfl, fun W hSw => by (try dsimp only at hSw); go_simp⟩) (by assumption) ?_
    try simp only [List.getElem_toArray, List.getElem_cons_zero, List.getElem_cons_succ, Act.put, List.setIfInBounds_toArray, List.set_cons_zero, List.set_cons_succ]
    refine wpAnyH_take (i := 12) (v := .int .i64 (lkR s oi oa).2.2) rfl (by kernel_rfl) (by kernel_rfl) (by kernel_rfl) (fun _ _ _ h => h) (Or.inl ⟨by rfl, fun W hSw => by (try dsimp only at hSw); go_simp⟩) (by assumption) ?_
    try simp only [List.getElem_toArray, List.getElem_cons_zero, List.getElem_cons_succ, Act.put, List.setIfInBounds_toArray, List.set_cons_zero, List.set_cons_succ]
    refine wpAnyH_done (by kernel_rfl) ?_ _
    refine NoPanic.normal ?_
    clear hHeld hHeld2 hb2 hS0
    go_wp2
    go_ret
    exact ⟨by rw [HE.out]; first | done | rfl, by rw [HE.out]; exact HO.out⟩
  by_cases e6 : od = 6
  · subst e6
    have HE : Hid (R = rmR s oi) := by unfold Hid; rw [HR.out, if_neg (by decide), if_neg (by decide), if_neg (by decide), if_neg (by decide), if_neg (by decide), if_neg (by decide), if_pos rfl]
    clear HR cm ck ct cz cs cl ho1 hp1
    have hS0 : PrAt w1.drew pp a x ∧ IOpAt w1.drew w.heap.size ⟨6, oa, ob, oi⟩ fa fn fc := ⟨HP1.out, ⟨HO1.out.row⟩⟩
    go_enter Tryz.func21, Tryz.ntmps21
    go_wp2_with fail
    refine wp_region_noPanic ?_
    refine wp_region_held_drew (S := fun W => PrAt W pp a x ∧ IOpAt W w.heap.size ⟨6, oa, ob, oi⟩ fa fn fc) (by kernel_rfl) hS0 (fun hHeld => ?_)
    refine wpAnyH_take (i := 0) (v := .pointer (some ⟨pp, 0, none⟩)) rfl (by kernel_rfl) (by kernel_rfl) (by kernel_rfl) (fun _ _ _ h => h) (Or.inl ⟨by rfl, fun W hSw => by (try dsimp only at hSw); go_simp⟩) (by assumption) ?_
    try simp only [List.getElem_toArray, List.getElem_cons_zero, List.getElem_cons_succ, Act.put, List.setIfInBounds_toArray, List.set_cons_zero, List.set_cons_succ]
    refine wpAnyH_take (i := 1) (v := .pointer (some ⟨pp, 0, none⟩)) rfl (by kernel_rfl) (by kernel_rfl) (by kernel_rfl) (fun _ _ _ h => h) (Or.inl ⟨by rfl, fun W hSw => by (try dsimp only at hSw); go_simp⟩) (by assumption) ?_
    try simp only [List.getElem_toArray, List.getElem_cons_zero, List.getElem_cons_succ, Act.put, List.setIfInBounds_toArray, List.set_cons_zero, List.set_cons_succ]
    refine wpAnyH_take (i := 2) (v := .pointer (some ⟨pp, 0, none⟩)) rfl (by kernel_rfl) (by kernel_rfl) (by kernel_rfl) (fun _ _ _ h => h) (Or.inl ⟨by rfl, fun W hSw => by (try dsimp only at hSw); go_simp⟩) (by assumption) ?_
    try simp only [List.getElem_toArray, List.getElem_cons_zero, List.getElem_cons_succ, Act.put, List.setIfInBounds_toArray, List.set_cons_zero, List.set_cons_succ]
    refine wpAnyH_take (i := 3) (v := .pointer (some ⟨a.s, 0, none⟩)) rfl (by kernel_rfl) (by kernel_rfl) (by kernel_rfl) (fun _ _ _ h => h) (Or.inl ⟨by rfl, fun W hSw => by (try dsimp only at hSw); (have z := PrAt.c0 hSw.1; go_simp)⟩) (by assumption) ?_
    try simp only [List.getElem_toArray, List.getElem_cons_zero, List.getElem_cons_succ, Act.put, List.setIfInBounds_toArray, List.set_cons_zero, List.set_cons_succ]
    refine wpAnyH_take (i := 4) (v := .pointer (some ⟨w.heap.size, 3, none⟩)) rfl (by kernel_rfl) (by kernel_rfl) (by kernel_rfl) (fun _ _ _ h => h) (Or.inl ⟨by rfl, fun W hSw => by (try dsimp only at hSw); go_simp⟩) (by assumption) ?_
    try simp only [List.getElem_toArray, List.getElem_cons_zero, List.getElem_cons_succ, Act.put, List.setIfInBounds_toArray, List.set_cons_zero, List.set_cons_succ]
    refine wpAnyH_take (i := 5) (v := .int .u32 oi) rfl (by kernel_rfl) (by kernel_rfl) (by kernel_rfl) (fun _ _ _ h => h) (Or.inl ⟨by rfl, fun W hSw => by (try dsimp only at hSw); (have z := hSw.2.c3; go_simp)⟩) (by assumption) ?_
    try simp only [List.getElem_toArray, List.getElem_cons_zero, List.getElem_cons_succ, Act.put, List.setIfInBounds_toArray, List.set_cons_zero, List.set_cons_succ]
    refine wpAnyH_ready (rs := [6]) (by kernel_rfl) (by simp) ?_
    refine AllReadyH.cons rfl (fun K hK => ?_) AllReadyH.nil
    go_simp
    go_wp2_with (go_at_call 18; refine (cr).mono ?_; rintro e w2 ⟨rfl, hb2⟩)
    have HO : Hid (SgOut B w a X _ w2) := SgOut.pre HB1.out.drew hb2
    refine hK.out _ _ ⟨hb2.sole.row hHeld.1 HNX.out.1, ⟨hb2.sole.row hHeld.2.row HNX.out.2⟩⟩ (fun hHeld2 => ?_)
    clear hK K cr
    try simp only [List.getElem_toArray, List.getElem_cons_zero, List.getElem_cons_succ, Act.put, List.setIfInBounds_toArray, List.set_cons_zero, List.set_cons_succ]
    refine wpAnyH_take (i := 7) (v := .int .i64 (rmR s oi).2) rfl (by kernel_rfl) (by kernel_rfl) (by kernel_rfl) (fun _ _ _ h => h) (Or.inl ⟨by rfl, fun W hSw => by (try dsimp only at hSw); go_simp⟩) (by assumption) ?_
    try simp only [List.getElem_toArray, List.getElem_cons_zero, List.getElem_cons_succ, Act.put, List.setIfInBounds_toArray, List.set_cons_zero, List.set_cons_succ]
    refine wpAnyH_done (by kernel_rfl) ?_ _
    refine NoPanic.normal ?_
    clear hHeld hHeld2 hb2 hS0
    go_wp2
    go_ret
    exact ⟨by rw [HE.out]; first | done | rfl, by rw [HE.out]; exact HO.out⟩
  have HE : Hid (R = (s, 0)) := by unfold Hid; rw [HR.out, if_neg e0, if_neg e1, if_neg e2, if_neg e3, if_neg e4, if_neg e5, if_neg e6]
  have b0 : (od == 0) = false := by simpa using e0
  have b1 : (od == 1) = false := by simpa using e1
  have b2 : (od == 2) = false := by simpa using e2
  have b3 : (od == 3) = false := by simpa using e3
  have b4 : (od == 4) = false := by simpa using e4
  have b5 : (od == 5) = false := by simpa using e5
  have b6 : (od == 6) = false := by simpa using e6
  clear HR cm ck ct cz cs cl cr ho1 hp1 e0 e1 e2 e3 e4 e5 e6
  go_enter Tryz.func21, Tryz.ntmps21
  go_wp2
  go_ret
  exact ⟨by rw [HE.out]; first | done | rfl, by rw [HE.out]; exact HN.out⟩

end Go.Proofs.YtkmckipfjahlcaaGreat.L
