/- The contracts of page.leafMayBe, innerMayBe, CheckNode. -/
import Derived.Test.YthgdbjpefjjeaaaGreatQRise
namespace Go.Proofs.YthgdbjpefjjeaaaGreat
open Go.RowKit Go.Shelf
set_option linter.unusedVariables false
set_option linter.unusedSimpArgs false
set_option maxRecDepth 100000
attribute [local go_sem] Oper.semAt_some

theorem cellA {W : World} {p : Addr} {v : Value} (o : Obj) (h : W.cell? p = some v) : (W.alloc o).cell? p = some v := cell_kept h (World.grownBy_alloc W o none) (fun r e => by cases e)
theorem frozenA {W : World} {p : Addr} {v : Value} (o : Obj) (h : W.cell? p = some v) (hf : W.frozen? p = false) : (W.alloc o).frozen? p = false := (frozen_kept h (World.grownBy_alloc W o none) (fun r e => by cases e)).trans hf

def smallV (l : List (ByteArray × ByteArray)) : Bool := l.all (fun p => decide (p.2.size ≤ 34))

theorem small_snoc (l : List (ByteArray × ByteArray)) (p : ByteArray × ByteArray) (h : smallV l = true) : smallV (l ++ [p]) = decide (p.2.size ≤ 34) := by
  unfold smallV at h ⊢; rw [List.all_append, h]; simp

theorem small_take_no (l : List (ByteArray × ByteArray)) (k : Nat) (h : smallV (l.take k) = false) : smallV l = false := by
  cases hr : smallV l with
  | false => rfl
  | true =>
    unfold smallV at h hr
    rw [← List.take_append_drop k l, List.all_append, h] at hr
    simp at hr

/-- A leaf's first test passes. -/
def leafFit (n1 n2 n3 : Nat) : Bool := decide (n2 = 0) && (decide (n3 = 0) && (decide (1 ≤ n1) && decide (n1 ≤ 10)))


theorem riseP (w : World) (a : Option Addr) (n cap : Nat) (ps : List (ByteArray × ByteArray)) (h : RdP w (.slice a n cap) ps) :
    Calls Tryz.prog 101 #[.func (.func 117) #[] #[.pointer (some ⟨w.heap.size, 0, none⟩)]] (w.alloc (.cells #[.slice a n cap] 37)) fun e w' => e = .returned (.bool (risingB (ps.map (·.1)))) ∧ Below w.heap.size w w' := by
  obtain ⟨hl, hnc, hm, hI⟩ := h.open
  have hB := (Below.refl w.heap.size w).alloc (Nat.le_refl _) (.cells #[.slice a n cap] 37)
  refine (rise_any 117 _ (enters_of Tryz.func117 (by kernel_rfl) rfl) (ps.map (·.1)) _ w.heap.size (by simp)
    (keysOf_stops 2 (by decide) w.heap.size a n cap ps _ w.heap.size (by simp) (by simp) (Boxed.new w 37 (.slice a n cap)).cell hm hnc hl ?_)).mono ?_
  · intro hp
    obtain ⟨b, off, e, hb, hc⟩ := hI hp
    exact ⟨b, off, e, hb, fun i p hi => ⟨(hB.cell (p := ⟨b, off + i * 2, none⟩) hb).trans (hc i p hi).1, (hB.cell (p := ⟨b, off + i * 2 + 1, none⟩) hb).trans (hc i p hi).2⟩⟩
  · rintro e w' ⟨rfl, hb⟩
    exact ⟨rfl, hB.trans (hb.mono (by simp))⟩

theorem riseS (w : World) (a : Option Addr) (n cap : Nat) (ss : List ByteArray) (h : RdS w (.slice a n cap) ss) :
    Calls Tryz.prog 101 #[.func (.func 119) #[] #[.pointer (some ⟨w.heap.size, 0, none⟩)]] (w.alloc (.cells #[.slice a n cap] 38)) fun e w' => e = .returned (.bool (risingB ss)) ∧ Below w.heap.size w w' := by
  obtain ⟨hl, hnc, hm, hI⟩ := h.open
  have hB := (Below.refl w.heap.size w).alloc (Nat.le_refl _) (.cells #[.slice a n cap] 38)
  refine (rise_any 119 _ (enters_of Tryz.func119 (by kernel_rfl) rfl) ss _ w.heap.size (by simp)
    (valuesS_stops 2 (by decide) w.heap.size a n cap ss _ w.heap.size (by simp) (by simp) (Boxed.new w 38 (.slice a n cap)).cell hm hnc hl ?_)).mono ?_
  · intro hp
    obtain ⟨b, off, e, hb, hc⟩ := hI hp
    exact ⟨b, off, e, hb, fun i p hi => (hB.cell (p := ⟨b, off + i, none⟩) hb).trans (hc i p hi)⟩
  · rintro e w' ⟨rfl, hb⟩
    exact ⟨rfl, hB.trans (hb.mono (by simp))⟩

set_option maxHeartbeats 2000000 in
theorem leaf_no (w : World) (lf : Bool) (a1 a2 a3 : Option Addr) (n1 c1 n2 c2 n3 c3 : Nat) (h : leafFit n1 n2 n3 = false) :
    Calls Tryz.prog 83 #[.agg #[.bool lf, .slice a1 n1 c1, .slice a2 n2 c2, .slice a3 n3 c3]] w fun e w' => e = .returned (.bool false) ∧ Below w.heap.size w w' := by
  have hw := fun W => within_any W n1 1 10
  refine (callsIn_wide (n := 3)).1 ?_
  refine callsIn_of_wp_marks Tryz.func83 rfl trivial ?_ rfl
  refine wpIn_wide.2 ?_
  simp only [Tryz.ntmps83, List.size_toArray, List.length_cons, List.length_nil, Nat.reduceAdd, Nat.reduceSub, Array.replicate_succ, Array.replicate_zero, List.push_toArray, List.append_toArray, List.nil_append, List.cons_append]
  by_cases h2 : n2 = 0
  · subst h2
    by_cases h3 : n3 = 0
    · subst h3
      have h1 : (decide ((1 : Int) ≤ n1) && decide ((n1 : Int) ≤ 10)) = false := by
        unfold leafFit at h
        simp at h ⊢
        omega
      rw [h1] at hw
      clear h h1
      go_wp2_with (go_at_call 100; refine (hw _).mono ?_; rintro e w' ⟨rfl, rfl⟩)
      refine ⟨.bool false, ?_, rfl, ((Below.refl _ _).alloc (Nat.le_refl _) _).alloc (by simp) _⟩
      simp [results, Tryz.f83, go_sem]
    · have h3' : 0 < (n3 : Int) := by omega
      clear h
      go_wp2
      refine ⟨.bool false, ?_, rfl, ((Below.refl _ _).alloc (Nat.le_refl _) _).alloc (by simp) _⟩
      simp [results, Tryz.f83, go_sem]
  · have h2' : 0 < (n2 : Int) := by omega
    clear h
    go_wp2
    refine ⟨.bool false, ?_, rfl, ((Below.refl _ _).alloc (Nat.le_refl _) _).alloc (by simp) _⟩
    simp [results, Tryz.f83, go_sem]

set_option maxHeartbeats 4000000 in
theorem leaf_yes (w : World) (lf : Bool) (a1 a2 a3 : Option Addr) (n1 c1 c2 c3 : Nat) (h1 : 1 ≤ n1) (h10 : n1 ≤ 10) (ps : List (ByteArray × ByteArray)) (hP : RdP w (.slice a1 n1 c1) ps) :
    Calls Tryz.prog 83 #[.agg #[.bool lf, .slice a1 n1 c1, .slice a2 0 c2, .slice a3 0 c3]] w fun e w' => e = .returned (.bool (smallV ps && risingB (ps.map (·.1)))) ∧ Below w.heap.size w w' := by
  have hw := fun W => within_any W n1 1 10
  have e1 : (decide ((1 : Int) ≤ n1) && decide ((n1 : Int) ≤ 10)) = true := by simp; omega
  rw [e1] at hw
  clear e1
  obtain ⟨hl, hnc, hm, hI⟩ := hP.open
  refine (callsIn_wide (n := 3)).1 ?_
  refine callsIn_of_wp_marks Tryz.func83 rfl trivial ?_ rfl
  refine wpIn_wide.2 ?_
  simp only [Tryz.ntmps83, List.size_toArray, List.length_cons, List.length_nil, Nat.reduceAdd, Nat.reduceSub, Array.replicate_succ, Array.replicate_zero, List.push_toArray, List.append_toArray, List.nil_append, List.cons_append]
  go_wp2_with (first | (go_at_call 100; refine (hw _).mono ?_; rintro e w' ⟨rfl, rfl⟩) | (go_at_call 86; refine (valuesP_any _ _ _ _).mono ?_; rintro e w' ⟨rfl, rfl⟩))
  refine (wpIn_wide (n := 3)).1 ?_
  have bN : ((w.alloc (.cells #[.bool lf, .slice a1 n1 c1, .slice a2 0 c2, .slice a3 0 c3] 40)).alloc (.cells #[.bool false] 4)).cell? ⟨w.heap.size, 1, none⟩ = some (.slice a1 n1 c1) := by simp
  have bR := Boxed.new (w.alloc (.cells #[.bool lf, .slice a1 n1 c1, .slice a2 0 c2, .slice a3 0 c3] 40)) 4 (.bool false)
  rw [World.size_alloc] at bR
  have bV := Boxed.new ((w.alloc (.cells #[.bool lf, .slice a1 n1 c1, .slice a2 0 c2, .slice a3 0 c3] 40)).alloc (.cells #[.bool false] 4)) 37 (.slice a1 n1 c1)
  rw [World.size_alloc, World.size_alloc] at bV
  have bR0 := bR.alloc (.cells #[.slice a1 n1 c1] 37)
  have bN0 := cellA (.cells #[.slice a1 n1 c1] 37) bN
  have hB0 : Below w.heap.size w (((w.alloc (.cells #[.bool lf, .slice a1 n1 c1, .slice a2 0 c2, .slice a3 0 c3] 40)).alloc (.cells #[.bool false] 4)).alloc (.cells #[.slice a1 n1 c1] 37)) := (((Below.refl _ w).alloc (Nat.le_refl _) _).alloc (by simp) _).alloc (by simp; omega) _
  have hs0 : (((w.alloc (.cells #[.bool lf, .slice a1 n1 c1, .slice a2 0 c2, .slice a3 0 c3] 40)).alloc (.cells #[.bool false] 4)).alloc (.cells #[.slice a1 n1 c1] 37)).heap.size = w.heap.size + 3 := by simp
  generalize (((w.alloc (.cells #[.bool lf, .slice a1 n1 c1, .slice a2 0 c2, .slice a3 0 c3] 40)).alloc (.cells #[.bool false] 4)).alloc (.cells #[.slice a1 n1 c1] 37)) = W0 at *
  clear bN bR
  refine wpIn_rangeFunc_ownH rfl (by decide) (gf := 106) (lb := #[.pointer (some ⟨w.heap.size + 1 + 1, 0, none⟩)]) rfl trivial (enters_of Tryz.func106 (by kernel_rfl) rfl)
    (valuesP_stops 2 (by decide) (w.heap.size + 1 + 1) a1 n1 c1 ps W0 w.heap.size (by omega) (by omega) bV.cell hm hnc hl (fun hp => by
      obtain ⟨b, off, e, hb, hc⟩ := hI hp
      exact ⟨b, off, e, hb, fun i p hi => ⟨(hB0.cell (p := ⟨b, off + i * 2, none⟩) hb).trans (hc i p hi).1, (hB0.cell (p := ⟨b, off + i * 2 + 1, none⟩) hb).trans (hc i p hi).2⟩⟩))
    belowK_t (belowK_b (by omega)) (Below.refl _ _) (fun _ => rfl)
    (fun pre W => (smallV pre = true ∧ W.cell? ⟨w.heap.size + 1, 0, none⟩ = some (.bool false) ∧ W.frozen? ⟨w.heap.size + 1, 0, none⟩ = false ∧ W.cell? ⟨w.heap.size, 1, none⟩ = some (.slice a1 n1 c1)) ∧ Below w.heap.size w W)
    (fun c pre W => (c = .ret ∧ smallV pre = false ∧ W.cell? ⟨w.heap.size + 1, 0, none⟩ = some (.bool false)) ∧ Below w.heap.size w W)
    (OwnFrom.and (Own.from (fun s A B row hs hg hr => ⟨hs.1, cell_kept hs.2.1 hg hr, (frozen_kept hs.2.1 hg hr).trans hs.2.2.1, cell_kept hs.2.2.2 hg hr⟩) _) (ownFrom_below (Nat.le_refl _) (by omega)))
    (fun c => OwnFrom.and (Own.from (fun s A B row hs hg hr => ⟨hs.1, hs.2.1, cell_kept hs.2.2 hg hr⟩) _) (ownFrom_below (Nat.le_refl _) (by omega)))
    ⟨⟨rfl, bR0.cell, bR0.frozen, bN0⟩, hB0⟩
    (fun x a' W => ∃ Bx, (W.cell? ⟨Bx, 0, none⟩ = some (.string x.1) ∧ W.cell? ⟨Bx, 1, none⟩ = some (.string x.2)) ∧ a' = { tmps := #[.agg #[.bool lf, .slice a1 n1 c1, .slice a2 0 c2, .slice a3 0 c3], .pointer (some ⟨w.heap.size, 0, none⟩), .pointer (some ⟨w.heap.size + 1, 0, none⟩), .pointer (some ⟨Bx, 0, none⟩), .pointer (some ⟨w.heap.size, 2, none⟩), .slice a2 0 c2, .int .i64 0, .bool false, .bool false, .pointer (some ⟨w.heap.size, 3, none⟩), .slice a3 0 c3, .int .i64 0, .bool false, .bool false, .bool false, .pointer (some ⟨w.heap.size, 1, none⟩), .slice a1 n1 c1, .int .i64 n1, .bool true, .bool false, .bool false, .pointer (some ⟨w.heap.size, 1, none⟩), .slice a1 n1 c1, .func (.func 106) #[] #[.pointer (some ⟨w.heap.size + 1 + 1, 0, none⟩)], .agg #[.string x.1, .string x.2], undef, undef, undef, undef, undef, undef, undef, undef], defers := [] })
    (fun x a' => Own.from (fun s A B row hs hg hr => by
      obtain ⟨Bx, hs, e⟩ := hs
      exact ⟨Bx, ⟨cell_kept hs.1 hg hr, cell_kept hs.2 hg hr⟩, e⟩) _) ?assign ?body ?done ?stop
  case assign =>
    rintro l pre x W K ⟨⟨hsm, hcr, hfr, hcn⟩, hB⟩ hK
    unfold kvV
    gi_wp2
    exact hK _ _ ((KeepsOthers.alloc _ _).from _) ((Below.refl _ W).alloc hB.size _) ⟨⟨hsm, cellA _ hcr, frozenA _ hcr hfr, cellA _ hcn⟩, hB.alloc hB.size _⟩ ⟨W.heap.size, ⟨by simp, by simp⟩, rfl⟩
  case body =>
    rintro l pre x a' W hl0 hrec ⟨⟨hsm, hcr, hfr, hcn⟩, hB⟩ ⟨Bx, ⟨hx0, hx1⟩, rfl⟩ hlen
    have hsn := small_snoc pre x hsm
    by_cases h34 : x.2.size ≤ 34
    · have hf : smallV (pre ++ [x]) = true := by rw [hsn]; simp [h34]
      clear hsn
      gi_wp2
      exact ⟨KeepsFrom.refl _ _, Below.refl _ _, ⟨hf, hcr, hfr, hcn⟩, hB⟩
    · have hf : smallV (pre ++ [x]) = false := by rw [hsn]; simp [h34]
      have h34' : (34 : Int) < x.2.size := by omega
      clear hsn
      gi_wp2
      exact ⟨(KeepsOthers.setCell _ _ _).from _, ⟨rfl, hf, World.cell?_setCell_same' _ _ _ (by rw [hcr]; rfl)⟩, hB.setCell (p := ⟨w.heap.size + 1, 0, none⟩) (by show w.heap.size ≤ w.heap.size + 1; omega) _⟩
  case done =>
    rintro D ys W hD rfl ⟨⟨hsm, hcr, hfr, hcn⟩, hB⟩ hK
    have hrP : RdP W (.slice a1 n1 c1) ys := RdE.below hP hB
    have hr := riseP W a1 n1 c1 ys hrP
    clear hI hP hrP
    go_wp2_with (first | (go_at_call 102; refine (keysOf_any _ _ _ _).mono ?_; rintro e w' ⟨rfl, rfl⟩) | (go_at_call 101; refine hr.mono ?_; rintro e w5 ⟨rfl, hb5⟩; have hcr5 := (hb5.cell (p := ⟨w.heap.size + 1, 0, none⟩) (World.block_lt_of_cell? W _ hcr)).trans hcr; have hfr5 := (hb5.frozen (p := ⟨w.heap.size + 1, 0, none⟩) (World.block_lt_of_cell? W _ hcr)).trans hfr))
    have hK5 : w5.heap[D]? = some (.deferred (some [])) := (hb5.block D (Array.getElem?_eq_some_iff.1 hK).1).trans hK
    generalize risingB (ys.map (·.1)) = r at *
    have hK' := (KeepsOthers.setCell w5 ⟨w.heap.size + 1, 0, none⟩ (.bool r)).same D _ hK5 rfl
    refine ⟨by simp, .inl ⟨_, _, rfl, run_takeDeferred hK', ?_⟩⟩
    have hc5 := cell_kept (World.cell?_setCell_same' w5 ⟨w.heap.size + 1, 0, none⟩ (.bool r) (by rw [hcr5]; rfl)) (grownBy_putObj' _ D (.deferred none)) (fun q e => by cases e; exact ⟨_, hK', rfl⟩)
    refine ⟨.bool r, ?_, by rw [hsm, Bool.true_and], ((hB.trans (hb5.mono hB.size)).setCell (p := ⟨w.heap.size + 1, 0, none⟩) (by show w.heap.size ≤ w.heap.size + 1; omega) _).trans (belowK_b (w := w) (Nat.le_refl _) _ D _ _ (by omega) hK' rfl rfl)⟩
    simp [results, Tryz.f83, go_sem, hc5]
  case stop =>
    rintro D c pre W hD ⟨k, hk, rfl⟩ ⟨⟨rfl, hri, hcr⟩, hB⟩ hK
    gi_wp2
    refine ⟨by simp, .inl ⟨_, _, rfl, run_takeDeferred hK, ?_⟩⟩
    have hc5 := cell_kept hcr (grownBy_putObj' _ D (.deferred none)) (fun r e => by cases e; exact ⟨_, hK, rfl⟩)
    refine ⟨.bool false, ?_, by rw [small_take_no ps k hri, Bool.false_and], hB.trans (belowK_b (w := w) (Nat.le_refl _) W D _ _ (by omega) hK rfl rfl)⟩
    simp [results, Tryz.f83, go_sem, hc5]

end Go.Proofs.YthgdbjpefjjeaaaGreat
