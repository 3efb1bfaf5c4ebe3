/- The contract of page.rise: whether keys rise, whatever goes through them. -/
import Derived.Test.YthgdbjpefjjeaaaGreatQIter2
import Derived.Test.YthgdbjpefjjeaaaGreatQSmall
namespace Go.Proofs.YthgdbjpefjjeaaaGreat
open Go.RowKit Go.Shelf
set_option linter.unusedVariables false
set_option linter.unusedSimpArgs false
set_option maxRecDepth 100000
attribute [local go_sem] Oper.semAt_some

def lastS (l : List ByteArray) : ByteArray := l.getD (l.length - 1) ⟨#[]⟩

theorem lastS_snoc (l : List ByteArray) (x : ByteArray) : lastS (l ++ [x]) = x := by
  unfold lastS; simp [List.getD_eq_getElem?_getD]

theorem risAt_left (l r : List ByteArray) (i : Nat) (hi : i < l.length) : risAt (l ++ r) i = risAt l i := by
  unfold risAt
  have e1 : (l ++ r).getD i ⟨#[]⟩ = l.getD i ⟨#[]⟩ := by simp [List.getD_eq_getElem?_getD, List.getElem?_append_left hi]
  have e2 : (l ++ r).getD (i - 1) ⟨#[]⟩ = l.getD (i - 1) ⟨#[]⟩ := by simp [List.getD_eq_getElem?_getD, List.getElem?_append_left (show i - 1 < l.length by omega)]
  rw [e1, e2]

theorem ris_left (l r : List ByteArray) (h : risingB (l ++ r) = true) : risingB l = true := by
  refine rising_yes fun i hi => ?_
  rw [← risAt_left l r i hi]
  exact List.all_eq_true.1 h i (List.mem_range.2 (by rw [List.length_append]; omega))

theorem ris_take_no (l : List ByteArray) (k : Nat) (h : risingB (l.take k) = false) : risingB l = false := by
  cases hr : risingB l with
  | false => rfl
  | true =>
    have := ris_left (l.take k) (l.drop k) (by rw [List.take_append_drop]; exact hr)
    rw [this] at h; cases h

theorem less_empty {x : ByteArray} (h : x.size = 14) : lessS ⟨#[]⟩ x = true := by
  unfold lessS
  have e : (⟨#[]⟩ : ByteArray).toList = [] := by rw [ByteArray.toList_eq]
  rw [e]
  cases hx : x.toList with
  | nil =>
    have : x.toList.length = x.size := by rw [ByteArray.toList_eq]; exact Array.length_toList
    rw [hx, h] at this; cases this
  | cons a y => rfl

theorem ris_snoc (l : List ByteArray) (x : ByteArray) (hl : risingB l = true) : risingB (l ++ [x]) = (decide (x.size = 14) && lessS (lastS l) x) := by
  have hat : risAt (l ++ [x]) l.length = (decide (x.size = 14) && lessS (lastS l) x) := by
    have ex : (l ++ [x]).getD l.length ⟨#[]⟩ = x := by simp [List.getD_eq_getElem?_getD]
    have e1 : risAt (l ++ [x]) l.length = (decide (((l ++ [x]).getD l.length ⟨#[]⟩).size = 14) && (l.length == 0 || lessS ((l ++ [x]).getD (l.length - 1) ⟨#[]⟩) ((l ++ [x]).getD l.length ⟨#[]⟩))) := rfl
    rw [e1, ex]
    cases l with
    | nil =>
      by_cases hs : x.size = 14
      · have := less_empty hs
        simp [hs, lastS, this]
      · simp [hs]
    | cons y r =>
      have e2 : ((y :: r) ++ [x]).getD ((y :: r).length - 1) ⟨#[]⟩ = lastS (y :: r) := by
        unfold lastS
        rw [List.getD_eq_getElem?_getD, List.getD_eq_getElem?_getD, List.getElem?_append_left (by simp)]
      have e3 : ((y :: r).length == 0) = false := by simp
      rw [e2, e3, Bool.false_or]
  rw [← hat]
  unfold risingB
  rw [List.length_append, List.length_singleton, List.range_succ, List.all_append]
  have : (List.range l.length).all (risAt (l ++ [x])) = true := List.all_eq_true.2 fun i hi => by
    rw [risAt_left l [x] i (List.mem_range.1 hi)]
    exact List.all_eq_true.1 hl i hi
  rw [this]
  simp

set_option maxHeartbeats 2000000 in
theorem rise_any (g : Nat) (lb : Array Value) (eg : ∀ args w, (callFunc g args).run Tryz.prog w = .ok (.enter g args) w) (ss : List ByteArray) (w : World) (n₀ : Nat) (hn₀ : n₀ ≤ w.heap.size)
    (hseq : SeqStopsK Fence.wide 2 Tryz.prog g lb (fun s : ByteArray => #[Value.string s]) (Below n₀) (fun ys => ys = ss) (fun pre => ∃ k, k ≤ ss.length ∧ pre = ss.take k) ss.length w) :
    Calls Tryz.prog 101 #[.func (.func g) #[] lb] w fun e w' => e = .returned (.bool (risingB ss)) ∧ Below w.heap.size w w' := by
  refine (callsIn_wide (n := 3)).1 ?_
  refine callsIn_of_wp_marks Tryz.func101 rfl trivial ?_ rfl
  simp only [Tryz.ntmps101, List.size_toArray, List.length_cons, List.length_nil, Nat.reduceAdd, Nat.reduceSub, Array.replicate_succ, Array.replicate_zero, List.push_toArray, List.append_toArray, List.nil_append, List.cons_append]
  gi_wp2
  have bR := Boxed.new w 4 (.bool false)
  have bL := Boxed.new (w.alloc (.cells #[.bool false] 4)) 9 (.string ⟨#[]⟩)
  rw [World.size_alloc] at bL
  have bR2 := bR.alloc (.cells #[.string ⟨#[]⟩] 9)
  have hB0 : Below w.heap.size w ((w.alloc (.cells #[.bool false] 4)).alloc (.cells #[.string ⟨#[]⟩] 9)) := ((Below.refl _ w).alloc (Nat.le_refl _) _).alloc (by simp) _
  refine wpIn_rangeFunc_ownG rfl (by decide) (gf := g) (lb := lb) rfl trivial eg hseq belowK_t (belowK_b (by simp; omega)) (hB0.mono (Nat.le_refl _)) (fun _ => rfl)
    (fun pre W => (risingB pre = true ∧ W.cell? ⟨w.heap.size, 0, none⟩ = some (.bool false) ∧ W.frozen? ⟨w.heap.size, 0, none⟩ = false ∧ W.cell? ⟨w.heap.size + 1, 0, none⟩ = some (.string (lastS pre)) ∧ W.frozen? ⟨w.heap.size + 1, 0, none⟩ = false) ∧ Below w.heap.size w W)
    (fun c pre W => (c = .ret ∧ risingB pre = false ∧ W.cell? ⟨w.heap.size, 0, none⟩ = some (.bool false)) ∧ Below w.heap.size w W)
    (OwnFrom.and (Own.from (fun s A B row hs hg hr => ⟨hs.1, cell_kept hs.2.1 hg hr, (frozen_kept hs.2.1 hg hr).trans hs.2.2.1, cell_kept hs.2.2.2.1 hg hr, (frozen_kept hs.2.2.2.1 hg hr).trans hs.2.2.2.2⟩) _) (ownFrom_below (Nat.le_refl _) (by simp; omega)))
    (fun c => OwnFrom.and (Own.from (fun s A B row hs hg hr => ⟨hs.1, hs.2.1, cell_kept hs.2.2 hg hr⟩) _) (ownFrom_below (Nat.le_refl _) (by simp; omega)))
    ⟨⟨rfl, bR2.cell, bR2.frozen, bL.cell, bL.frozen⟩, hB0⟩
    (fun x => { tmps := #[.func (.func g) #[] lb, undef, .pointer (some ⟨w.heap.size, 0, none⟩), .pointer (some ⟨w.heap.size + 1, 0, none⟩), .string x, .func (.func g) #[] lb, .string x, undef, undef, undef, undef, undef, undef, undef, undef, undef], defers := [] }) ?assign ?body ?done ?stop
  case assign =>
    intro l x W K hK
    gi_wp2
    exact hK
  case body =>
    rintro l pre x W ⟨⟨hri, hcr, hfr, hcl, hfl⟩, hB⟩ _
    have hsn := ris_snoc pre x hri
    have hls := lastS_snoc pre x
    generalize hL : lastS pre = L at *
    by_cases h14 : x.size = 14
    · rcases le_three x L with ⟨h1, hu⟩ | ⟨he, h1, hu⟩ | ⟨h1, h2, hu⟩
      · have hf : risingB (pre ++ [x]) = false := by rw [hsn]; unfold upTo at hu; simp at hu; rw [hu]; simp
        clear hsn hu
        gi_wp2
        exact ⟨(KeepsOthers.setCell _ _ _).from _, ⟨rfl, hf, World.cell?_setCell_same' _ _ _ (by rw [hcr]; rfl)⟩, hB.setCell (p := ⟨w.heap.size, 0, none⟩) (Nat.le_refl _) _⟩
      · have hf : risingB (pre ++ [x]) = false := by rw [hsn]; unfold upTo at hu; simp at hu; rw [hu]; simp
        clear hsn hu
        subst he
        gi_wp2
        exact ⟨(KeepsOthers.setCell _ _ _).from _, ⟨rfl, hf, World.cell?_setCell_same' _ _ _ (by rw [hcr]; rfl)⟩, hB.setCell (p := ⟨w.heap.size, 0, none⟩) (Nat.le_refl _) _⟩
      · have hf : risingB (pre ++ [x]) = true := by rw [hsn]; unfold upTo at hu; simp at hu; rw [hu]; simp [h14]
        clear hsn hu
        gi_wp2
        exact ⟨(KeepsOthers.setCell _ _ _).from _, (Below.refl n₀ W).setCell (p := ⟨w.heap.size + 1, 0, none⟩) (by show n₀ ≤ w.heap.size + 1; omega) _, ⟨hf, (World.cell?_setCell_other _ _ _ _ (by simp)).trans hcr, by rw [World.frozen?_setCell]; exact hfr, by rw [hls]; exact World.cell?_setCell_same' _ _ _ (by rw [hcl]; rfl), by rw [World.frozen?_setCell]; exact hfl⟩, hB.setCell (p := ⟨w.heap.size + 1, 0, none⟩) (by show w.heap.size ≤ w.heap.size + 1; omega) _⟩
    · have hf : risingB (pre ++ [x]) = false := by rw [hsn]; simp [h14]
      clear hsn
      gi_wp2
      exact ⟨(KeepsOthers.setCell _ _ _).from _, ⟨rfl, hf, World.cell?_setCell_same' _ _ _ (by rw [hcr]; rfl)⟩, hB.setCell (p := ⟨w.heap.size, 0, none⟩) (Nat.le_refl _) _⟩
  case done =>
    rintro D ys W hD rfl ⟨⟨hri, hcr, hfr, hcl, hfl⟩, hB⟩ hK
    gi_wp2
    have hK' := (KeepsOthers.setCell W ⟨w.heap.size, 0, none⟩ (.bool true)).same D _ hK rfl
    refine ⟨by simp, .inl ⟨_, _, rfl, run_takeDeferred hK', ?_⟩⟩
    have hc5 := cell_kept (World.cell?_setCell_same' W ⟨w.heap.size, 0, none⟩ (.bool true) (by rw [hcr]; rfl)) (grownBy_putObj' _ D (.deferred none)) (fun r e => by cases e; exact ⟨_, hK', rfl⟩)
    refine ⟨.bool true, ?_, by rw [hri], (hB.setCell (p := ⟨w.heap.size, 0, none⟩) (Nat.le_refl _) _).trans (belowK_b (w := w) (Nat.le_refl _) _ D _ _ (by simp at hD; omega) hK' rfl rfl)⟩
    simp [results, Tryz.f101, go_sem, hc5]
  case stop =>
    rintro D c pre W hD ⟨k, hk, rfl⟩ ⟨⟨rfl, hri, hcr⟩, hB⟩ hK
    gi_wp2
    refine ⟨by simp, .inl ⟨_, _, rfl, run_takeDeferred hK, ?_⟩⟩
    have hc5 := cell_kept hcr (grownBy_putObj' _ D (.deferred none)) (fun r e => by cases e; exact ⟨_, hK, rfl⟩)
    refine ⟨.bool false, ?_, by rw [ris_take_no ss k hri], hB.trans (belowK_b (w := w) (Nat.le_refl _) W D _ _ (by simp at hD; omega) hK rfl rfl)⟩
    simp [results, Tryz.f101, go_sem, hc5]

end Go.Proofs.YthgdbjpefjjeaaaGreat
