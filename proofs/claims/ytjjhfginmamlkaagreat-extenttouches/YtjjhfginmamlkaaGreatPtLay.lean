/- The contract of patch.Lay: what becomes of a chunk. -/
import Derived.Test.YtjjhfginmamlkaaGreatT2
import Derived.Shelf.RegionOpen
namespace Go.Proofs.YtjjhfginmamlkaaGreat
open Go.RowKit Go.Shelf
set_option linter.unusedVariables false
set_option linter.unusedSimpArgs false
set_option maxRecDepth 100000
attribute [local go_sem] Oper.semAt_some

/-- What a chunk is when some runs are laid. -/
def ranB (b : List Int) (p : Pt) (l : List Run) : List Int := (List.range 32).map fun i => if inRuns i l then p.bytes.getD i 0 else b.getD i 0
theorem ranB_len (b : List Int) (p : Pt) (l : List Run) : (ranB b p l).length = 32 := by simp [ranB]
theorem ranB_nil {b : List Int} (h : b.length = 32) (p : Pt) : ranB b p [] = b := by
  unfold ranB
  conv => rhs; rw [ch_eq h]
  exact List.map_congr_left fun i _ => by simp [inRuns]
/-- The bytes that a chunk begins with: nought if the patch is Fresh. -/
def frB (b : List Int) (p : Pt) : List Int := if p.fresh then zeroC else b
theorem frB_len {b : List Int} (h : b.length = 32) (p : Pt) : (frB b p).length = 32 := by unfold frB; split; exact ch_zero.1; exact h
theorem ranB_all {b : List Int} (p : Pt) (l : List Run) (h : ∀ i, i < 32 → inRuns i l = p.mask.testBit i) : ranB (frB b p) p l = layB b p := by
  unfold ranB layB
  refine List.map_congr_left fun i hi => ?_
  rw [h i (List.mem_range.1 hi)]
  unfold layAt frB
  split
  · rfl
  · split
    · exact zeroC_get i
    · rfl
/-- One run more. -/
theorem ranB_next (b : List Int) (p : Pt) (hp : p.bytes.length = 32) (l : List Run) (r : Run) :
    ((bytesV (ranB b p l)).toList.take r.1.1 ++ (((p.bytes.drop r.1.1).take (r.1.2 - r.1.1)).map (Value.int .u8) ++ (bytesV (ranB b p l)).toList.drop (r.1.1 + (((p.bytes.drop r.1.1).take (r.1.2 - r.1.1)).map (Value.int .u8)).length))).toArray = bytesV (ranB b p (l ++ [r])) := by
  obtain ⟨⟨f, t⟩, hft, ht⟩ := r
  dsimp only at hft ht ⊢
  have hl : (((p.bytes.drop f).take (t - f)).map (Value.int .u8)).length = t - f := by simp; omega
  rw [hl, show f + (t - f) = t from by omega]
  apply Array.ext'
  unfold bytesV
  simp only []
  apply List.ext_getElem?
  intro i
  have hR : ∀ L : List Run, ∀ i, ((ranB b p L).map (Value.int .u8))[i]? = if i < 32 then some (.int .u8 (if inRuns i L then p.bytes.getD i 0 else b.getD i 0)) else none := by
    intro L i
    unfold ranB
    rw [List.map_map, List.getElem?_map]
    by_cases hi : i < 32
    · rw [List.getElem?_range hi, if_pos hi]; rfl
    · rw [List.getElem?_eq_none (by simpa using hi), if_neg hi]; rfl
  rw [hR]
  by_cases c1 : i < f
  · rw [List.getElem?_append_left (by simp [ranB_len]; omega), List.getElem?_take, if_pos c1, hR, inRuns_snoc]
    have : inRun i ⟨(f, t), hft, ht⟩ = false := by unfold inRun; simp; omega
    rw [this, Bool.or_false]
  · rw [List.getElem?_append_right (by simp [ranB_len]; omega)]
    have e1 : (List.take f ((ranB b p l).map (Value.int .u8))).length = f := by simp [ranB_len]; omega
    rw [e1]
    by_cases c2 : i < t
    · rw [List.getElem?_append_left (by rw [hl]; omega), List.getElem?_map, List.getElem?_take, if_pos (by omega), List.getElem?_drop, show f + (i - f) = i from by omega, if_pos (by omega), inRuns_snoc]
      have : inRun i ⟨(f, t), hft, ht⟩ = true := by unfold inRun; simp; omega
      rw [this, Bool.or_true, if_pos rfl, List.getElem?_eq_getElem (by omega)]
      simp [List.getElem?_eq_getElem (show i < p.bytes.length by omega)]
    · rw [List.getElem?_append_right (by rw [hl]; omega), hl, List.getElem?_drop, show t + (i - f - (t - f)) = i from by omega, hR, inRuns_snoc]
      have : inRun i ⟨(f, t), hft, ht⟩ = false := by unfold inRun; simp; omega
      rw [this, Bool.or_false]

theorem block_kept {W W' : World} {row : Option Nat} {g : Nat} {cs : Array Value} {t : TypeId} {fr : Nat × Nat} (h : W.heap[g]? = some (.cells cs t fr)) (hg : W.grownBy W' row) (hrow : ∀ r, row = some r → ∃ o : Obj, W.heap[r]? = some o ∧ o.isCells = false) : W'.heap[g]? = some (.cells cs t fr) :=
  (grownBy_keeps_cells hg hrow h rfl).trans h
theorem setObj_other (W : World) (l k : Nat) (o : Obj) (h : l ≠ k) : (W.putObj l o).heap[k]? = W.heap[k]? := by
  simp [World.putObj, Array.getElem?_setIfInBounds, h]

theorem setRow_size (W : World) (g : Nat) (cs : Array Value) : (W.setRow g cs).heap.size = W.heap.size := by simp [World.setRow]

/-- Moving a run from the patch in 'h' to the chunk in 'g'. -/
theorem copy_run {W : World} {g h : Nat} {b : List Int} {p : Pt} {l : List Run} (hc : ChAt W g (ranB b p l)) (hp : PtAt W h p) (hpl : p.bytes.length = 32) (r : Run) :
    ∃ W5, (Builtin.copy_ #[42, 42] 3 #[.slice (some ⟨g, r.1.1, none⟩) (r.1.2 - r.1.1) (32 - r.1.1), .slice (some ⟨h, 2 + r.1.1, none⟩) (r.1.2 - r.1.1) (32 - r.1.1)]).run Tryz.prog W.drew = .ok (.int .i64 ((r.1.2 - r.1.1 : Nat) : Int)) W5 ∧
      ChAt W5 g (ranB b p (l ++ [r])) ∧ (∀ k, k ≠ g → W5.heap[k]? = W.heap[k]?) ∧ Below g W W5 ∧ KeepsOthers W W5 := by
  have hnx := ranB_next b p hpl l r
  obtain ⟨⟨f, t⟩, hft, ht⟩ := r
  dsimp only at hft ht hnx ⊢
  have hl : (((p.bytes.drop f).take (t - f)).map (Value.int .u8)).length = t - f := by simp; omega
  have hrun := run_copy_row (P := Tryz.prog) W.drew 42 42 3 5 g f (t - f) (32 - f) ⟨h, 2 + f, none⟩ (t - f) (32 - f) (bytesV (ranB b p l)) 90 (((p.bytes.drop f).take (t - f)).map (Value.int .u8)) Tryz.underlying42 (by kernel_rfl) hc.row (by rw [hl]; simp)
    (fun j v hj => by
      have hj' : j < t - f := by
        rcases Nat.lt_or_ge j (t - f) with h | h
        · exact h
        · rw [List.getElem?_eq_none (by rw [hl]; exact h)] at hj; cases hj
      rw [Addr.add_mid, show 2 + f + j = 2 + (f + j) from by omega]
      refine (hp.byte hpl (i := f + j) (by omega)).trans ?_
      rw [← hj, List.getElem?_map, List.getElem?_take, if_pos hj', List.getElem?_drop, List.getElem?_eq_getElem (by omega)]
      simp [List.getElem?_eq_getElem (show f + j < p.bytes.length by omega)])
    (by rw [hl, bytesV_size, ranB_len]; omega) (ints_oneCell _ _)
  rw [List.append_assoc, hnx, hl] at hrun
  refine ⟨_, hrun, ⟨setRow_heap _ g _ _ _ _ hc.row⟩, fun k hk => setRow_other W.drew g k _ (by omega), ?_, ?_⟩
  · exact below_setRow (w := W.drew) (w0 := W) ⟨rfl, rfl, rfl, Nat.le_refl _, fun k _ => rfl⟩ (Nat.le_refl _) _
  · refine ⟨Nat.le_of_eq (setRow_size W.drew g _).symm, fun k o hk ho => ?_⟩
    by_cases hkg : k = g
    · subst hkg; rw [hc.row] at hk; cases hk; cases ho
    · exact (setRow_other W.drew g k _ (by omega)).trans hk

set_option maxHeartbeats 4000000 in
theorem lay_any (w : World) (b : List Int) (p : Pt) (hb : Ch b) (hp : PtOk p) : Calls Tryz.prog 137 #[.agg (bytesV b), .agg (ptC p)] w fun e w' => e = .returned (.agg (bytesV (layB b p))) ∧ Below w.heap.size w w' := by
  have hzc := zeroCh
  have HX : Hid (b.length = 32) := hb.1
  have HZ : Hid (zeroC.length = 32) := ch_zero.1
  have HP : Hid (p.bytes.length = 32) := hp.ch.1
  refine (callsIn_wide (n := 3)).1 ?_
  refine callsIn_of_wp_marks Tryz.func137 rfl trivial ?_ rfl
  refine wpIn_wide.2 ?_
  simp only [Tryz.ntmps137, List.size_toArray, List.length_cons, List.length_nil, Nat.reduceAdd, Nat.reduceSub, Array.replicate_succ, Array.replicate_zero, List.push_toArray, List.append_toArray, List.nil_append, List.cons_append]
  obtain ⟨w1, hw1⟩ : ∃ w1, ((w.alloc (.cells (bytesV b) 90)).alloc (.cells (ptC p) 92)).alloc (.cells (bytesV zeroC) 90) = w1 := ⟨_, rfl⟩
  have hB1 : Below w.heap.size w w1 := by rw [← hw1]; exact (((Below.refl _ w).alloc (Nat.le_refl _) _).alloc (by simp) _).alloc (by simp; omega) _
  have hs1 : w1.heap.size = w.heap.size + 3 := by rw [← hw1]; simp
  have al : ∀ (A : World) (o : Obj), Below A.heap.size A (A.alloc o) := fun A o => (Below.refl _ A).alloc (Nat.le_refl _) o
  have hc1 : ChAt w1 w.heap.size b := by rw [← hw1]; exact ((ChAt.laid w b).below (al _ _)).below (al _ _)
  have hp1 : PtAt w1 (w.heap.size + 1) p := by rw [← hw1]; have := (PtAt.laid (w.alloc (.cells (bytesV b) 90)) p).below (al _ (.cells (bytesV zeroC) 90)); rwa [World.size_alloc] at this
  have hr1 : ChAt w1 (w.heap.size + 1 + 1) zeroC := by rw [← hw1]; have := ChAt.laid ((w.alloc (.cells (bytesV b) 90)).alloc (.cells (ptC p) 92)) zeroC; rwa [World.size_alloc, World.size_alloc] at this
  clear al
  have c0 := hp1.c0
  have c1 := hp1.c1
  obtain ⟨w2, hw2, hB2, hs2, hc2, hp2, hr2⟩ : ∃ w2, (if p.fresh then w1.setRow w.heap.size (bytesV zeroC) else w1) = w2 ∧ Below w.heap.size w w2 ∧ w2.heap.size = w.heap.size + 3 ∧ ChAt w2 w.heap.size (frB b p) ∧ PtAt w2 (w.heap.size + 1) p ∧ ChAt w2 (w.heap.size + 1 + 1) zeroC := by
    refine ⟨_, rfl, ?_⟩
    unfold frB
    cases p.fresh
    · exact ⟨hB1, hs1, hc1, hp1, hr1⟩
    · exact ⟨below_setRow hB1 (Nat.le_refl _) _, by simpa [World.setRow] using hs1, hc1.setRow _, ⟨by rw [← hp1.row]; exact setRow_other _ _ _ _ (by omega)⟩, ⟨by rw [← hr1.row]; exact setRow_other _ _ _ _ (by omega)⟩⟩
  have HB : Hid (PtOk p) := hp
  have HS : Hid (w2.heap.size = w.heap.size + 3) := hs2
  clear hs1 hs2
  cases hf : p.fresh
  · rw [hf] at c0 hw2
    rw [if_neg (by decide)] at hw2
    have c0' := hp2.c0
    have c1' := hp2.c1
    subst hw2
    go_wp2_with fail
    refine (runs_any w1 p.mask).mono ?_
    rintro e w3 ⟨rfl, hw3⟩
    have hseq := runs_stops 2 (by decide) w1.heap.size p.mask HB.out.lt w3 (by rw [hw3]; exact heap_alloc_new w1 _)
    have hb23 : Below w1.heap.size w1 w3 := by rw [hw3]; exact (Below.refl _ w1).alloc (Nat.le_refl _) _
    have hs3 : w3.heap.size = w.heap.size + 4 := by rw [hw3, World.size_alloc, HS.out]
    have hc3 := hc2.below hb23
    have hp3 := hp2.below hb23
    have hr3 := hr2.below hb23
    have hB3 : Below w.heap.size w w3 := hB2.trans (hb23.mono (by have := HS.out; omega))
    have HT : Hid (w3.heap.size = w.heap.size + 4) := hs3
    clear hw3 c0 c1 hc2 hp2 hr2 hB2 hb23 hs3 hzc
    go_wp2_with fail
    refine (wpIn_wide (n := 3)).1 ?_
    refine wpIn_rangeFunc_ownG rfl (by decide) (gf := 171) (lb := #[.pointer (some ⟨w1.heap.size, 0, none⟩)]) rfl trivial (fun args w => rfl) hseq (fun h k => k.trans h) (fun W l o o' hl h _ _ => by
        show (W.putObj l o').heap[w1.heap.size]? = _
        have := HS.out; have := HT.out
        exact setObj_other W l w1.heap.size o' (by omega)) (Below.refl _ _) (fun _ => rfl)
      (fun pre W => (ChAt W w.heap.size (ranB (frB b p) p pre) ∧ PtAt W (w.heap.size + 1) p ∧ ChAt W (w.heap.size + 1 + 1) zeroC) ∧ Below w.heap.size w W)
      (fun _ _ _ => False)
      (OwnFrom.and (Own.from (fun s A B row hs hg hr => ⟨⟨block_kept hs.1.row hg hr⟩, ⟨block_kept hs.2.1.row hg hr⟩, ⟨block_kept hs.2.2.row hg hr⟩⟩) _) (ownFrom_below (Nat.le_refl _) (by have := HT.out; omega)))
      (fun _ _ _ _ _ hs _ _ => hs)
      ⟨⟨by rw [ranB_nil (frB_len HX.out p)]; exact hc3, hp3, hr3⟩, hB3⟩
      (fun x => { tmps := #[Value.agg (bytesV b), Value.agg (ptC p), Value.pointer (some ⟨w.heap.size, 0, none⟩), Value.pointer (some ⟨w.heap.size + 1, 0, none⟩), Value.pointer (some ⟨w.heap.size + 1 + 1, 0, none⟩), Value.int .i64 (x.1.1 : Int), Value.int .i64 (x.1.2 : Int), Value.pointer (some ⟨w.heap.size + 1, 0, none⟩), Value.bool false, undef, Value.pointer (some ⟨w.heap.size + 1, 1, none⟩), Value.int .u32 (p.mask : Int), .func (.func 171) #[] #[.pointer (some ⟨w1.heap.size, 0, none⟩)], Value.int .i64 (x.1.1 : Int), Value.int .i64 (x.1.2 : Int), undef, undef, undef, undef, undef, undef, undef, undef, undef], defers := [] }) ?assign1 ?body1 ?done1 ?stop1
    case assign1 =>
      intro l x W K hK
      unfold runV
      gi_wp2
      exact hK
    case body1 =>
      rintro l pre x W ⟨⟨hcW, hpW, hrW⟩, hB⟩ _
      obtain ⟨W5, hcp, hc5, ho5, hb5, hk5⟩ := copy_run hcW hpW HP.out x
      have hx1 := x.2.1
      have hx2 := x.2.2
      have HC : Hid (ChAt W5 w.heap.size (ranB (frB b p) p (pre ++ [x]))) := hc5
      have HO : Hid (∀ k, k ≠ w.heap.size → W5.heap[k]? = W.heap[k]?) := ho5
      clear hc5 ho5
      obtain ⟨⟨f, t⟩, hft, ht⟩ := x
      dsimp only at hx1 hx2 hcp ⊢
      have hmx : Tryz.prog.follows .mixedOrders = true := by kernel_rfl
      have i1 : (f : Int) ≤ (t : Int) := by omega
      have i2 : (t : Int) ≤ 32 := by omega
      have i3 : (f : Int) ≤ 32 := by omega
      have i4 : (f : Int) < 32 := by omega
      gi_wp2
      refine wpIn_region_any hmx ?_
      refine wpAny_inRound rfl (by kernel_rfl) _ _ _ _ ?_
      change wpAnyIn _ _ _ _ _ _ _ _ _ (World.drew _)
      refine wpAnyIn_take (i := 0) (v := .int .i64 (f : Int)) rfl rfl (by kernel_rfl) (by kernel_rfl) (by kernel_rfl) (fun _ _ _ h => h) ⟨Or.inl ⟨by rfl, fun w => by go_simp <;> (intro e; omega)⟩, fun _ => rfl⟩ ?_
      simp only [List.getElem_toArray, List.getElem_cons_zero, List.getElem_cons_succ, Act.put, List.setIfInBounds_toArray, List.set_cons_zero, List.set_cons_succ]
      refine wpAnyIn_take (i := 1) (v := .int .i64 (t : Int)) rfl rfl (by kernel_rfl) (by kernel_rfl) (by kernel_rfl) (fun _ _ _ h => h) ⟨Or.inl ⟨by rfl, fun w => by go_simp <;> (intro e; omega)⟩, fun _ => rfl⟩ ?_
      simp only [List.getElem_toArray, List.getElem_cons_zero, List.getElem_cons_succ, Act.put, List.setIfInBounds_toArray, List.set_cons_zero, List.set_cons_succ]
      refine wpAnyIn_take (i := 2) (v := .slice (some ⟨w.heap.size, f, none⟩) (t - f) (32 - f)) rfl rfl (by kernel_rfl) (by kernel_rfl) (by kernel_rfl) (fun _ _ _ h => h) ⟨Or.inl ⟨by rfl, fun w => by go_simp <;> (intro e; omega)⟩, fun _ => rfl⟩ ?_
      simp only [List.getElem_toArray, List.getElem_cons_zero, List.getElem_cons_succ, Act.put, List.setIfInBounds_toArray, List.set_cons_zero, List.set_cons_succ]
      refine wpAnyIn_take (i := 3) (v := .pointer (some ⟨w.heap.size + 1, 2, none⟩)) rfl rfl (by kernel_rfl) (by kernel_rfl) (by kernel_rfl) (fun _ _ _ h => h) ⟨Or.inl ⟨by rfl, fun w => by go_simp <;> (intro e; omega)⟩, fun _ => rfl⟩ ?_
      simp only [List.getElem_toArray, List.getElem_cons_zero, List.getElem_cons_succ, Act.put, List.setIfInBounds_toArray, List.set_cons_zero, List.set_cons_succ]
      refine wpAnyIn_take (i := 4) (v := .int .i64 (f : Int)) rfl rfl (by kernel_rfl) (by kernel_rfl) (by kernel_rfl) (fun _ _ _ h => h) ⟨Or.inl ⟨by rfl, fun w => by go_simp <;> (intro e; omega)⟩, fun _ => rfl⟩ ?_
      simp only [List.getElem_toArray, List.getElem_cons_zero, List.getElem_cons_succ, Act.put, List.setIfInBounds_toArray, List.set_cons_zero, List.set_cons_succ]
      refine wpAnyIn_take (i := 5) (v := .int .i64 (t : Int)) rfl rfl (by kernel_rfl) (by kernel_rfl) (by kernel_rfl) (fun _ _ _ h => h) ⟨Or.inl ⟨by rfl, fun w => by go_simp <;> (intro e; omega)⟩, fun _ => rfl⟩ ?_
      simp only [List.getElem_toArray, List.getElem_cons_zero, List.getElem_cons_succ, Act.put, List.setIfInBounds_toArray, List.set_cons_zero, List.set_cons_succ]
      refine wpAnyIn_take (i := 6) (v := .slice (some ⟨w.heap.size + 1, 2 + f, none⟩) (t - f) (32 - f)) rfl rfl (by kernel_rfl) (by kernel_rfl) (by kernel_rfl) (fun _ _ _ h => h) ⟨Or.inl ⟨by rfl, fun w => by go_simp <;> (intro e; omega)⟩, fun _ => rfl⟩ ?_
      simp only [List.getElem_toArray, List.getElem_cons_zero, List.getElem_cons_succ, Act.put, List.setIfInBounds_toArray, List.set_cons_zero, List.set_cons_succ]
      refine wpAnyIn_ready (rs := [7]) (by kernel_rfl) (by simp) ?_
      refine AllReadyIn.cons rfl (fun K hK => ?_) AllReadyIn.nil
      go_simp
      refine hK _ _ ?_
      clear hK K
      refine wpAnyIn_done (by kernel_rfl) ?_ _
      gi_wp2
      exact ⟨hk5.from _, HO.out _ (by have := HS.out; omega), ⟨HC.out, ⟨(HO.out _ (by omega)).trans hpW.row⟩, ⟨(HO.out _ (by omega)).trans hrW.row⟩⟩, hB.trans hb5⟩
    case done1 =>
      rintro D ys W hD hys ⟨⟨hcW, hpW, hrW⟩, hB⟩ hK
      rw [ranB_all p ys hys] at hcW
      have HL : Hid ((layB b p).length = 32) := layB_len b p
      go_wp2_with (first
        | (refine wpList_loadG rfl 90 _ rfl _ rfl _ (hcW.load HL.out) ?_)
        | (refine wpList_storeC rfl _ _ rfl (w.heap.size + 1 + 1) (layB b p) zeroC rfl rfl HL.out HZ.out hrW ?_))
      have hK' : (W.setRow (w.heap.size + 1 + 1) (bytesV (layB b p))).heap[D]? = some (.deferred (some [])) := (setRow_other W _ D _ (by intro e; subst e; rw [hrW.row] at hK; cases hK)).trans hK
      have hr5 : ChAt (W.setRow (w.heap.size + 1 + 1) (bytesV (layB b p))) (w.heap.size + 1 + 1) (layB b p) := hrW.setRow _
      have hB5 : Below w.heap.size w (W.setRow (w.heap.size + 1 + 1) (bytesV (layB b p))) := below_setRow hB (by omega) _
      generalize W.setRow (w.heap.size + 1 + 1) (bytesV (layB b p)) = W5 at *
      refine ⟨by simp, .inl ⟨_, _, rfl, run_takeDeferred hK', ?_⟩⟩
      have hr6 : ChAt (W5.putObj D (.deferred none)) (w.heap.size + 1 + 1) (layB b p) := ⟨block_kept hr5.row (grownBy_putObj' W5 D _) (fun r e => by cases e; exact ⟨_, hK', rfl⟩)⟩
      refine ⟨.agg (bytesV (layB b p)), ?_, rfl, hB5.trans (belowK_b (w := w) (Nat.le_refl _) W5 D _ _ (by have := HT.out; omega) hK' rfl rfl)⟩
      exact results_cell_row rfl _ _ _ _ (bytesV (layB b p)) _ _ rfl hr6.row Tryz.underlying90 rfl (by rw [bytesV_size, HL.out]; exact size_ch)
    case stop1 =>
      rintro D c pre W _ _ h _
      exact h.elim
  · rw [hf] at c0 hw2
    rw [if_pos rfl] at hw2
    have c0' := hp2.c0
    have c1' := hp2.c1
    go_wp2_with (first
      | (refine wpList_buildBy rfl 90 _ rfl _ rfl [] (by kernel_rfl) (bytesV zeroC) built_ch0 ?_)
      | (refine wpList_storeC rfl _ _ rfl w.heap.size zeroC b rfl rfl HZ.out HX.out hc1 ?_; rw [hw2]))
    refine (runs_any w2 p.mask).mono ?_
    rintro e w3 ⟨rfl, hw3⟩
    have hseq := runs_stops 2 (by decide) w2.heap.size p.mask HB.out.lt w3 (by rw [hw3]; exact heap_alloc_new w2 _)
    have hb23 : Below w2.heap.size w2 w3 := by rw [hw3]; exact (Below.refl _ w2).alloc (Nat.le_refl _) _
    have hs3 : w3.heap.size = w.heap.size + 4 := by rw [hw3, World.size_alloc, HS.out]
    have hc3 := hc2.below hb23
    have hp3 := hp2.below hb23
    have hr3 := hr2.below hb23
    have hB3 : Below w.heap.size w w3 := hB2.trans (hb23.mono (by have := HS.out; omega))
    have HT : Hid (w3.heap.size = w.heap.size + 4) := hs3
    clear hw3 c0 c1 hc2 hp2 hr2 hB2 hb23 hs3 hzc
    go_wp2_with fail
    refine (wpIn_wide (n := 3)).1 ?_
    refine wpIn_rangeFunc_ownG rfl (by decide) (gf := 171) (lb := #[.pointer (some ⟨w2.heap.size, 0, none⟩)]) rfl trivial (fun args w => rfl) hseq (fun h k => k.trans h) (fun W l o o' hl h _ _ => by
        show (W.putObj l o').heap[w2.heap.size]? = _
        have := HS.out; have := HT.out
        exact setObj_other W l w2.heap.size o' (by omega)) (Below.refl _ _) (fun _ => rfl)
      (fun pre W => (ChAt W w.heap.size (ranB (frB b p) p pre) ∧ PtAt W (w.heap.size + 1) p ∧ ChAt W (w.heap.size + 1 + 1) zeroC) ∧ Below w.heap.size w W)
      (fun _ _ _ => False)
      (OwnFrom.and (Own.from (fun s A B row hs hg hr => ⟨⟨block_kept hs.1.row hg hr⟩, ⟨block_kept hs.2.1.row hg hr⟩, ⟨block_kept hs.2.2.row hg hr⟩⟩) _) (ownFrom_below (Nat.le_refl _) (by have := HT.out; omega)))
      (fun _ _ _ _ _ hs _ _ => hs)
      ⟨⟨by rw [ranB_nil (frB_len HX.out p)]; exact hc3, hp3, hr3⟩, hB3⟩
      (fun x => { tmps := #[Value.agg (bytesV b), Value.agg (ptC p), Value.pointer (some ⟨w.heap.size, 0, none⟩), Value.pointer (some ⟨w.heap.size + 1, 0, none⟩), Value.pointer (some ⟨w.heap.size + 1 + 1, 0, none⟩), Value.int .i64 (x.1.1 : Int), Value.int .i64 (x.1.2 : Int), Value.pointer (some ⟨w.heap.size + 1, 0, none⟩), Value.bool true, Value.agg (bytesV zeroC), Value.pointer (some ⟨w.heap.size + 1, 1, none⟩), Value.int .u32 (p.mask : Int), .func (.func 171) #[] #[.pointer (some ⟨w2.heap.size, 0, none⟩)], Value.int .i64 (x.1.1 : Int), Value.int .i64 (x.1.2 : Int), undef, undef, undef, undef, undef, undef, undef, undef, undef], defers := [] }) ?assign2 ?body2 ?done2 ?stop2
    case assign2 =>
      intro l x W K hK
      unfold runV
      gi_wp2
      exact hK
    case body2 =>
      rintro l pre x W ⟨⟨hcW, hpW, hrW⟩, hB⟩ _
      obtain ⟨W5, hcp, hc5, ho5, hb5, hk5⟩ := copy_run hcW hpW HP.out x
      have hx1 := x.2.1
      have hx2 := x.2.2
      have HC : Hid (ChAt W5 w.heap.size (ranB (frB b p) p (pre ++ [x]))) := hc5
      have HO : Hid (∀ k, k ≠ w.heap.size → W5.heap[k]? = W.heap[k]?) := ho5
      clear hc5 ho5
      obtain ⟨⟨f, t⟩, hft, ht⟩ := x
      dsimp only at hx1 hx2 hcp ⊢
      have hmx : Tryz.prog.follows .mixedOrders = true := by kernel_rfl
      have i1 : (f : Int) ≤ (t : Int) := by omega
      have i2 : (t : Int) ≤ 32 := by omega
      have i3 : (f : Int) ≤ 32 := by omega
      have i4 : (f : Int) < 32 := by omega
      gi_wp2
      refine wpIn_region_any hmx ?_
      refine wpAny_inRound rfl (by kernel_rfl) _ _ _ _ ?_
      change wpAnyIn _ _ _ _ _ _ _ _ _ (World.drew _)
      refine wpAnyIn_take (i := 0) (v := .int .i64 (f : Int)) rfl rfl (by kernel_rfl) (by kernel_rfl) (by kernel_rfl) (fun _ _ _ h => h) ⟨Or.inl ⟨by rfl, fun w => by go_simp <;> (intro e; omega)⟩, fun _ => rfl⟩ ?_
      simp only [List.getElem_toArray, List.getElem_cons_zero, List.getElem_cons_succ, Act.put, List.setIfInBounds_toArray, List.set_cons_zero, List.set_cons_succ]
      refine wpAnyIn_take (i := 1) (v := .int .i64 (t : Int)) rfl rfl (by kernel_rfl) (by kernel_rfl) (by kernel_rfl) (fun _ _ _ h => h) ⟨Or.inl ⟨by rfl, fun w => by go_simp <;> (intro e; omega)⟩, fun _ => rfl⟩ ?_
      simp only [List.getElem_toArray, List.getElem_cons_zero, List.getElem_cons_succ, Act.put, List.setIfInBounds_toArray, List.set_cons_zero, List.set_cons_succ]
      refine wpAnyIn_take (i := 2) (v := .slice (some ⟨w.heap.size, f, none⟩) (t - f) (32 - f)) rfl rfl (by kernel_rfl) (by kernel_rfl) (by kernel_rfl) (fun _ _ _ h => h) ⟨Or.inl ⟨by rfl, fun w => by go_simp <;> (intro e; omega)⟩, fun _ => rfl⟩ ?_
      simp only [List.getElem_toArray, List.getElem_cons_zero, List.getElem_cons_succ, Act.put, List.setIfInBounds_toArray, List.set_cons_zero, List.set_cons_succ]
      refine wpAnyIn_take (i := 3) (v := .pointer (some ⟨w.heap.size + 1, 2, none⟩)) rfl rfl (by kernel_rfl) (by kernel_rfl) (by kernel_rfl) (fun _ _ _ h => h) ⟨Or.inl ⟨by rfl, fun w => by go_simp <;> (intro e; omega)⟩, fun _ => rfl⟩ ?_
      simp only [List.getElem_toArray, List.getElem_cons_zero, List.getElem_cons_succ, Act.put, List.setIfInBounds_toArray, List.set_cons_zero, List.set_cons_succ]
      refine wpAnyIn_take (i := 4) (v := .int .i64 (f : Int)) rfl rfl (by kernel_rfl) (by kernel_rfl) (by kernel_rfl) (fun _ _ _ h => h) ⟨Or.inl ⟨by rfl, fun w => by go_simp <;> (intro e; omega)⟩, fun _ => rfl⟩ ?_
      simp only [List.getElem_toArray, List.getElem_cons_zero, List.getElem_cons_succ, Act.put, List.setIfInBounds_toArray, List.set_cons_zero, List.set_cons_succ]
      refine wpAnyIn_take (i := 5) (v := .int .i64 (t : Int)) rfl rfl (by kernel_rfl) (by kernel_rfl) (by kernel_rfl) (fun _ _ _ h => h) ⟨Or.inl ⟨by rfl, fun w => by go_simp <;> (intro e; omega)⟩, fun _ => rfl⟩ ?_
      simp only [List.getElem_toArray, List.getElem_cons_zero, List.getElem_cons_succ, Act.put, List.setIfInBounds_toArray, List.set_cons_zero, List.set_cons_succ]
      refine wpAnyIn_take (i := 6) (v := .slice (some ⟨w.heap.size + 1, 2 + f, none⟩) (t - f) (32 - f)) rfl rfl (by kernel_rfl) (by kernel_rfl) (by kernel_rfl) (fun _ _ _ h => h) ⟨Or.inl ⟨by rfl, fun w => by go_simp <;> (intro e; omega)⟩, fun _ => rfl⟩ ?_
      simp only [List.getElem_toArray, List.getElem_cons_zero, List.getElem_cons_succ, Act.put, List.setIfInBounds_toArray, List.set_cons_zero, List.set_cons_succ]
      refine wpAnyIn_ready (rs := [7]) (by kernel_rfl) (by simp) ?_
      refine AllReadyIn.cons rfl (fun K hK => ?_) AllReadyIn.nil
      go_simp
      refine hK _ _ ?_
      clear hK K
      refine wpAnyIn_done (by kernel_rfl) ?_ _
      gi_wp2
      exact ⟨hk5.from _, HO.out _ (by have := HS.out; omega), ⟨HC.out, ⟨(HO.out _ (by omega)).trans hpW.row⟩, ⟨(HO.out _ (by omega)).trans hrW.row⟩⟩, hB.trans hb5⟩
    case done2 =>
      rintro D ys W hD hys ⟨⟨hcW, hpW, hrW⟩, hB⟩ hK
      rw [ranB_all p ys hys] at hcW
      have HL : Hid ((layB b p).length = 32) := layB_len b p
      go_wp2_with (first
        | (refine wpList_loadG rfl 90 _ rfl _ rfl _ (hcW.load HL.out) ?_)
        | (refine wpList_storeC rfl _ _ rfl (w.heap.size + 1 + 1) (layB b p) zeroC rfl rfl HL.out HZ.out hrW ?_))
      have hK' : (W.setRow (w.heap.size + 1 + 1) (bytesV (layB b p))).heap[D]? = some (.deferred (some [])) := (setRow_other W _ D _ (by intro e; subst e; rw [hrW.row] at hK; cases hK)).trans hK
      have hr5 : ChAt (W.setRow (w.heap.size + 1 + 1) (bytesV (layB b p))) (w.heap.size + 1 + 1) (layB b p) := hrW.setRow _
      have hB5 : Below w.heap.size w (W.setRow (w.heap.size + 1 + 1) (bytesV (layB b p))) := below_setRow hB (by omega) _
      generalize W.setRow (w.heap.size + 1 + 1) (bytesV (layB b p)) = W5 at *
      refine ⟨by simp, .inl ⟨_, _, rfl, run_takeDeferred hK', ?_⟩⟩
      have hr6 : ChAt (W5.putObj D (.deferred none)) (w.heap.size + 1 + 1) (layB b p) := ⟨block_kept hr5.row (grownBy_putObj' W5 D _) (fun r e => by cases e; exact ⟨_, hK', rfl⟩)⟩
      refine ⟨.agg (bytesV (layB b p)), ?_, rfl, hB5.trans (belowK_b (w := w) (Nat.le_refl _) W5 D _ _ (by have := HT.out; omega) hK' rfl rfl)⟩
      exact results_cell_row rfl _ _ _ _ (bytesV (layB b p)) _ _ rfl hr6.row Tryz.underlying90 rfl (by rw [bytesV_size, HL.out]; exact size_ch)
    case stop2 =>
      rintro D c pre W _ _ h _
      exact h.elim

end Go.Proofs.YtjjhfginmamlkaaGreat
