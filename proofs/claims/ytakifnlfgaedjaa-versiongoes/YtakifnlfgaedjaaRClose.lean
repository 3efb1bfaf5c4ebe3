/- The contracts of the document's Close and Snapshot. -/
import Derived.Test.YtakifnlfgaedjaaRBase
namespace Go.Proofs.Ytakifnlfgaedjaa
open Go.RowKit
set_option linter.unusedVariables false
set_option linter.unusedSimpArgs false
set_option maxRecDepth 4000

theorem sf_len (x : Sf) : (sfC x).length = 3 := rfl
theorem in_len (x : Int) : (inC x).length = 1 := rfl

/-- None of the first j has that number. -/
def NoId (l : List Sf) (id : Int) (j : Nat) : Prop := ∀ (i : Nat) (y : Sf), i < j → l[i]? = some y → (y.id : Int) = id → id = 0

/-- What Close does: the first one of that number is closed; or there is none. -/
def CloseOut (B : Nat) (w w' : World) (p : Nat) (vp vl : Value) (x : Rf) (id : Int) (e : Ending) : Prop :=
  (∃ (i : Nat) (y : Sf), x.l[i]? = some y ∧ (y.id : Int) = id ∧ id ≠ 0 ∧ e = .returned (.int .i64 0) ∧ RfMoves B w w' p vp vl ⟨x.root, x.ver, x.first, x.base, x.pl, x.l.set i ⟨0, y.root, y.ver⟩⟩) ∨
  ((∀ y ∈ x.l, (y.id : Int) = id → id = 0) ∧ e = .returned (.int .i64 4) ∧ w' = w)

set_option maxHeartbeats 2000000 in
theorem rclose_any {B : Nat} {w : World} {p : Nat} {vp vl : Value} {x : Rf} (h : RfAt B w p vp vl x) (hln : x.l.length ≤ 1000) (id : Int) : Calls Try.prog 13 #[ptrR p, .int .i64 id] w fun e w' => CloseOut B w w' p vp vl x id e := by
  obtain ⟨root, ver, first, base, pl, l⟩ := x
  obtain ⟨a, c, rfl⟩ := own_shape h.ol
  dsimp only at *
  have H : Hid (RfAt B w p vp (.slice a l.length c) ⟨root, ver, first, base, pl, l⟩) := h
  have c5 : w.cell? ⟨p, 5, none⟩ = some (.slice a l.length c) := h.cell 5 _ rfl
  obtain ⟨hc1, hc2⟩ := own_cap h.ol
  unfold maxLen at hc2
  (try dsimp only at hc1)
  obtain ⟨n, hn⟩ : ∃ n, l.length = n := ⟨_, rfl⟩
  have HN : Hid (l.length = n) := hn
  rw [hn] at c5 hln hc1
  clear h
  unfold ptrR
  rw [hn]
  clear hn
  go_enter Try.func13, Try.ntmps13
  go_wp2
  go_loopw [5, 11] (fun _ t wr => ∃ j : Nat, j ≤ n ∧ t = .int .i64 j ∧ wr = w ∧ Hid (NoId l id j)) (fun _ t _ => n - (intOf t).toNat)
  case atStart => exact ⟨0, Nat.zero_le _, rfl, rfl, fun i y hi => absurd hi (Nat.not_lt_zero _)⟩
  case round =>
    obtain ⟨j, hj, rfl, rfl, HI⟩ := hrel
    by_cases hjn : j < n
    · have hjI : (j : Int) < n := by omega
      obtain ⟨g, cap, hv, hcl, hcm, _, hgl, hcell⟩ := own_gs sf_len H.out.ol (by have := HN.out; show 0 < l.length; omega)
      (try dsimp only at hv)
      simp only [Value.slice.injEq, true_and] at hv
      obtain ⟨rfl, rfl⟩ := hv
      obtain ⟨y, hy⟩ : ∃ y, l[j]? = some y := ⟨_, List.getElem?_eq_getElem (by have := HN.out; omega)⟩
      have HY : Hid (l[j]? = some y) := hy
      obtain ⟨yi, yr, yv⟩ := y
      obtain ⟨ti, hti⟩ : ∃ ti : Int, (yi : Int) = ti := ⟨_, rfl⟩
      have HTI : Hid ((yi : Int) = ti) := hti
      have d0 : wr.cell? ⟨g, j * 3, none⟩ = some (.int .i64 ti) := by rw [← hti]; exact hcell j _ hy 0 _ rfl
      clear hti
      clear hcell hy
      by_cases hid : ti = id
      · subst hid
        by_cases hz : ti = 0
        · subst hz
          have HI2 : Hid (NoId l 0 (j + 1)) := fun i y _ _ _ => rfl
          go_wp2
          go_roundw
          case rel => exact ⟨j + 1, by omega, by go_num, trivial, HI2⟩
          case measure => simp [intOf]; omega
        · have hfz := World.ownsRow.frozenAt (show wr.ownsRow B 66 3 (.slice (some ⟨g, 0, none⟩) l.length c) l.length (l.flatMap sfC) from H.out.ol) (j * 3)
          have hst := World.ownsRow.stored (show wr.ownsRow B 66 3 (.slice (some ⟨g, 0, none⟩) l.length c) l.length (l.flatMap sfC) from H.out.ol) (j * 3) (.int .i64 ((0 : Nat) : Int))
          rw [flatSet l j _ 0 HY.out] at hst
          have hS : Sole [g] wr (wr.setCell ⟨g, j * 3, none⟩ (.int .i64 0)) := Sole.setCell _ _ (by simp)
          have hgp : g ≠ p := (H.out.apartL g rfl).1
          have HF : Hid (RfMoves B wr (wr.setCell ⟨g, j * 3, none⟩ (.int .i64 0)) p vp (.slice (some ⟨g, 0, none⟩) l.length c) ⟨root, ver, first, base, pl, l.set j ⟨0, yr, yv⟩⟩) := by
            refine ⟨⟨vp, .slice (some ⟨g, 0, none⟩) l.length c, ⟨(hS.block p H.out.lt (by simpa using fun e => hgp e.symm)).trans H.out.row, ?_, ?_⟩⟩, hS.mono (fun k hk => ?_)⟩
            · exact own_keep H.out.op hS.size (fun q hq hl => hS.block q hl (fun e => by
                simp only [List.mem_singleton] at e
                subst e
                exact two_apart (by decide) H.out.op H.out.ol _ hq rfl))
            · show World.ownsRow _ B _ 3 _ (l.set j ⟨0, yr, yv⟩).length _
              rw [List.length_set]
              exact hst.1
            · simp only [List.mem_singleton] at hk; subst hk; exact List.mem_cons_of_mem _ (List.mem_append_right _ (by simp [Value.ownBlock]))
          clear hst hS
          go_wp2
          go_ret
          refine .inl ⟨j, _, HY.out, HTI.out, hz, rfl, ?_⟩
          have := HF.out
          rw [HN.out] at this
          exact this
      · have HI2 : Hid (NoId l id (j + 1)) := fun i y hi hy e => by
          by_cases q : i = j
          · subst q; rw [HY.out] at hy; cases hy; exact absurd (HTI.out.symm.trans e) hid
          · exact HI.out i y (by omega) hy e
        go_wp2
        go_roundw
        case rel => exact ⟨j + 1, by omega, by go_num, trivial, HI2⟩
        case measure => simp [intOf]; omega
    · have hjI : ¬ (j : Int) < n := by omega
      go_wp2
      go_ret
      refine .inr ⟨fun y hy e => ?_, rfl, rfl⟩
      obtain ⟨i, hi⟩ := List.mem_iff_getElem?.1 hy
      have hil := (List.getElem?_eq_some_iff.1 hi).1
      have hN := HN.out
      exact HI.out i y (by have : i < l.length := hil; omega) hi e

/-- What Snapshot tells. -/
def SnapOut (l : List Sf) (id : Int) (e : Ending) : Prop :=
  (∃ y ∈ l, (y.id : Int) = id ∧ id ≠ 0 ∧ e = .returned (.tuple #[.int .u32 y.root, .int .u64 y.ver, .int .i64 0])) ∨
  ((∀ y ∈ l, (y.id : Int) = id → id = 0) ∧ e = .returned (.tuple #[.int .u32 0, .int .u64 0, .int .i64 4]))

set_option maxHeartbeats 2000000 in
theorem rsnap_any {B : Nat} {w : World} {p : Nat} {vp vl : Value} {x : Rf} (h : RfAt B w p vp vl x) (hln : x.l.length ≤ 1000) (id : Int) : Calls Try.prog 30 #[ptrR p, .int .i64 id] w fun e w' => SnapOut x.l id e ∧ Below w.heap.size w w' := by
  obtain ⟨root, ver, first, base, pl, l⟩ := x
  obtain ⟨a, c, rfl⟩ := own_shape h.ol
  dsimp only at *
  have H : Hid (RfAt B w p vp (.slice a l.length c) ⟨root, ver, first, base, pl, l⟩) := h
  have c5 : w.cell? ⟨p, 5, none⟩ = some (.slice a l.length c) := h.cell 5 _ rfl
  obtain ⟨hc1, hc2⟩ := own_cap h.ol
  unfold maxLen at hc2
  (try dsimp only at hc1)
  obtain ⟨n, hn⟩ : ∃ n, l.length = n := ⟨_, rfl⟩
  have HN : Hid (l.length = n) := hn
  rw [hn] at c5 hln hc1
  clear h hn
  unfold ptrR
  go_enter Try.func30, Try.ntmps30
  go_wp2
  go_loopw [8, 14] (fun _ t wr => ∃ j : Nat, j ≤ n ∧ t = .int .i64 j ∧ Hid (Below w.heap.size w wr) ∧ Hid (NoId l id j)) (fun _ t _ => n - (intOf t).toNat)
  case atStart => exact ⟨0, Nat.zero_le _, rfl, Below.refl _ _, fun i y hi => absurd hi (Nat.not_lt_zero _)⟩
  case round =>
    obtain ⟨j, hj, rfl, HB, HI⟩ := hrel
    by_cases hjn : j < n
    · have hjI : (j : Int) < n := by omega
      obtain ⟨g, cap, hv, hcl, hcm, _, hgl, hcell⟩ := own_gs sf_len (H.out.below HB.out).ol (by have := HN.out; show 0 < l.length; omega)
      (try dsimp only at hv)
      simp only [Value.slice.injEq, true_and] at hv
      obtain ⟨rfl, rfl⟩ := hv
      obtain ⟨y, hy⟩ : ∃ y, l[j]? = some y := ⟨_, List.getElem?_eq_getElem (by have := HN.out; omega)⟩
      have HY : Hid (l[j]? = some y) := hy
      obtain ⟨yi, yr, yv⟩ := y
      obtain ⟨ti, hti⟩ : ∃ ti : Int, (yi : Int) = ti := ⟨_, rfl⟩
      have HTI : Hid ((yi : Int) = ti) := hti
      have d0 : wr.cell? ⟨g, j * 3, none⟩ = some (.int .i64 ti) := by rw [← hti]; exact hcell j _ hy 0 _ rfl
      clear hti
      have d1 : wr.cell? ⟨g, j * 3 + 1, none⟩ = some (.int .u32 yr) := hcell j _ hy 1 _ rfl
      have d2 : wr.cell? ⟨g, j * 3 + 2, none⟩ = some (.int .u64 yv) := hcell j _ hy 2 _ rfl
      obtain ⟨w1, hw1⟩ : ∃ w1, wr.alloc (.cells #[.int .i64 ti, .int .u32 yr, .int .u64 yv] 66) = w1 := ⟨_, rfl⟩
      have hB1 : Below wr.heap.size wr w1 := by rw [← hw1]; exact (Below.refl _ wr).alloc (Nat.le_refl _) _
      have hg1 : w1.heap[wr.heap.size]? = some (.cells #[.int .i64 ti, .int .u32 yr, .int .u64 yv] 66 (0, 0)) := by rw [← hw1]; exact heap_alloc_new wr _
      have e0 : w1.cell? ⟨wr.heap.size, 0, none⟩ = some (.int .i64 ti) := by rw [cell_of_row _ _ 0 _ _ (0, 0) hg1]; rfl
      have e1 : w1.cell? ⟨wr.heap.size, 1, none⟩ = some (.int .u32 yr) := by rw [cell_of_row _ _ 1 _ _ (0, 0) hg1]; rfl
      have e2 : w1.cell? ⟨wr.heap.size, 2, none⟩ = some (.int .u64 yv) := by rw [cell_of_row _ _ 2 _ _ (0, 0) hg1]; rfl
      have HB1 : Hid (Below w.heap.size w w1) := thenB HB.out hB1
      clear hcell hy hg1 hB1
      by_cases hid : ti = id
      · subst hid
        by_cases hz : ti = 0
        · subst hz
          have HI2 : Hid (NoId l 0 (j + 1)) := fun i y _ _ _ => rfl
          go_wp2
          go_roundw
          case rel => exact ⟨j + 1, by omega, by go_num, HB1, HI2⟩
          case measure => simp [intOf]; omega
        · go_wp2_with fail
          go_quiet (fail)
          go_wp2
          go_returns
          exact ⟨.inl ⟨_, List.mem_of_getElem? HY.out, HTI.out, hz, by simp⟩, HB1.out.trans (belowQ _ _ _)⟩
      · have HI2 : Hid (NoId l id (j + 1)) := fun i y hi hy e => by
          by_cases q : i = j
          · subst q; rw [HY.out] at hy; cases hy; exact absurd (HTI.out.symm.trans e) hid
          · exact HI.out i y (by omega) hy e
        go_wp2
        go_roundw
        case rel => exact ⟨j + 1, by omega, by go_num, HB1, HI2⟩
        case measure => simp [intOf]; omega
    · have hjI : ¬ (j : Int) < n := by omega
      go_wp2
      go_returns
      refine ⟨.inr ⟨fun y hy e => ?_, by simp⟩, HB.out⟩
      obtain ⟨i, hi⟩ := List.mem_iff_getElem?.1 hy
      have hil := (List.getElem?_eq_some_iff.1 hi).1
      have hN := HN.out
      exact HI.out i y (by have : i < l.length := hil; omega) hi e

end Go.Proofs.Ytakifnlfgaedjaa
