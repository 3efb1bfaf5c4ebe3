/- The contract of the law's live: the chapter's examples. -/
import Derived.Test.YtljfdmjlilahjaaFNew
import Derived.Test.YtljfdmjlilahjaaFTurn
import Derived.Test.YtljfdmjlilahjaaFRun
namespace Go.Proofs.Ytljfdmjlilahjaa
open Go.RowKit
set_option linter.unusedVariables false
set_option linter.unusedSimpArgs false
set_option maxRecDepth 4000

def firstB (ks : List Nat) (N b : Nat) : Bool := (List.range N).all (fun j => ks.getD (b + j) 0 == 1) && (List.range b).all (fun i => !(List.range N).all (fun j => ks.getD (i + j) 0 == 1))

theorem firstB_ok {ks : List Nat} {N b : Nat} (h : firstB ks N b = true) : IsFirst ks N (some b) := by
  unfold firstB at h
  rw [Bool.and_eq_true] at h
  refine ⟨fun j hj => ?_, fun i hi hr => ?_⟩
  · exact eq_of_beq (List.all_eq_true.1 h.1 j (List.mem_range.2 hj))
  · have h2 := List.all_eq_true.1 h.2 i (List.mem_range.2 hi)
    rw [Bool.not_eq_true', ← Bool.not_eq_true] at h2
    exact h2 (List.all_eq_true.2 fun j hj => by rw [hr j (List.mem_range.1 hj)]; rfl)

theorem rdI_one {W : World} {g : Nat} {x : Int} (hg : W.heap[g]? = some (.cells #[.int .i64 x] 3 (0, 0))) : RdI W (.slice (some ⟨g, 0, none⟩) 1 1) [x] := by
  refine ⟨_, 1, rfl, Nat.le_refl _, by decide, fun _ => ⟨g, 0, rfl, (Array.getElem?_eq_some_iff.1 hg).1, fun i y hy => ?_⟩⟩
  match i, hy with
  | 0, hy =>
    simp at hy
    subst hy
    exact cell_of_row W g 0 _ _ (0, 0) hg
  | i + 1, hy => simp at hy

theorem rdI_nil (W : World) : RdI W (.slice none 0 0) [] := ⟨none, 0, rfl, by decide, by decide, fun h => by simp at h⟩

/-- A row of the call's own, cell by cell. -/
theorem natC_at {W : World} {base : Nat} {u : Value} {l : List Nat} (h : W.ownsRow base 3 1 u l.length (natC l)) (hp : 0 < l.length) : ∃ g c, u = .slice (some ⟨g, 0, none⟩) l.length c ∧ base ≤ g ∧ g < W.heap.size ∧ ∀ (i x : Nat), l[i]? = some x → W.cell? ⟨g, i, none⟩ = some (.int .i64 x) := by
  rcases h.2 with ⟨rfl, h0⟩ | ⟨g, cap, cur, rfl, hb, hg, hn, hm, hs, ht⟩
  · omega
  · refine ⟨g, cap, rfl, hb, (Array.getElem?_eq_some_iff.1 hg).1, fun i x hx => ?_⟩
    rw [cell_of_row W _ i _ _ (0, 0) hg]
    have hi : i < l.length := (List.getElem?_eq_some_iff.1 hx).1
    have e : (natC l)[i]? = some (.int .i64 x) := by unfold natC; rw [List.getElem?_map, hx]; rfl
    rw [← ht, List.getElem?_take, if_pos (by omega), Array.getElem?_toList] at e
    exact e

set_option maxHeartbeats 8000000 in
theorem live_any (w : World) : Calls Try.prog 7 #[] w fun e w' => e = .returned (.bool true) ∧ Below w.heap.size w w' := by
  have hBa := (Below.refl w.heap.size w).alloc (Nat.le_refl _) (.cells #[.int .i64 5] 3)
  have hga := heap_alloc_new w (.cells #[.int .i64 5] 3)
  have hnew : Calls Try.prog 8 #[.int .i64 4, .int .i64 10, .slice (some ⟨w.heap.size, 0, none⟩) 1 1] (w.alloc (.cells #[.int .i64 5] 3)) (fun e w' => NewOut (w.alloc (.cells #[.int .i64 5] 3)) 4 6 [5] e w') := new_ok _ 4 6 (by decide) (by decide) _ [5] (rdI_one hga)
  clear hga
  go_enter Try.func7, Try.ntmps7
  go_wp2_with fail
  refine hnew.mono ?_
  clear hnew
  rintro e w1 hno
  unfold NewOut at hno
  obtain ⟨hb1, hcase⟩ := hno
  have hks : takeAll 4 (List.replicate 6 1) [5] = some [1, 2, 1, 1, 1, 1] := by decide
  rcases hcase with ⟨hq, _⟩ | ⟨_, hq, _⟩ | ⟨_, ks, p, h, hk, rfl, H, hok, hp, hh⟩
  · exact absurd hq (by decide)
  · rw [hks] at hq; cases hq
  rw [hks] at hk
  obtain rfl := Option.some.inj hk
  have hB1 : Below w.heap.size w w1 := hBa.trans (hb1.mono hBa.size)
  have hz0 := hBa.size
  have hpw : w.heap.size ≤ p := by omega
  have hhw : w.heap.size ≤ h := by omega
  have hh1 : h < w1.heap.size := by obtain ⟨_, _, _, _, _, _, q, _⟩ := FrAt.opened H; exact q
  clear hks hk hb1 hBa hp hh hz0
  unfold ptr
  have cc := take_any H hok
  unfold ptr at cc
  go_wp2_with fail
  refine cc.mono ?_
  clear cc
  rintro e w2 ⟨r, rfl, hF, H', hS⟩
  obtain rfl : r = some 0 := first_unique hF (firstB_ok (by decide))
  rw [show runV ⟨4, [1, 2, 1, 1, 1, 1]⟩ (some 0) = 4 from rfl, show runE (some 0) = 0 from rfl]
  replace H' : PAt w2 p h ⟨4, [2, 2, 1, 1, 1, 1]⟩ := H'
  have hok' : FrOk ⟨4, [2, 2, 1, 1, 1, 1]⟩ := ⟨by decide, by decide, by decide⟩
  have hB2 : Below w.heap.size w w2 := Sole.belowOf hB1 hS hB1.size (by simpa using hhw)
  clear hS
  clear H hok hF
  have H := H'
  have hok := hok'
  clear H' hok'
  have cc := takeRun_ok H hok 2 (by decide) (by decide)
  unfold ptr at cc
  go_wp2_with fail
  refine cc.mono ?_
  clear cc
  rintro e w3 ⟨r, rfl, hF, H', hS⟩
  obtain rfl : r = some 2 := first_unique hF (firstB_ok (by decide))
  rw [show runV ⟨4, [2, 2, 1, 1, 1, 1]⟩ (some 2) = 6 from rfl, show runE (some 2) = 0 from rfl]
  replace H' : PAt w3 p h ⟨4, [2, 2, 2, 2, 1, 1]⟩ := H'
  have hok' : FrOk ⟨4, [2, 2, 2, 2, 1, 1]⟩ := ⟨by decide, by decide, by decide⟩
  have hB3 : Below w.heap.size w w3 := Sole.belowOf hB2 hS hB2.size (by simpa using hhw)
  clear hS
  clear H hok hF
  have H := H'
  have hok := hok'
  clear H' hok'
  have cc := defer_any H hok 4
  unfold ptr at cc
  rw [show turnE ⟨4, [2, 2, 2, 2, 1, 1]⟩ 4 = 0 from by decide] at cc
  go_wp2_with fail
  refine cc.mono ?_
  clear cc
  rintro e w4 ⟨rfl, H', hS⟩
  replace H' : PAt w4 p h ⟨4, [3, 2, 2, 2, 1, 1]⟩ := H'
  have hok' : FrOk ⟨4, [3, 2, 2, 2, 1, 1]⟩ := ⟨by decide, by decide, by decide⟩
  have hB4 : Below w.heap.size w w4 := Sole.belowOf hB3 hS hB3.size (by simpa using hhw)
  have hh4 : h < w4.heap.size := by obtain ⟨_, _, _, _, _, _, q, _⟩ := FrAt.opened H'; exact q
  clear H hok hS
  have H := H'
  have hok := hok'
  clear H' hok'
  have cc := freeL_any H hok
  unfold ptr at cc
  rw [show blocksL ⟨4, [3, 2, 2, 2, 1, 1]⟩ 1 = [8, 9] from by decide] at cc
  go_wp2_with fail
  refine cc.mono ?_
  clear cc
  rintro e w5 ⟨u5, rfl, ho5, hb5⟩
  obtain ⟨g5, k5, rfl, q5, z5, c5⟩ := natC_at ho5 (by decide)
  have x50 := c5 0 8 rfl
  have hB5 : Below w.heap.size w w5 := hB4.trans (hb5.mono hB4.size)
  have H5 : PAt w5 p h ⟨4, [3, 2, 2, 2, 1, 1]⟩ := FrAt.below H hb5
  have hs5 := hb5.size
  clear ho5 c5 H hb5
  have cc := waitingL_any H5 hok
  unfold ptr at cc
  rw [show blocksL ⟨4, [3, 2, 2, 2, 1, 1]⟩ 3 = [4] from by decide] at cc
  go_wp2_with fail
  refine cc.mono ?_
  clear cc
  rintro e w6 ⟨u6, rfl, ho6, hb6⟩
  obtain ⟨g6, k6, rfl, q6, z6, c6⟩ := natC_at ho6 (by decide)
  have x60 := c6 0 4 rfl
  have x56 := (hb6.cell (p := ⟨g5, 0, none⟩) z5).trans x50
  have hB6 : Below w.heap.size w w6 := hB5.trans (hb6.mono hB5.size)
  have H : PAt w6 p h ⟨4, [3, 2, 2, 2, 1, 1]⟩ := FrAt.below H5 hb6
  have hs6 := hb6.size
  have HS6 : Sole [h] w6 w6 := Sole.refl _ _
  clear ho6 c6 H5 hb6 x50
  have cc := take_any H hok
  unfold ptr at cc
  go_wp2_with fail
  refine cc.mono ?_
  clear cc
  rintro e w7 ⟨r, rfl, hF, H', hS⟩
  obtain rfl : r = some 4 := first_unique hF (firstB_ok (by decide))
  rw [show runV ⟨4, [3, 2, 2, 2, 1, 1]⟩ (some 4) = 8 from rfl, show runE (some 4) = 0 from rfl]
  replace H' : PAt w7 p h ⟨4, [3, 2, 2, 2, 2, 1]⟩ := H'
  have hok' : FrOk ⟨4, [3, 2, 2, 2, 2, 1]⟩ := ⟨by decide, by decide, by decide⟩
  have hB7 : Below w.heap.size w w7 := Sole.belowOf hB6 hS hB6.size (by simpa using hhw)
  have HS7 : Sole [h] w6 w7 := HS6.trans hS
  clear hS HS6
  clear H hok hF
  have H := H'
  have hok := hok'
  clear H' hok'
  have hg7 := heap_alloc_new w7 (.cells #[.int .i64 4] 3)
  have hbA := (Below.refl w7.heap.size w7).alloc (Nat.le_refl _) (.cells #[.int .i64 4] 3)
  have cc := sweep_any (FrAt.below H hbA) hok _ [4] (rdI_one hg7)
  unfold ptr at cc
  rw [show swept ⟨4, [3, 2, 2, 2, 2, 1]⟩ [4] = 0 from by decide] at cc
  go_wp2_with fail
  refine cc.mono ?_
  clear cc hg7
  rintro e w8 ⟨rfl, H', hS⟩
  replace H' : PAt w8 p h ⟨4, [3, 2, 2, 2, 2, 1]⟩ := by have e : sweepF ⟨4, [3, 2, 2, 2, 2, 1]⟩ [4] = ⟨4, [3, 2, 2, 2, 2, 1]⟩ := (by unfold sweepF; congr 1); rw [e] at H'; exact H'
  have hBA : Below w.heap.size w _ := hB7.trans (hbA.mono hB7.size)
  have hB8 : Below w.heap.size w w8 := Sole.belowOf hBA hS hBA.size (by simpa using hhw)
  have HS8 : Sole [h] w6 w8 := (HS7.trans (Sole.of_below hbA [h])).trans hS
  clear H hS HS7 hbA hBA
  have cc := sweep_any H' hok _ [] (rdI_nil w8)
  unfold ptr at cc
  rw [show swept ⟨4, [3, 2, 2, 2, 2, 1]⟩ [] = 1 from by decide] at cc
  go_wp2_with fail
  refine cc.mono ?_
  clear cc
  rintro e w9 ⟨rfl, H9, hS⟩
  have H : PAt w9 p h ⟨4, [1, 2, 2, 2, 2, 1]⟩ := by have e : sweepF ⟨4, [3, 2, 2, 2, 2, 1]⟩ [] = ⟨4, [1, 2, 2, 2, 2, 1]⟩ := (by unfold sweepF; congr 1); rw [e] at H9; exact H9
  have hB9 : Below w.heap.size w w9 := Sole.belowOf hB8 hS hB8.size (by simpa using hhw)
  have HS9 : Sole [h] w6 w9 := HS8.trans hS
  clear H' H9 hS HS8 hok
  have hok : FrOk ⟨4, [1, 2, 2, 2, 2, 1]⟩ := ⟨by decide, by decide, by decide⟩
  have cc := take_any H hok
  unfold ptr at cc
  go_wp2_with fail
  refine cc.mono ?_
  clear cc
  rintro e w10 ⟨r, rfl, hF, H', hS⟩
  obtain rfl : r = some 0 := first_unique hF (firstB_ok (by decide))
  rw [show runV ⟨4, [1, 2, 2, 2, 2, 1]⟩ (some 0) = 4 from rfl, show runE (some 0) = 0 from rfl]
  replace H' : PAt w10 p h ⟨4, [2, 2, 2, 2, 2, 1]⟩ := H'
  have hok' : FrOk ⟨4, [2, 2, 2, 2, 2, 1]⟩ := ⟨by decide, by decide, by decide⟩
  have hB10 : Below w.heap.size w w10 := Sole.belowOf hB9 hS hB9.size (by simpa using hhw)
  have HS10 : Sole [h] w6 w10 := HS9.trans hS
  have y5 := (World.cell?_of_block (a := ⟨g5, 0, none⟩) (HS10.block g5 (by omega) (by simp; omega))).trans x56
  have y6 := (World.cell?_of_block (a := ⟨g6, 0, none⟩) (HS10.block g6 z6 (by simp; omega))).trans x60
  clear H H' hok hok' hF hS HS9 x56 x60
  go_wp2
  go_ret
  exact ⟨rfl, hB10⟩

end Go.Proofs.Ytljfdmjlilahjaa
