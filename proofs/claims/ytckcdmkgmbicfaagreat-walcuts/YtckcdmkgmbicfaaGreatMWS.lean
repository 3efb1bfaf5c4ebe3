/- WSort, WSort2, WSort3: in one text. -/
import Derived.Test.YtckcdmkgmbicfaaGreatMW3
import Derived.Shelf.SlSortCmp.NoneTotal
import Derived.Ground.SlsfProg
namespace Go.Proofs.YtckcdmkgmbicfaaGreat
open Go.RowKit
set_option linter.unusedVariables false
set_option linter.unusedSimpArgs false
set_option maxRecDepth 4000

open Go.Proofs
open Go.RowKit Go.Sort Go.Shelf

def Tryz.sortF_ren : Go.Shelf.Ren := ⟨fun | 6 => 61 | 15 => 88 | 14 => 87 | 28 => 117 | 29 => 118 | 20 => 109 | 21 => 110 | 22 => 111 | 23 => 112 | 24 => 113 | 25 => 114 | 26 => 115 | 27 => 116 | 46 => 127 | 47 => 128 | 48 => 129 | 49 => 130 | 50 => 131 | 57 => 143 | n => n, fun | 22 => 85 | 24 => 117 | 25 => 120 | 3 => 3 | 39 => 151 | 0 => 0 | 53 => 183 | 55 => 34 | 4 => 4 | 46 => 176 | 45 => 175 | 50 => 180 | 5 => 5 | 9 => 9 | 66 => 190 | 70 => 193 | 76 => 204 | 77 => 205 | n => n, fun | n => n⟩
theorem Tryz.sortF : Go.Proofs.SlLaysF0.n6 Tryz.prog Tryz.sortF_ren := {
  mixed := by kernel_rfl
  f6 := ⟨Tryz.f61.name, by decide, Tryz.func61.trans (congrArg some (by kernel_rfl))⟩
  f14 := ⟨Tryz.f87.name, by decide, Tryz.func87.trans (congrArg some (by kernel_rfl))⟩
  f15 := Tryz.func88.trans (congrArg some (by kernel_rfl))
  f20 := ⟨Tryz.f109.name, by decide, Tryz.func109.trans (congrArg some (by kernel_rfl))⟩
  f21 := ⟨Tryz.f110.name, by decide, Tryz.func110.trans (congrArg some (by kernel_rfl))⟩
  f22 := ⟨Tryz.f111.name, by decide, Tryz.func111.trans (congrArg some (by kernel_rfl))⟩
  f23 := ⟨Tryz.f112.name, by decide, Tryz.func112.trans (congrArg some (by kernel_rfl))⟩
  f24 := ⟨Tryz.f113.name, by decide, Tryz.func113.trans (congrArg some (by kernel_rfl))⟩
  f25 := ⟨Tryz.f114.name, by decide, Tryz.func114.trans (congrArg some (by kernel_rfl))⟩
  f26 := ⟨Tryz.f115.name, by decide, Tryz.func115.trans (congrArg some (by kernel_rfl))⟩
  f27 := ⟨Tryz.f116.name, by decide, Tryz.func116.trans (congrArg some (by kernel_rfl))⟩
  f28 := Tryz.func117.trans (congrArg some (by kernel_rfl))
  f29 := Tryz.func118.trans (congrArg some (by kernel_rfl))
  f46 := ⟨Tryz.f127.name, by decide, Tryz.func127.trans (congrArg some (by kernel_rfl))⟩
  f47 := Tryz.func128.trans (congrArg some (by kernel_rfl))
  f48 := Tryz.func129.trans (congrArg some (by kernel_rfl))
  f49 := ⟨Tryz.f130.name, by decide, Tryz.func130.trans (congrArg some (by kernel_rfl))⟩
  f50 := ⟨Tryz.f131.name, by decide, Tryz.func131.trans (congrArg some (by kernel_rfl))⟩
  f57 := ⟨Tryz.f143.name, by decide, Tryz.func143.trans (congrArg some (by kernel_rfl))⟩
  t0 := Tryz.underlying0
  a0 := Tryz.isAgg0
  z0 := Tryz.sizeOf0
  v0 := Tryz.zeroValue0
  t3 := Tryz.underlying3
  a3 := Tryz.isAgg3
  z3 := Tryz.sizeOf3
  v3 := Tryz.zeroValue3
  t4 := Tryz.underlying4
  a4 := Tryz.isAgg4
  z4 := Tryz.sizeOf4
  v4 := Tryz.zeroValue4
  t5 := Tryz.underlying5
  a5 := Tryz.isAgg5
  z5 := Tryz.sizeOf5
  v5 := Tryz.zeroValue5
  t9 := Tryz.underlying9
  a9 := Tryz.isAgg9
  z9 := Tryz.sizeOf9
  v9 := Tryz.zeroValue9
  t22 := Tryz.underlying85
  a22 := Tryz.isAgg85
  z22 := Tryz.sizeOf85
  v22 := Tryz.zeroValue85
  t25 := Tryz.underlying120
  a25 := Tryz.isAgg120
  z25 := Tryz.sizeOf120
  v25 := Tryz.zeroValue120
  t39 := Tryz.underlying151
  a39 := Tryz.isAgg151
  z39 := Tryz.sizeOf151
  v39 := Tryz.zeroValue151
  t45 := Tryz.underlying175
  a45 := Tryz.isAgg175
  z45 := Tryz.sizeOf175
  v45 := Tryz.zeroValue175
  t46 := Tryz.underlying176
  a46 := Tryz.isAgg176
  z46 := Tryz.sizeOf176
  v46 := Tryz.zeroValue176
  t50 := Tryz.underlying180
  a50 := Tryz.isAgg180
  z50 := Tryz.sizeOf180
  v50 := Tryz.zeroValue180
  t53 := Tryz.underlying183
  a53 := Tryz.isAgg183
  z53 := Tryz.sizeOf183
  v53 := Tryz.zeroValue183
  t55 := Tryz.underlying34
  a55 := Tryz.isAgg34
  z55 := Tryz.sizeOf34
  v55 := Tryz.zeroValue34
  t66 := Tryz.underlying190
  a66 := Tryz.isAgg190
  z66 := Tryz.sizeOf190
  v66 := Tryz.zeroValue190
  t70 := Tryz.underlying193
  a70 := Tryz.isAgg193
  z70 := Tryz.sizeOf193
  v70 := Tryz.zeroValue193
  t76 := Tryz.underlying204
  a76 := Tryz.isAgg204
  z76 := Tryz.sizeOf204
  v76 := Tryz.zeroValue204
  t77 := Tryz.underlying205
  a77 := Tryz.isAgg205
  z77 := Tryz.sizeOf205
  v77 := Tryz.zeroValue205 }

/-- cmp.Compare. -/
def cmpZ (a b : Int) : Int := if a < b then -1 else if b < a then 1 else 0

theorem nanA_any (w : World) (x : Int) : Calls Tryz.prog 119 #[.int .u64 x] w fun e w' => e = .returned (.bool false) ∧ w = w' := by
  go_enter Tryz.func119, Tryz.ntmps119
  go_wp2
  go_ret
  exact ⟨rfl, rfl⟩
theorem nanB_any (w : World) (x : Int) : Calls Tryz.prog 120 #[.int .i64 x] w fun e w' => e = .returned (.bool false) ∧ w = w' := by
  go_enter Tryz.func120, Tryz.ntmps120
  go_wp2
  go_ret
  exact ⟨rfl, rfl⟩
theorem cmpA_any (w : World) (a b : Int) : Calls Tryz.prog 90 #[.int .u64 a, .int .u64 b] w fun e w' => e = .returned (.int .i64 (cmpZ a b)) ∧ w = w' := by
  unfold cmpZ
  by_cases h1 : a < b
  · rw [if_pos h1]
    go_enter Tryz.func90, Tryz.ntmps90
    go_wp2_with (go_at_call 119; refine (nanA_any _ _).mono ?_; rintro e w1 ⟨rfl, rfl⟩)
    go_ret
    exact ⟨rfl, rfl⟩
  · rw [if_neg h1]
    by_cases h2 : b < a
    · rw [if_pos h2]
      go_enter Tryz.func90, Tryz.ntmps90
      go_wp2_with (go_at_call 119; refine (nanA_any _ _).mono ?_; rintro e w1 ⟨rfl, rfl⟩)
      go_ret
      exact ⟨rfl, rfl⟩
    · rw [if_neg h2]
      go_enter Tryz.func90, Tryz.ntmps90
      go_wp2_with (go_at_call 119; refine (nanA_any _ _).mono ?_; rintro e w1 ⟨rfl, rfl⟩)
      go_ret
      exact ⟨rfl, rfl⟩

theorem cmpB_any (w : World) (a b : Int) : Calls Tryz.prog 91 #[.int .i64 a, .int .i64 b] w fun e w' => e = .returned (.int .i64 (cmpZ a b)) ∧ w = w' := by
  unfold cmpZ
  by_cases h1 : a < b
  · rw [if_pos h1]
    go_enter Tryz.func91, Tryz.ntmps91
    go_wp2_with (go_at_call 120; refine (nanB_any _ _).mono ?_; rintro e w1 ⟨rfl, rfl⟩)
    go_ret
    exact ⟨rfl, rfl⟩
  · rw [if_neg h1]
    by_cases h2 : b < a
    · rw [if_pos h2]
      go_enter Tryz.func91, Tryz.ntmps91
      go_wp2_with (go_at_call 120; refine (nanB_any _ _).mono ?_; rintro e w1 ⟨rfl, rfl⟩)
      go_ret
      exact ⟨rfl, rfl⟩
    · rw [if_neg h2]
      go_enter Tryz.func91, Tryz.ntmps91
      go_wp2_with (go_at_call 120; refine (nanB_any _ _).mono ?_; rintro e w1 ⟨rfl, rfl⟩)
      go_ret
      exact ⟨rfl, rfl⟩

def orZ (a b : Int) : Int := if a = 0 then b else a

set_option maxHeartbeats 400000 in
theorem orZ_any (w : World) (g : Nat) (x y : Int) (h0 : w.cell? ⟨g, 0, none⟩ = some (.int .i64 x)) (h1 : w.cell? ⟨g, 1, none⟩ = some (.int .i64 y)) :
    Calls Tryz.prog 89 #[.slice (some ⟨g, 0, none⟩) 2 2] w fun e w' => e = .returned (.int .i64 (orZ x y)) ∧ w = w' := by
  have HO : Hid (orZ x y = if x = 0 then y else x) := rfl
  generalize orZ x y = Z at *
  go_enter Tryz.func89, Tryz.ntmps89
  go_wp2
  go_loop [8] (fun t => ∃ i : Nat, i ≤ 2 ∧ t = .int .i64 i ∧ Hid ((1 ≤ i → x = 0) ∧ (2 ≤ i → y = 0))) (fun t => 2 - (RowKit.intOf t).toNat)
  case atStart => exact ⟨0, by decide, rfl, ⟨fun h => absurd h (by decide), fun h => absurd h (by decide)⟩⟩
  case round =>
    obtain ⟨i, hi, rfl, HI⟩ := hrel
    by_cases e0 : i = 0
    · subst e0
      by_cases hx : x = 0
      · have HX : Hid (x = 0) := hx
        have hz' : (x != 0) = false := by simp [hx]
        clear hx
        go_wp2
        go_round
        case rel => exact ⟨1, by decide, by go_num, (show Hid _ from ⟨fun _ => HX.out, fun h => absurd h (by decide)⟩)⟩
        case measure => simp [RowKit.intOf]
      · have hz' : (x != 0) = true := by simpa using hx
        have HX : Hid (¬ x = 0) := hx
        clear hx
        go_wp2
        go_ret
        exact ⟨congrArg (fun z => Ending.returned (Value.int .i64 z)) (by rw [HO.out, if_neg HX.out]), rfl⟩
    · by_cases e1 : i = 1
      · subst e1
        have HX : Hid (x = 0) := HI.out.1 (by decide)
        by_cases hy : y = 0
        · have HY : Hid (y = 0) := hy
          have hz' : (y != 0) = false := by simp [hy]
          clear hy
          go_wp2
          go_round
          case rel => exact ⟨2, by decide, by go_num, (show Hid _ from ⟨fun _ => HX.out, fun _ => HY.out⟩)⟩
          case measure => simp [RowKit.intOf]
        · have hz' : (y != 0) = true := by simpa using hy
          go_wp2
          go_ret
          exact ⟨congrArg (fun z => Ending.returned (Value.int .i64 z)) (by rw [HO.out, if_pos HX.out]), rfl⟩
      · obtain rfl : i = 2 := by omega
        have HX : Hid (x = 0) := HI.out.1 (by decide)
        have HY : Hid (y = 0) := HI.out.2 (by decide)
        go_wp2
        go_ret
        exact ⟨congrArg (fun z => Ending.returned (Value.int .i64 z)) (by rw [HO.out, if_pos HX.out, HY.out]), rfl⟩


/-- How pieces are ordered. -/
def cmpF (x y : Fv) : Int := orZ (cmpZ x.p.at_ y.p.at_) (cmpZ x.p.index y.p.index)
def fvV (x : Fv) : Value := .agg (fvC x).toArray
def pvV (x : Fv) : Value := .agg #[.int .u8 x.p.kind, .int .u64 x.p.tail, .int .u64 x.p.at_, .int .i64 x.p.index, .int .i64 x.p.length, .slice x.a x.n x.d]

theorem keepG {w W : World} (h : ∃ os, W = grow w.drew os) (o : Obj) : ∃ os, W.alloc o = grow w.drew os := by
  obtain ⟨os, rfl⟩ := h
  exact ⟨os ++ #[o], by rw [alloc_eq_grow, grow_grow]⟩

theorem cell_in {w : World} {a : Addr} {v : Value} (os : Array Obj) (hb : a.block < w.heap.size) (h : w.cell? a = some v) : (grow w.drew os).cell? a = some v := cell_grown hb h 1 os

set_option maxRecDepth 100000 in
set_option maxHeartbeats 2000000 in
theorem compare_any (w : World) (x y : Fv) : Calls Tryz.prog 63 #[pvV x, pvV y] w fun e w' => e = .returned (.int .i64 (cmpF x y)) ∧ ∃ q os, w' = grow (w.drewN q) os := by
  obtain ⟨w1, hw1⟩ : ∃ w1, w.alloc (.cells #[.int .u8 x.p.kind, .int .u64 x.p.tail, .int .u64 x.p.at_, .int .i64 x.p.index, .int .i64 x.p.length, .slice x.a x.n x.d] 82) = w1 := ⟨_, rfl⟩
  have hB1 : Below w.heap.size w w1 := by rw [← hw1]; exact (Below.refl _ w).alloc (Nat.le_refl _) _
  have hg1 : w1.heap[w.heap.size]? = some (.cells #[.int .u8 x.p.kind, .int .u64 x.p.tail, .int .u64 x.p.at_, .int .i64 x.p.index, .int .i64 x.p.length, .slice x.a x.n x.d] 82 (0, 0)) := by rw [← hw1]; exact heap_alloc_new w _
  have hlt1 : w.heap.size < w1.heap.size := (Array.getElem?_eq_some_iff.1 hg1).1
  obtain ⟨w2, hw2⟩ : ∃ w2, w1.alloc (.cells #[.int .u8 y.p.kind, .int .u64 y.p.tail, .int .u64 y.p.at_, .int .i64 y.p.index, .int .i64 y.p.length, .slice y.a y.n y.d] 82) = w2 := ⟨_, rfl⟩
  have hB2 : Below w1.heap.size w1 w2 := by rw [← hw2]; exact (Below.refl _ w1).alloc (Nat.le_refl _) _
  have hg2 : w2.heap[w1.heap.size]? = some (.cells #[.int .u8 y.p.kind, .int .u64 y.p.tail, .int .u64 y.p.at_, .int .i64 y.p.index, .int .i64 y.p.length, .slice y.a y.n y.d] 82 (0, 0)) := by rw [← hw2]; exact heap_alloc_new w1 _
  have hlt2 : w1.heap.size < w2.heap.size := (Array.getElem?_eq_some_iff.1 hg2).1
  have k1 := (hB2.block _ hlt1).trans hg1
  have HW : Hid (w2 = grow w #[.cells #[.int .u8 x.p.kind, .int .u64 x.p.tail, .int .u64 x.p.at_, .int .i64 x.p.index, .int .i64 x.p.length, .slice x.a x.n x.d] 82, .cells #[.int .u8 y.p.kind, .int .u64 y.p.tail, .int .u64 y.p.at_, .int .i64 y.p.index, .int .i64 y.p.length, .slice y.a y.n y.d] 82]) := by
    unfold Hid; rw [← hw2, ← hw1, alloc_eq_grow, alloc_eq_grow, grow_grow]; rfl
  have hS : ∀ W, (∃ os, W = grow w2.drew os) → ∀ b j v, b < w2.heap.size → w2.cell? ⟨b, j, none⟩ = some v → W.cell? ⟨b, j, none⟩ = some v := fun W ⟨os, e⟩ b j v hb h => by rw [e]; exact cell_in os hb h
  have x2 : ∀ W, (∃ os, W = grow w2.drew os) → W.cell? ⟨w.heap.size, 2, none⟩ = some (.int .u64 x.p.at_) := fun W h => hS W h _ _ _ (by omega) (by rw [cell_of_row _ _ 2 _ _ (0, 0) k1]; rfl)
  have x3 : ∀ W, (∃ os, W = grow w2.drew os) → W.cell? ⟨w.heap.size, 3, none⟩ = some (.int .i64 x.p.index) := fun W h => hS W h _ _ _ (by omega) (by rw [cell_of_row _ _ 3 _ _ (0, 0) k1]; rfl)
  have y2 : ∀ W, (∃ os, W = grow w2.drew os) → W.cell? ⟨w1.heap.size, 2, none⟩ = some (.int .u64 y.p.at_) := fun W h => hS W h _ _ _ hlt2 (by rw [cell_of_row _ _ 2 _ _ (0, 0) hg2]; rfl)
  have y3 : ∀ W, (∃ os, W = grow w2.drew os) → W.cell? ⟨w1.heap.size, 3, none⟩ = some (.int .i64 y.p.index) := fun W h => hS W h _ _ _ hlt2 (by rw [cell_of_row _ _ 3 _ _ (0, 0) hg2]; rfl)
  clear hS k1 hg1 hg2 hB1 hB2
  have c1 := fun W => cmpA_any W x.p.at_ y.p.at_
  have c2 := fun W => cmpB_any W x.p.index y.p.index
  unfold cmpF pvV
  generalize cmpZ (x.p.at_ : Int) (y.p.at_ : Int) = A at *
  generalize cmpZ (x.p.index : Int) (y.p.index : Int) = B at *
  have hAg : (w2.alloc (.cells #[.int .i64 A, .int .i64 B] 3)).drew.heap[w2.heap.size]? = some (.cells #[.int .i64 A, .int .i64 B] 3 (0, 0)) := heap_alloc_new w2 _
  have hA0 : (w2.alloc (.cells #[.int .i64 A, .int .i64 B] 3)).drew.cell? ⟨w2.heap.size, 0, none⟩ = some (.int .i64 A) := by rw [cell_of_row _ _ 0 _ _ (0, 0) hAg]; rfl
  have hA1 : (w2.alloc (.cells #[.int .i64 A, .int .i64 B] 3)).drew.cell? ⟨w2.heap.size, 1, none⟩ = some (.int .i64 B) := by rw [cell_of_row _ _ 1 _ _ (0, 0) hAg]; rfl
  clear hAg
  go_enter Tryz.func63, Tryz.ntmps63
  go_wp2_with fail
  refine wp_region_noPanic ?_
  refine wp_region_held_drew (S := fun W => ∃ os, W = grow w2.drew os) (by kernel_rfl) ⟨#[], (grow_empty _).symm⟩ (fun hHeld => ?_)
  refine wpAnyH_take (i := 0) (v := .pointer (some ⟨w.heap.size, 2, none⟩)) rfl (by kernel_rfl) (by kernel_rfl) (by kernel_rfl) (fun _ _ _ h => h) (Or.inl ⟨by rfl, fun W hSw => by (try dsimp only at hSw); go_simp⟩) (by assumption) ?_
  simp only [List.getElem_toArray, List.getElem_cons_zero, List.getElem_cons_succ, Act.put, List.setIfInBounds_toArray, List.set_cons_zero, List.set_cons_succ]
  refine wpAnyH_take (i := 1) (v := .int .u64 x.p.at_) rfl (by kernel_rfl) (by kernel_rfl) (by kernel_rfl) (fun _ _ _ h => h) (Or.inl ⟨by rfl, fun W hSw => by (try dsimp only at hSw); go_simp⟩) (by assumption) ?_
  simp only [List.getElem_toArray, List.getElem_cons_zero, List.getElem_cons_succ, Act.put, List.setIfInBounds_toArray, List.set_cons_zero, List.set_cons_succ]
  refine wpAnyH_take (i := 2) (v := .pointer (some ⟨w1.heap.size, 2, none⟩)) rfl (by kernel_rfl) (by kernel_rfl) (by kernel_rfl) (fun _ _ _ h => h) (Or.inl ⟨by rfl, fun W hSw => by (try dsimp only at hSw); go_simp⟩) (by assumption) ?_
  simp only [List.getElem_toArray, List.getElem_cons_zero, List.getElem_cons_succ, Act.put, List.setIfInBounds_toArray, List.set_cons_zero, List.set_cons_succ]
  refine wpAnyH_take (i := 3) (v := .int .u64 y.p.at_) rfl (by kernel_rfl) (by kernel_rfl) (by kernel_rfl) (fun _ _ _ h => h) (Or.inl ⟨by rfl, fun W hSw => by (try dsimp only at hSw); go_simp⟩) (by assumption) ?_
  simp only [List.getElem_toArray, List.getElem_cons_zero, List.getElem_cons_succ, Act.put, List.setIfInBounds_toArray, List.set_cons_zero, List.set_cons_succ]
  refine wpAnyH_take (i := 5) (v := .pointer (some ⟨w.heap.size, 3, none⟩)) rfl (by kernel_rfl) (by kernel_rfl) (by kernel_rfl) (fun _ _ _ h => h) (Or.inl ⟨by rfl, fun W hSw => by (try dsimp only at hSw); go_simp⟩) (by assumption) ?_
  simp only [List.getElem_toArray, List.getElem_cons_zero, List.getElem_cons_succ, Act.put, List.setIfInBounds_toArray, List.set_cons_zero, List.set_cons_succ]
  refine wpAnyH_take (i := 6) (v := .int .i64 x.p.index) rfl (by kernel_rfl) (by kernel_rfl) (by kernel_rfl) (fun _ _ _ h => h) (Or.inl ⟨by rfl, fun W hSw => by (try dsimp only at hSw); go_simp⟩) (by assumption) ?_
  simp only [List.getElem_toArray, List.getElem_cons_zero, List.getElem_cons_succ, Act.put, List.setIfInBounds_toArray, List.set_cons_zero, List.set_cons_succ]
  refine wpAnyH_take (i := 7) (v := .pointer (some ⟨w1.heap.size, 3, none⟩)) rfl (by kernel_rfl) (by kernel_rfl) (by kernel_rfl) (fun _ _ _ h => h) (Or.inl ⟨by rfl, fun W hSw => by (try dsimp only at hSw); go_simp⟩) (by assumption) ?_
  simp only [List.getElem_toArray, List.getElem_cons_zero, List.getElem_cons_succ, Act.put, List.setIfInBounds_toArray, List.set_cons_zero, List.set_cons_succ]
  refine wpAnyH_take (i := 8) (v := .int .i64 y.p.index) rfl (by kernel_rfl) (by kernel_rfl) (by kernel_rfl) (fun _ _ _ h => h) (Or.inl ⟨by rfl, fun W hSw => by (try dsimp only at hSw); go_simp⟩) (by assumption) ?_
  simp only [List.getElem_toArray, List.getElem_cons_zero, List.getElem_cons_succ, Act.put, List.setIfInBounds_toArray, List.set_cons_zero, List.set_cons_succ]
  refine wpAnyH_ready (rs := [4]) (by kernel_rfl) (by simp) ?_
  refine AllReadyH.cons rfl (fun K hK => ?_) AllReadyH.nil
  go_simp
  go_wp2_with (go_at_call 90; refine (c1 _).mono ?_; rintro e w3 ⟨rfl, rfl⟩)
  refine hK.out _ _ (by assumption) (fun hHeld2 => ?_)
  clear hK K
  refine wpAnyH_ready (rs := [9]) (by kernel_rfl) (by simp) ?_
  refine AllReadyH.cons rfl (fun K hK => ?_) AllReadyH.nil
  go_simp
  go_wp2_with (go_at_call 91; refine (c2 _).mono ?_; rintro e w4 ⟨rfl, rfl⟩)
  refine hK.out _ _ (by assumption) (fun hHeld2 => ?_)
  clear hK K
  refine wpAnyH_ready (rs := [10]) (by kernel_rfl) (by simp) ?_
  refine AllReadyH.cons rfl (fun K hK => ?_) AllReadyH.nil
  go_simp
  go_wp2
  refine hK.out _ _ ⟨#[.cells #[.int .i64 A, .int .i64 B] 3], by rw [alloc_eq_grow]; rfl⟩ (fun hHeld2 => ?_)
  clear hK K
  refine wpAnyH_ready (rs := [11]) (by kernel_rfl) (by simp) ?_
  refine AllReadyH.cons rfl (fun K hK => ?_) AllReadyH.nil
  go_simp
  go_wp2_with (go_at_call 89; refine (orZ_any _ _ A B hA0 hA1).mono ?_; rintro e w5 ⟨rfl, rfl⟩)
  refine hK.out _ _ (by assumption) (fun hHeld2 => ?_)
  clear hK K
  refine wpAnyH_take (i := 12) (v := .int .i64 (orZ A B)) rfl (by kernel_rfl) (by kernel_rfl) (by kernel_rfl) (fun _ _ _ h => h) (Or.inl ⟨by rfl, fun W hSw => by (try dsimp only at hSw); go_simp⟩) (by assumption) ?_
  simp only [List.getElem_toArray, List.getElem_cons_zero, List.getElem_cons_succ, Act.put, List.setIfInBounds_toArray, List.set_cons_zero, List.set_cons_succ]
  refine wpAnyH_done (by kernel_rfl) ?_ _
  refine NoPanic.normal ?_
  clear x2 x3 y2 y3 c1 c2
  obtain ⟨os, hos⟩ := hHeld2
  go_wp2
  go_ret
  refine ⟨rfl, 1, #[.cells #[.int .u8 x.p.kind, .int .u64 x.p.tail, .int .u64 x.p.at_, .int .i64 x.p.index, .int .i64 x.p.length, .slice x.a x.n x.d] 82, .cells #[.int .u8 y.p.kind, .int .u64 y.p.tail, .int .u64 y.p.at_, .int .i64 y.p.index, .int .i64 y.p.length, .slice y.a y.n y.d] 82] ++ os, ?_⟩
  first | (rw [hos, HW.out, ← grow_grow]; rfl) | (rw [← hos, HW.out, ← grow_grow]; rfl)

open Go.Proofs
open Go.RowKit Go.Sort Go.Shelf

set_option maxHeartbeats 1000000 in
theorem findOn2_any (w : World) (x y : Fv) : Calls Tryz.prog 62 #[fvV x, fvV y] w fun e w' => e = .returned (.int .i64 (cmpF x y)) ∧ ∃ q os, w' = grow (w.drewN q) os := by
  have hx : (fvC x).toArray = #[.int .u8 x.p.kind, .int .u64 x.p.tail, .int .u64 x.p.at_, .int .i64 x.p.index, .int .i64 x.p.length, .slice x.a x.n x.d, .int .i64 x.blk] := rfl
  have hy : (fvC y).toArray = #[.int .u8 y.p.kind, .int .u64 y.p.tail, .int .u64 y.p.at_, .int .i64 y.p.index, .int .i64 y.p.length, .slice y.a y.n y.d, .int .i64 y.blk] := rfl
  unfold fvV
  rw [hx, hy]
  clear hx hy
  obtain ⟨w1, hw1⟩ : ∃ w1, w.alloc (.cells #[.int .u8 x.p.kind, .int .u64 x.p.tail, .int .u64 x.p.at_, .int .i64 x.p.index, .int .i64 x.p.length, .slice x.a x.n x.d, .int .i64 x.blk] 117) = w1 := ⟨_, rfl⟩
  have hB1 : Below w.heap.size w w1 := by rw [← hw1]; exact (Below.refl _ w).alloc (Nat.le_refl _) _
  have hg1 : w1.heap[w.heap.size]? = some (.cells #[.int .u8 x.p.kind, .int .u64 x.p.tail, .int .u64 x.p.at_, .int .i64 x.p.index, .int .i64 x.p.length, .slice x.a x.n x.d, .int .i64 x.blk] 117 (0, 0)) := by rw [← hw1]; exact heap_alloc_new w _
  have hlt1 : w.heap.size < w1.heap.size := (Array.getElem?_eq_some_iff.1 hg1).1
  obtain ⟨w2, hw2⟩ : ∃ w2, w1.alloc (.cells #[.int .u8 y.p.kind, .int .u64 y.p.tail, .int .u64 y.p.at_, .int .i64 y.p.index, .int .i64 y.p.length, .slice y.a y.n y.d, .int .i64 y.blk] 117) = w2 := ⟨_, rfl⟩
  have hB2 : Below w1.heap.size w1 w2 := by rw [← hw2]; exact (Below.refl _ w1).alloc (Nat.le_refl _) _
  have hg2 : w2.heap[w1.heap.size]? = some (.cells #[.int .u8 y.p.kind, .int .u64 y.p.tail, .int .u64 y.p.at_, .int .i64 y.p.index, .int .i64 y.p.length, .slice y.a y.n y.d, .int .i64 y.blk] 117 (0, 0)) := by rw [← hw2]; exact heap_alloc_new w1 _
  have k1 := (hB2.block _ hlt1).trans hg1
  have HW : Hid (w2 = grow w #[.cells #[.int .u8 x.p.kind, .int .u64 x.p.tail, .int .u64 x.p.at_, .int .i64 x.p.index, .int .i64 x.p.length, .slice x.a x.n x.d, .int .i64 x.blk] 117, .cells #[.int .u8 y.p.kind, .int .u64 y.p.tail, .int .u64 y.p.at_, .int .i64 y.p.index, .int .i64 y.p.length, .slice y.a y.n y.d, .int .i64 y.blk] 117]) := by
    unfold Hid; rw [← hw2, ← hw1, alloc_eq_grow, alloc_eq_grow, grow_grow]; rfl
  have x0 : w2.cell? ⟨w.heap.size, 0, none⟩ = some (.int .u8 x.p.kind) := by rw [cell_of_row _ _ 0 _ _ (0, 0) k1]; rfl
  have x1 : w2.cell? ⟨w.heap.size, 1, none⟩ = some (.int .u64 x.p.tail) := by rw [cell_of_row _ _ 1 _ _ (0, 0) k1]; rfl
  have x2 : w2.cell? ⟨w.heap.size, 2, none⟩ = some (.int .u64 x.p.at_) := by rw [cell_of_row _ _ 2 _ _ (0, 0) k1]; rfl
  have x3 : w2.cell? ⟨w.heap.size, 3, none⟩ = some (.int .i64 x.p.index) := by rw [cell_of_row _ _ 3 _ _ (0, 0) k1]; rfl
  have x4 : w2.cell? ⟨w.heap.size, 4, none⟩ = some (.int .i64 x.p.length) := by rw [cell_of_row _ _ 4 _ _ (0, 0) k1]; rfl
  have x5 : w2.cell? ⟨w.heap.size, 5, none⟩ = some (.slice x.a x.n x.d) := by rw [cell_of_row _ _ 5 _ _ (0, 0) k1]; rfl
  have y0 : w2.cell? ⟨w1.heap.size, 0, none⟩ = some (.int .u8 y.p.kind) := by rw [cell_of_row _ _ 0 _ _ (0, 0) hg2]; rfl
  have y1 : w2.cell? ⟨w1.heap.size, 1, none⟩ = some (.int .u64 y.p.tail) := by rw [cell_of_row _ _ 1 _ _ (0, 0) hg2]; rfl
  have y2 : w2.cell? ⟨w1.heap.size, 2, none⟩ = some (.int .u64 y.p.at_) := by rw [cell_of_row _ _ 2 _ _ (0, 0) hg2]; rfl
  have y3 : w2.cell? ⟨w1.heap.size, 3, none⟩ = some (.int .i64 y.p.index) := by rw [cell_of_row _ _ 3 _ _ (0, 0) hg2]; rfl
  have y4 : w2.cell? ⟨w1.heap.size, 4, none⟩ = some (.int .i64 y.p.length) := by rw [cell_of_row _ _ 4 _ _ (0, 0) hg2]; rfl
  have y5 : w2.cell? ⟨w1.heap.size, 5, none⟩ = some (.slice y.a y.n y.d) := by rw [cell_of_row _ _ 5 _ _ (0, 0) hg2]; rfl
  have cc := compare_any w2 x y
  unfold pvV at cc
  generalize cmpF x y = C at *
  clear hg1 hg2 k1 hB1 hB2
  go_enter Tryz.func62, Tryz.ntmps62
  go_wp2_with fail
  refine cc.mono ?_
  rintro e w3 ⟨rfl, q, os, rfl⟩
  clear cc
  go_wp2
  go_ret
  exact ⟨rfl, q, _, by rw [HW.out]; exact grow_grow (w.drewN q) _ os⟩

/-- Two pieces in their order. -/
def leF (x y : Fv) : Prop := x.p.at_ < y.p.at_ ∨ (x.p.at_ = y.p.at_ ∧ x.p.index ≤ y.p.index)

theorem ltF (x y : Fv) : ltOf cmpF x y = decide (x.p.at_ < y.p.at_ ∨ (x.p.at_ = y.p.at_ ∧ x.p.index < y.p.index)) := by
  unfold ltOf cmpF orZ cmpZ
  congr 1
  apply propext
  by_cases h1 : x.p.at_ < y.p.at_
  · have e1 : (x.p.at_ : Int) < y.p.at_ := by omega
    simp [e1, h1]
  · by_cases h2 : y.p.at_ < x.p.at_
    · have e1 : ¬ (x.p.at_ : Int) < y.p.at_ := by omega
      have e2 : (y.p.at_ : Int) < x.p.at_ := by omega
      simp [e1, e2, h1]
      omega
    · have e : x.p.at_ = y.p.at_ := by omega
      rw [e]
      by_cases h3 : x.p.index < y.p.index
      · have e3 : (x.p.index : Int) < y.p.index := by omega
        simp [e3, h3]
      · by_cases h4 : y.p.index < x.p.index
        · have e3 : ¬ (x.p.index : Int) < y.p.index := by omega
          have e4 : (y.p.index : Int) < x.p.index := by omega
          simp [e3, e4, h3]
        · have e3 : ¬ (x.p.index : Int) < y.p.index := by omega
          have e4 : ¬ (y.p.index : Int) < x.p.index := by omega
          simp [e3, e4, h3]

theorem swoF : SWO (ltOf cmpF) := by
  refine ⟨fun x => ?_, fun x y z h1 h2 => ?_, fun x y z h1 h2 => ?_⟩
  · rw [ltF]; simp
  · rw [ltF] at *; simp only [decide_eq_true_eq] at *; omega
  · rw [ltF] at *; simp only [decide_eq_false_iff_not] at *; omega

theorem flat_get {α : Type} [Inhabited α] {k : Nat} (hk0 : 0 < k) {enc : α → List Value} (hk : ∀ x, (enc x).length = k) : ∀ (L : List α) (t : Nat), t < L.length * k → (L.flatMap enc)[t]? = some ((enc (L[t / k]!))[t % k]!)
  | [], t, h => by simp at h
  | x :: L, t, h => by
    rw [List.flatMap_cons]
    by_cases ht : t < k
    · have hx := hk x
      rw [List.getElem?_append_left (by omega), Nat.div_eq_of_lt ht, Nat.mod_eq_of_lt ht]
      show (enc x)[t]? = some ((enc x)[t]!)
      rw [getElem!_pos (enc x) t (by omega), List.getElem?_eq_getElem (by omega)]
    · have hx := hk x
      have h2 : t - k < L.length * k := by rw [List.length_cons, Nat.succ_mul] at h; omega
      rw [List.getElem?_append_right (by omega), hx, flat_get hk0 hk L (t - k) h2]
      have e1 : t / k = (t - k) / k + 1 := by
        rw [Nat.div_eq_sub_div hk0 (by omega)]
      have e2 : t % k = (t - k) % k := Nat.mod_eq_sub_mod (by omega)
      rw [e1, e2]
      rfl

theorem flatK_list {α : Type} [Inhabited α] {k : Nat} (hk0 : 0 < k) {enc : α → List Value} (hk : ∀ x, (enc x).length = k) (L : List α) : (flatK enc k L.toArray).toList = L.flatMap enc := by
  have hlen : (L.flatMap enc).length = L.length * k := by
    induction L with
    | nil => simp
    | cons x L ih => rw [List.flatMap_cons, List.length_append, hk, ih, List.length_cons, Nat.succ_mul]; omega
  apply List.ext_getElem?
  intro t
  by_cases ht : t < L.length * k
  · rw [flat_get hk0 hk L t ht, Array.getElem?_toList]
    have h1 : t < (flatK enc k L.toArray).size := by simpa using ht
    have h2 := get_flatK enc k L.toArray t (by simpa using ht)
    rw [getElem!_pos _ t h1] at h2
    rw [Array.getElem?_eq_getElem h1, h2]
    simp
  · rw [List.getElem?_eq_none (by simp; omega), List.getElem?_eq_none (by omega)]

open Go.Proofs
open Go.RowKit Go.Sort Go.Shelf

theorem heap_sortedV {w : World} {g n : Nat} {os : Array Obj} {cur : Array Value} {e : TypeId} {fr : Nat × Nat} (d : Array Value) (hb : w.heap[g]? = some (.cells cur e fr)) :
    (grow (putRow id (Sort.ahead w n) g 0 d) os).heap[g]? = some (.cells (putCells id 0 d cur) e fr) := by
  have hg : g < w.heap.size := (Array.getElem?_eq_some_iff.1 hb).1
  rw [heap_grow_old _ _ (by simpa using hg)]
  simp [putRow, mapBlock, Sort.ahead, Array.getElem?_modify, hb, onCells]

theorem grownBy_sortedV {w : World} {g n : Nat} {os : Array Obj} (d : Array Value) : w.grownBy (grow (putRow id (Sort.ahead w n) g 0 d) os) (some g) := by
  refine ⟨rfl, rfl, rfl, by simp, fun k hk hne => ?_⟩
  rw [heap_grow_old _ _ (by simpa using hk)]
  have : g ≠ k := fun e => hne (by rw [e])
  simp [putRow, mapBlock, Sort.ahead, Array.getElem?_modify, this]

theorem take_putCellsV (cur d : Array Value) (h : d.size ≤ cur.size) : (putCells id 0 d cur).toList.take d.size = d.toList := by
  apply List.ext_getElem?
  intro j
  by_cases hj : j < d.size
  · rw [List.getElem?_take_of_lt hj, Array.getElem?_toList, Array.getElem?_toList]
    simp [putCells, hj, show j < cur.size by omega]
  · rw [List.getElem?_take_eq_none (by omega), List.getElem?_eq_none (by simp; omega)]

set_option maxHeartbeats 1000000 in
theorem sort_any {base : Nat} {w : World} {v : Value} {L : List Fv} (h : FsAt base w v L) (hl : L.length ≤ 100000) :
    Calls Tryz.prog 61 #[v, .func (Fn.func 62) #[] #[]] w fun e w' =>
      e = .returned (.tuple #[]) ∧ ∃ L', L'.Perm L ∧ L'.Pairwise leF ∧ FsAt base w' v L' ∧ w.grownBy w' v.ownBlock := by
  obtain ⟨hlen, ⟨rfl, h0⟩ | ⟨g, cap, cur, rfl, hb, hg, hn, hm, hs, ht⟩⟩ := h.own
  · have hL : L = [] := List.eq_nil_of_length_eq_zero h0
    subst hL
    have hc := AnyF.slices_SortFunc_none Tryz.sortF none 0 (.func (Fn.func 62) #[] #[]) w
    change Calls Tryz.prog 61 _ _ _ at hc
    refine hc.mono ?_
    rintro e w' ⟨rfl, rfl⟩
    exact ⟨rfl, [], .refl _, List.Pairwise.nil, h, ⟨rfl, rfl, rfl, Nat.le_refl _, fun _ _ _ => rfl⟩⟩
  · letI : Inhabited Fv := ⟨⟨⟨0, 0, 0, 0, 0, []⟩, none, 0, 0, 0⟩⟩
    have hfl := flatK_list (k := 7) (by decide) fvC_len L
    have hgl : g < w.heap.size := (Array.getElem?_eq_some_iff.1 hg).1
    have hH : HoldsK fvC 7 w g 0 L.toArray := by
      intro j hj
      have hj' : j < L.length * 7 := by simpa using hj
      refine ⟨?_, by simp [World.frozen?, hg]⟩
      rw [Nat.zero_add, cell_of_row w g j cur _ (0, 0) hg, ← Array.getElem?_toList]
      have e1 : (cur.toList.take (L.length * 7))[j]? = (flatK fvC 7 L.toArray).toList[j]? := by rw [ht, hfl]
      rw [List.getElem?_take_of_lt hj'] at e1
      rw [e1, Array.getElem?_toList, getElem!_pos _ j hj, Array.getElem?_eq_getElem hj]
      rfl
    have eg : ∀ args w, (callFunc 62 args).run Tryz.prog w = .ok (.enter 62 args) w := enters_of Tryz.func62 (by kernel_rfl) rfl
    have hc := AnyQ.slices_SortFunc Tryz.sortF 7 Tryz.isAgg117 Tryz.sizeOf117 fvC fvC_len (fun x v hv => by simp [fvC, Fv.v] at hv; rcases hv with rfl | rfl | rfl | rfl | rfl | rfl | rfl <;> rfl) cmpF swoF 62 #[] g 0 cap L.toArray w eg
      (fun _ _ _ _ x y => findOn2_any _ x y) hH hgl (by simp; omega)
    change Calls Tryz.prog 61 _ _ _ at hc
    rw [List.size_toArray] at hc
    refine hc.mono ?_
    rintro e w' ⟨rfl, d', n, os, hp, hso, rfl⟩
    have hds : d'.size = L.length := by have := hp.1; simpa using this
    have hpm : d'.toList.Perm L := by
      have := hp.2.2
      simp [← hds] at this
      rw [hds, List.take_length] at this
      exact this
    have hfl2 := flatK_list (k := 7) (by decide) fvC_len d'.toList
    rw [Array.toArray_toList] at hfl2
    have hgr : w.grownBy (sortWorldK fvC 7 w g 0 n d' os) (some g) := grownBy_sortedV _
    have hhp : (sortWorldK fvC 7 w g 0 n d' os).heap[g]? = some (.cells (putCells id 0 (flatK fvC 7 d') cur) 117 (0, 0)) := heap_sortedV _ hg
    refine ⟨rfl, d'.toList, hpm, ?_, ⟨?_, fun x hx => ?_⟩, hgr⟩
    · rw [List.pairwise_iff_getElem]
      intro i j hi hj hij
      have := hso i j (Nat.zero_le _) hij (by simpa [hds] using hj)
      rw [ltF] at this
      simp only [decide_eq_false_iff_not] at this
      have e1 : d'[i]! = d'.toList[i] := by rw [getElem!_pos d' i (by simpa using hi)]; simp
      have e2 : d'[j]! = d'.toList[j] := by rw [getElem!_pos d' j (by simpa using hj)]; simp
      rw [e1, e2] at this
      unfold leF
      omega
    · have hl2 : d'.toList.length = L.length := by simpa using hds
      rw [hl2]
      refine ⟨by rw [← hfl2]; simp [hds], .inr ⟨g, cap, _, rfl, hb, hhp, hn, hm, by simp [putCells, hs], ?_⟩⟩
      have := take_putCellsV cur (flatK fvC 7 d') (by rw [size_flatK, hds, hs]; exact Nat.mul_le_mul_right 7 hn)
      rw [size_flatK, hds, hfl2] at this
      exact this
    · have hx' := h.each x (hpm.subset hx)
      refine ⟨hx'.sl, ⟨?_, hx'.rd.2⟩, hx'.ap, hx'.ok, hx'.len⟩
      obtain ⟨⟨a', c', e', h1, h2, h3, h4⟩, _⟩ := hx'.rd
      refine ⟨a', c', e', h1, h2, h3, fun hne => ?_⟩
      obtain ⟨b', off', rfl, hlt, hc'⟩ := h4 hne
      refine ⟨b', off', rfl, Nat.lt_of_lt_of_le hlt hgr.size, fun i hi => (World.cell?_of_block (a := ⟨b', off' + i, none⟩) (hgr.block b' hlt (fun e => ?_))).trans (hc' i hi)⟩
      exact hx'.ap b' off' _ _ e' hne e.symm

end Go.Proofs.YtckcdmkgmbicfaaGreat
