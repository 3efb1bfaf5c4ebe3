/- slices.SortFunc at changes: they are sorted by their places. -/
import Derived.Test.YtjlglnhmkheidaaGreatD4
import Derived.Shelf.SlSortCmp.NoneTotal
import Derived.Ground.SlsfProg
namespace Go.Proofs.YtjlglnhmkheidaaGreat
open Go.Proofs
open Go.RowKit Go.Sort Go.Shelf
set_option linter.unusedVariables false
set_option linter.unusedSimpArgs false
set_option maxRecDepth 100000

def Tryz.sortG_ren : Go.Shelf.Ren := ⟨fun | 6 => 87 | 15 => 113 | 14 => 112 | 28 => 144 | 29 => 145 | 20 => 136 | 21 => 137 | 22 => 138 | 23 => 139 | 24 => 140 | 25 => 141 | 26 => 142 | 27 => 143 | 46 => 160 | 47 => 161 | 48 => 162 | 49 => 163 | 50 => 164 | 57 => 171 | n => n, fun | 22 => 23 | 24 => 56 | 25 => 131 | 3 => 3 | 39 => 183 | 0 => 0 | 53 => 24 | 55 => 140 | 4 => 4 | 46 => 219 | 45 => 218 | 50 => 85 | 5 => 5 | 9 => 9 | 66 => 232 | 70 => 236 | 76 => 241 | 77 => 242 | n => n, fun | n => n⟩
theorem Tryz.sortG : Go.Proofs.SlLaysF0.n6 Tryz.prog Tryz.sortG_ren := {
  mixed := by kernel_rfl
  f6 := ⟨Tryz.f87.name, by decide, Tryz.func87.trans (congrArg some (by kernel_rfl))⟩
  f14 := ⟨Tryz.f112.name, by decide, Tryz.func112.trans (congrArg some (by kernel_rfl))⟩
  f15 := Tryz.func113.trans (congrArg some (by kernel_rfl))
  f20 := ⟨Tryz.f136.name, by decide, Tryz.func136.trans (congrArg some (by kernel_rfl))⟩
  f21 := ⟨Tryz.f137.name, by decide, Tryz.func137.trans (congrArg some (by kernel_rfl))⟩
  f22 := ⟨Tryz.f138.name, by decide, Tryz.func138.trans (congrArg some (by kernel_rfl))⟩
  f23 := ⟨Tryz.f139.name, by decide, Tryz.func139.trans (congrArg some (by kernel_rfl))⟩
  f24 := ⟨Tryz.f140.name, by decide, Tryz.func140.trans (congrArg some (by kernel_rfl))⟩
  f25 := ⟨Tryz.f141.name, by decide, Tryz.func141.trans (congrArg some (by kernel_rfl))⟩
  f26 := ⟨Tryz.f142.name, by decide, Tryz.func142.trans (congrArg some (by kernel_rfl))⟩
  f27 := ⟨Tryz.f143.name, by decide, Tryz.func143.trans (congrArg some (by kernel_rfl))⟩
  f28 := Tryz.func144.trans (congrArg some (by kernel_rfl))
  f29 := Tryz.func145.trans (congrArg some (by kernel_rfl))
  f46 := ⟨Tryz.f160.name, by decide, Tryz.func160.trans (congrArg some (by kernel_rfl))⟩
  f47 := Tryz.func161.trans (congrArg some (by kernel_rfl))
  f48 := Tryz.func162.trans (congrArg some (by kernel_rfl))
  f49 := ⟨Tryz.f163.name, by decide, Tryz.func163.trans (congrArg some (by kernel_rfl))⟩
  f50 := ⟨Tryz.f164.name, by decide, Tryz.func164.trans (congrArg some (by kernel_rfl))⟩
  f57 := ⟨Tryz.f171.name, by decide, Tryz.func171.trans (congrArg some (by kernel_rfl))⟩
  t0 := Tryz.underlying0
  a0 := Tryz.isAgg0
  z0 := Tryz.sizeOf0
  v0 := Tryz.zeroValue0
  t3 := Tryz.underlying3
  a3 := Tryz.isAgg3
  z3 := Tryz.sizeOf3
  v3 := Tryz.zeroValue3
  t4 := Tryz.underlying4
  a4 := Tryz.isAgg4
  z4 := Tryz.sizeOf4
  v4 := Tryz.zeroValue4
  t5 := Tryz.underlying5
  a5 := Tryz.isAgg5
  z5 := Tryz.sizeOf5
  v5 := Tryz.zeroValue5
  t9 := Tryz.underlying9
  a9 := Tryz.isAgg9
  z9 := Tryz.sizeOf9
  v9 := Tryz.zeroValue9
  t22 := Tryz.underlying23
  a22 := Tryz.isAgg23
  z22 := Tryz.sizeOf23
  v22 := Tryz.zeroValue23
  t25 := Tryz.underlying131
  a25 := Tryz.isAgg131
  z25 := Tryz.sizeOf131
  v25 := Tryz.zeroValue131
  t39 := Tryz.underlying183
  a39 := Tryz.isAgg183
  z39 := Tryz.sizeOf183
  v39 := Tryz.zeroValue183
  t45 := Tryz.underlying218
  a45 := Tryz.isAgg218
  z45 := Tryz.sizeOf218
  v45 := Tryz.zeroValue218
  t46 := Tryz.underlying219
  a46 := Tryz.isAgg219
  z46 := Tryz.sizeOf219
  v46 := Tryz.zeroValue219
  t50 := Tryz.underlying85
  a50 := Tryz.isAgg85
  z50 := Tryz.sizeOf85
  v50 := Tryz.zeroValue85
  t53 := Tryz.underlying24
  a53 := Tryz.isAgg24
  z53 := Tryz.sizeOf24
  v53 := Tryz.zeroValue24
  t55 := Tryz.underlying140
  a55 := Tryz.isAgg140
  z55 := Tryz.sizeOf140
  v55 := Tryz.zeroValue140
  t66 := Tryz.underlying232
  a66 := Tryz.isAgg232
  z66 := Tryz.sizeOf232
  v66 := Tryz.zeroValue232
  t70 := Tryz.underlying236
  a70 := Tryz.isAgg236
  z70 := Tryz.sizeOf236
  v70 := Tryz.zeroValue236
  t76 := Tryz.underlying241
  a76 := Tryz.isAgg241
  z76 := Tryz.sizeOf241
  v76 := Tryz.zeroValue241
  t77 := Tryz.underlying242
  a77 := Tryz.isAgg242
  z77 := Tryz.sizeOf242
  v77 := Tryz.zeroValue242 }

set_option maxHeartbeats 4000000 in
theorem compareG_any (w : World) (a b : Pl) : Calls Tryz.prog 54 #[plV a, plV b] w fun e w' => e = .returned (.int .i64 (cmpP a b)) ∧ ∃ q os, w' = grow (w.drewN q) os := by
  obtain ⟨w1, hw1⟩ : ∃ w1, w1 = (w.alloc (.cells #[.int .u32 a.ino, .int .i64 a.part, .string a.name, .int .u32 a.chunk] 26)).alloc (.cells #[.int .u32 b.ino, .int .i64 b.part, .string b.name, .int .u32 b.chunk] 26) := ⟨_, rfl⟩
  have hb1 : Below w.heap.size w w1 := by rw [hw1]; exact ((Below.refl _ _).alloc (Nat.le_refl _) _).alloc (by simp) _
  have ha1 : PlAt w1 w.heap.size a := by
    rw [hw1]
    exact (PlAt.laid w a).below ((Below.refl _ _).alloc (Nat.le_refl _) _)
  have hb1' : PlAt w1 (w.heap.size + 1) b := by
    rw [hw1]
    have := PlAt.laid (w.alloc (.cells (plCells a) 26)) b
    have hs : (w.alloc (.cells (plCells a) 26)).heap.size = w.heap.size + 1 := by simp
    rw [hs] at this
    exact this
  have HW : Hid (w1 = grow w #[.cells #[.int .u32 a.ino, .int .i64 a.part, .string a.name, .int .u32 a.chunk] 26, .cells #[.int .u32 b.ino, .int .i64 b.part, .string b.name, .int .u32 b.chunk] 26]) := by
    unfold Hid; rw [hw1, alloc_eq_grow, alloc_eq_grow, grow_grow]; rfl
  unfold plV cmpP
  have hOr : ∀ (x0 x1 x2 x3 : Int), Calls Tryz.prog 89 #[.slice (some ⟨w1.heap.size, 0, none⟩) 4 4] (w1.alloc (.cells #[.int .i64 x0, .int .i64 x1, .int .i64 x2, .int .i64 x3] 3)).drew fun e w' => e = .returned (.int .i64 (orL [x0, x1, x2, x3])) ∧ (w1.alloc (.cells #[.int .i64 x0, .int .i64 x1, .int .i64 x2, .int .i64 x3] 3)).drew = w' := by
    intro x0 x1 x2 x3
    have hg : (w1.alloc (.cells #[.int .i64 x0, .int .i64 x1, .int .i64 x2, .int .i64 x3] 3)).drew.heap[w1.heap.size]? = some (.cells #[.int .i64 x0, .int .i64 x1, .int .i64 x2, .int .i64 x3] 3 (0, 0)) := heap_alloc_new w1 _
    refine or_any _ w1.heap.size 4 [x0, x1, x2, x3] (by simp) ?_
    intro j hj
    rw [cell_of_row _ _ j _ _ (0, 0) hg]
    match j, hj with
    | 0, _ => rfl
    | 1, _ => rfl
    | 2, _ => rfl
    | 3, _ => rfl
  have q0 : ∀ W, Below w1.heap.size w1 W → W.cell? ⟨w.heap.size, 0, none⟩ = some (.int .u32 a.ino) := fun W hW => (ha1.below hW).c0
  have q1 : ∀ W, Below w1.heap.size w1 W → W.cell? ⟨w.heap.size, 1, none⟩ = some (.int .i64 a.part) := fun W hW => (ha1.below hW).c1
  have q2 : ∀ W, Below w1.heap.size w1 W → W.cell? ⟨w.heap.size, 2, none⟩ = some (.string a.name) := fun W hW => (ha1.below hW).c2
  have q3 : ∀ W, Below w1.heap.size w1 W → W.cell? ⟨w.heap.size, 3, none⟩ = some (.int .u32 a.chunk) := fun W hW => (ha1.below hW).c3
  have r0 : ∀ W, Below w1.heap.size w1 W → W.cell? ⟨w.heap.size + 1, 0, none⟩ = some (.int .u32 b.ino) := fun W hW => (hb1'.below hW).c0
  have r1 : ∀ W, Below w1.heap.size w1 W → W.cell? ⟨w.heap.size + 1, 1, none⟩ = some (.int .i64 b.part) := fun W hW => (hb1'.below hW).c1
  have r2 : ∀ W, Below w1.heap.size w1 W → W.cell? ⟨w.heap.size + 1, 2, none⟩ = some (.string b.name) := fun W hW => (hb1'.below hW).c2
  have r3 : ∀ W, Below w1.heap.size w1 W → W.cell? ⟨w.heap.size + 1, 3, none⟩ = some (.int .u32 b.chunk) := fun W hW => (hb1'.below hW).c3
  go_enter Tryz.func54, Tryz.ntmps54
  go_wp2_with fail
  rw [← hw1]
  clear hw1 ha1 hb1'
  refine wp_region_noPanic ?_
  go_region_held (fun W => Below w1.heap.size w1 W) (first | assumption | exact (Below.refl _ _).drew | exact Below.alloc (by assumption) (Below.size (by assumption)) _ | exact keep2 (by assumption) (by assumption))
    (first
      | (go_at_call 90; refine (cmpU_any _ _ _).mono ?_; rintro e w2 ⟨rfl, rfl⟩)
      | (go_at_call 91; refine (cmpI_any _ _ _).mono ?_; rintro e w2 ⟨rfl, rfl⟩)
      | (go_at_call 92; refine (cmpS_any _ _ _).mono ?_; rintro e w2 ⟨rfl, rfl⟩)
      | (go_at_call 89; refine (hOr _ _ _ _).mono ?_; rintro e w3 ⟨rfl, rfl⟩))
  refine NoPanic.normal ?_
  clear q0 q1 q2 q3 r0 r1 r2 r3 hOr
  go_wp2
  go_ret
  refine ⟨rfl, 1, #[.cells #[.int .u32 a.ino, .int .i64 a.part, .string a.name, .int .u32 a.chunk] 26, .cells #[.int .u32 b.ino, .int .i64 b.part, .string b.name, .int .u32 b.chunk] 26] ++ #[.cells #[.int .i64 (cmpI a.ino b.ino), .int .i64 (cmpI a.part b.part), .int .i64 (cmpS a.name b.name), .int .i64 (cmpI a.chunk b.chunk)] 3], ?_⟩
  rw [HW.out, alloc_eq_grow, grow_grow]
  rfl


/-- A change that may lie in memory. -/
structure CgK where
  c : Cg
  ok : CgOk c
def ckL (x : CgK) : List Value := cgL x.1
theorem ckL_len (x : CgK) : (ckL x).length = 46 := cgL_len x.2.pt.ch.1
def cmpK (x y : CgK) : Int := cmpP x.1.pl y.1.pl

set_option maxHeartbeats 2000000 in
theorem all1_any (w : World) (x y : CgK) : Calls Tryz.prog 53 #[.agg (ckL x).toArray, .agg (ckL y).toArray] w fun e w' => e = .returned (.int .i64 (cmpK x y)) ∧ ∃ q os, w' = grow (w.drewN q) os := by
  have hx1 := (CgAt.laid w x.1).below ((Below.refl _ _).alloc (Nat.le_refl _) (.cells (cgC y.1) 56))
  have hy1 := CgAt.laid (w.alloc (.cells (cgC x.1) 56)) y.1
  rw [World.size_alloc] at hy1
  obtain ⟨w1, hw1⟩ : ∃ w1, (w.alloc (.cells (cgC x.1) 56)).alloc (.cells (cgC y.1) 56) = w1 := ⟨_, rfl⟩
  rw [hw1] at hx1 hy1
  have HW : Hid (w1 = grow w #[.cells (cgC x.1) 56, .cells (cgC y.1) 56]) := by
    unfold Hid; rw [← hw1, alloc_eq_grow, alloc_eq_grow, grow_grow]; rfl
  have hp1 : Hid _ := hx1.loadP
  have hp2 : Hid _ := hy1.loadP
  have cc := compareG_any w1 x.1.pl y.1.pl
  unfold cmpK
  show Calls Tryz.prog _ #[.agg (cgC x.1), .agg (cgC y.1)] w _
  go_enter Tryz.func53, Tryz.ntmps53
  go_wp2_with (first
    | (refine wpList_loadG rfl 26 _ rfl _ rfl _ hp1.out ?_)
    | (refine wpList_loadG rfl 26 _ rfl _ rfl _ hp2.out ?_))
  refine cc.mono ?_
  rintro e w2 ⟨rfl, q, os, rfl⟩
  go_wp2
  go_ret
  exact ⟨rfl, q, _, by rw [HW.out]; exact grow_grow (w.drewN q) _ os⟩

theorem ltK (x y : CgK) : ltOf cmpK x y = decide (cmpP x.1.pl y.1.pl = -1) := by
  unfold ltOf cmpK
  congr 1
  apply propext
  rcases cmpP_ord.three x.1.pl y.1.pl with e | e | e <;> rw [e] <;> decide
theorem swoK : SWO (ltOf cmpK) := by
  refine ⟨fun x => ?_, fun x y z h1 h2 => ?_, fun x y z h1 h2 => ?_⟩
  · rw [ltK]; simpa using cmp_irr x.1.pl
  · rw [ltK] at *; simp only [decide_eq_true_eq] at *; exact cmp_tr h1 h2
  · rw [ltK] at *; simp only [decide_eq_false_iff_not] at *
    intro h
    by_cases e : x.1.pl = y.1.pl
    · rw [e] at h; exact h2 h
    · exact h2 (cmp_tr (cmp_other h1 e) h)

theorem flat_get {α : Type} [Inhabited α] {k : Nat} (hk0 : 0 < k) {enc : α → List Value} (hk : ∀ x, (enc x).length = k) : ∀ (L : List α) (t : Nat), t < L.length * k → (L.flatMap enc)[t]? = some ((enc (L[t / k]!))[t % k]!)
  | [], t, h => by simp at h
  | x :: L, t, h => by
    rw [List.flatMap_cons]
    by_cases ht : t < k
    · have hx := hk x
      rw [List.getElem?_append_left (by omega), Nat.div_eq_of_lt ht, Nat.mod_eq_of_lt ht]
      show (enc x)[t]? = some ((enc x)[t]!)
      rw [getElem!_pos (enc x) t (by omega), List.getElem?_eq_getElem (by omega)]
    · have hx := hk x
      have h2 : t - k < L.length * k := by rw [List.length_cons, Nat.succ_mul] at h; omega
      rw [List.getElem?_append_right (by omega), hx, flat_get hk0 hk L (t - k) h2]
      have e1 : t / k = (t - k) / k + 1 := by
        rw [Nat.div_eq_sub_div hk0 (by omega)]
      have e2 : t % k = (t - k) % k := Nat.mod_eq_sub_mod (by omega)
      rw [e1, e2]
      rfl

theorem flatK_list {α : Type} [Inhabited α] {k : Nat} (hk0 : 0 < k) {enc : α → List Value} (hk : ∀ x, (enc x).length = k) (L : List α) : (flatK enc k L.toArray).toList = L.flatMap enc := by
  have hlen : (L.flatMap enc).length = L.length * k := by
    induction L with
    | nil => simp
    | cons x L ih => rw [List.flatMap_cons, List.length_append, hk, ih, List.length_cons, Nat.succ_mul]; omega
  apply List.ext_getElem?
  intro t
  by_cases ht : t < L.length * k
  · rw [flat_get hk0 hk L t ht, Array.getElem?_toList]
    have h1 : t < (flatK enc k L.toArray).size := by simpa using ht
    have h2 := get_flatK enc k L.toArray t (by simpa using ht)
    rw [getElem!_pos _ t h1] at h2
    rw [Array.getElem?_eq_getElem h1, h2]
    simp
  · rw [List.getElem?_eq_none (by simp; omega), List.getElem?_eq_none (by omega)]

theorem heap_sortedV {w : World} {g n : Nat} {os : Array Obj} {cur : Array Value} {e : TypeId} {fr : Nat × Nat} (d : Array Value) (hb : w.heap[g]? = some (.cells cur e fr)) :
    (grow (putRow id (Sort.ahead w n) g 0 d) os).heap[g]? = some (.cells (putCells id 0 d cur) e fr) := by
  have hg : g < w.heap.size := (Array.getElem?_eq_some_iff.1 hb).1
  rw [heap_grow_old _ _ (by simpa using hg)]
  simp [putRow, mapBlock, Sort.ahead, Array.getElem?_modify, hb, onCells]

theorem grownBy_sortedV {w : World} {g n : Nat} {os : Array Obj} (d : Array Value) : w.grownBy (grow (putRow id (Sort.ahead w n) g 0 d) os) (some g) := by
  refine ⟨rfl, rfl, rfl, by simp, fun k hk hne => ?_⟩
  rw [heap_grow_old _ _ (by simpa using hk)]
  have : g ≠ k := fun e => hne (by rw [e])
  simp [putRow, mapBlock, Sort.ahead, Array.getElem?_modify, this]

theorem take_putCellsV (cur d : Array Value) (h : d.size ≤ cur.size) : (putCells id 0 d cur).toList.take d.size = d.toList := by
  apply List.ext_getElem?
  intro j
  by_cases hj : j < d.size
  · rw [List.getElem?_take_of_lt hj, Array.getElem?_toList, Array.getElem?_toList]
    simp [putCells, hj, show j < cur.size by omega]
  · rw [List.getElem?_take_eq_none (by omega), List.getElem?_eq_none (by simp; omega)]

theorem isAggCg (w : World) : (isAgg 56).run Tryz.prog w = .ok true w := by
  simp [isAgg, run_underlying Tryz.underlying56]
theorem sizeOfCg (w : World) : (sizeOf 56).run Tryz.prog w = .ok 46 w := by
  obtain ⟨i, hi, hs⟩ : ∃ i, Tryz.prog.info? 56 = some i ∧ i.size = 46 := by
    have h := size_cg
    cases hq : Tryz.prog.info? 56 with
    | none => rw [hq] at h; cases h
    | some i => rw [hq] at h; exact ⟨i, rfl, by simpa using h⟩
  simp [sizeOf, typeInfo, hi, hs]

set_option maxHeartbeats 1000000 in
theorem sortG_any {base : Nat} {w : World} {v : Value} {L : List CgK} (h : w.ownsRow base 56 46 v L.length (L.flatMap ckL)) (hl : L.length ≤ 100000) :
    Calls Tryz.prog 87 #[v, .func (Fn.func 53) #[] #[]] w fun e w' =>
      e = .returned (.tuple #[]) ∧ ∃ L' : List CgK, L'.Perm L ∧ L'.Pairwise (fun x y => ¬ cmpP y.1.pl x.1.pl = -1) ∧ w'.ownsRow base 56 46 v L'.length (L'.flatMap ckL) ∧ w.grownBy w' v.ownBlock := by
  obtain ⟨hlen, ⟨rfl, h0⟩ | ⟨g, cap, cur, rfl, hb, hg, hn, hm, hs, ht⟩⟩ := id h
  · have hL : L = [] := List.eq_nil_of_length_eq_zero h0
    subst hL
    have hc := AnyF.slices_SortFunc_none Tryz.sortG none 0 (.func (Fn.func 53) #[] #[]) w
    change Calls Tryz.prog 87 _ _ _ at hc
    refine hc.mono ?_
    rintro e w' ⟨rfl, rfl⟩
    exact ⟨rfl, [], .refl _, List.Pairwise.nil, h, ⟨rfl, rfl, rfl, Nat.le_refl _, fun _ _ _ => rfl⟩⟩
  · letI : Inhabited CgK := ⟨⟨cg0, cg0_ok⟩⟩
    have hfl := flatK_list (k := 46) (by decide) ckL_len L
    have hgl : g < w.heap.size := (Array.getElem?_eq_some_iff.1 hg).1
    have hH : HoldsK ckL 46 w g 0 L.toArray := by
      intro j hj
      have hj' : j < L.length * 46 := by simpa using hj
      refine ⟨?_, by simp [World.frozen?, hg]⟩
      rw [Nat.zero_add, cell_of_row w g j cur _ (0, 0) hg, ← Array.getElem?_toList]
      have e1 : (cur.toList.take (L.length * 46))[j]? = (flatK ckL 46 L.toArray).toList[j]? := by rw [ht, hfl]
      rw [List.getElem?_take_of_lt hj'] at e1
      rw [e1, Array.getElem?_toList, getElem!_pos _ j hj, Array.getElem?_eq_getElem hj]
      rfl
    have eg : ∀ args w, (callFunc 53 args).run Tryz.prog w = .ok (.enter 53 args) w := enters_of Tryz.func53 (by kernel_rfl) rfl
    have hc := AnyQ.slices_SortFunc Tryz.sortG 46 isAggCg sizeOfCg ckL ckL_len (fun x v hv => one_cgL _ v hv) cmpK swoK 53 #[] g 0 cap L.toArray w eg
      (fun _ _ _ _ x y => all1_any _ x y) hH hgl (by simp; omega)
    change Calls Tryz.prog 87 _ _ _ at hc
    rw [List.size_toArray] at hc
    refine hc.mono ?_
    rintro e w' ⟨rfl, d', n, os, hp, hso, rfl⟩
    have hds : d'.size = L.length := by have := hp.1; simpa using this
    have hpm : d'.toList.Perm L := by
      have := hp.2.2
      simp [← hds] at this
      rw [hds, List.take_length] at this
      exact this
    have hfl2 := flatK_list (k := 46) (by decide) ckL_len d'.toList
    rw [Array.toArray_toList] at hfl2
    have hgr : w.grownBy (sortWorldK ckL 46 w g 0 n d' os) (some g) := grownBy_sortedV _
    have hhp : (sortWorldK ckL 46 w g 0 n d' os).heap[g]? = some (.cells (putCells id 0 (flatK ckL 46 d') cur) 56 (0, 0)) := heap_sortedV _ hg
    refine ⟨rfl, d'.toList, hpm, ?_, ?_, hgr⟩
    · rw [List.pairwise_iff_getElem]
      intro i j hi hj hij
      have := hso i j (Nat.zero_le _) hij (by simpa [hds] using hj)
      rw [ltK] at this
      simp only [decide_eq_false_iff_not] at this
      have e1 : d'[i]! = d'.toList[i] := by rw [getElem!_pos d' i (by simpa using hi)]; simp
      have e2 : d'[j]! = d'.toList[j] := by rw [getElem!_pos d' j (by simpa using hj)]; simp
      rw [e1, e2] at this
      exact this
    · have hl2 : d'.toList.length = L.length := by simpa using hds
      rw [hl2]
      refine ⟨by rw [← hfl2]; simp [hds], .inr ⟨g, cap, _, rfl, hb, hhp, hn, hm, by simp [putCells, hs], ?_⟩⟩
      have := take_putCellsV cur (flatK ckL 46 d') (by rw [size_flatK, hds, hs]; exact Nat.mul_le_mul_right 46 hn)
      rw [size_flatK, hds, hfl2] at this
      exact this

end Go.Proofs.YtjlglnhmkheidaaGreat
