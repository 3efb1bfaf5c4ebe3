/- ZNode, ZOps, ZPlay, ZMath, ZLive, ZLaw, ZList, ZCut: in one text. -/
import Derived.Test.YthgdbjpefjjeaaaGreatMZ1
import Derived.Test.YthgdbjpefjjeaaaGreatQHead
import Derived.Deep.RegionWith
import Derived.Test.YthgdbjpefjjeaaaGreatQArg
import Derived.Lib.SmallJoins
import Derived.Deep.Slices
import Derived.SizedLaws
import Derived.Test.YthgdbjpefjjeaaaGreatQSame
import Derived.Deep.RegionHeld3
namespace Go.Proofs.YthgdbjpefjjeaaaGreat
open Go.RowKit
set_option linter.unusedVariables false
set_option linter.unusedSimpArgs false
set_option maxRecDepth 4000

def kb0 (n : Int) : Int := n / 256 % 256
def kb1 (n : Int) : Int := n % 256
def lkey (n : Int) : ByteArray := strOfNums (kb0 n :: kb1 n :: List.replicate 12 0)

theorem lkey_size (n : Int) : (lkey n).size = 14 := by
  unfold lkey
  rw [strOfNums_size]
  rfl

set_option maxHeartbeats 1000000 in
theorem lkey_any (w : World) (n : Int) (h0 : 0 ≤ n) (h1 : n ≤ 4294967295) : Calls Tryz.prog 34 #[.int .u32 n] w fun e w' => e = .returned (.string (lkey n)) ∧ Below w.heap.size w w' := by
  have hr : Rd (w.alloc (.cells #[.int .u8 (kb0 n), .int .u8 (kb1 n), .int .u8 0, .int .u8 0, .int .u8 0, .int .u8 0, .int .u8 0, .int .u8 0, .int .u8 0, .int .u8 0, .int .u8 0, .int .u8 0, .int .u8 0, .int .u8 0] 5)) (.slice (some ⟨w.heap.size, 0, none⟩) 14 14) (kb0 n :: kb1 n :: List.replicate 12 0) := Rd.laid rfl (by decide) rfl
  have hcv := hr.conv
  have hk : strOfNums (kb0 n :: kb1 n :: List.replicate 12 0) = lkey n := rfl
  rw [hk] at hcv
  unfold kb0 kb1 at hcv
  clear hr hk
  have hmk : (Instr.makeSlice 86 (.int .i64 14) (.int .i64 14)).run Tryz.prog w = .ok (.slice (some ⟨w.heap.size, 0, none⟩) 14 14) (w.alloc (.cells #[.int .u8 0, .int .u8 0, .int .u8 0, .int .u8 0, .int .u8 0, .int .u8 0, .int .u8 0, .int .u8 0, .int .u8 0, .int .u8 0, .int .u8 0, .int .u8 0, .int .u8 0, .int .u8 0] 5)) := make_bytes w 14 14 rfl (by decide)
  go_enter Tryz.func34, Tryz.ntmps34
  go_wp2
  go_ret
  exact ⟨rfl, (Below.refl _ _).alloc (Nat.le_refl _) _⟩

/-- A call, as it is handed in. -/
structure PopV where
  f0 : Int
  f1 : Int
  f2 : Bool
  v3 : Value
  f3 : List Int
  nd : Nd
  v5 : Value
  v6 : Value
  v7 : Value

def PopV.cells (o : PopV) : Array Value := #[.int .i64 o.f0, .int .u32 o.f1, .bool o.f2, o.v3, .bool o.nd.leaf, o.v5, o.v6, o.v7]
def PopV.node (o : PopV) : Value := .agg #[.bool o.nd.leaf, o.v5, o.v6, o.v7]

def vS : ByteArray := ⟨#[118]⟩
def innerN (n : Int) : Nd := ⟨false, [], [lkey n], [n % 999 + 1, 7]⟩
def leafN (n : Int) : Nd := ⟨true, [(lkey n, vS)], [], []⟩
/-- The node that a call is made of. -/
def nodeN (o : PopV) : Nd := if o.f0 = 6 then o.nd else if o.f2 then innerN o.f1 else leafN o.f1

theorem nodeSix (w : World) (o : PopV) (h6 : o.f0 = 6) (a1 a2 a3 : Option Addr) (n1 n2 n3 c1 c2 c3 : Nat) (e5 : o.v5 = .slice a1 n1 c1) (e6 : o.v6 = .slice a2 n2 c2) (e7 : o.v7 = .slice a3 n3 c3) : Calls Tryz.prog 12 #[.agg o.cells] w fun e w' => e = .returned o.node ∧ Below w.heap.size w w' := by
  obtain ⟨f0, f1, f2, v3, f3, nd, v5, v6, v7⟩ := o
  dsimp only at h6 e5 e6 e7
  subst h6 e5 e6 e7
  unfold PopV.cells PopV.node
  dsimp only
  go_enter Tryz.func12, Tryz.ntmps12
  go_wp2
  exact ret_node rfl (w.heap.size + 1) _ _ _ _ rfl (by rw [show w.heap.size + 1 = (w.alloc (.cells #[.int .i64 6, .int .u32 f1, .bool f2, v3, .bool nd.leaf, .slice a1 n1 c1, .slice a2 n2 c2, .slice a3 n3 c3] 42)).heap.size by simp]; exact heap_alloc_new _ _) rfl ⟨rfl, ((Below.refl _ w).alloc (Nat.le_refl _) _).alloc (by simp) _⟩

theorem rowOne {W : World} {base n k : Nat} {cs : Array Value} {t : TypeId} (xs : List Value) (hx : cs.toList = xs) (hl : xs.length = n * k) (hm : n ≤ maxLen) (hb : base ≤ W.heap.size) : (W.alloc (.cells cs t)).ownsRow base t k (.slice (some ⟨W.heap.size, 0, none⟩) n n) n xs := by
  refine ⟨by rw [hl], .inr ⟨W.heap.size, n, cs, rfl, hb, heap_alloc_new W _, Nat.le_refl _, hm, ?_, ?_⟩⟩
  · rw [← Array.length_toList, hx, hl]
  · rw [hx, ← hl, List.take_length]

set_option maxHeartbeats 2000000 in
theorem nodeLeaf (w : World) (o : PopV) (h6 : o.f0 ≠ 6) (hi : o.f2 = false) (h0 : 0 ≤ o.f1) (h1 : o.f1 ≤ 4294967295) : Calls Tryz.prog 12 #[.agg o.cells] w fun e w' => ∃ u, e = .returned u ∧ NdOwn w' w.heap.size u (leafN o.f1) ∧ Below w.heap.size w w' := by
  obtain ⟨f0, f1, f2, v3, f3, nd, v5, v6, v7⟩ := o
  dsimp only at h6 hi h0 h1 ⊢
  subst hi
  unfold PopV.cells
  dsimp only
  generalize nd.leaf = lf
  have hB := ((Below.refl _ w).alloc (Nat.le_refl _) (.cells #[.int .i64 f0, .int .u32 f1, .bool false, v3, .bool lf, v5, v6, v7] 42)).alloc (by simp) (.cells #[.bool false, .slice none 0 0, .slice none 0 0, .slice none 0 0] 40)
  have hg := heap_alloc_new (w.alloc (.cells #[.int .i64 f0, .int .u32 f1, .bool false, v3, .bool lf, v5, v6, v7] 42)) (.cells #[.bool false, .slice none 0 0, .slice none 0 0, .slice none 0 0] 40)
  have hz : ((w.alloc (.cells #[.int .i64 f0, .int .u32 f1, .bool false, v3, .bool lf, v5, v6, v7] 42)).alloc (.cells #[.bool false, .slice none 0 0, .slice none 0 0, .slice none 0 0] 40)).heap.size = w.heap.size + 2 := by simp
  have hz1 : (w.alloc (.cells #[.int .i64 f0, .int .u32 f1, .bool false, v3, .bool lf, v5, v6, v7] 42)).heap.size = w.heap.size + 1 := by simp
  rw [hz1] at hg
  have kK := lkey_any ((w.alloc (.cells #[.int .i64 f0, .int .u32 f1, .bool false, v3, .bool lf, v5, v6, v7] 42)).alloc (.cells #[.bool false, .slice none 0 0, .slice none 0 0, .slice none 0 0] 40)) f1 h0 h1
  go_enter Tryz.func12, Tryz.ntmps12
  go_wp2_with fail
  refine kK.mono ?_
  clear kK
  rintro e w3 ⟨rfl, hb3⟩
  have hg3 := (hb3.block (w.heap.size + 1) (by omega)).trans hg
  have hs3 := hb3.size
  have hbA := (Below.refl w3.heap.size w3).alloc (Nat.le_refl _) (.cells #[.string (lkey f1), .string vS] 85)
  have hro : (w3.alloc (.cells #[.string (lkey f1), .string vS] 85)).ownsRow (w.heap.size + 2) 85 2 (.slice (some ⟨w3.heap.size, 0, none⟩) 1 1) 1 [.string (lkey f1), .string vS] := rowOne _ rfl rfl (by decide) (by omega)
  have hgA := (hbA.block (w.heap.size + 1) (by omega)).trans hg3
  have hB3 : Below w.heap.size w (w3.alloc (.cells #[.string (lkey f1), .string vS] 85)) := (hB.trans (hb3.mono (by omega))).trans (hbA.mono (by omega))
  have hN : NdOwn (w3.alloc (.cells #[.string (lkey f1), .string vS] 85)) (w.heap.size + 2) (.agg #[.bool true, .slice (some ⟨w3.heap.size, 0, none⟩) 1 1, .slice none 0 0, .slice none 0 0]) (leafN f1) :=
    ⟨_, _, _, rfl, hro, World.ownsRow_nil _ _ _ _, World.ownsRow_nil _ _ _ _⟩
  obtain ⟨r1, r2, r3⟩ := fin_node hgA hN (by omega)
  obtain ⟨q0, q1, q2, q3, g0, g1, g2, g3⟩ := box4 hgA
  have HR1 : Hid _ := r1
  have HR2 : Hid _ := r2
  have HR3 : Hid _ := r3
  clear r1 r2 r3 hgA hg3 hg hro hN hB hbA
  unfold vS at *
  generalize hWA : w3.alloc (.cells #[.string (lkey f1), .string ⟨#[118]⟩] 85) = WA at *
  go_wp2
  exact ret_node rfl (w.heap.size + 1) _ _ _ _ rfl HR1.out rfl ⟨_, rfl, NdOwn.mono HR2.out (by omega), hB3.trans (HR3.out _ (by omega))⟩

set_option maxHeartbeats 8000000 in
theorem nodeInner (w : World) (o : PopV) (h6 : o.f0 ≠ 6) (hi : o.f2 = true) (h0 : 0 ≤ o.f1) (h1 : o.f1 ≤ 4294967295) : Calls Tryz.prog 12 #[.agg o.cells] w fun e w' => ∃ u, e = .returned u ∧ NdOwn w' w.heap.size u (innerN o.f1) ∧ Below w.heap.size w w' := by
  obtain ⟨f0, f1, f2, v3, f3, nd, v5, v6, v7⟩ := o
  dsimp only at h6 hi h0 h1 ⊢
  subst hi
  unfold PopV.cells
  dsimp only
  generalize nd.leaf = lf
  have hB := ((Below.refl _ w).alloc (Nat.le_refl _) (.cells #[.int .i64 f0, .int .u32 f1, .bool true, v3, .bool lf, v5, v6, v7] 42)).alloc (by simp) (.cells #[.bool false, .slice none 0 0, .slice none 0 0, .slice none 0 0] 40)
  have hg := heap_alloc_new (w.alloc (.cells #[.int .i64 f0, .int .u32 f1, .bool true, v3, .bool lf, v5, v6, v7] 42)) (.cells #[.bool false, .slice none 0 0, .slice none 0 0, .slice none 0 0] 40)
  have hz : ((w.alloc (.cells #[.int .i64 f0, .int .u32 f1, .bool true, v3, .bool lf, v5, v6, v7] 42)).alloc (.cells #[.bool false, .slice none 0 0, .slice none 0 0, .slice none 0 0] 40)).heap.size = w.heap.size + 2 := by simp
  have hz1 : (w.alloc (.cells #[.int .i64 f0, .int .u32 f1, .bool true, v3, .bool lf, v5, v6, v7] 42)).heap.size = w.heap.size + 1 := by simp
  have ho : ((w.alloc (.cells #[.int .i64 f0, .int .u32 f1, .bool true, v3, .bool lf, v5, v6, v7] 42)).alloc (.cells #[.bool false, .slice none 0 0, .slice none 0 0, .slice none 0 0] 40)).heap[w.heap.size]? = some (.cells #[.int .i64 f0, .int .u32 f1, .bool true, v3, .bool lf, v5, v6, v7] 42) := by
    have := heap_alloc_new w (.cells #[.int .i64 f0, .int .u32 f1, .bool true, v3, .bool lf, v5, v6, v7] 42)
    rw [← this]
    exact Below.heap_alloc _ _ _ (by simp)
  rw [hz1] at hg
  have hm : f1.tmod 999 = f1 % 999 := by rw [Int.tmod_eq_emod_of_nonneg h0]
  have hwr : IntKind.wrap .u32 (f1 % 999 + 1) = f1 % 999 + 1 := by simp [IntKind.wrap, IntKind.bits, IntKind.signed]; omega
  have hlk := fun W => lkey_any W f1 h0 h1
  go_enter Tryz.func12, Tryz.ntmps12
  go_wp2_with fail
  generalize hW2 : (w.alloc (.cells #[.int .i64 f0, .int .u32 f1, .bool true, v3, .bool lf, v5, v6, v7] 42)).alloc (.cells #[.bool false, .slice none 0 0, .slice none 0 0, .slice none 0 0] 40) = W2 at *
  have q1 : ∀ W, Sole [w.heap.size + 1] W2 W → W.cell? ⟨w.heap.size, 1, none⟩ = some (.int .u32 f1) := fun W hW => (World.cell?_of_block (a := ⟨w.heap.size, 1, none⟩) (hW.block w.heap.size (by omega) (by simp))).trans (cell_of_row W2 _ 1 _ _ (0, 0) ho)
  have fin : ∀ (X : World) (x2 x3 : Value), Sole [w.heap.size + 1] W2 X → X.heap[w.heap.size + 1]? = some (.cells #[.bool false, .slice none 0 0, .slice none 0 0, .slice none 0 0] 40 (0, 0)) → X.ownsRow (w.heap.size + 2) 9 1 x2 1 [.string (lkey f1)] → X.ownsRow (w.heap.size + 2) 35 1 x3 2 [.int .u32 (f1 % 999 + 1), .int .u32 7] →
      NdOwn X (w.heap.size + 2) (.agg #[.bool false, .slice none 0 0, x2, x3]) (innerN f1) ∧ Below w.heap.size w X := fun X x2 x3 hS hg hr1 hr2 =>
    ⟨⟨_, _, _, rfl, World.ownsRow_nil _ _ _ _, hr1, hr2⟩, hB.trans ⟨hS.os, hS.tape, hS.output, by have := hS.size; omega, fun k hk => hS.block k (by omega) (by simp; omega)⟩⟩
  have HF : Hid _ := fin
  clear fin ho
  refine wp_region_noPanic ?_
  refine wp_region_held_drew (S := fun W => Sole [w.heap.size + 1] W2 W) (by kernel_rfl) (Sole.drew _ _) (fun hHeld => ?_)
  refine wpAnyH_take (i := 0) (v := .pointer (some ⟨w.heap.size, 1, none⟩)) rfl (by kernel_rfl) (by kernel_rfl) (by kernel_rfl) (fun _ _ _ h => h) (Or.inl ⟨by rfl, fun W hSw => by (try dsimp only at hSw); go_simp⟩) (by assumption) ?_
  simp only [List.getElem_toArray, List.getElem_cons_zero, List.getElem_cons_succ, Act.put, List.setIfInBounds_toArray, List.set_cons_zero, List.set_cons_succ]
  refine wpAnyH_take (i := 1) (v := .int .u32 f1) rfl (by kernel_rfl) (by kernel_rfl) (by kernel_rfl) (fun _ _ _ h => h) (Or.inl ⟨by rfl, fun W hSw => by (try dsimp only at hSw); go_simp⟩) (by assumption) ?_
  simp only [List.getElem_toArray, List.getElem_cons_zero, List.getElem_cons_succ, Act.put, List.setIfInBounds_toArray, List.set_cons_zero, List.set_cons_succ]
  refine wpAnyH_take (i := 2) (v := .int .u32 (f1 % 999)) rfl (by kernel_rfl) (by kernel_rfl) (by kernel_rfl) (fun _ _ _ h => h) (Or.inl ⟨by rfl, fun W hSw => by (try dsimp only at hSw); (go_simp <;> first | done | rw [hm])⟩) (by assumption) ?_
  simp only [List.getElem_toArray, List.getElem_cons_zero, List.getElem_cons_succ, Act.put, List.setIfInBounds_toArray, List.set_cons_zero, List.set_cons_succ]
  refine wpAnyH_take (i := 3) (v := .int .u32 (f1 % 999 + 1)) rfl (by kernel_rfl) (by kernel_rfl) (by kernel_rfl) (fun _ _ _ h => h) (Or.inl ⟨by rfl, fun W hSw => by (try dsimp only at hSw); (go_simp <;> first | done | rw [hwr])⟩) (by assumption) ?_
  simp only [List.getElem_toArray, List.getElem_cons_zero, List.getElem_cons_succ, Act.put, List.setIfInBounds_toArray, List.set_cons_zero, List.set_cons_succ]
  refine wpAnyH_take (i := 5) (v := .pointer (some ⟨w.heap.size, 1, none⟩)) rfl (by kernel_rfl) (by kernel_rfl) (by kernel_rfl) (fun _ _ _ h => h) (Or.inl ⟨by rfl, fun W hSw => by (try dsimp only at hSw); go_simp⟩) (by assumption) ?_
  simp only [List.getElem_toArray, List.getElem_cons_zero, List.getElem_cons_succ, Act.put, List.setIfInBounds_toArray, List.set_cons_zero, List.set_cons_succ]
  refine wpAnyH_take (i := 6) (v := .int .u32 f1) rfl (by kernel_rfl) (by kernel_rfl) (by kernel_rfl) (fun _ _ _ h => h) (Or.inl ⟨by rfl, fun W hSw => by (try dsimp only at hSw); go_simp⟩) (by assumption) ?_
  simp only [List.getElem_toArray, List.getElem_cons_zero, List.getElem_cons_succ, Act.put, List.setIfInBounds_toArray, List.set_cons_zero, List.set_cons_succ]
  have gE := hg
  have SE : Sole [w.heap.size + 1] W2 W2 := Sole.refl _ _
  have gD : W2.drew.heap[w.heap.size + 1]? = some (.cells #[.bool false, .slice none 0 0, .slice none 0 0, .slice none 0 0] 40 (0, 0)) := hg
  have SD : Sole [w.heap.size + 1] W2 W2.drew := Sole.drew _ _
  have szD : w.heap.size + 2 ≤ W2.drew.heap.size := by have := SD.size; omega
  refine wpAnyH_ready (rs := [4, 7]) (by kernel_rfl) (by simp) ?_
  refine AllReadyH.cons rfl (fun K hK => ?_) (AllReadyH.cons rfl (fun K hK => ?_) AllReadyH.nil)
  · go_simp
    go_wp2
    have hY1 : Below W2.heap.size W2 (W2.alloc (.cells #[.int .u32 (f1 % 999 + 1), .int .u32 7] 35)).drew := ((Below.refl _ _).alloc (Nat.le_refl _) _).drew
    have rk : (W2.alloc (.cells #[.int .u32 (f1 % 999 + 1), .int .u32 7] 35)).drew.ownsRow (w.heap.size + 2) 35 1 (.slice (some ⟨W2.heap.size, 0, none⟩) 2 2) 2 [.int .u32 (f1 % 999 + 1), .int .u32 7] := row_below (rowOne _ rfl rfl (by decide) (by omega)) (Below.refl _ _).drew
    rw [hz] at rk
    generalize hE1 : (W2.alloc (.cells #[.int .u32 (f1 % 999 + 1), .int .u32 7] 35)).drew = X1 at *
    generalize hk : (some ⟨w.heap.size + 2, 0, none⟩ : Option Addr) = ka at *
    clear hk
    clear hE1
    have gY1 := (hY1.block (w.heap.size + 1) (by have := SE.size; omega)).trans gE
    have SX1 : Sole [w.heap.size + 1] W2 X1 := SE.trans (Sole.of_below hY1 _)
    have sz1 : w.heap.size + 2 ≤ X1.heap.size := by have := SX1.size; omega
    have gX1 := gY1
    refine hK.out _ _ SX1 (fun hHeld2 => ?_)
    clear hK K
    try simp only [List.getElem_toArray, List.getElem_cons_zero, List.getElem_cons_succ, Act.put, List.setIfInBounds_toArray, List.set_cons_zero, List.set_cons_succ]
    refine wpAnyH_ready (rs := [7]) (by kernel_rfl) (by simp) ?_
    refine AllReadyH.cons rfl (fun K hK => ?_) AllReadyH.nil
    go_simp
    go_wp2_with (go_at_call 34; refine (hlk _).mono ?_; rintro e X2 ⟨rfl, hY2⟩)
    have gY2 := (hY2.block (w.heap.size + 1) (by have := SX1.size; omega)).trans gX1
    have SX2 : Sole [w.heap.size + 1] W2 X2 := SX1.trans (Sole.of_below hY2 _)
    have sz2 : w.heap.size + 2 ≤ X2.heap.size := by have := SX2.size; omega
    have gX2 := gY2
    replace rk := row_below rk hY2
    refine hK.out _ _ SX2 (fun hHeld2 => ?_)
    clear hK K
    try simp only [List.getElem_toArray, List.getElem_cons_zero, List.getElem_cons_succ, Act.put, List.setIfInBounds_toArray, List.set_cons_zero, List.set_cons_succ]
    refine wpAnyH_ready (rs := [8]) (by kernel_rfl) (by simp) ?_
    refine AllReadyH.cons rfl (fun K hK => ?_) AllReadyH.nil
    go_simp
    go_wp2
    have hY3 : Below X2.heap.size X2 (X2.alloc (.cells #[.string (lkey f1)] 9)) := (Below.refl _ _).alloc (Nat.le_refl _) _
    have rs : (X2.alloc (.cells #[.string (lkey f1)] 9)).ownsRow (w.heap.size + 2) 9 1 (.slice (some ⟨X2.heap.size, 0, none⟩) 1 1) 1 [.string (lkey f1)] := rowOne _ rfl rfl (by decide) (by omega)
    generalize hE3 : X2.alloc (.cells #[.string (lkey f1)] 9) = X3 at *
    generalize hs : (some ⟨X2.heap.size, 0, none⟩ : Option Addr) = sa at *
    clear hs
    clear hE3
    have gY3 := (hY3.block (w.heap.size + 1) (by have := SX2.size; omega)).trans gX2
    have SX3 : Sole [w.heap.size + 1] W2 X3 := SX2.trans (Sole.of_below hY3 _)
    have sz3 : w.heap.size + 2 ≤ X3.heap.size := by have := SX3.size; omega
    have gX3 := gY3
    replace rk := row_below rk hY3
    refine hK.out _ _ SX3 (fun hHeld2 => ?_)
    clear hK K
    try simp only [List.getElem_toArray, List.getElem_cons_zero, List.getElem_cons_succ, Act.put, List.setIfInBounds_toArray, List.set_cons_zero, List.set_cons_succ]
    refine wpAnyH_take (i := 9) (v := .agg #[.bool false, .slice none 0 0, .slice sa 1 1, .slice ka 2 2]) rfl (by kernel_rfl) (by kernel_rfl) (by kernel_rfl) (fun _ _ _ h => h) (Or.inl ⟨by rfl, fun W hSw => by (try dsimp only at hSw); go_simp⟩) (by assumption) ?_
    simp only [List.getElem_toArray, List.getElem_cons_zero, List.getElem_cons_succ, Act.put, List.setIfInBounds_toArray, List.set_cons_zero, List.set_cons_succ]
    refine wpAnyH_ready (rs := [10]) (by kernel_rfl) (by simp) ?_
    refine AllReadyH.cons rfl (fun K hK => ?_) AllReadyH.nil
    obtain ⟨fN, fB⟩ := HF.out X3 (.slice sa 1 1) (.slice ka 2 2) SX3 gX3 rs rk
    obtain ⟨r1, r2, r3⟩ := fin_node gX3 fN (by omega)
    obtain ⟨y0, y1, y2, y3, u0, u1, u2, u3⟩ := box4 gX3
    have HR1 : Hid _ := r1
    have HR2 : Hid _ := r2
    have HR3 : Hid _ := r3
    have SF : Sole [w.heap.size + 1] W2 ((((X3.setCell ⟨w.heap.size + 1, 0, none⟩ (.bool false)).setCell ⟨w.heap.size + 1, 1, none⟩ (.slice none 0 0)).setCell ⟨w.heap.size + 1, 2, none⟩ (.slice sa 1 1)).setCell ⟨w.heap.size + 1, 3, none⟩ (.slice ka 2 2)) := (((SX3.trans (Sole.setCell _ _ (by simp))).trans (Sole.setCell _ _ (by simp))).trans (Sole.setCell _ _ (by simp))).trans (Sole.setCell _ _ (by simp))
    clear r1 r2 r3 fN q1 hlk
    go_simp
    go_wp2
    refine hK.out _ _ SF (fun hHeld3 => ?_)
    clear hK K
    refine wpAnyH_done (by kernel_rfl) ?_ _
    refine NoPanic.normal ?_
    go_wp2
    exact ret_node rfl (w.heap.size + 1) _ _ _ _ rfl HR1.out rfl ⟨_, rfl, NdOwn.mono HR2.out (by omega), fB.trans (HR3.out _ (by omega))⟩
  · go_simp
    go_wp2_with (go_at_call 34; refine (hlk _).mono ?_; rintro e X1 ⟨rfl, hY1⟩)
    have gY1 := (hY1.block (w.heap.size + 1) (by have := SD.size; omega)).trans gD
    have SX1 : Sole [w.heap.size + 1] W2 X1 := SD.trans (Sole.of_below hY1 _)
    have sz1 : w.heap.size + 2 ≤ X1.heap.size := by have := SX1.size; omega
    have gX1 := gY1
    refine hK.out _ _ SX1 (fun hHeld2 => ?_)
    clear hK K
    try simp only [List.getElem_toArray, List.getElem_cons_zero, List.getElem_cons_succ, Act.put, List.setIfInBounds_toArray, List.set_cons_zero, List.set_cons_succ]
    refine wpAnyH_ready (rs := [4, 8]) (by kernel_rfl) (by simp) ?_
    refine AllReadyH.cons rfl (fun K hK => ?_) (AllReadyH.cons rfl (fun K hK => ?_) AllReadyH.nil)
    · go_simp
      go_wp2
      have hY2 : Below X1.heap.size X1 (X1.alloc (.cells #[.int .u32 (f1 % 999 + 1), .int .u32 7] 35)) := (Below.refl _ _).alloc (Nat.le_refl _) _
      have rk : (X1.alloc (.cells #[.int .u32 (f1 % 999 + 1), .int .u32 7] 35)).ownsRow (w.heap.size + 2) 35 1 (.slice (some ⟨X1.heap.size, 0, none⟩) 2 2) 2 [.int .u32 (f1 % 999 + 1), .int .u32 7] := rowOne _ rfl rfl (by decide) (by omega)
      generalize hE2 : X1.alloc (.cells #[.int .u32 (f1 % 999 + 1), .int .u32 7] 35) = X2 at *
      generalize hk : (some ⟨X1.heap.size, 0, none⟩ : Option Addr) = ka at *
      clear hk
      clear hE2
      have gY2 := (hY2.block (w.heap.size + 1) (by have := SX1.size; omega)).trans gX1
      have SX2 : Sole [w.heap.size + 1] W2 X2 := SX1.trans (Sole.of_below hY2 _)
      have sz2 : w.heap.size + 2 ≤ X2.heap.size := by have := SX2.size; omega
      have gX2 := gY2
      refine hK.out _ _ SX2 (fun hHeld2 => ?_)
      clear hK K
      try simp only [List.getElem_toArray, List.getElem_cons_zero, List.getElem_cons_succ, Act.put, List.setIfInBounds_toArray, List.set_cons_zero, List.set_cons_succ]
      refine wpAnyH_ready (rs := [8]) (by kernel_rfl) (by simp) ?_
      refine AllReadyH.cons rfl (fun K hK => ?_) AllReadyH.nil
      go_simp
      go_wp2
      have hY3 : Below X2.heap.size X2 (X2.alloc (.cells #[.string (lkey f1)] 9)) := (Below.refl _ _).alloc (Nat.le_refl _) _
      have rs : (X2.alloc (.cells #[.string (lkey f1)] 9)).ownsRow (w.heap.size + 2) 9 1 (.slice (some ⟨X2.heap.size, 0, none⟩) 1 1) 1 [.string (lkey f1)] := rowOne _ rfl rfl (by decide) (by omega)
      generalize hE3 : X2.alloc (.cells #[.string (lkey f1)] 9) = X3 at *
      generalize hs : (some ⟨X2.heap.size, 0, none⟩ : Option Addr) = sa at *
      clear hs
      clear hE3
      have gY3 := (hY3.block (w.heap.size + 1) (by have := SX2.size; omega)).trans gX2
      have SX3 : Sole [w.heap.size + 1] W2 X3 := SX2.trans (Sole.of_below hY3 _)
      have sz3 : w.heap.size + 2 ≤ X3.heap.size := by have := SX3.size; omega
      have gX3 := gY3
      replace rk := row_below rk hY3
      refine hK.out _ _ SX3 (fun hHeld2 => ?_)
      clear hK K
      try simp only [List.getElem_toArray, List.getElem_cons_zero, List.getElem_cons_succ, Act.put, List.setIfInBounds_toArray, List.set_cons_zero, List.set_cons_succ]
      refine wpAnyH_take (i := 9) (v := .agg #[.bool false, .slice none 0 0, .slice sa 1 1, .slice ka 2 2]) rfl (by kernel_rfl) (by kernel_rfl) (by kernel_rfl) (fun _ _ _ h => h) (Or.inl ⟨by rfl, fun W hSw => by (try dsimp only at hSw); go_simp⟩) (by assumption) ?_
      simp only [List.getElem_toArray, List.getElem_cons_zero, List.getElem_cons_succ, Act.put, List.setIfInBounds_toArray, List.set_cons_zero, List.set_cons_succ]
      refine wpAnyH_ready (rs := [10]) (by kernel_rfl) (by simp) ?_
      refine AllReadyH.cons rfl (fun K hK => ?_) AllReadyH.nil
      obtain ⟨fN, fB⟩ := HF.out X3 (.slice sa 1 1) (.slice ka 2 2) SX3 gX3 rs rk
      obtain ⟨r1, r2, r3⟩ := fin_node gX3 fN (by omega)
      obtain ⟨y0, y1, y2, y3, u0, u1, u2, u3⟩ := box4 gX3
      have HR1 : Hid _ := r1
      have HR2 : Hid _ := r2
      have HR3 : Hid _ := r3
      have SF : Sole [w.heap.size + 1] W2 ((((X3.setCell ⟨w.heap.size + 1, 0, none⟩ (.bool false)).setCell ⟨w.heap.size + 1, 1, none⟩ (.slice none 0 0)).setCell ⟨w.heap.size + 1, 2, none⟩ (.slice sa 1 1)).setCell ⟨w.heap.size + 1, 3, none⟩ (.slice ka 2 2)) := (((SX3.trans (Sole.setCell _ _ (by simp))).trans (Sole.setCell _ _ (by simp))).trans (Sole.setCell _ _ (by simp))).trans (Sole.setCell _ _ (by simp))
      clear r1 r2 r3 fN q1 hlk
      go_simp
      go_wp2
      refine hK.out _ _ SF (fun hHeld3 => ?_)
      clear hK K
      refine wpAnyH_done (by kernel_rfl) ?_ _
      refine NoPanic.normal ?_
      go_wp2
      exact ret_node rfl (w.heap.size + 1) _ _ _ _ rfl HR1.out rfl ⟨_, rfl, NdOwn.mono HR2.out (by omega), fB.trans (HR3.out _ (by omega))⟩
    · go_simp
      go_wp2
      have hY2 : Below X1.heap.size X1 (X1.alloc (.cells #[.string (lkey f1)] 9)) := (Below.refl _ _).alloc (Nat.le_refl _) _
      have rs : (X1.alloc (.cells #[.string (lkey f1)] 9)).ownsRow (w.heap.size + 2) 9 1 (.slice (some ⟨X1.heap.size, 0, none⟩) 1 1) 1 [.string (lkey f1)] := rowOne _ rfl rfl (by decide) (by omega)
      generalize hE2 : X1.alloc (.cells #[.string (lkey f1)] 9) = X2 at *
      generalize hs : (some ⟨X1.heap.size, 0, none⟩ : Option Addr) = sa at *
      clear hs
      clear hE2
      have gY2 := (hY2.block (w.heap.size + 1) (by have := SX1.size; omega)).trans gX1
      have SX2 : Sole [w.heap.size + 1] W2 X2 := SX1.trans (Sole.of_below hY2 _)
      have sz2 : w.heap.size + 2 ≤ X2.heap.size := by have := SX2.size; omega
      have gX2 := gY2
      refine hK.out _ _ SX2 (fun hHeld2 => ?_)
      clear hK K
      try simp only [List.getElem_toArray, List.getElem_cons_zero, List.getElem_cons_succ, Act.put, List.setIfInBounds_toArray, List.set_cons_zero, List.set_cons_succ]
      refine wpAnyH_ready (rs := [4]) (by kernel_rfl) (by simp) ?_
      refine AllReadyH.cons rfl (fun K hK => ?_) AllReadyH.nil
      go_simp
      go_wp2
      have hY3 : Below X2.heap.size X2 (X2.alloc (.cells #[.int .u32 (f1 % 999 + 1), .int .u32 7] 35)) := (Below.refl _ _).alloc (Nat.le_refl _) _
      have rk : (X2.alloc (.cells #[.int .u32 (f1 % 999 + 1), .int .u32 7] 35)).ownsRow (w.heap.size + 2) 35 1 (.slice (some ⟨X2.heap.size, 0, none⟩) 2 2) 2 [.int .u32 (f1 % 999 + 1), .int .u32 7] := rowOne _ rfl rfl (by decide) (by omega)
      generalize hE3 : X2.alloc (.cells #[.int .u32 (f1 % 999 + 1), .int .u32 7] 35) = X3 at *
      generalize hk : (some ⟨X2.heap.size, 0, none⟩ : Option Addr) = ka at *
      clear hk
      clear hE3
      have gY3 := (hY3.block (w.heap.size + 1) (by have := SX2.size; omega)).trans gX2
      have SX3 : Sole [w.heap.size + 1] W2 X3 := SX2.trans (Sole.of_below hY3 _)
      have sz3 : w.heap.size + 2 ≤ X3.heap.size := by have := SX3.size; omega
      have gX3 := gY3
      replace rs := row_below rs hY3
      refine hK.out _ _ SX3 (fun hHeld2 => ?_)
      clear hK K
      try simp only [List.getElem_toArray, List.getElem_cons_zero, List.getElem_cons_succ, Act.put, List.setIfInBounds_toArray, List.set_cons_zero, List.set_cons_succ]
      refine wpAnyH_take (i := 9) (v := .agg #[.bool false, .slice none 0 0, .slice sa 1 1, .slice ka 2 2]) rfl (by kernel_rfl) (by kernel_rfl) (by kernel_rfl) (fun _ _ _ h => h) (Or.inl ⟨by rfl, fun W hSw => by (try dsimp only at hSw); go_simp⟩) (by assumption) ?_
      simp only [List.getElem_toArray, List.getElem_cons_zero, List.getElem_cons_succ, Act.put, List.setIfInBounds_toArray, List.set_cons_zero, List.set_cons_succ]
      refine wpAnyH_ready (rs := [10]) (by kernel_rfl) (by simp) ?_
      refine AllReadyH.cons rfl (fun K hK => ?_) AllReadyH.nil
      obtain ⟨fN, fB⟩ := HF.out X3 (.slice sa 1 1) (.slice ka 2 2) SX3 gX3 rs rk
      obtain ⟨r1, r2, r3⟩ := fin_node gX3 fN (by omega)
      obtain ⟨y0, y1, y2, y3, u0, u1, u2, u3⟩ := box4 gX3
      have HR1 : Hid _ := r1
      have HR2 : Hid _ := r2
      have HR3 : Hid _ := r3
      have SF : Sole [w.heap.size + 1] W2 ((((X3.setCell ⟨w.heap.size + 1, 0, none⟩ (.bool false)).setCell ⟨w.heap.size + 1, 1, none⟩ (.slice none 0 0)).setCell ⟨w.heap.size + 1, 2, none⟩ (.slice sa 1 1)).setCell ⟨w.heap.size + 1, 3, none⟩ (.slice ka 2 2)) := (((SX3.trans (Sole.setCell _ _ (by simp))).trans (Sole.setCell _ _ (by simp))).trans (Sole.setCell _ _ (by simp))).trans (Sole.setCell _ _ (by simp))
      clear r1 r2 r3 fN q1 hlk
      go_simp
      go_wp2
      refine hK.out _ _ SF (fun hHeld3 => ?_)
      clear hK K
      refine wpAnyH_done (by kernel_rfl) ?_ _
      refine NoPanic.normal ?_
      go_wp2
      exact ret_node rfl (w.heap.size + 1) _ _ _ _ rfl HR1.out rfl ⟨_, rfl, NdOwn.mono HR2.out (by omega), fB.trans (HR3.out _ (by omega))⟩

theorem weightsAll_mem {H : Type} {e : TypeId} {n : Nat} : ∀ {l : List (DataW H)} {d : DataW H}, d ∈ l → n ∈ d.weights Tryz.prog e → n ∈ DataW.weightsAll Tryz.prog e l
  | d0 :: l, d, hd, hn => by
    simp only [DataW.weightsAll, List.mem_append]
    rcases List.mem_cons.1 hd with rfl | h
    · exact .inl hn
    · exact .inr (weightsAll_mem h hn)

set_option maxRecDepth 100000 in
theorem numbers_sized {H : Type} {enc : TypeId × Value → H} {W : World} {base : Nat} {held : Bool} {fuel : Nat} {a : Option Addr} {n c : Nat} {x : DataW H × List MemPlace}
    (h : DataW.trod enc Tryz.prog W base (fun _ => true) held fuel 36 [.slice a n c] = some x) (hsz : ∀ q ∈ x.1.weights Tryz.prog 36, q ≤ reachBytes) : n ≤ 35184372088832 := by
  rcases Deep.open_slice Tryz.underlying36 h with ⟨hcs, _⟩ | ⟨a', l, c', m, n', D, Pl, hcs, hb, hl, hm, hmm, hy, hx⟩
  · simp at hcs
    omega
  · simp at hcs
    obtain ⟨_, rfl, _⟩ := hcs
    have hle := hsz ((((List.range n).map D).length + ((List.range (m - n)).map fun j => D (n + j)).length) * Tryz.prog.bytesOf 35) (by rw [hy]; simp [DataW.weights, Tryz.underlying36])
    rw [show Tryz.prog.bytesOf 35 = 4 from by kernel_rfl] at hle
    simp only [List.length_map, List.length_range, reachBytes] at hle
    omega

set_option maxRecDepth 100000 in
theorem node_few {H : Type} {enc : TypeId × Value → H} {W : World} {base : Nat} {held : Bool} {fuel : Nat} {b : Value} {a1 : Option Addr} {n1 c1 : Nat} {u2 u3 : Value} {x : DataW H × List MemPlace}
    (h : DataW.trod enc Tryz.prog W base (fun _ => true) held fuel 40 [b, .slice a1 n1 c1, u2, u3] = some x) (hsz : ∀ q ∈ x.1.weights Tryz.prog 40, q ≤ reachBytes) : n1 ≤ 4398046511104 := by
  obtain ⟨xs, k, hk, hxy, _, hxl, hf⟩ := DataW.trod_struct Tryz.underlying40 h
  have hxl : xs.length = 4 := hxl
  clear hk h
  match xs, hxl with
  | [y0, y1, y2, y3], _ =>
    have g1 : DataW.trod enc Tryz.prog W base (fun _ => true) held k 37 (([b, .slice a1 n1 c1, u2, u3].drop 1).take (Tryz.prog.cellsOf 37)) = some y1 := hf 1 _ rfl
    rw [show Tryz.prog.cellsOf 37 = 1 from by kernel_rfl] at g1
    simp only [List.drop_succ_cons, List.drop_zero, List.take_succ_cons, List.take_zero] at g1
    rcases Deep.open_slice Tryz.underlying37 g1 with ⟨hcs, _⟩ | ⟨a', l, c, m, n, D, Pl, hcs, hb, hl, hm, hmm, hy, hx⟩
    · simp at hcs
      omega
    · simp at hcs
      obtain ⟨_, rfl, _⟩ := hcs
      have hw1 : ∀ q ∈ y1.1.weights Tryz.prog 37, q ∈ x.1.weights Tryz.prog 40 := fun q hq => by
        rw [hxy]
        have := DataW.weights_mem_each (P := Tryz.prog) (ts := [4, 37, 38, 36]) (ds := [y0.1, y1.1, y2.1, y3.1]) (j := 1) rfl rfl q hq
        simp only [DataW.weights, Tryz.underlying40]
        exact this
      have hle := hsz _ (hw1 ((((List.range n1).map D).length + ((List.range (m - n1)).map fun j => D (n1 + j)).length) * Tryz.prog.bytesOf 85) (by rw [hy]; simp [DataW.weights, Tryz.underlying37]))
      rw [show Tryz.prog.bytesOf 85 = 32 from by kernel_rfl] at hle
      simp only [List.length_map, List.length_range, reachBytes] at hle
      omega

def pop0 : PopV := ⟨0, 0, false, .slice none 0 0, [], nd0, .slice none 0 0, .slice none 0 0, .slice none 0 0⟩

/-- What its parts are. -/
structure PopOk (o : PopV) : Prop where
  a0 : -9223372036854775808 ≤ o.f0 ∧ o.f0 ≤ 9223372036854775807
  a1 : 0 ≤ o.f1 ∧ o.f1 ≤ 4294967295
  keep : o.f3.length ≤ 35184372088832
  ku : ∀ k ∈ o.f3, 0 ≤ k ∧ k ≤ 4294967295
  nok : NdOk o.nd
  few : o.nd.pairs.length ≤ 4398046511104

/-- Its rows are there. -/
structure PopIn (w : World) (o : PopV) : Prop where
  keep : RdU w o.v3 o.f3
  node : NdAt w o.node o.nd

theorem PopIn.below {w w' : World} {o : PopV} (h : PopIn w o) (hb : Below w.heap.size w w') : PopIn w' o := ⟨RdE.below h.keep hb, h.node.below hb⟩

/-- One of them lies at a place. -/
structure PopAt (w : World) (b off : Nat) (o : PopV) : Prop where
  c0 : w.cell? ⟨b, off, none⟩ = some (.int .i64 o.f0)
  c1 : w.cell? ⟨b, off + 1, none⟩ = some (.int .u32 o.f1)
  c2 : w.cell? ⟨b, off + 2, none⟩ = some (.bool o.f2)
  c3 : w.cell? ⟨b, off + 3, none⟩ = some o.v3
  c4 : w.cell? ⟨b, off + 4, none⟩ = some (.bool o.nd.leaf)
  c5 : w.cell? ⟨b, off + 5, none⟩ = some o.v5
  c6 : w.cell? ⟨b, off + 6, none⟩ = some o.v6
  c7 : w.cell? ⟨b, off + 7, none⟩ = some o.v7
  inn : PopIn w o

/-- A slice of them. -/
def PopsAt (w : World) (a : Option Addr) (len cap : Nat) (os : List PopV) : Prop :=
  os.length = len ∧ len ≤ cap ∧ cap ≤ maxLen ∧ (∀ o ∈ os, PopOk o) ∧ (0 < len → ∃ b off, a = some ⟨b, off, none⟩ ∧ b < w.heap.size ∧ ∀ i, i < len → PopAt w b (off + i * 8) (os.getD i pop0))

theorem PopAt.same {w w' : World} {b off : Nat} {o : PopV} (h : PopAt w b off o) (hb : w'.heap[b]? = w.heap[b]?) (hi : PopIn w' o) : PopAt w' b off o :=
  ⟨(World.cell?_of_block hb).trans h.c0, (World.cell?_of_block hb).trans h.c1, (World.cell?_of_block hb).trans h.c2, (World.cell?_of_block hb).trans h.c3, (World.cell?_of_block hb).trans h.c4, (World.cell?_of_block hb).trans h.c5, (World.cell?_of_block hb).trans h.c6, (World.cell?_of_block hb).trans h.c7, hi⟩

theorem PopsAt.below {w w' : World} {a : Option Addr} {len cap : Nat} {os : List PopV} (h : PopsAt w a len cap os) (hB : Below w.heap.size w w') : PopsAt w' a len cap os := by
  obtain ⟨h1, h2, h3, h4, h5⟩ := h
  refine ⟨h1, h2, h3, h4, fun hp => ?_⟩
  obtain ⟨b, off, e, hb, hx⟩ := h5 hp
  exact ⟨b, off, e, Nat.lt_of_lt_of_le hb hB.size, fun i hi => (hx i hi).same (hB.block b hb) ((hx i hi).inn.below hB)⟩

set_option maxRecDepth 100000 in
set_option maxHeartbeats 2000000 in
theorem popsAt_of {H : Type} {enc : TypeId × Value → H} {W : World} {base : Nat} {held : Bool} {fuel : Nat} {a : Option Addr} {len cap : Nat} {x : DataW H × List MemPlace}
    (h : DataW.trod enc Tryz.prog W base (fun _ => true) held fuel 23 [.slice a len cap] = some x) (hsz : ∀ n ∈ x.1.weights Tryz.prog 23, n ≤ reachBytes) : ∃ os, PopsAt W a len cap os := by
  rcases Deep.open_slice Tryz.underlying23 h with ⟨hcs, _⟩ | ⟨a', l, c, m, n, D, Pl, hcs, hb, hl, hm, hmm, hxe, hx⟩
  · simp at hcs
    obtain ⟨rfl, rfl, rfl⟩ := hcs
    exact ⟨[], rfl, Nat.le_refl _, Nat.zero_le _, by simp, fun h => by omega⟩
  · simp at hcs
    obtain ⟨rfl, rfl, rfl⟩ := hcs
    have each : ∀ i, i < len → ∃ o : PopV, (PopOk o ∧ PopIn W o) ∧ W.cell? (a'.add (i * 8 + 0)) = some (.int .i64 o.f0) ∧ W.cell? (a'.add (i * 8 + 1)) = some (.int .u32 o.f1) ∧ W.cell? (a'.add (i * 8 + 2)) = some (.bool o.f2) ∧ W.cell? (a'.add (i * 8 + 3)) = some o.v3 ∧
        W.cell? (a'.add (i * 8 + 4)) = some (.bool o.nd.leaf) ∧ W.cell? (a'.add (i * 8 + 5)) = some o.v5 ∧ W.cell? (a'.add (i * 8 + 6)) = some o.v6 ∧ W.cell? (a'.add (i * 8 + 7)) = some o.v7 := by
      intro i hi
      obtain ⟨cs', h1, h2⟩ := hx i (by rw [hmm]; simp; omega)
      rw [show Tryz.prog.cellsOf 42 = 8 from by kernel_rfl] at h1
      obtain ⟨_, hlen, hcell⟩ := World.cells?_some h1
      obtain ⟨xs, k, hk, hxy, _, hxl, hf⟩ := DataW.trod_struct Tryz.underlying42 h2
      have hxl : xs.length = 5 := hxl
      clear hk h1 h2
      match xs, hxl, cs', hlen with
      | [y0, y1, y2, y3, y4], _, [v0, v1, v2, v3, v4, v5, v6, v7], _ =>
        have g0 : DataW.trod enc Tryz.prog W base (fun _ => true) held k 3 (([v0, v1, v2, v3, v4, v5, v6, v7].drop 0).take (Tryz.prog.cellsOf 3)) = some y0 := hf 0 _ rfl
        have g1 : DataW.trod enc Tryz.prog W base (fun _ => true) held k 35 (([v0, v1, v2, v3, v4, v5, v6, v7].drop 1).take (Tryz.prog.cellsOf 35)) = some y1 := hf 1 _ rfl
        have g2 : DataW.trod enc Tryz.prog W base (fun _ => true) held k 4 (([v0, v1, v2, v3, v4, v5, v6, v7].drop 2).take (Tryz.prog.cellsOf 4)) = some y2 := hf 2 _ rfl
        have g3 : DataW.trod enc Tryz.prog W base (fun _ => true) held k 36 (([v0, v1, v2, v3, v4, v5, v6, v7].drop 3).take (Tryz.prog.cellsOf 36)) = some y3 := hf 3 _ rfl
        have g4 : DataW.trod enc Tryz.prog W base (fun _ => true) held k 40 (([v0, v1, v2, v3, v4, v5, v6, v7].drop 4).take (Tryz.prog.cellsOf 40)) = some y4 := hf 4 _ rfl
        rw [show Tryz.prog.cellsOf 3 = 1 from by kernel_rfl] at g0
        rw [show Tryz.prog.cellsOf 35 = 1 from by kernel_rfl] at g1
        rw [show Tryz.prog.cellsOf 4 = 1 from by kernel_rfl] at g2
        rw [show Tryz.prog.cellsOf 36 = 1 from by kernel_rfl] at g3
        rw [show Tryz.prog.cellsOf 40 = 4 from by kernel_rfl] at g4
        simp only [List.drop_zero, List.drop_succ_cons, List.take_succ_cons, List.take_zero] at g0 g1 g2 g3 g4
        obtain ⟨z0, e0, _, w0⟩ := DataW.trod_int Tryz.underlying3 g0
        obtain ⟨z1, e1, _, w1⟩ := DataW.trod_int Tryz.underlying35 g1
        obtain ⟨z2, e2, _⟩ := DataW.trod_bool Tryz.underlying4 g2
        have hDi := congrArg Prod.fst hxy
        have hDi' : D i = .agg [y0.1, y1.1, y2.1, y3.1, y4.1] := by simpa using hDi
        have hwt : ∀ (j : Nat) (d : DataW H) (t : TypeId), [3, 35, 4, 36, 40][j]? = some t → [y0.1, y1.1, y2.1, y3.1, y4.1][j]? = some d → ∀ q ∈ d.weights Tryz.prog t, q ≤ reachBytes := fun j d t ht hd q hq => by
          refine hsz q ?_
          rw [hxe]
          simp only [DataW.weights, Tryz.underlying23, List.mem_cons, List.mem_append]
          refine .inr (.inl (weightsAll_mem (d := D i) (List.mem_map.2 ⟨i, List.mem_range.2 hi, rfl⟩) ?_))
          have := DataW.weights_mem_each (P := Tryz.prog) (ts := [3, 35, 4, 36, 40]) (ds := [y0.1, y1.1, y2.1, y3.1, y4.1]) (j := j) ht hd q hq
          rw [hDi']
          simp only [DataW.weights, Tryz.underlying42]
          exact this
        obtain ⟨a3, n3, c3, l3, rfl, rfl, b3, r3⟩ := numbers_of g3
        have hk3 := numbers_sized g3 (hwt 3 _ _ rfl rfl)
        obtain ⟨nn, p1, d1, p2, d2, p3, d3, hnk, ecs, s1, s2, s3⟩ := node_of (cs := #[v4, v5, v6, v7]) (by kernel_rfl) g4
        simp only [Array.mk.injEq, List.cons.injEq, and_true] at ecs
        obtain ⟨rfl, rfl, rfl, rfl⟩ := ecs
        have hfew := node_few g4 (hwt 4 _ _ rfl rfl)
        simp only [List.cons.injEq, and_true] at e0 e1 e2
        subst e0 e1 e2
        have q0 := hcell 0 (by omega)
        have q1 := hcell 1 (by omega)
        have q2 := hcell 2 (by omega)
        have q3 := hcell 3 (by omega)
        have q4 := hcell 4 (by omega)
        have q5 := hcell 5 (by omega)
        have q6 := hcell 6 (by omega)
        have q7 := hcell 7 (by omega)
        rw [Deep.add_add] at q0 q1 q2 q3 q4 q5 q6 q7
        exact ⟨⟨z0, z1, z2, _, l3, nn, _, _, _⟩, ⟨⟨bounds_i64 w0, bounds_u32 w1, hk3, b3, hnk, hfew⟩, ⟨r3, ⟨p1, d1, p2, d2, p3, d3, rfl, s1, s2, s3, trivial⟩⟩⟩, q0, q1, q2, q3, q4, q5, q6, q7⟩
    have hin : Inhabited PopV := ⟨pop0⟩
    obtain ⟨f, hf⟩ := Deep.choose_lt each
    refine ⟨(List.range len).map f, by simp, hl, hm, fun o ho => ?_, fun hp => ?_⟩
    · obtain ⟨i, hi, rfl⟩ := List.mem_map.1 ho
      exact (hf i (List.mem_range.1 hi)).1.1
    · obtain ⟨b, off, spot⟩ := a'
      have q0 := (hf 0 hp).2.1
      have hspot : spot = none := by simpa [Addr.add] using World.cell?_spot q0
      subst hspot
      have hadd : ∀ j, (⟨b, off, none⟩ : Addr).add j = ⟨b, off + j, none⟩ := fun j => by unfold Addr.add; split <;> simp_all
      rw [hadd] at q0
      refine ⟨b, off, rfl, World.block_lt_of_cell? _ _ q0, fun i hi => ?_⟩
      obtain ⟨hh, q0, q1, q2, q3, q4, q5, q6, q7⟩ := hf i hi
      rw [hadd, ← Nat.add_assoc] at q0 q1 q2 q3 q4 q5 q6 q7
      rw [List.getD_eq_getElem?_getD, List.getElem?_map, List.getElem?_range hi]
      exact ⟨q0, q1, q2, q3, q4, q5, q6, q7, hh.2⟩

/-- The first free one. -/
def firstR : List Nat → Option Nat
  | [] => none
  | k :: l => if k = 1 then some 0 else (firstR l).map (· + 1)

theorem run1 (ks : List Nat) (i : Nat) : RunAt ks 1 i ↔ ks.getD i 0 = 1 := by
  constructor
  · intro h
    have := h 0 (by omega)
    rwa [Nat.add_zero] at this
  · intro h j hj
    obtain rfl : j = 0 := by omega
    rwa [Nat.add_zero]

theorem firstR_is : ∀ ks, IsFirst ks 1 (firstR ks)
  | [] => fun i hi => by
    have := (run1 _ _).1 hi
    simp at this
  | k :: l => by
    unfold firstR
    by_cases e : k = 1
    · rw [if_pos e]
      exact ⟨(run1 _ _).2 (by rw [e]; rfl), fun i hi => by omega⟩
    · rw [if_neg e]
      have ih := firstR_is l
      cases hf : firstR l with
      | none =>
        rw [hf] at ih
        intro i hi
        have h1 := (run1 _ _).1 hi
        cases i with
        | zero => exact e h1
        | succ i => exact ih i ((run1 _ _).2 h1)
      | some b =>
        rw [hf] at ih
        show IsFirst (k :: l) 1 (some (b + 1))
        refine ⟨(run1 _ _).2 (show l.getD b 0 = 1 from (run1 _ _).1 ih.1), fun i hi h => ?_⟩
        have h1 := (run1 _ _).1 h
        cases i with
        | zero => exact e h1
        | succ i => exact ih.2 i (by omega) ((run1 _ _).2 h1)

/-- What Write tells, and what it leaves. -/
def wrP (p : Pu) (n : Nd) : Int × Int × Pu := wrOut p n (firstR p.now.ks)

theorem pwrite_any {w : World} {a : Ad} {p : Pu} (h : PuAt w a p) (v : Value) (n : Nd) (hv : NdAt w v n) (hn : NdOk n) :
    Calls Tryz.prog 13 #[ptr a.q, v] w fun e w' => e = .returned (.tuple #[.int .u32 (wrP p n).1, .int .i64 (wrP p n).2.1]) ∧ PuAt w' a (wrP p n).2.2 ∧ Moves w w' a a := by
  refine (write_any h v n hv hn).mono ?_
  rintro e w' ⟨r, h1, h2, h3, h4⟩
  have := first_unique h1 (firstR_is _)
  subst this
  exact ⟨h2, h3, h4⟩

theorem nodeN_ok {o : PopV} (h : PopOk o) : NdOk (nodeN o) := by
  unfold nodeN
  split
  · exact h.nok
  · split
    · intro k hk
      simp only [innerN, List.mem_cons, List.not_mem_nil, or_false] at hk
      have := h.a1
      rcases hk with rfl | rfl <;> omega
    · intro k hk
      simp [leafN] at hk

theorem node_any (w : World) (o : PopV) (hk : PopOk o) (hi : PopIn w o) : Calls Tryz.prog 12 #[.agg o.cells] w fun e w' => ∃ u, e = .returned u ∧ NdAt w' u (nodeN o) ∧ (o.f0 ≠ 6 → NdOwn w' w.heap.size u (nodeN o)) ∧ Below w.heap.size w w' := by
  unfold nodeN
  by_cases h6 : o.f0 = 6
  · rw [if_pos h6]
    obtain ⟨a1, c1, a2, c2, a3, c3, e, h1, h2, h3, _⟩ := id hi.node
    unfold PopV.node at e
    simp only [Value.agg.injEq, Array.mk.injEq, List.cons.injEq, and_true, true_and] at e
    refine (nodeSix w o h6 a1 a2 a3 _ _ _ c1 c2 c3 e.1 e.2.1 e.2.2).mono ?_
    rintro e w' ⟨rfl, hb⟩
    exact ⟨_, rfl, hi.node.below hb, fun h => absurd h6 h, hb⟩
  · rw [if_neg h6]
    cases hf : o.f2 with
    | true =>
      refine (nodeInner w o h6 hf hk.a1.1 hk.a1.2).mono ?_
      rintro e w' ⟨u, rfl, h1, h2⟩
      exact ⟨u, rfl, h1.at (by simp [innerN]), fun _ => h1, h2⟩
    | false =>
      refine (nodeLeaf w o h6 hf hk.a1.1 hk.a1.2).mono ?_
      rintro e w' ⟨u, rfl, h1, h2⟩
      exact ⟨u, rfl, h1.at (by simp [leafN]), fun _ => h1, h2⟩

/-- What a call leaves. -/
def stepP (p : Pu) (o : PopV) : Pu :=
  if o.f0 = 0 then (wrP p (nodeN o)).2.2 else if o.f0 = 6 then (wrP p (nodeN o)).2.2 else if o.f0 = 2 then dropP p o.f1 else if o.f0 = 3 then { p with st := p.now } else if o.f0 = 4 then { p with now := p.st } else if o.f0 = 5 then sweepP p o.f3 else p

def playP (p : Pu) (os : List PopV) : Pu := os.foldl stepP p

theorem playP_next (p : Pu) (os : List PopV) (j : Nat) (o : PopV) (h : os[j]? = some o) : playP p (os.take (j + 1)) = stepP (playP p (os.take j)) o := by
  unfold playP
  rw [take_next h, List.foldl_append]
  rfl

theorem PopIn.slices {w : World} {o : PopV} (h : PopIn w o) : ∃ a3 c3 a5 c5 a6 c6 a7 c7, o.v3 = .slice a3 o.f3.length c3 ∧ o.v5 = .slice a5 o.nd.pairs.length c5 ∧ o.v6 = .slice a6 o.nd.keys.length c6 ∧ o.v7 = .slice a7 o.nd.kids.length c7 := by
  obtain ⟨a3, c3, e3, _⟩ := id h.keep
  obtain ⟨a1, c1, a2, c2, a3', c3', e, _⟩ := id h.node
  unfold PopV.node at e
  simp only [Value.agg.injEq, Array.mk.injEq, List.cons.injEq, and_true, true_and] at e
  exact ⟨a3, c3, a1, c1, a2, c2, a3', c3', e3, e.1, e.2.1, e.2.2⟩

set_option maxHeartbeats 8000000 in
theorem play_any {w : World} {a : Ad} {p : Pu} (h : PuAt w a p) (x : Option Addr) (len cap : Nat) (os : List PopV) (hops : ∀ W a', Moves w W a a' → PopsAt W x len cap os) :
    Calls Tryz.prog 27 #[ptr a.q, .slice x len cap] w fun e w' => e = .returned (.tuple #[]) ∧ MovedTo w a (playP p os) w' := by
  obtain ⟨hl0, hl1, hl2, hk0, _⟩ := hops w a (Moves.refl _ _)
  unfold maxLen at hl2
  have HH : Hid (PuAt w a p) := h
  clear h
  unfold ptr
  go_enter Tryz.func27, Tryz.ntmps27
  go_wp2
  go_loopw [5, 8] (fun _ t wr => ∃ j a', j ≤ len ∧ t = .int .i64 ((j : Nat) : Int) ∧ Hid (PuAt wr a' (playP p (os.take j))) ∧ Moves w wr a a') (fun _ t _ => len - (Go.RowKit.intOf t).toNat)
  case atStart => exact ⟨0, a, Nat.zero_le _, rfl, HH.out, Moves.refl _ _⟩
  case round =>
    obtain ⟨j, a', hj, rfl, HP, hM⟩ := hrel
    by_cases hlt : j < len
    · have hltI : (j : Int) < len := by omega
      obtain ⟨o, ho⟩ := at_some hl0 hlt
      have hnx := playP_next p os j o ho
      obtain ⟨_, _, _, _, h5⟩ := hops wr a' hM
      obtain ⟨b, off, rfl, hbl, hat⟩ := h5 (by omega)
      have hA := hat j hlt
      rw [show os.getD j pop0 = o by rw [List.getD_eq_getElem?_getD, ho]; rfl] at hA
      have hok := hk0 o (List.mem_of_getElem? ho)
      generalize playP p (os.take j) = P at *
      clear hat h5 ho
      have HNX : Hid (playP p (os.take (j + 1)) = stepP P o) := hnx
      clear hnx
      obtain ⟨c0, c1, c2, c3, c4, c5, c6, c7, hin⟩ := hA
      have hq := hM.q
      have HB := (Below.refl wr.heap.size wr).alloc (Nat.le_refl _) (.cells o.cells 42)
      have hin' := hin.below HB
      have hP' := HP.out.below HB
      have kN := node_any _ o hok hin'
      have kD := drop_any hP' o.f1 hok.a1.1 hok.a1.2
      have kS := settle_any hP'
      have kU := undo_any hP'
      have kW := psweep_any hP' o.v3 o.f3 hin'.keep hok.keep hok.ku
      have hb0 := hok.a0
      have HST : Hid (∀ P', stepP P o = P' → playP p (os.take (j + 1)) = P') := fun P' e => HNX.out.trans e
      obtain ⟨a3, k3, a5, k5, a6, k6, a7, k7, e3, e5, e6, e7⟩ := hin.slices
      have HOK : Hid (PopOk o) := hok
      have HIN : Hid (PopIn wr o) := hin
      clear hok hin hin' HNX
      unfold PopV.cells at *
      rw [e3] at c3 kN kD kS kU kW HB hP'
      rw [e5] at c5 kN kD kS kU kW HB hP'
      rw [e6] at c6 kN kD kS kU kW HB hP'
      rw [e7] at c7 kN kD kS kU kW HB hP'
      generalize hlf : o.nd.leaf = lf at *
      generalize hn5 : o.nd.pairs.length = n5 at *
      generalize hn6 : o.nd.keys.length = n6 at *
      generalize hn7 : o.nd.kids.length = n7 at *
      generalize hn3 : o.f3.length = n3 at *
      unfold ptr at kD kS kU kW
      rw [hq] at kD kS kU kW
      have HMB := fun W (hW : Below wr.heap.size wr W) => hM.trans (Moves.of_below (a := a') hW)
      by_cases d0 : o.f0 = 0
      · simp only [d0] at c0 kN kD kS kU kW HB hP'
        clear kD kS kU kW
        go_wp2_with fail
        refine kN.mono ?_
        clear kN
        rintro e w2 ⟨u, rfl, hnd, _, hb2⟩
        obtain ⟨u1, q1, u2, q2, u3, q3, rfl, _⟩ := id hnd
        have hP2 := hP'.below hb2
        have kP := pwrite_any hP2 _ _ hnd (nodeN_ok HOK.out)
        unfold ptr at kP
        rw [hq] at kP
        have HSP : Hid (stepP P o = (wrP P (nodeN o)).2.2) := (show stepP P o = (wrP P (nodeN o)).2.2 from (by unfold stepP; rw [if_pos d0]))
        generalize (wrP P (nodeN o)).1 = R1 at kP
        generalize (wrP P (nodeN o)).2.1 = R2 at kP
        generalize (nodeN o).leaf = L0 at *
        generalize (nodeN o).pairs.length = L1 at *
        generalize (nodeN o).keys.length = L2 at *
        generalize (nodeN o).kids.length = L3 at *
        go_wp2_with fail
        refine kP.mono ?_
        clear kP
        rintro e w3 ⟨rfl, hP3, hM3⟩
        go_wp2_with fail
        go_roundw
        case rel => exact ⟨j + 1, a', by omega, by go_num, by rw [HST.out _ HSP.out]; exact hP3, (HMB _ (HB.trans (hb2.mono HB.size))).trans hM3⟩
        case measure => simp [Go.RowKit.intOf]; omega
      · by_cases d6 : o.f0 = 6
        · simp only [d6] at c0 kN kD kS kU kW HB hP'
          clear kD kS kU kW
          go_wp2_with fail
          refine kN.mono ?_
          clear kN
          rintro e w2 ⟨u, rfl, hnd, _, hb2⟩
          obtain ⟨u1, q1, u2, q2, u3, q3, rfl, _⟩ := id hnd
          have hP2 := hP'.below hb2
          have kP := pwrite_any hP2 _ _ hnd (nodeN_ok HOK.out)
          unfold ptr at kP
          rw [hq] at kP
          have HSP : Hid (stepP P o = (wrP P (nodeN o)).2.2) := (show stepP P o = (wrP P (nodeN o)).2.2 from (by unfold stepP; rw [if_neg d0, if_pos d6]))
          generalize (wrP P (nodeN o)).1 = R1 at kP
          generalize (wrP P (nodeN o)).2.1 = R2 at kP
          generalize (nodeN o).leaf = L0 at *
          generalize (nodeN o).pairs.length = L1 at *
          generalize (nodeN o).keys.length = L2 at *
          generalize (nodeN o).kids.length = L3 at *
          go_wp2_with fail
          refine kP.mono ?_
          clear kP
          rintro e w3 ⟨rfl, hP3, hM3⟩
          go_wp2_with fail
          go_roundw
          case rel => exact ⟨j + 1, a', by omega, by go_num, by rw [HST.out _ HSP.out]; exact hP3, (HMB _ (HB.trans (hb2.mono HB.size))).trans hM3⟩
          case measure => simp [Go.RowKit.intOf]; omega
        · by_cases d2 : o.f0 = 2
          · simp only [d2] at c0 kN kD kS kU kW HB hP'
            clear kN kS kU kW
            go_wp2_with fail
            refine kD.mono ?_
            clear kD
            rintro e w3 ⟨rfl, hP3, hM3⟩
            go_wp2_with fail
            go_roundw
            case rel => exact ⟨j + 1, a', by omega, by go_num, by rw [HST.out _ (by unfold stepP; rw [if_neg d0, if_neg d6, if_pos d2])]; exact hP3, (HMB _ HB).trans hM3⟩
            case measure => simp [Go.RowKit.intOf]; omega
          · by_cases d3 : o.f0 = 3
            · simp only [d3] at c0 kN kD kS kU kW HB hP'
              clear kN kD kU kW
              go_wp2_with fail
              refine kS.mono ?_
              clear kS
              rintro e w3 ⟨rfl, a'', hP3, hM3⟩
              go_wp2_with fail
              go_roundw
              case rel => exact ⟨j + 1, a'', by omega, by go_num, by rw [HST.out _ (by unfold stepP; rw [if_neg d0, if_neg d6, if_neg d2, if_pos d3])]; exact hP3, (HMB _ HB).trans hM3⟩
              case measure => simp [Go.RowKit.intOf]; omega
            · by_cases d4 : o.f0 = 4
              · simp only [d4] at c0 kN kD kS kU kW HB hP'
                clear kN kD kS kW
                go_wp2_with fail
                refine kU.mono ?_
                clear kU
                rintro e w3 ⟨rfl, a'', hP3, hM3⟩
                go_wp2_with fail
                go_roundw
                case rel => exact ⟨j + 1, a'', by omega, by go_num, by rw [HST.out _ (by unfold stepP; rw [if_neg d0, if_neg d6, if_neg d2, if_neg d3, if_pos d4])]; exact hP3, (HMB _ HB).trans hM3⟩
                case measure => simp [Go.RowKit.intOf]; omega
              · by_cases d5 : o.f0 = 5
                · simp only [d5] at c0 kN kD kS kU kW HB hP'
                  clear kN kD kS kU
                  go_wp2_with fail
                  refine kW.mono ?_
                  clear kW
                  rintro e w3 ⟨rfl, hP3, hM3⟩
                  go_wp2_with fail
                  go_roundw
                  case rel => exact ⟨j + 1, a', by omega, by go_num, by rw [HST.out _ (by unfold stepP; rw [if_neg d0, if_neg d6, if_neg d2, if_neg d3, if_neg d4, if_pos d5])]; exact hP3, (HMB _ HB).trans hM3⟩
                  case measure => simp [Go.RowKit.intOf]; omega
                · generalize hf0 : o.f0 = f0 at *
                  clear kN kD kS kU kW
                  have HSP : Hid (stepP P o = P) := by
                    show stepP P o = P
                    unfold stepP
                    rw [hf0, if_neg d0, if_neg d6, if_neg d2, if_neg d3, if_neg d4, if_neg d5]
                  clear hf0
                  have hP3 := hP'
                  go_wp2_with fail
                  go_roundw
                  case rel => exact ⟨j + 1, a', by omega, by go_num, by rw [HST.out _ HSP.out]; exact hP3, HMB _ HB⟩
                  case measure => simp [Go.RowKit.intOf]; omega
    · obtain rfl : j = len := by omega
      have hltI : ¬ (j : Int) < j := by omega
      rw [List.take_of_length_le (by omega)] at HP
      go_wp2_with fail
      go_end0
      exact ⟨rfl, a', HP.out, hM⟩

theorem rising_one (s : ByteArray) (h : s.size = 14) : risingB [s] = true := by
  refine rising_yes fun i hi => ?_
  obtain rfl : i = 0 := by simpa using hi
  unfold risAt
  simp [h]

theorem leafN_ok (n : Int) : nodeE (leafN n) = 0 := by
  have h : nodeOk (leafN n) = true := by
    unfold nodeOk leafN
    simp only [List.map_cons, List.map_nil, rising_one _ (lkey_size n)]
    rfl
  unfold nodeE
  rw [h]
  rfl

theorem innerN_ok (n : Int) (h0 : 0 ≤ n) : nodeE (innerN n) = 0 := by
  have h : nodeOk (innerN n) = true := by
    unfold nodeOk innerN
    simp only [rising_one _ (lkey_size n)]
    have h1 : (n % 999 + 1 != 0) = true := by simp; omega
    simp [h1]
  unfold nodeE
  rw [h]
  rfl

theorem nodeE_ok {n : Nd} (h : nodeE n = 0) : nodeOk n = true := by
  unfold nodeE at h
  cases hk : nodeOk n with
  | true => rfl
  | false => rw [hk] at h; cases h

/-- The power is on, and will not be cut. -/
structure DOn (d : St) : Prop where
  on : d.off = false
  un : d.armed = false

theorem wr_on {d : St} (h : DOn d) {i : Int} (h0 : 0 ≤ i) (h1 : i < d.blocks) {xs : List Int} (hl : xs.length = 512) : writeOut d i xs = (0, doneSt d i xs) := by
  have hu : useErr d i = 0 := by
    unfold useErr
    rw [h.on, if_neg (by simp), if_neg (by omega)]
  have hd : due d = false := by
    unfold due
    rw [h.un]
    rfl
  unfold writeOut
  rw [hu, hd, if_neg (by simp), if_neg (by simp [hl]), if_neg (by simp)]

theorem done_on {d : St} (h : DOn d) (i : Int) (xs : List Int) : DOn (doneSt d i xs) := by
  unfold doneSt countSt
  rw [h.un]
  exact ⟨h.on, h.un⟩

theorem done_blocks {d : St} (h : DOn d) (i : Int) (xs : List Int) : (doneSt d i xs).blocks = d.blocks := by
  unfold doneSt countSt
  rw [h.un]
  rfl

theorem seen_done {d : St} (h : DOn d) (i : Int) (xs : List Int) (j : Int) : seen (doneSt d i xs) j = if j = i then xs else seen d j := by
  unfold seen doneSt countSt
  rw [h.un]
  simp only [Bool.false_eq_true, if_false]
  unfold upd
  split <;> rfl

theorem wrP_some {p : Pu} (h : PuOk p) (hd : DOn p.d) {n : Nd} (hn : nodeE n = 0) {j : Nat} (hj : firstR p.now.ks = some j) :
    wrP p n = (((p.now.lo + j : Nat) : Int), 0, { takeP p j with d := doneSt p.d ((p.now.lo + j : Nat) : Int) (blockL n) }) := by
  have hf := firstR_is p.now.ks
  rw [hj] at hf
  have h1 := (first_at hf).1
  have h2 := h.top
  have hw := wr_on hd (i := ((p.now.lo + j : Nat) : Int)) (by omega) (by omega) (blockL_length (nodeE_ok hn))
  unfold wrP wrOut
  rw [hj, if_neg (by rw [hn]; simp)]
  dsimp only
  rw [hw, if_neg (by simp)]

theorem wrP_none {p : Pu} {n : Nd} (hn : nodeE n = 0) (hj : firstR p.now.ks = none) : wrP p n = (0, 5, p) := by
  unfold wrP wrOut
  rw [hj, if_neg (by rw [hn]; simp)]

theorem wrP_bad {p : Pu} {n : Nd} (hn : nodeE n ≠ 0) : wrP p n = (0, nodeE n, p) := by
  unfold wrP wrOut
  rw [if_pos hn]

/-- It stays on whatever is done. -/
theorem wrP_on {p : Pu} (h : PuOk p) (hd : DOn p.d) (n : Nd) : DOn (wrP p n).2.2.d := by
  by_cases hn : nodeE n = 0
  · cases hj : firstR p.now.ks with
    | none => rw [wrP_none hn hj]; exact hd
    | some j => rw [wrP_some h hd hn hj]; exact done_on hd _ _
  · rw [wrP_bad hn]; exact hd

theorem stepP_on {p : Pu} (h : PuOk p) (hd : DOn p.d) (o : PopV) : DOn (stepP p o).d := by
  unfold stepP
  split
  · exact wrP_on h hd _
  · split
    · exact wrP_on h hd _
    · split
      · exact hd
      · split
        · exact hd
        · split
          · exact hd
          · split
            · exact hd
            · exact hd

theorem wrP_ok {p : Pu} (h : PuOk p) (n : Nd) : PuOk (wrP p n).2.2 := by
  unfold wrP wrOut
  split
  · exact h
  · have hf := firstR_is p.now.ks
    cases hj : firstR p.now.ks with
    | none => exact h
    | some j =>
      rw [hj] at hf
      dsimp only
      split
      · exact wr_ok h _ _
      · exact wr_ok (takeP_ok h hf) ((p.now.lo + j : Nat) : Int) (blockL n)

theorem stepP_ok {p : Pu} (h : PuOk p) (o : PopV) : PuOk (stepP p o) := by
  unfold stepP
  split
  · exact wrP_ok h _
  · split
    · exact wrP_ok h _
    · split
      · exact dropP_ok h _
      · split
        · exact settleOk h
        · split
          · exact undoOk h
          · split
            · exact sweepP_ok h _
            · exact h

theorem playP_all {p : Pu} (h : PuOk p) (hd : DOn p.d) : ∀ os : List PopV, PuOk (playP p os) ∧ DOn (playP p os).d
  | [] => ⟨h, hd⟩
  | o :: os => by
    show PuOk (playP (stepP p o) os) ∧ DOn (playP (stepP p o) os).d
    exact playP_all (stepP_ok h o) (stepP_on h hd o) os

/-- A write into a block of the chapter's example. -/
theorem wrL {D : St} (hD : DOn D) (hb : D.blocks = 64) (ks : List Nat) (st : Fr) (n : Int) (j : Nat) (hj : firstR ks = some j) (hl : ks.length = 4) :
    wrP ⟨D, ⟨60, ks⟩, st⟩ (leafN n) = (((60 + j : Nat) : Int), 0, ⟨doneSt D ((60 + j : Nat) : Int) (blockL (leafN n)), ⟨60, ks.set j 2⟩, st⟩) := by
  have hf := firstR_is ks
  rw [hj] at hf
  have h1 := (first_at (s := ⟨60, ks⟩) hf).1
  have h1' : j < ks.length := h1
  have hw := wr_on hD (i := ((60 + j : Nat) : Int)) (by omega) (by omega) (blockL_length (nodeE_ok (leafN_ok n)))
  unfold wrP wrOut
  dsimp only
  rw [hj, if_neg (by rw [leafN_ok]; simp)]
  dsimp only
  rw [hw, if_neg (by simp)]
  rfl

theorem liveNode (w : World) (n : Int) (h0 : 0 ≤ n) (h1 : n ≤ 4294967295) : Calls Tryz.prog 12 #[.agg #[.int .i64 0, .int .u32 n, .bool false, .slice none 0 0, .bool false, .slice none 0 0, .slice none 0 0, .slice none 0 0]] w fun e w' => ∃ a1 c1 a2 c2 a3 c3, e = .returned (.agg #[.bool true, .slice a1 1 c1, .slice a2 0 c2, .slice a3 0 c3]) ∧ NdAt w' (.agg #[.bool true, .slice a1 1 c1, .slice a2 0 c2, .slice a3 0 c3]) (leafN n) ∧ Below w.heap.size w w' := by
  refine (nodeLeaf w ⟨0, n, false, .slice none 0 0, [], nd0, .slice none 0 0, .slice none 0 0, .slice none 0 0⟩ (by simp) rfl h0 h1).mono ?_
  rintro e w' ⟨u, rfl, ho, hb⟩
  have hn := ho.at (by simp [leafN])
  obtain ⟨a1, c1, a2, c2, a3, c3, rfl, _⟩ := id hn
  exact ⟨a1, c1, a2, c2, a3, c3, rfl, hn, hb⟩

theorem leafN_k (n : Int) : NdOk (leafN n) := fun k hk => by simp [leafN] at hk

def lD0 : St := freshSt 64
def lD1 : St := doneSt lD0 60 (blockL (leafN 1))
def lD2 : St := doneSt lD1 61 (blockL (leafN 2))
def lD3 : St := doneSt lD2 62 (blockL (leafN 3))
def lD4 : St := doneSt lD3 62 (blockL (leafN 4))

theorem lD0_on : DOn lD0 ∧ lD0.blocks = 64 := ⟨⟨rfl, rfl⟩, rfl⟩
theorem lD1_on : DOn lD1 ∧ lD1.blocks = 64 := ⟨done_on lD0_on.1 _ _, (done_blocks lD0_on.1 _ _).trans lD0_on.2⟩
theorem lD2_on : DOn lD2 ∧ lD2.blocks = 64 := ⟨done_on lD1_on.1 _ _, (done_blocks lD1_on.1 _ _).trans lD1_on.2⟩
theorem lD3_on : DOn lD3 ∧ lD3.blocks = 64 := ⟨done_on lD2_on.1 _ _, (done_blocks lD2_on.1 _ _).trans lD2_on.2⟩
theorem lD4_on : DOn lD4 := done_on lD3_on.1 _ _

theorem live_seen : seen lD4 61 = blockL (leafN 2) := by
  unfold lD4
  rw [seen_done lD3_on.1, if_neg (by omega)]
  unfold lD3
  rw [seen_done lD2_on.1, if_neg (by omega)]
  unfold lD2
  rw [seen_done lD1_on.1, if_pos rfl]

theorem live_w1 : wrP ⟨lD0, ⟨60, [1, 1, 1, 1]⟩, ⟨60, [1, 1, 1, 1]⟩⟩ (leafN 1) = (60, 0, ⟨lD1, ⟨60, [2, 1, 1, 1]⟩, ⟨60, [1, 1, 1, 1]⟩⟩) := wrL lD0_on.1 lD0_on.2 [1, 1, 1, 1] _ 1 0 rfl rfl
theorem live_w2 : wrP ⟨lD1, ⟨60, [2, 1, 1, 1]⟩, ⟨60, [1, 1, 1, 1]⟩⟩ (leafN 2) = (61, 0, ⟨lD2, ⟨60, [2, 2, 1, 1]⟩, ⟨60, [1, 1, 1, 1]⟩⟩) := wrL lD1_on.1 lD1_on.2 [2, 1, 1, 1] _ 2 1 rfl rfl
theorem live_w3 : wrP ⟨lD2, ⟨60, [2, 2, 1, 1]⟩, ⟨60, [2, 2, 1, 1]⟩⟩ (leafN 3) = (62, 0, ⟨lD3, ⟨60, [2, 2, 2, 1]⟩, ⟨60, [2, 2, 1, 1]⟩⟩) := wrL lD2_on.1 lD2_on.2 [2, 2, 1, 1] _ 3 2 rfl rfl
theorem live_w4 : wrP ⟨lD3, ⟨60, [3, 2, 1, 1]⟩, ⟨60, [2, 2, 1, 1]⟩⟩ (leafN 4) = (62, 0, ⟨lD4, ⟨60, [3, 2, 2, 1]⟩, ⟨60, [2, 2, 1, 1]⟩⟩) := wrL lD3_on.1 lD3_on.2 [3, 2, 1, 1] _ 4 2 rfl rfl
theorem live_d1 : turnE ⟨60, [2, 2, 2, 1]⟩ 60 = 0 ∧ dropP ⟨lD3, ⟨60, [2, 2, 2, 1]⟩, ⟨60, [2, 2, 1, 1]⟩⟩ 60 = ⟨lD3, ⟨60, [3, 2, 2, 1]⟩, ⟨60, [2, 2, 1, 1]⟩⟩ := ⟨rfl, rfl⟩
theorem live_d2 : turnE ⟨60, [3, 2, 2, 1]⟩ 62 = 0 ∧ dropP ⟨lD3, ⟨60, [3, 2, 2, 1]⟩, ⟨60, [2, 2, 1, 1]⟩⟩ 62 = ⟨lD3, ⟨60, [3, 2, 1, 1]⟩, ⟨60, [2, 2, 1, 1]⟩⟩ := ⟨rfl, rfl⟩

theorem live_r : prdE ⟨lD4, ⟨60, [2, 2, 1, 1]⟩, ⟨60, [2, 2, 1, 1]⟩⟩ 61 = 0 ∧ prdN ⟨lD4, ⟨60, [2, 2, 1, 1]⟩, ⟨60, [2, 2, 1, 1]⟩⟩ 61 = leafN 2 := by
  have hk : kindOfN ⟨60, [2, 2, 1, 1]⟩ 61 = 2 := rfl
  have hb := node_back (nodeE_ok (leafN_ok 2)) (leafN_k 2)
  have he : prdE ⟨lD4, ⟨60, [2, 2, 1, 1]⟩, ⟨60, [2, 2, 1, 1]⟩⟩ 61 = 0 := by
    unfold prdE
    dsimp only
    rw [hk, if_neg (by omega), lD4_on.on, if_neg (by simp), live_seen]
    exact hb.1
  refine ⟨he, ?_⟩
  unfold prdN
  rw [if_pos he]
  dsimp only
  rw [live_seen]
  exact hb.2

set_option maxHeartbeats 4000000 in
theorem live_any (w : World) : Calls Tryz.prog 8 #[] w fun e w' => e = .returned (.bool true) ∧ Below w.heap.size w w' := by
  have k0 := disk_New w 64 (by omega) (by omega)
  unfold ptr at k0
  go_enter Tryz.func8, Tryz.ntmps8
  go_wp2_with fail
  refine k0.mono ?_
  clear k0
  rintro e w1 ⟨rfl, hd1, hb1, hs1⟩
  have k1 := pnew_ok hd1 60 4 (by omega) (by omega) rfl (.slice none 0 0) [] ⟨none, 0, rfl, Nat.le_refl _, by simp, fun h => by simp at h⟩
  rw [show ((60 : Nat) : Int) = 60 from rfl] at k1
  unfold ptr at k1
  go_wp2_with fail
  refine k1.mono ?_
  clear k1
  rintro e w2 ⟨hb2, ⟨x1, rfl⟩ | ⟨_, x2, rfl⟩ | ⟨_, ks, a, x2, rfl, hP0, ad, abs, abp, a1, a2, a3, a4, a5⟩⟩
  · exact absurd x1 (by simp [anyOut])
  · exact absurd x2 (by simp [takeAll])
  obtain rfl : [1, 1, 1, 1] = ks := by cases x2; rfl
  have hU0 : Below w.heap.size w w2 ∧ ∀ k ∈ a.all, w.heap.size ≤ k := by
    refine ⟨hb1.trans (hb2.mono (by omega)), fun k hk => ?_⟩
    simp only [Ad.all, List.mem_cons, List.not_mem_nil, or_false] at hk
    omega
  clear hb2 x2 hd1 hb1 ad abs abp a1 a2 a3 a4 a5
  have hu0 : w.heap.size ≤ w2.heap.size := hU0.1.size
  change PuAt w2 a ⟨lD0, ⟨60, [1, 1, 1, 1]⟩, ⟨60, [1, 1, 1, 1]⟩⟩ at hP0
  unfold ptr
  have kN1 := liveNode w2 1 (by omega) (by omega)
  go_wp2_with fail
  refine kN1.mono ?_
  clear kN1
  rintro e n1 ⟨p1, q1, p2, q2, p3, q3, rfl, hnd, hbn⟩
  have hPn := hP0.below hbn
  have kW := pwrite_any hPn _ _ hnd (leafN_k 1)
  rw [live_w1] at kW
  unfold ptr at kW
  go_wp2_with fail
  refine kW.mono ?_
  clear kW
  rintro e w3 ⟨rfl, hP1, hM⟩
  have hU1 := ((Moves.of_below hbn).trans hM).under hU0.1 hu0 hU0.2
  have hu1 : w.heap.size ≤ w3.heap.size := hU1.1.size
  clear hnd hbn hPn hM
  dsimp only at hP1 ⊢
  replace hP1 : PuAt w3 a ⟨lD1, ⟨60, [2, 1, 1, 1]⟩, ⟨60, [1, 1, 1, 1]⟩⟩ := hP1
  have kN2 := liveNode w3 2 (by omega) (by omega)
  go_wp2_with fail
  refine kN2.mono ?_
  clear kN2
  rintro e n2 ⟨p1, q1, p2, q2, p3, q3, rfl, hnd, hbn⟩
  have hPn := hP1.below hbn
  have kW := pwrite_any hPn _ _ hnd (leafN_k 2)
  rw [live_w2] at kW
  unfold ptr at kW
  go_wp2_with fail
  refine kW.mono ?_
  clear kW
  rintro e w4 ⟨rfl, hP2, hM⟩
  have hU2 := ((Moves.of_below hbn).trans hM).under hU1.1 hu1 hU1.2
  have hu2 : w.heap.size ≤ w4.heap.size := hU2.1.size
  clear hnd hbn hPn hM
  dsimp only at hP2 ⊢
  replace hP2 : PuAt w4 a ⟨lD2, ⟨60, [2, 2, 1, 1]⟩, ⟨60, [1, 1, 1, 1]⟩⟩ := hP2
  have kS := settle_any hP2
  unfold ptr at kS
  go_wp2_with fail
  refine kS.mono ?_
  clear kS
  rintro e w5 ⟨rfl, b3, hP3, hM⟩
  have hq3 : b3.q = a.q := hM.q
  have hU3 := hM.under hU2.1 hu2 hU2.2
  have hu3 : w.heap.size ≤ w5.heap.size := hU3.1.size
  clear hM
  replace hP3 : PuAt w5 b3 ⟨lD2, ⟨60, [2, 2, 1, 1]⟩, ⟨60, [2, 2, 1, 1]⟩⟩ := hP3
  have kN4 := liveNode w5 3 (by omega) (by omega)
  go_wp2_with fail
  refine kN4.mono ?_
  clear kN4
  rintro e n4 ⟨p1, q1, p2, q2, p3, q3, rfl, hnd, hbn⟩
  have hPn := hP3.below hbn
  have kW := pwrite_any hPn _ _ hnd (leafN_k 3)
  rw [live_w3] at kW
  unfold ptr at kW
  rw [hq3] at kW
  go_wp2_with fail
  refine kW.mono ?_
  clear kW
  rintro e w6 ⟨rfl, hP4, hM⟩
  have hU4 := ((Moves.of_below hbn).trans hM).under hU3.1 hu3 hU3.2
  have hu4 : w.heap.size ≤ w6.heap.size := hU4.1.size
  clear hnd hbn hPn hM
  dsimp only at hP4 ⊢
  replace hP4 : PuAt w6 b3 ⟨lD3, ⟨60, [2, 2, 2, 1]⟩, ⟨60, [2, 2, 1, 1]⟩⟩ := hP4
  have kD := drop_any hP4 60 (by omega) (by omega)
  rw [live_d1.2, show turnE _ 60 = 0 from live_d1.1] at kD
  unfold ptr at kD
  rw [hq3] at kD
  go_wp2_with fail
  refine kD.mono ?_
  clear kD
  rintro e w7 ⟨rfl, hP5, hM⟩
  have hU5 := hM.under hU4.1 hu4 hU4.2
  have hu5 : w.heap.size ≤ w7.heap.size := hU5.1.size
  clear hM
  have kD := drop_any hP5 62 (by omega) (by omega)
  rw [live_d2.2, show turnE _ 62 = 0 from live_d2.1] at kD
  unfold ptr at kD
  rw [hq3] at kD
  go_wp2_with fail
  refine kD.mono ?_
  clear kD
  rintro e w8 ⟨rfl, hP6, hM⟩
  have hU6 := hM.under hU5.1 hu5 hU5.2
  have hu6 : w.heap.size ≤ w8.heap.size := hU6.1.size
  clear hM
  have kN7 := liveNode w8 4 (by omega) (by omega)
  go_wp2_with fail
  refine kN7.mono ?_
  clear kN7
  rintro e n7 ⟨p1, q1, p2, q2, p3, q3, rfl, hnd, hbn⟩
  have hPn := hP6.below hbn
  have kW := pwrite_any hPn _ _ hnd (leafN_k 4)
  rw [live_w4] at kW
  unfold ptr at kW
  rw [hq3] at kW
  go_wp2_with fail
  refine kW.mono ?_
  clear kW
  rintro e w9 ⟨rfl, hP7, hM⟩
  have hU7 := ((Moves.of_below hbn).trans hM).under hU6.1 hu6 hU6.2
  have hu7 : w.heap.size ≤ w9.heap.size := hU7.1.size
  clear hnd hbn hPn hM
  dsimp only at hP7 ⊢
  replace hP7 : PuAt w9 b3 ⟨lD4, ⟨60, [3, 2, 2, 1]⟩, ⟨60, [2, 2, 1, 1]⟩⟩ := hP7
  have kS := undo_any hP7
  unfold ptr at kS
  rw [hq3] at kS
  go_wp2_with fail
  refine kS.mono ?_
  clear kS
  rintro e w10 ⟨rfl, b8, hP8, hM⟩
  have hq8 : b8.q = a.q := hM.q.trans hq3
  have hU8 := hM.under hU7.1 hu7 hU7.2
  have hu8 : w.heap.size ≤ w10.heap.size := hU8.1.size
  clear hM
  replace hP8 : PuAt w10 b8 ⟨lD4, ⟨60, [2, 2, 1, 1]⟩, ⟨60, [2, 2, 1, 1]⟩⟩ := hP8
  have kSp := space_any hP8
  unfold ptr at kSp
  rw [hq8] at kSp
  go_wp2_with fail
  refine kSp.mono ?_
  clear kSp
  rintro e v1 ⟨x, y, z, c1, c2, rfl, hsp, hbs⟩
  obtain ⟨xa, xc, rfl⟩ := rowI_slice hsp.t
  obtain ⟨ya, yc, rfl⟩ := rowI_slice hsp.wt
  obtain ⟨za, zc, rfl⟩ := rowI_slice hsp.f
  rw [show (blocksL (Pu.now ⟨lD4, ⟨60, [2, 2, 1, 1]⟩, ⟨60, [2, 2, 1, 1]⟩⟩) 2).length = 2 from rfl, show (blocksL (Pu.now ⟨lD4, ⟨60, [2, 2, 1, 1]⟩, ⟨60, [2, 2, 1, 1]⟩⟩) 3).length = 0 from rfl, show (blocksL (Pu.now ⟨lD4, ⟨60, [2, 2, 1, 1]⟩, ⟨60, [2, 2, 1, 1]⟩⟩) 1).length = 2 from rfl]
  clear hsp
  have hPr := hP8.below hbs
  have kR := read_any hPr 61 (by omega) (by omega)
  rw [live_r.1, live_r.2] at kR
  unfold ptr at kR
  rw [hq8] at kR
  go_wp2_with fail
  refine kR.mono ?_
  clear kR
  rintro e v2 ⟨u, rfl, hown, hbr⟩
  have hnd := hown.at (by simp [leafN])
  obtain ⟨p1, q1, p2, q2, p3, q3, rfl, _⟩ := id hnd
  rw [show (leafN 2).pairs.length = 1 from rfl, show (leafN 2).keys.length = 0 from rfl, show (leafN 2).kids.length = 0 from rfl, show (leafN 2).leaf = true from rfl] at hnd ⊢
  have hBv : Below w.heap.size w v2 := (hU8.1.trans (hbs.mono hu8)).trans (hbr.mono (Nat.le_trans hu8 hbs.size))
  clear hown hbr hbs hPr
  have hgv := heap_alloc_new v2 (.cells #[.bool true, .slice p1 1 q1, .slice p2 0 q2, .slice p3 0 q3] 40)
  have hba := (Below.refl v2.heap.size v2).alloc (Nat.le_refl _) (.cells #[.bool true, .slice p1 1 q1, .slice p2 0 q2, .slice p3 0 q3] 40)
  have hz9 : v2.heap.size < (v2.alloc (.cells #[.bool true, .slice p1 1 q1, .slice p2 0 q2, .slice p3 0 q3] 40)).heap.size := by simp
  go_wp2_with fail
  generalize hVV : v2.alloc (.cells #[.bool true, .slice p1 1 q1, .slice p2 0 q2, .slice p3 0 q3] 40) = VV at *
  have hcell : ∀ W, Below VV.heap.size VV W → W.heap[v2.heap.size]? = some (.cells #[.bool true, .slice p1 1 q1, .slice p2 0 q2, .slice p3 0 q3] 40 (0, 0)) := fun W hW => (hW.block _ hz9).trans hgv
  have d0 : ∀ W, Below VV.heap.size VV W → W.cell? ⟨v2.heap.size, 0, none⟩ = some (.bool true) := fun W hW => cell_of_row W _ 0 _ _ (0, 0) (hcell W hW)
  have d1 : ∀ W, Below VV.heap.size VV W → W.cell? ⟨v2.heap.size, 1, none⟩ = some (.slice p1 1 q1) := fun W hW => cell_of_row W _ 1 _ _ (0, 0) (hcell W hW)
  have d2 : ∀ W, Below VV.heap.size VV W → W.cell? ⟨v2.heap.size, 2, none⟩ = some (.slice p2 0 q2) := fun W hW => cell_of_row W _ 2 _ _ (0, 0) (hcell W hW)
  have d3 : ∀ W, Below VV.heap.size VV W → W.cell? ⟨v2.heap.size, 3, none⟩ = some (.slice p3 0 q3) := fun W hW => cell_of_row W _ 3 _ _ (0, 0) (hcell W hW)
  have hndV := hnd.below hba
  refine wp_region_noPanic ?_
  refine wp_region_held_drew (S := fun W => Below VV.heap.size VV W) (by kernel_rfl) (Below.refl _ VV).drew (fun hHeld => ?_)
  refine wpAnyH_take (i := 0) (v := .int .u32 60) rfl (by kernel_rfl) (by kernel_rfl) (by kernel_rfl) (fun _ _ _ h => h) (Or.inl ⟨by rfl, fun W hSw => by (try dsimp only at hSw); go_simp⟩) (by assumption) ?_
  simp only [List.getElem_toArray, List.getElem_cons_zero, List.getElem_cons_succ, Act.put, List.setIfInBounds_toArray, List.set_cons_zero, List.set_cons_succ]
  refine wpAnyH_take (i := 1) (v := .bool true) rfl (by kernel_rfl) (by kernel_rfl) (by kernel_rfl) (fun _ _ _ h => h) (Or.inl ⟨by rfl, fun W hSw => by (try dsimp only at hSw); go_simp⟩) (by assumption) ?_
  simp only [List.getElem_toArray, List.getElem_cons_zero, List.getElem_cons_succ, Act.put, List.setIfInBounds_toArray, List.set_cons_zero, List.set_cons_succ]
  refine wpAnyH_take (i := 2) (v := .bool true) rfl (by kernel_rfl) (by kernel_rfl) (by kernel_rfl) (fun _ _ _ h => h) (Or.inl ⟨by rfl, fun W hSw => by (try dsimp only at hSw); go_simp⟩) (by assumption) ?_
  simp only [List.getElem_toArray, List.getElem_cons_zero, List.getElem_cons_succ, Act.put, List.setIfInBounds_toArray, List.set_cons_zero, List.set_cons_succ]
  refine wpAnyH_take (i := 3) (v := .int .u32 61) rfl (by kernel_rfl) (by kernel_rfl) (by kernel_rfl) (fun _ _ _ h => h) (Or.inl ⟨by rfl, fun W hSw => by (try dsimp only at hSw); go_simp⟩) (by assumption) ?_
  simp only [List.getElem_toArray, List.getElem_cons_zero, List.getElem_cons_succ, Act.put, List.setIfInBounds_toArray, List.set_cons_zero, List.set_cons_succ]
  refine wpAnyH_take (i := 4) (v := .bool true) rfl (by kernel_rfl) (by kernel_rfl) (by kernel_rfl) (fun _ _ _ h => h) (Or.inl ⟨by rfl, fun W hSw => by (try dsimp only at hSw); go_simp⟩) (by assumption) ?_
  simp only [List.getElem_toArray, List.getElem_cons_zero, List.getElem_cons_succ, Act.put, List.setIfInBounds_toArray, List.set_cons_zero, List.set_cons_succ]
  refine wpAnyH_take (i := 5) (v := .bool true) rfl (by kernel_rfl) (by kernel_rfl) (by kernel_rfl) (fun _ _ _ h => h) (Or.inl ⟨by rfl, fun W hSw => by (try dsimp only at hSw); go_simp⟩) (by assumption) ?_
  simp only [List.getElem_toArray, List.getElem_cons_zero, List.getElem_cons_succ, Act.put, List.setIfInBounds_toArray, List.set_cons_zero, List.set_cons_succ]
  refine wpAnyH_take (i := 6) (v := .bool true) rfl (by kernel_rfl) (by kernel_rfl) (by kernel_rfl) (fun _ _ _ h => h) (Or.inl ⟨by rfl, fun W hSw => by (try dsimp only at hSw); go_simp⟩) (by assumption) ?_
  simp only [List.getElem_toArray, List.getElem_cons_zero, List.getElem_cons_succ, Act.put, List.setIfInBounds_toArray, List.set_cons_zero, List.set_cons_succ]
  refine wpAnyH_take (i := 7) (v := .int .u32 62) rfl (by kernel_rfl) (by kernel_rfl) (by kernel_rfl) (fun _ _ _ h => h) (Or.inl ⟨by rfl, fun W hSw => by (try dsimp only at hSw); go_simp⟩) (by assumption) ?_
  simp only [List.getElem_toArray, List.getElem_cons_zero, List.getElem_cons_succ, Act.put, List.setIfInBounds_toArray, List.set_cons_zero, List.set_cons_succ]
  refine wpAnyH_take (i := 8) (v := .bool true) rfl (by kernel_rfl) (by kernel_rfl) (by kernel_rfl) (fun _ _ _ h => h) (Or.inl ⟨by rfl, fun W hSw => by (try dsimp only at hSw); go_simp⟩) (by assumption) ?_
  simp only [List.getElem_toArray, List.getElem_cons_zero, List.getElem_cons_succ, Act.put, List.setIfInBounds_toArray, List.set_cons_zero, List.set_cons_succ]
  refine wpAnyH_take (i := 9) (v := .bool true) rfl (by kernel_rfl) (by kernel_rfl) (by kernel_rfl) (fun _ _ _ h => h) (Or.inl ⟨by rfl, fun W hSw => by (try dsimp only at hSw); go_simp⟩) (by assumption) ?_
  simp only [List.getElem_toArray, List.getElem_cons_zero, List.getElem_cons_succ, Act.put, List.setIfInBounds_toArray, List.set_cons_zero, List.set_cons_succ]
  refine wpAnyH_take (i := 10) (v := .bool true) rfl (by kernel_rfl) (by kernel_rfl) (by kernel_rfl) (fun _ _ _ h => h) (Or.inl ⟨by rfl, fun W hSw => by (try dsimp only at hSw); go_simp⟩) (by assumption) ?_
  simp only [List.getElem_toArray, List.getElem_cons_zero, List.getElem_cons_succ, Act.put, List.setIfInBounds_toArray, List.set_cons_zero, List.set_cons_succ]
  refine wpAnyH_take (i := 11) (v := .int .i64 0) rfl (by kernel_rfl) (by kernel_rfl) (by kernel_rfl) (fun _ _ _ h => h) (Or.inl ⟨by rfl, fun W hSw => by (try dsimp only at hSw); go_simp⟩) (by assumption) ?_
  simp only [List.getElem_toArray, List.getElem_cons_zero, List.getElem_cons_succ, Act.put, List.setIfInBounds_toArray, List.set_cons_zero, List.set_cons_succ]
  refine wpAnyH_take (i := 12) (v := .bool true) rfl (by kernel_rfl) (by kernel_rfl) (by kernel_rfl) (fun _ _ _ h => h) (Or.inl ⟨by rfl, fun W hSw => by (try dsimp only at hSw); go_simp⟩) (by assumption) ?_
  simp only [List.getElem_toArray, List.getElem_cons_zero, List.getElem_cons_succ, Act.put, List.setIfInBounds_toArray, List.set_cons_zero, List.set_cons_succ]
  refine wpAnyH_take (i := 13) (v := .bool true) rfl (by kernel_rfl) (by kernel_rfl) (by kernel_rfl) (fun _ _ _ h => h) (Or.inl ⟨by rfl, fun W hSw => by (try dsimp only at hSw); go_simp⟩) (by assumption) ?_
  simp only [List.getElem_toArray, List.getElem_cons_zero, List.getElem_cons_succ, Act.put, List.setIfInBounds_toArray, List.set_cons_zero, List.set_cons_succ]
  refine wpAnyH_take (i := 14) (v := .bool true) rfl (by kernel_rfl) (by kernel_rfl) (by kernel_rfl) (fun _ _ _ h => h) (Or.inl ⟨by rfl, fun W hSw => by (try dsimp only at hSw); go_simp⟩) (by assumption) ?_
  simp only [List.getElem_toArray, List.getElem_cons_zero, List.getElem_cons_succ, Act.put, List.setIfInBounds_toArray, List.set_cons_zero, List.set_cons_succ]
  refine wpAnyH_take (i := 15) (v := .int .i64 0) rfl (by kernel_rfl) (by kernel_rfl) (by kernel_rfl) (fun _ _ _ h => h) (Or.inl ⟨by rfl, fun W hSw => by (try dsimp only at hSw); go_simp⟩) (by assumption) ?_
  simp only [List.getElem_toArray, List.getElem_cons_zero, List.getElem_cons_succ, Act.put, List.setIfInBounds_toArray, List.set_cons_zero, List.set_cons_succ]
  refine wpAnyH_take (i := 16) (v := .bool true) rfl (by kernel_rfl) (by kernel_rfl) (by kernel_rfl) (fun _ _ _ h => h) (Or.inl ⟨by rfl, fun W hSw => by (try dsimp only at hSw); go_simp⟩) (by assumption) ?_
  simp only [List.getElem_toArray, List.getElem_cons_zero, List.getElem_cons_succ, Act.put, List.setIfInBounds_toArray, List.set_cons_zero, List.set_cons_succ]
  refine wpAnyH_take (i := 17) (v := .bool true) rfl (by kernel_rfl) (by kernel_rfl) (by kernel_rfl) (fun _ _ _ h => h) (Or.inl ⟨by rfl, fun W hSw => by (try dsimp only at hSw); go_simp⟩) (by assumption) ?_
  simp only [List.getElem_toArray, List.getElem_cons_zero, List.getElem_cons_succ, Act.put, List.setIfInBounds_toArray, List.set_cons_zero, List.set_cons_succ]
  refine wpAnyH_take (i := 18) (v := .bool true) rfl (by kernel_rfl) (by kernel_rfl) (by kernel_rfl) (fun _ _ _ h => h) (Or.inl ⟨by rfl, fun W hSw => by (try dsimp only at hSw); go_simp⟩) (by assumption) ?_
  simp only [List.getElem_toArray, List.getElem_cons_zero, List.getElem_cons_succ, Act.put, List.setIfInBounds_toArray, List.set_cons_zero, List.set_cons_succ]
  refine wpAnyH_take (i := 19) (v := .int .u32 62) rfl (by kernel_rfl) (by kernel_rfl) (by kernel_rfl) (fun _ _ _ h => h) (Or.inl ⟨by rfl, fun W hSw => by (try dsimp only at hSw); go_simp⟩) (by assumption) ?_
  simp only [List.getElem_toArray, List.getElem_cons_zero, List.getElem_cons_succ, Act.put, List.setIfInBounds_toArray, List.set_cons_zero, List.set_cons_succ]
  refine wpAnyH_take (i := 20) (v := .bool true) rfl (by kernel_rfl) (by kernel_rfl) (by kernel_rfl) (fun _ _ _ h => h) (Or.inl ⟨by rfl, fun W hSw => by (try dsimp only at hSw); go_simp⟩) (by assumption) ?_
  simp only [List.getElem_toArray, List.getElem_cons_zero, List.getElem_cons_succ, Act.put, List.setIfInBounds_toArray, List.set_cons_zero, List.set_cons_succ]
  refine wpAnyH_take (i := 21) (v := .bool true) rfl (by kernel_rfl) (by kernel_rfl) (by kernel_rfl) (fun _ _ _ h => h) (Or.inl ⟨by rfl, fun W hSw => by (try dsimp only at hSw); go_simp⟩) (by assumption) ?_
  simp only [List.getElem_toArray, List.getElem_cons_zero, List.getElem_cons_succ, Act.put, List.setIfInBounds_toArray, List.set_cons_zero, List.set_cons_succ]
  refine wpAnyH_take (i := 22) (v := .bool true) rfl (by kernel_rfl) (by kernel_rfl) (by kernel_rfl) (fun _ _ _ h => h) (Or.inl ⟨by rfl, fun W hSw => by (try dsimp only at hSw); go_simp⟩) (by assumption) ?_
  simp only [List.getElem_toArray, List.getElem_cons_zero, List.getElem_cons_succ, Act.put, List.setIfInBounds_toArray, List.set_cons_zero, List.set_cons_succ]
  refine wpAnyH_take (i := 23) (v := .slice xa 2 xc) rfl (by kernel_rfl) (by kernel_rfl) (by kernel_rfl) (fun _ _ _ h => h) (Or.inl ⟨by rfl, fun W hSw => by (try dsimp only at hSw); go_simp⟩) (by assumption) ?_
  simp only [List.getElem_toArray, List.getElem_cons_zero, List.getElem_cons_succ, Act.put, List.setIfInBounds_toArray, List.set_cons_zero, List.set_cons_succ]
  refine wpAnyH_take (i := 24) (v := .int .i64 2) rfl (by kernel_rfl) (by kernel_rfl) (by kernel_rfl) (fun _ _ _ h => h) (Or.inl ⟨by rfl, fun W hSw => by (try dsimp only at hSw); go_simp⟩) (by assumption) ?_
  simp only [List.getElem_toArray, List.getElem_cons_zero, List.getElem_cons_succ, Act.put, List.setIfInBounds_toArray, List.set_cons_zero, List.set_cons_succ]
  refine wpAnyH_take (i := 25) (v := .bool true) rfl (by kernel_rfl) (by kernel_rfl) (by kernel_rfl) (fun _ _ _ h => h) (Or.inl ⟨by rfl, fun W hSw => by (try dsimp only at hSw); go_simp⟩) (by assumption) ?_
  simp only [List.getElem_toArray, List.getElem_cons_zero, List.getElem_cons_succ, Act.put, List.setIfInBounds_toArray, List.set_cons_zero, List.set_cons_succ]
  refine wpAnyH_take (i := 26) (v := .bool true) rfl (by kernel_rfl) (by kernel_rfl) (by kernel_rfl) (fun _ _ _ h => h) (Or.inl ⟨by rfl, fun W hSw => by (try dsimp only at hSw); go_simp⟩) (by assumption) ?_
  simp only [List.getElem_toArray, List.getElem_cons_zero, List.getElem_cons_succ, Act.put, List.setIfInBounds_toArray, List.set_cons_zero, List.set_cons_succ]
  refine wpAnyH_take (i := 27) (v := .bool true) rfl (by kernel_rfl) (by kernel_rfl) (by kernel_rfl) (fun _ _ _ h => h) (Or.inl ⟨by rfl, fun W hSw => by (try dsimp only at hSw); go_simp⟩) (by assumption) ?_
  simp only [List.getElem_toArray, List.getElem_cons_zero, List.getElem_cons_succ, Act.put, List.setIfInBounds_toArray, List.set_cons_zero, List.set_cons_succ]
  refine wpAnyH_take (i := 28) (v := .slice ya 0 yc) rfl (by kernel_rfl) (by kernel_rfl) (by kernel_rfl) (fun _ _ _ h => h) (Or.inl ⟨by rfl, fun W hSw => by (try dsimp only at hSw); go_simp⟩) (by assumption) ?_
  simp only [List.getElem_toArray, List.getElem_cons_zero, List.getElem_cons_succ, Act.put, List.setIfInBounds_toArray, List.set_cons_zero, List.set_cons_succ]
  refine wpAnyH_take (i := 29) (v := .int .i64 0) rfl (by kernel_rfl) (by kernel_rfl) (by kernel_rfl) (fun _ _ _ h => h) (Or.inl ⟨by rfl, fun W hSw => by (try dsimp only at hSw); go_simp⟩) (by assumption) ?_
  simp only [List.getElem_toArray, List.getElem_cons_zero, List.getElem_cons_succ, Act.put, List.setIfInBounds_toArray, List.set_cons_zero, List.set_cons_succ]
  refine wpAnyH_take (i := 30) (v := .bool true) rfl (by kernel_rfl) (by kernel_rfl) (by kernel_rfl) (fun _ _ _ h => h) (Or.inl ⟨by rfl, fun W hSw => by (try dsimp only at hSw); go_simp⟩) (by assumption) ?_
  simp only [List.getElem_toArray, List.getElem_cons_zero, List.getElem_cons_succ, Act.put, List.setIfInBounds_toArray, List.set_cons_zero, List.set_cons_succ]
  refine wpAnyH_take (i := 31) (v := .bool true) rfl (by kernel_rfl) (by kernel_rfl) (by kernel_rfl) (fun _ _ _ h => h) (Or.inl ⟨by rfl, fun W hSw => by (try dsimp only at hSw); go_simp⟩) (by assumption) ?_
  simp only [List.getElem_toArray, List.getElem_cons_zero, List.getElem_cons_succ, Act.put, List.setIfInBounds_toArray, List.set_cons_zero, List.set_cons_succ]
  refine wpAnyH_take (i := 32) (v := .bool true) rfl (by kernel_rfl) (by kernel_rfl) (by kernel_rfl) (fun _ _ _ h => h) (Or.inl ⟨by rfl, fun W hSw => by (try dsimp only at hSw); go_simp⟩) (by assumption) ?_
  simp only [List.getElem_toArray, List.getElem_cons_zero, List.getElem_cons_succ, Act.put, List.setIfInBounds_toArray, List.set_cons_zero, List.set_cons_succ]
  refine wpAnyH_take (i := 33) (v := .slice za 2 zc) rfl (by kernel_rfl) (by kernel_rfl) (by kernel_rfl) (fun _ _ _ h => h) (Or.inl ⟨by rfl, fun W hSw => by (try dsimp only at hSw); go_simp⟩) (by assumption) ?_
  simp only [List.getElem_toArray, List.getElem_cons_zero, List.getElem_cons_succ, Act.put, List.setIfInBounds_toArray, List.set_cons_zero, List.set_cons_succ]
  refine wpAnyH_take (i := 34) (v := .int .i64 2) rfl (by kernel_rfl) (by kernel_rfl) (by kernel_rfl) (fun _ _ _ h => h) (Or.inl ⟨by rfl, fun W hSw => by (try dsimp only at hSw); go_simp⟩) (by assumption) ?_
  simp only [List.getElem_toArray, List.getElem_cons_zero, List.getElem_cons_succ, Act.put, List.setIfInBounds_toArray, List.set_cons_zero, List.set_cons_succ]
  refine wpAnyH_take (i := 35) (v := .bool true) rfl (by kernel_rfl) (by kernel_rfl) (by kernel_rfl) (fun _ _ _ h => h) (Or.inl ⟨by rfl, fun W hSw => by (try dsimp only at hSw); go_simp⟩) (by assumption) ?_
  simp only [List.getElem_toArray, List.getElem_cons_zero, List.getElem_cons_succ, Act.put, List.setIfInBounds_toArray, List.set_cons_zero, List.set_cons_succ]
  refine wpAnyH_take (i := 36) (v := .bool true) rfl (by kernel_rfl) (by kernel_rfl) (by kernel_rfl) (fun _ _ _ h => h) (Or.inl ⟨by rfl, fun W hSw => by (try dsimp only at hSw); go_simp⟩) (by assumption) ?_
  simp only [List.getElem_toArray, List.getElem_cons_zero, List.getElem_cons_succ, Act.put, List.setIfInBounds_toArray, List.set_cons_zero, List.set_cons_succ]
  refine wpAnyH_take (i := 37) (v := .bool true) rfl (by kernel_rfl) (by kernel_rfl) (by kernel_rfl) (fun _ _ _ h => h) (Or.inl ⟨by rfl, fun W hSw => by (try dsimp only at hSw); go_simp⟩) (by assumption) ?_
  simp only [List.getElem_toArray, List.getElem_cons_zero, List.getElem_cons_succ, Act.put, List.setIfInBounds_toArray, List.set_cons_zero, List.set_cons_succ]
  refine wpAnyH_take (i := 38) (v := .int .i64 0) rfl (by kernel_rfl) (by kernel_rfl) (by kernel_rfl) (fun _ _ _ h => h) (Or.inl ⟨by rfl, fun W hSw => by (try dsimp only at hSw); go_simp⟩) (by assumption) ?_
  simp only [List.getElem_toArray, List.getElem_cons_zero, List.getElem_cons_succ, Act.put, List.setIfInBounds_toArray, List.set_cons_zero, List.set_cons_succ]
  refine wpAnyH_take (i := 39) (v := .bool true) rfl (by kernel_rfl) (by kernel_rfl) (by kernel_rfl) (fun _ _ _ h => h) (Or.inl ⟨by rfl, fun W hSw => by (try dsimp only at hSw); go_simp⟩) (by assumption) ?_
  simp only [List.getElem_toArray, List.getElem_cons_zero, List.getElem_cons_succ, Act.put, List.setIfInBounds_toArray, List.set_cons_zero, List.set_cons_succ]
  refine wpAnyH_take (i := 40) (v := .bool true) rfl (by kernel_rfl) (by kernel_rfl) (by kernel_rfl) (fun _ _ _ h => h) (Or.inl ⟨by rfl, fun W hSw => by (try dsimp only at hSw); go_simp⟩) (by assumption) ?_
  simp only [List.getElem_toArray, List.getElem_cons_zero, List.getElem_cons_succ, Act.put, List.setIfInBounds_toArray, List.set_cons_zero, List.set_cons_succ]
  refine wpAnyH_take (i := 41) (v := .bool true) rfl (by kernel_rfl) (by kernel_rfl) (by kernel_rfl) (fun _ _ _ h => h) (Or.inl ⟨by rfl, fun W hSw => by (try dsimp only at hSw); go_simp⟩) (by assumption) ?_
  simp only [List.getElem_toArray, List.getElem_cons_zero, List.getElem_cons_succ, Act.put, List.setIfInBounds_toArray, List.set_cons_zero, List.set_cons_succ]
  refine wpAnyH_take (i := 42) (v := .agg #[.bool true, .slice p1 1 q1, .slice p2 0 q2, .slice p3 0 q3]) rfl (by kernel_rfl) (by kernel_rfl) (by kernel_rfl) (fun _ _ _ h => h) (Or.inl ⟨by rfl, fun W hSw => by (try dsimp only at hSw); go_simp⟩) (by assumption) ?_
  simp only [List.getElem_toArray, List.getElem_cons_zero, List.getElem_cons_succ, Act.put, List.setIfInBounds_toArray, List.set_cons_zero, List.set_cons_succ]
  refine wpAnyH_take (i := 43) (v := .agg #[.int .i64 0, .int .u32 2, .bool false, .slice none 0 0, .bool false, .slice none 0 0, .slice none 0 0, .slice none 0 0]) rfl (by kernel_rfl) (by kernel_rfl) (by kernel_rfl) (fun _ _ _ h => h) (Or.inl ⟨by rfl, fun W hSw => by (try dsimp only at hSw); go_simp⟩) (by assumption) ?_
  simp only [List.getElem_toArray, List.getElem_cons_zero, List.getElem_cons_succ, Act.put, List.setIfInBounds_toArray, List.set_cons_zero, List.set_cons_succ]
  refine wpAnyH_ready (rs := [44]) (by kernel_rfl) (by simp) ?_
  refine AllReadyH.cons rfl (fun K hK => ?_) AllReadyH.nil
  go_simp
  go_wp2_with (go_at_call 12; refine (liveNode _ 2 (by omega) (by omega)).mono ?_; rintro e v3 ⟨r1, s1, r2, s2, r3, s3, rfl, hnd3, hb3⟩)
  refine hK.out _ _ (keep2 (by assumption) (by assumption)) (fun hHeld2 => ?_)
  clear hK K
  refine wpAnyH_ready (rs := [45]) (by kernel_rfl) (by simp) ?_
  refine AllReadyH.cons rfl (fun K hK => ?_) AllReadyH.nil
  go_simp
  go_wp2_with (go_at_call 26; refine (same_any _ _ _ (leafN 2) (hndV.below (by assumption)) hnd3).mono ?_; rintro e v4 ⟨rfl, hb4⟩)
  refine hK.out _ _ (keep2 (by assumption) (by assumption)) (fun hHeld2 => ?_)
  clear hK K
  refine wpAnyH_take (i := 46) (v := .bool true) rfl (by kernel_rfl) (by kernel_rfl) (by kernel_rfl) (fun _ _ _ h => h) (Or.inl ⟨by rfl, fun W hSw => by (try dsimp only at hSw); go_simp⟩) (by assumption) ?_
  simp only [List.getElem_toArray, List.getElem_cons_zero, List.getElem_cons_succ, Act.put, List.setIfInBounds_toArray, List.set_cons_zero, List.set_cons_succ]
  refine wpAnyH_take (i := 47) (v := .bool true) rfl (by kernel_rfl) (by kernel_rfl) (by kernel_rfl) (fun _ _ _ h => h) (Or.inl ⟨by rfl, fun W hSw => by (try dsimp only at hSw); go_simp⟩) (by assumption) ?_
  simp only [List.getElem_toArray, List.getElem_cons_zero, List.getElem_cons_succ, Act.put, List.setIfInBounds_toArray, List.set_cons_zero, List.set_cons_succ]
  refine wpAnyH_done (by kernel_rfl) ?_ _
  refine NoPanic.normal ?_
  have hE : Below w.heap.size w v4 := (hBv.trans (hba.mono hBv.size)).trans ((by assumption : Below VV.heap.size VV v4).mono (by have := hBv.size; omega))
  clear d0 d1 d2 d3 hcell
  go_wp2
  go_ret
  exact ⟨rfl, hE⟩

def pool0 : Pu := ⟨freshSt 30, ⟨5, List.replicate 25 1⟩, ⟨5, List.replicate 25 1⟩⟩

theorem pool0_on : DOn pool0.d := ⟨rfl, rfl⟩

/-- What New leaves, of a disk that was just made. -/
def Start (w w' : World) (e : Ending) (p : Pu) : Prop := ∃ a, e = .returned (.tuple #[ptr a.q, .int .i64 0]) ∧ PuAt w' a p ∧ Below w.heap.size w w' ∧ (∀ k ∈ a.all, w.heap.size ≤ k) ∧ a.d = w.heap.size + 2

theorem start_any {w w1 : World} (hd : DiskAt w1 (w.heap.size + 2) w.heap.size (w.heap.size + 1) (freshSt 30)) (hb : Below w.heap.size w w1) (hs : w1.heap.size = w.heap.size + 3) :
    Calls Tryz.prog 10 #[ptr (w.heap.size + 2), .int .i64 5, .slice none 0 0] w1 fun e w2 => Start w w2 e pool0 := by
  have k1 := pnew_ok hd 5 25 (by omega) (by omega) rfl (.slice none 0 0) [] ⟨none, 0, rfl, Nat.le_refl _, by simp, fun h => by simp at h⟩
  rw [show ((5 : Nat) : Int) = 5 from rfl] at k1
  refine k1.mono ?_
  rintro e w2 ⟨hb2, ⟨x1, rfl⟩ | ⟨_, x2, rfl⟩ | ⟨_, ks, a, x2, rfl, hP0, ad, abs, abp, a1, a2, a3, a4, a5⟩⟩
  · exact absurd x1 (by simp [anyOut])
  · exact absurd x2 (by simp [takeAll])
  obtain rfl : List.replicate 25 1 = ks := by cases x2; rfl
  refine ⟨a, rfl, hP0, hb.trans (hb2.mono (by omega)), fun k hk => ?_, ad⟩
  simp only [Ad.all, List.mem_cons, List.not_mem_nil, or_false] at hk
  omega

theorem one_pop {w0 w : World} {a : Ad} {p : Pu} (h : PuAt w a p) {o : PopV} (hok : PopOk o) (hin : PopIn w0 o) (hb : Below w0.heap.size w0 w) (ha : ∀ k ∈ a.all, w0.heap.size ≤ k) :
    ∀ W a', Moves (w.alloc (.cells o.cells 42)) W a a' → PopsAt W (some ⟨w.heap.size, 0, none⟩) 1 1 [o] := by
  intro W a' hM
  have hbA := hb.trans ((Below.refl w.heap.size w).alloc (Nat.le_refl _) (.cells o.cells 42) |>.mono hb.size)
  have hU := (hM.under hbA hbA.size ha).1
  have hg := (hM.out (k := w.heap.size) (by simp) (fun e => by have := h.lt _ e; omega)).2.trans (heap_alloc_new w _)
  have hi := hin.below hU
  refine ⟨rfl, Nat.le_refl _, by decide, fun o' ho => ?_, fun _ => ⟨w.heap.size, 0, rfl, (Array.getElem?_eq_some_iff.1 hg).1, fun i hi' => ?_⟩⟩
  · simp at ho; subst ho; exact hok
  · obtain rfl : i = 0 := by omega
    exact ⟨cell_of_row W _ 0 _ _ (0, 0) hg, cell_of_row W _ 1 _ _ (0, 0) hg, cell_of_row W _ 2 _ _ (0, 0) hg, cell_of_row W _ 3 _ _ (0, 0) hg, cell_of_row W _ 4 _ _ (0, 0) hg, cell_of_row W _ 5 _ _ (0, 0) hg, cell_of_row W _ 6 _ _ (0, 0) hg, cell_of_row W _ 7 _ _ (0, 0) hg, hi⟩

theorem box8 {W : World} {B : Nat} {v0 v1 v2 v3 v4 v5 v6 v7 : Value} {t : TypeId} (h : W.heap[B]? = some (.cells #[v0, v1, v2, v3, v4, v5, v6, v7] t (0, 0))) :
    W.cell? ⟨B, 0, none⟩ = some v0 ∧ W.cell? ⟨B, 1, none⟩ = some v1 ∧ W.cell? ⟨B, 2, none⟩ = some v2 ∧ W.cell? ⟨B, 3, none⟩ = some v3 ∧ W.cell? ⟨B, 4, none⟩ = some v4 ∧ W.cell? ⟨B, 5, none⟩ = some v5 ∧ W.cell? ⟨B, 6, none⟩ = some v6 ∧ W.cell? ⟨B, 7, none⟩ = some v7 :=
  ⟨cell_of_row W _ 0 _ _ (0, 0) h, cell_of_row W _ 1 _ _ (0, 0) h, cell_of_row W _ 2 _ _ (0, 0) h, cell_of_row W _ 3 _ _ (0, 0) h, cell_of_row W _ 4 _ _ (0, 0) h, cell_of_row W _ 5 _ _ (0, 0) h, cell_of_row W _ 6 _ _ (0, 0) h, cell_of_row W _ 7 _ _ (0, 0) h⟩

theorem sorted_first {l : List Nat} (hs : l.Pairwise (· < ·)) {x : Nat} (hx : x ∈ l) (hm : ∀ y ∈ l, x ≤ y) : l[0]? = some x := by
  cases l with
  | nil => cases hx
  | cons y t =>
    rcases List.mem_cons.1 hx with rfl | h
    · rfl
    · have h1 := (List.pairwise_cons.1 hs).1 x h
      have h2 := hm y (by simp)
      omega

theorem free_none {s : Fr} (h : firstR s.ks = none) : blocksL s 1 = [] := by
  have hf := firstR_is s.ks
  rw [h] at hf
  cases hb : blocksL s 1 with
  | nil => rfl
  | cons x l =>
    obtain ⟨i, hi, hk, _⟩ := mem_blocks.1 (show x ∈ blocksL s 1 by rw [hb]; simp)
    exact absurd ((run1 _ _).2 hk) (hf i)

theorem free_some {s : Fr} {j : Nat} (h : firstR s.ks = some j) : (blocksL s 1)[0]? = some (s.lo + j) := by
  have hf := firstR_is s.ks
  rw [h] at hf
  have h1 := first_at (s := s) hf
  refine sorted_first (upto_sorted _ _ _) ((mem_at h1.1).2 h1.2) fun y hy => ?_
  obtain ⟨i, hi, hk, rfl⟩ := mem_blocks.1 hy
  rcases Nat.lt_or_ge i j with hlt | hge
  · exact absurd ((run1 _ _).2 hk) (hf.2 i hlt)
  · omega

theorem nodeE_small {o : PopV} (hk : PopOk o) (h : o.f0 ≠ 6) : nodeE (nodeN o) = 0 := by
  unfold nodeN
  rw [if_neg h]
  split
  · exact innerN_ok _ hk.a1.1
  · exact leafN_ok _

set_option maxHeartbeats 2000000 in
theorem list_any {w : World} {base b2 : Nat} {u v : Value} {l : List Nat} (ha : w.ownsRow base 3 1 u l.length (natC l)) (hb : w.ownsRow b2 3 1 v l.length (natC l)) (hne : ∀ q, u.ownBlock = some q → v.ownBlock ≠ some q) :
    Calls Tryz.prog 28 #[u, v] w fun e w' => e = .returned (.bool true) ∧ ∃ S : List Nat, (∀ q ∈ S, u.ownBlock = some q) ∧ Sole S w w' := by
  rcases Nat.eq_zero_or_pos l.length with h0 | hp
  · obtain ⟨a, c, rfl⟩ := rowI_slice ha
    obtain ⟨a', c', rfl⟩ := rowI_slice hb
    rw [h0]
    clear ha hb hne
    go_enter Tryz.func28, Tryz.ntmps28
    go_wp2
    go_loop [5, 13] (fun q t => t = .int .i64 0) (fun _ _ => 0)
    case atStart => rfl
    case round =>
      subst hrel
      go_wp2
      go_ret
      exact ⟨rfl, [], (by simp), Sole.refl _ _⟩
  · obtain ⟨g, c, rfl, hg1, hg2, hg3⟩ := natC_at ha hp
    obtain ⟨g', c', rfl, hg1', hg2', hg3'⟩ := natC_at hb hp
    have hgg : g ≠ g' := fun e => hne g rfl (by rw [e]; rfl)
    have hfr : ∀ i, i < l.length → w.frozen? ⟨g, i, none⟩ = false := fun i hi => by
      rcases ha.2 with ⟨e, _⟩ | ⟨q, cap, cur, e, _, hq, _⟩
      · cases e
      · simp only [Value.slice.injEq, Option.some.injEq, Addr.mk.injEq] at e
        obtain ⟨⟨rfl, _, _⟩, _, _⟩ := e
        exact frozen_of_row w g i _ 3 hq
    have hlm : l.length ≤ 9223372036854775807 := by
      rcases ha.2 with ⟨e, _⟩ | ⟨q, cap, cur, e, _, _, h1, h2, _⟩
      · cases e
      · unfold maxLen at h2; omega
    clear ha hb hne
    generalize hn : l.length = n at *
    go_enter Tryz.func28, Tryz.ntmps28
    go_wp2
    go_loopw [5, 13] (fun q t wr => ∃ i : Nat, i ≤ n ∧ t = .int .i64 i ∧ Hid (∀ j, i ≤ j → j < n → wr.cell? ⟨g, j, none⟩ = w.cell? ⟨g, j, none⟩) ∧ Hid (∀ j, wr.cell? ⟨g', j, none⟩ = w.cell? ⟨g', j, none⟩) ∧ Hid (∀ j, wr.frozen? ⟨g, j, none⟩ = w.frozen? ⟨g, j, none⟩) ∧ Sole [g] w wr) (fun _ t _ => n - (Go.RowKit.intOf t).toNat)
    case atStart => exact ⟨0, Nat.zero_le _, rfl, fun _ _ _ => rfl, fun _ => rfl, fun _ => rfl, Sole.refl _ _⟩
    case round =>
      obtain ⟨i, hi, rfl, HA, HB, HC, HD⟩ := hrel
      by_cases hlt : i < n
      · have hltI : (i : Int) < n := by omega
        have hx : l[i]? = some l[i] := List.getElem?_eq_getElem (by omega)
        have xa := (HA.out i (Nat.le_refl _) hlt).trans (hg3 i _ hx)
        have xb := (HB.out i).trans (hg3' i _ hx)
        have xf := (HC.out i).trans (hfr i hlt)
        generalize l[i] = x at *
        clear hg3 hg3' hfr hx
        go_wp2_with fail
        go_quiet (fail)
        go_wp2_with fail
        go_roundw
        case rel => exact ⟨i + 1, by omega, by go_num, fun j h1 h2 => (World.cell?_setCell_other _ _ _ _ (by intro e; simp only [Addr.mk.injEq] at e; omega)).trans (HA.out j (by omega) h2), fun j => (World.cell?_setCell_other _ _ _ _ (by intro e; simp only [Addr.mk.injEq] at e; exact hgg e.1)).trans (HB.out j), fun j => by rw [World.frozen?_setCell]; exact HC.out j, ((HD.trans (Sole.of_below (belowQ _ _ _) _)).trans (Sole.setCell _ _ (by simp)))⟩
        case measure => simp [Go.RowKit.intOf]; omega
      · have hltI : ¬ (i : Int) < n := by omega
        clear hg3 hg3' hfr
        go_wp2
        go_ret
        exact ⟨rfl, [g], (fun q hq => by simp at hq; subst hq; rfl), HD⟩

theorem hops_in {w0 w : World} {a : Ad} {x : Option Addr} {len cap : Nat} {os : List PopV} (h : PopsAt w0 x len cap os) (hb : Below w0.heap.size w0 w) (ha : ∀ k ∈ a.all, w0.heap.size ≤ k) : ∀ W a', Moves w W a a' → PopsAt W x len cap os :=
  fun W a' hM => h.below (hM.under hb hb.size ha).1

theorem own_ge {w : World} {b e k : Nat} {u : Value} {n : Nat} {xs : List Value} (h : w.ownsRow b e k u n xs) : ∀ q, u.ownBlock = some q → b ≤ q := by
  intro q hq
  rcases h with ⟨_, ⟨rfl, _⟩ | ⟨g, c, cur, rfl, h2, h3, _⟩⟩
  · simp [Value.ownBlock] at hq
  · simp [Value.ownBlock] at hq
    subst hq
    exact h2

theorem row_sole {w w' : World} {b e k : Nat} {u : Value} {n : Nat} {xs : List Value} (h : w.ownsRow b e k u n xs) {S : List Nat} (hS : Sole S w w') (hn : ∀ q, u.ownBlock = some q → q ∉ S) : w'.ownsRow b e k u n xs := by
  obtain ⟨h1, h2 | ⟨g, c, cur, rfl, g1, g2, r⟩⟩ := h
  · exact ⟨h1, .inl h2⟩
  · exact ⟨h1, .inr ⟨g, c, cur, rfl, g1, (hS.block g (Array.getElem?_eq_some_iff.1 g2).1 (hn g rfl)).trans g2, r⟩⟩

theorem stepP_st (p : Pu) (o : PopV) (h3 : o.f0 ≠ 3) (h5 : o.f0 ≠ 5) : (stepP p o).st = p.st := by
  have hw : (wrP p (nodeN o)).2.2.st = p.st := by
    unfold wrP wrOut
    split
    · rfl
    · split
      · rfl
      · split <;> rfl
  unfold stepP
  by_cases e0 : o.f0 = 0
  · rw [if_pos e0]; exact hw
  rw [if_neg e0]
  by_cases e6 : o.f0 = 6
  · rw [if_pos e6]; exact hw
  rw [if_neg e6]
  by_cases e2 : o.f0 = 2
  · rw [if_pos e2]; rfl
  rw [if_neg e2, if_neg h3]
  by_cases e4 : o.f0 = 4
  · rw [if_pos e4]
  rw [if_neg e4, if_neg h5]

/-- 'append(t, w...)' of two lists of one's own. -/
theorem wpList_append_rows {w : World} {ops : Array Oper} {rest : List Oper} {o : Oper} {a : Act} {Q : Exit → Act → World → Prop} (hgd : o.guard = none) (s x : Operand)
    (ho : o.op = .call { callee := .builtin .append, args := #[s, x], argTypes := #[22, 22] })
    (base b2 : Nat) (v u : Value) (l1 l2 : List Nat) (hs : a.eval s = v) (h1 : w.ownsRow base 3 1 v l1.length (natC l1)) (hx : a.eval x = u) (h2 : w.ownsRow b2 3 1 u l2.length (natC l2)) (n1 : l1.length ≤ 1024) (n2 : l2.length ≤ 1024) (hbase : base ≤ w.heap.size)
    (h : ∀ v' w', w'.ownsRow base 3 1 v' (l1 ++ l2).length (natC (l1 ++ l2)) → (∃ S : List Nat, (∀ q ∈ S, v.ownBlock = some q) ∧ Sole S w w') → wpList Tryz.prog ops Q rest (a.put o.dst v') w') : wpList Tryz.prog ops Q (o :: rest) a w := by
  obtain ⟨iI, hii, hi0, hi1, hi2⟩ := info_partsI
  rcases id h2 with ⟨_, ⟨rfl, e0⟩ | ⟨g, cap, cur, rfl, g1, g2, g3, g4, g5, g6⟩⟩
  · obtain rfl : l2 = [] := List.eq_nil_of_length_eq_zero e0
    refine wpList_append_own_none hgd s x 22 ho base 3 iI 1 Tryz.underlying22 hii _ _ _ hs h1 hx (h _ w ?_ ⟨[], by simp, Sole.refl _ _⟩)
    rw [List.append_nil]
    exact h1
  · refine wpList_append_own w hgd s x 22 ho base 3 iI (.int .i64 0) 1 8 Tryz.underlying22 hii hi0 hi1 hi2 rfl (by decide) _ l1.length (natC l1) hs h1 ⟨g, 0, none⟩ l2.length cap (natC l2) hx (by simp [natC]) ?_ (by intro z hz; obtain ⟨y, _, rfl⟩ := List.mem_map.1 hz; rfl) (by unfold maxLen; omega) (by omega) hbase ?_
    · intro j z hj
      have hadd : (⟨g, 0, none⟩ : Addr).add j = ⟨g, j, none⟩ := by unfold Addr.add; split <;> simp_all
      have hlt : j < l2.length := by
        have := (List.getElem?_eq_some_iff.1 hj).1
        simpa [natC] using this
      rw [hadd, cell_of_row w _ j _ _ (0, 0) g2, ← Array.getElem?_toList]
      rw [← g6, List.getElem?_take_of_lt (by omega)] at hj
      exact hj
    · intro v' w' ho' hg _
      refine h v' w' ?_ ?_
      · rw [List.length_append]
        unfold natC at *
        rw [List.map_append]
        exact ho'
      · cases hv : v.ownBlock with
        | none =>
          rw [hv] at hg
          exact ⟨[], by simp, ⟨hg.os, hg.tape, hg.output, hg.size, fun k hk _ => hg.block k hk (by simp)⟩⟩
        | some b =>
          rw [hv] at hg
          exact ⟨[b], by simp, Sole.of_grown hg (by simp)⟩

theorem kinds_count : ∀ (l : List Nat), (∀ k ∈ l, 1 ≤ k ∧ k ≤ 3) → l.count 1 + l.count 2 + l.count 3 = l.length
  | [], _ => rfl
  | k :: l, h => by
    have ih := kinds_count l (fun x hx => h x (List.mem_cons_of_mem _ hx))
    have hk := h k (by simp)
    have : k = 1 ∨ k = 2 ∨ k = 3 := by omega
    rcases this with rfl | rfl | rfl <;> simp <;> omega

theorem full_len {s : Fr} (h : FrOk s) : (blocksL s 1).length + (blocksL s 2).length + (blocksL s 3).length = s.ks.length := by
  rw [blocks_count, blocks_count, blocks_count]
  exact kinds_count _ h.kinds

theorem wrP_shape (p : Pu) (n : Nd) : (wrP p n).2.2.now.lo = p.now.lo ∧ (wrP p n).2.2.now.ks.length = p.now.ks.length := by
  unfold wrP wrOut
  split
  · exact ⟨rfl, rfl⟩
  · split
    · exact ⟨rfl, rfl⟩
    · split
      · exact ⟨rfl, rfl⟩
      · exact ⟨rfl, takeF_len _ _⟩

theorem stepP_shape {p : Pu} (h : PuOk p) (o : PopV) : (stepP p o).now.lo = p.now.lo ∧ (stepP p o).now.ks.length = p.now.ks.length := by
  unfold stepP
  split
  · exact wrP_shape p _
  · split
    · exact wrP_shape p _
    · split
      · exact ⟨turnF_lo _ _ _, turnF_len _ _ _⟩
      · split
        · exact ⟨rfl, rfl⟩
        · split
          · exact ⟨h.slo, h.sl⟩
          · split
            · exact ⟨rfl, sweepF_len _ _⟩
            · exact ⟨rfl, rfl⟩

theorem playP_shape {p : Pu} (h : PuOk p) : ∀ os : List PopV, (playP p os).now.lo = p.now.lo ∧ (playP p os).now.ks.length = p.now.ks.length := fun os => by
  induction os generalizing p with
  | nil => exact ⟨rfl, rfl⟩
  | cons o os ih =>
    have h1 := ih (stepP_ok h o)
    have h2 := stepP_shape h o
    exact ⟨h1.1.trans h2.1, h1.2.trans h2.2⟩

theorem cut_blocks (s : St) (m : ByteArray) : (cutSt s m).blocks = s.blocks := by
  unfold cutSt
  exact settleN_blocks _ _ _ _

theorem cut_ok {p : Pu} (h : PuOk p) (m : ByteArray) : PuOk { p with d := cutSt p.d m } :=
  ⟨h.n, h.s, h.lo1, by show ((p.now.lo + p.now.ks.length : Nat) : Int) = (cutSt p.d m).blocks; rw [cut_blocks]; exact h.top, h.slo, h.sl, h.rel⟩

/-- A write while the power is off. -/
theorem wrP_off {p : Pu} (hoff : p.d.off = true) {n : Nd} (hn : nodeE n = 0) : (wrP p n).1 = 0 ∧ (wrP p n).2.2 = p ∧ (wrP p n).2.1 = (if firstR p.now.ks = none then 5 else 20) := by
  cases hj : firstR p.now.ks with
  | none => rw [wrP_none hn hj, if_pos rfl]; exact ⟨rfl, rfl, rfl⟩
  | some j =>
    have hu : ∀ i, useErr p.d i = 20 := fun i => by unfold useErr; rw [hoff, if_pos rfl]
    have hw : ∀ i xs, writeOut p.d i xs = (20, p.d) := fun i xs => by unfold writeOut; rw [hu, if_pos (by omega)]
    rw [if_neg (by simp)]
    unfold wrP wrOut
    rw [hj, if_neg (by rw [hn]; simp)]
    dsimp only
    rw [hw, if_pos (by simp)]
    exact ⟨rfl, rfl, rfl⟩

theorem after_cut {w w' : World} {a : Ad} {p : Pu} (h : PuAt w a p) (hD : DiskAt w' a.d a.bs a.bp (cutSt p.d ⟨#[]⟩)) (hS : Sole [a.d, a.bs, a.bp] w w') : ∃ q : Pu, PuAt w' a q ∧ q.now = p.now ∧ q.d.off = true :=
  ⟨_, h.putDisk hD hS (cut_ok h.ok _), rfl, rfl⟩

theorem prdE_off {p : Pu} (h : p.d.off = true) (i : Int) : prdE p i = if kindOfN p.now i ≤ 1 then 4 else 20 := by
  unfold prdE
  rw [h, if_pos rfl]

/-- Which blocks can be read. -/
theorem kind_mem {s : Fr} (h : FrOk s) (i : Nat) : kindOfN s (i : Int) ≤ 1 ↔ i ∉ blocksL s 2 ++ blocksL s 3 := by
  rw [List.mem_append]
  constructor
  · intro hk hm
    rcases hm with hm | hm <;> (obtain ⟨j, hj, e, rfl⟩ := mem_blocks.1 hm; rw [kindOfN_at hj] at hk; omega)
  · intro hn
    by_cases hc : kindOfN s (i : Int) ≤ 1
    · exact hc
    · obtain ⟨j, hj, e⟩ := kindOfN_in (s := s) (i := (i : Int)) (by omega)
      have hij : i = s.lo + j := by omega
      subst hij
      have hm := kindOfN_most h ((s.lo + j : Nat) : Int)
      rw [kindOfN_at hj] at hc hm
      exact absurd (by rw [mem_at hj, mem_at hj]; omega) hn

theorem blocks_le {s : Fr} (h : FrOk s) {k x : Nat} (hx : x ∈ blocksL s k) : x < 1024 := by
  obtain ⟨j, hj, _, rfl⟩ := mem_blocks.1 hx
  have := h.most
  omega

def wantI (i : Nat) (l : List Nat) : Int := if i ∈ l then 20 else 4

theorem want_next {i : Nat} {l : List Nat} {j x : Nat} (h : l[j]? = some x) : wantI i (l.take (j + 1)) = if x = i then 20 else wantI i (l.take j) := by
  unfold wantI
  rw [take_next h]
  simp only [List.mem_append, List.mem_singleton]
  by_cases e : x = i
  · subst e; simp
  · have e' : ¬ i = x := fun h => e h.symm
    simp [e, e']

end Go.Proofs.YthgdbjpefjjeaaaGreat
