/- The contract of the document's Same, at nodes that are alike. -/
import Derived.Test.YthgdbjpefjjeaaaGreatQSmall
import Derived.BigQuiet
import Derived.Deep.QuietTactic
namespace Go.Proofs.YthgdbjpefjjeaaaGreat
open Go.RowKit
set_option linter.unusedVariables false
set_option linter.unusedSimpArgs false
set_option maxRecDepth 4000

theorem neq_kv (W : World) (s t : ByteArray) : (binOp .neq 85 (.agg #[.string s, .string t]) (.agg #[.string s, .string t])).run Tryz.prog W = .ok (.bool false) W := by
  have u9 := Tryz.underlying9
  have hS : Tryz.prog.underlying 85 = some (.struct (Tryz.prog.fieldsOf 85)) := by kernel_rfl
  have hp : Tryz.prog.stoodInHeld 85 = false := by kernel_rfl
  rw [run_neq_struct, show (10000 : Nat) = 9999 + 1 from rfl, run_equalIn_agg W 9999 _ _ _ hS hp]
  simp only [Program.fieldsOf, Tryz.underlying85]
  go_simp

theorem belowN' (W : World) (q B : Nat) : Below B W (W.drewN q) := ⟨rfl, rfl, rfl, Nat.le_refl _, fun _ _ => rfl⟩

theorem box4' {W : World} {B : Nat} {v0 v1 v2 v3 : Value} {t : TypeId} (h : W.heap[B]? = some (.cells #[v0, v1, v2, v3] t (0, 0))) :
    W.cell? ⟨B, 0, none⟩ = some v0 ∧ W.cell? ⟨B, 1, none⟩ = some v1 ∧ W.cell? ⟨B, 2, none⟩ = some v2 ∧ W.cell? ⟨B, 3, none⟩ = some v3 ∧ True :=
  ⟨cell_of_row W _ 0 _ _ (0, 0) h, cell_of_row W _ 1 _ _ (0, 0) h, cell_of_row W _ 2 _ _ (0, 0) h, cell_of_row W _ 3 _ _ (0, 0) h, trivial⟩

set_option maxHeartbeats 8000000 in
theorem same_lit (w : World) (lf : Bool) (a1 a2 a3 b1 b2 b3 : Option Addr) (n1 c1 n2 c2 n3 c3 d1 d2 d3 : Nat) (ps : List (ByteArray × ByteArray)) (ks : List ByteArray) (cs : List Int)
    (hP : RdP w (.slice a1 n1 c1) ps) (hS : RdS w (.slice a2 n2 c2) ks) (hU : RdU w (.slice a3 n3 c3) cs) (hP' : RdP w (.slice b1 n1 d1) ps) (hS' : RdS w (.slice b2 n2 d2) ks) (hU' : RdU w (.slice b3 n3 d3) cs) :
    Calls Tryz.prog 26 #[.agg #[.bool lf, .slice a1 n1 c1, .slice a2 n2 c2, .slice a3 n3 c3], .agg #[.bool lf, .slice b1 n1 d1, .slice b2 n2 d2, .slice b3 n3 d3]] w fun e w' => e = .returned (.bool true) ∧ Below w.heap.size w w' := by
  obtain ⟨lp, pc, pm, pI⟩ := hP.open
  obtain ⟨_, pc', pm', pI'⟩ := hP'.open
  obtain ⟨ls, sc, sm, sI⟩ := hS.open
  obtain ⟨_, sc', sm', sI'⟩ := hS'.open
  obtain ⟨lu, uc, um, uI⟩ := hU.open
  obtain ⟨_, uc', um', uI'⟩ := hU'.open
  unfold maxLen at pm sm um pm' sm' um'
  clear hP hS hU hP' hS' hU'
  have hB0 : Below w.heap.size w ((w.alloc (.cells #[.bool lf, .slice a1 n1 c1, .slice a2 n2 c2, .slice a3 n3 c3] 40)).alloc (.cells #[.bool lf, .slice b1 n1 d1, .slice b2 n2 d2, .slice b3 n3 d3] 40)) := ((Below.refl _ w).alloc (Nat.le_refl _) _).alloc (by simp) _
  have hg0 := heap_alloc2_old w (.cells #[.bool lf, .slice a1 n1 c1, .slice a2 n2 c2, .slice a3 n3 c3] 40) (.cells #[.bool lf, .slice b1 n1 d1, .slice b2 n2 d2, .slice b3 n3 d3] 40)
  have hg1 := heap_alloc2_new w (.cells #[.bool lf, .slice a1 n1 c1, .slice a2 n2 c2, .slice a3 n3 c3] 40) (.cells #[.bool lf, .slice b1 n1 d1, .slice b2 n2 d2, .slice b3 n3 d3] 40)
  go_enter Tryz.func26, Tryz.ntmps26
  go_wp2
  generalize hW1 : (w.alloc (.cells #[.bool lf, .slice a1 n1 c1, .slice a2 n2 c2, .slice a3 n3 c3] 40)).alloc (.cells #[.bool lf, .slice b1 n1 d1, .slice b2 n2 d2, .slice b3 n3 d3] 40) = W1 at *
  clear hW1
  obtain ⟨X0, X1, X2, X3, _⟩ := box4' hg0
  obtain ⟨Y0, Y1, Y2, Y3, _⟩ := box4' hg1
  have z0 : w.heap.size < W1.heap.size := (Array.getElem?_eq_some_iff.1 hg0).1
  have z1 : w.heap.size + 1 < W1.heap.size := (Array.getElem?_eq_some_iff.1 hg1).1
  clear hg0 hg1
  have HB : Below W1.heap.size W1 W1 := Below.refl _ _
  go_loopw [5, 43] (fun u t wr => ∃ k : Nat, k ≤ n1 ∧ t = .int .i64 k ∧ Below W1.heap.size W1 wr) (fun _ t _ => n1 - (intOf t).toNat)
  case atStart => exact ⟨0, Nat.zero_le _, rfl, HB⟩
  case round =>
    clear HB
    obtain ⟨k, hk, rfl, HB⟩ := hrel
    have xa := (HB.cell (p := ⟨w.heap.size, 1, none⟩) z0).trans X1
    have ya := (HB.cell (p := ⟨w.heap.size + 1, 1, none⟩) z1).trans Y1
    by_cases hlt : k < n1
    · obtain ⟨g, o, rfl, hg, hcs⟩ := pI (by omega)
      obtain ⟨g', o', rfl, hg', hcs'⟩ := pI' (by omega)
      obtain ⟨x, hx⟩ := at_some lp hlt
      have tr : ∀ q : Addr, q.block < w.heap.size → wr.cell? q = w.cell? q := fun q hq => (HB.cell (by omega)).trans (hB0.cell hq)
      have e1 := (tr ⟨g, o + k * 2, none⟩ hg).trans (hcs k x hx).1
      have e2 := (tr ⟨g, o + k * 2 + 1, none⟩ hg).trans (hcs k x hx).2
      have e3 := (tr ⟨g', o' + k * 2, none⟩ hg').trans (hcs' k x hx).1
      have e4 := (tr ⟨g', o' + k * 2 + 1, none⟩ hg').trans (hcs' k x hx).2
      have hnq := fun W => neq_kv W x.1 x.2
      clear hcs hcs' tr pI pI'
      go_wp2_with fail
      go_quiet (fail)
      go_wp2
      go_roundw
      case rel => exact ⟨k + 1, by omega, by go_num, HB.trans (belowN' wr _ _)⟩
      case measure => simp [intOf]; omega
    · obtain rfl : k = n1 := by omega
      have xb := (HB.cell (p := ⟨w.heap.size, 2, none⟩) z0).trans X2
      clear pI pI' xa ya
      go_wp2
      go_loopw [6, 61] (fun u t wr => ∃ k : Nat, k ≤ n2 ∧ t = .int .i64 k ∧ Below W1.heap.size W1 wr) (fun _ t _ => n2 - (intOf t).toNat)
      case atStart => exact ⟨0, Nat.zero_le _, rfl, HB⟩
      case round =>
        clear HB
        obtain ⟨k, hk, rfl, HB⟩ := hrel
        have xa := (HB.cell (p := ⟨w.heap.size, 2, none⟩) z0).trans X2
        have ya := (HB.cell (p := ⟨w.heap.size + 1, 2, none⟩) z1).trans Y2
        by_cases hlt : k < n2
        · obtain ⟨g, o, rfl, hg, hcs⟩ := sI (by omega)
          obtain ⟨g', o', rfl, hg', hcs'⟩ := sI' (by omega)
          obtain ⟨x, hx⟩ := at_some ls hlt
          have tr : ∀ q : Addr, q.block < w.heap.size → wr.cell? q = w.cell? q := fun q hq => (HB.cell (by omega)).trans (hB0.cell hq)
          have e1 := (tr ⟨g, o + k, none⟩ hg).trans (hcs k x hx)
          have e3 := (tr ⟨g', o' + k, none⟩ hg').trans (hcs' k x hx)
          clear hcs hcs' tr sI sI'
          go_wp2_with fail
          go_quiet (fail)
          go_wp2
          go_roundw
          case rel => exact ⟨k + 1, by omega, by go_num, HB.trans (belowN' wr _ _)⟩
          case measure => simp [intOf]; omega
        · obtain rfl : k = n2 := by omega
          have xb := (HB.cell (p := ⟨w.heap.size, 3, none⟩) z0).trans X3
          clear sI sI' xa ya
          go_wp2
          go_loopw [7, 79] (fun u t wr => ∃ k : Nat, k ≤ n3 ∧ t = .int .i64 k ∧ Below W1.heap.size W1 wr) (fun _ t _ => n3 - (intOf t).toNat)
          case atStart => exact ⟨0, Nat.zero_le _, rfl, HB⟩
          case round =>
            clear HB
            obtain ⟨k, hk, rfl, HB⟩ := hrel
            have xa := (HB.cell (p := ⟨w.heap.size, 3, none⟩) z0).trans X3
            have ya := (HB.cell (p := ⟨w.heap.size + 1, 3, none⟩) z1).trans Y3
            by_cases hlt : k < n3
            · obtain ⟨g, o, rfl, hg, hcs⟩ := uI (by omega)
              obtain ⟨g', o', rfl, hg', hcs'⟩ := uI' (by omega)
              obtain ⟨x, hx⟩ := at_some lu hlt
              have tr : ∀ q : Addr, q.block < w.heap.size → wr.cell? q = w.cell? q := fun q hq => (HB.cell (by omega)).trans (hB0.cell hq)
              have e1 := (tr ⟨g, o + k, none⟩ hg).trans (hcs k x hx)
              have e3 := (tr ⟨g', o' + k, none⟩ hg').trans (hcs' k x hx)
              clear hcs hcs' tr uI uI'
              go_wp2_with fail
              go_quiet (fail)
              go_wp2
              go_roundw
              case rel => exact ⟨k + 1, by omega, by go_num, HB.trans (belowN' wr _ _)⟩
              case measure => simp [intOf]; omega
            · obtain rfl : k = n3 := by omega
              clear uI uI' xa ya
              go_wp2
              go_ret
              exact ⟨rfl, hB0.trans (HB.mono (by omega))⟩

theorem same_any (w : World) (va vb : Value) (n : Nd) (ha : NdAt w va n) (hb : NdAt w vb n) : Calls Tryz.prog 26 #[va, vb] w fun e w' => e = .returned (.bool true) ∧ Below w.heap.size w w' := by
  obtain ⟨a1, c1, a2, c2, a3, c3, rfl, h1, h2, h3, _⟩ := ha
  obtain ⟨b1, d1, b2, d2, b3, d3, rfl, k1, k2, k3, _⟩ := hb
  exact same_lit w n.leaf a1 a2 a3 b1 b2 b3 _ c1 _ c2 _ c3 d1 d2 d3 n.pairs n.keys n.kids h1 h2 h3 k1 k2 k3

end Go.Proofs.YthgdbjpefjjeaaaGreat
