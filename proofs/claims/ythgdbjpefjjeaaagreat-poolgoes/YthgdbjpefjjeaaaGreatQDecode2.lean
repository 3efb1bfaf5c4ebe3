/- The contract of page.DecodeNode. -/
import Derived.Test.YthgdbjpefjjeaaaGreatQDecode
namespace Go.Proofs.YthgdbjpefjjeaaaGreat
open Go.RowKit Go.Shelf
set_option linter.unusedVariables false
set_option linter.unusedSimpArgs false
set_option maxRecDepth 4000

/-- As 'ret_node', with an error's number beside it. -/
theorem ret_node2 {fn : Func} {R : Ending → World → Prop} {a : Act} {w : World} {p u : Tmp} (h : fn.results = #[.cell p 40, .tmp u]) (g : Nat) (v0 v1 v2 v3 : Value) {t : TypeId} {fr : Nat × Nat} (hp : a.tmps.getD p undef = .pointer (some ⟨g, 0, none⟩)) (v : Value) (hu : a.tmps.getD u undef = v)
    (hg : w.heap[g]? = some (.cells #[v0, v1, v2, v3] t fr)) (hd : a.defers = []) (hR : R (.returned (.tuple #[.agg #[v0, v1, v2, v3], v])) w) : bodyPost Tryz.prog fn R .ret a w := by
  refine bodyPost_ret ?_ hd hR
  have hp' : a.tmps[p]?.getD undef = .pointer (some ⟨g, 0, none⟩) := by simpa using hp
  have hu' : a.tmps[u]?.getD undef = v := by simpa using hu
  have hl := run_loadVar_row (P := Tryz.prog) w g t 40 #[v0, v1, v2, v3] fr _ hg Tryz.underlying40 rfl (by kernel_rfl)
  simp [results, h, hp', hu', asAddr, hl, Result.andThen]

set_option maxHeartbeats 1000000 in
/-- What of it is not opened. -/
theorem decode_bad (w W0 : World) (v : Value) (E : Int) (hE : E ≠ 0) (hB0 : Below w.heap.size w W0) (hz0 : W0.heap.size = w.heap.size + 1) (hg0 : W0.heap[w.heap.size]? = some (.cells #[.bool false, .slice none 0 0, .slice none 0 0, .slice none 0 0] 40 (0, 0)))
    (hW0 : w.alloc (.cells #[.bool false, .slice none 0 0, .slice none 0 0, .slice none 0 0] 40) = W0) (a : Option Addr) (n cap : Nat) (hv : v = .slice a n cap)
    (hco : Calls Tryz.prog 76 #[v] W0 fun e w' => ∃ u, e = .returned (.tuple #[u, .int .i64 E]) ∧ Below W0.heap.size W0 w') :
    Calls Tryz.prog 58 #[v] w fun e w' => ∃ u, e = .returned (.tuple #[u, .int .i64 E]) ∧ NdOwn w' w.heap.size u nd0 ∧ Below w.heap.size w w' := by
  subst hv
  go_enter Tryz.func58, Tryz.ntmps58
  go_wp2_with fail
  refine hco.mono ?_
  rintro e w1 ⟨u1, rfl, hb1⟩
  have hg1 := (hb1.block w.heap.size (by omega)).trans hg0
  obtain ⟨q0, q1, q2, q3, f0, f1, f2, f3⟩ := box4 hg1
  obtain ⟨r1, r2, r3⟩ := fin_node hg1 (NdOwn.zero _ (w.heap.size + 1)) (by omega)
  have HR1 : Hid _ := r1
  have HR2 : Hid _ := r2
  have HR3 : Hid _ := r3
  clear r1 r2 r3 hg1 hg0 hco hW0
  go_wp2
  exact ret_node2 rfl w.heap.size _ _ _ _ rfl _ rfl HR1.out rfl ⟨_, rfl, NdOwn.mono HR2.out (by omega), hB0.trans ((hb1.mono (by omega)).trans (HR3.out _ (Nat.le_refl _)))⟩

end Go.Proofs.YthgdbjpefjjeaaaGreat
