/- The calls that a statement is handed: a slice of structs. -/
import Derived.Test.YtjfhcbokfbbbhaaLaws
import Derived.Deep.Slices
namespace Go.Proofs.Ytjfhcbokfbbbhaa
open Go.RowKit
set_option linter.unusedVariables false

/-- A call, as it is handed in. -/
structure OpV where
  f0 : Int
  f1 : Int
  f2 : Int
  f3 : Int
  f4 : ByteArray
  f5 : Bool

def op0 : OpV := ⟨0, 0, 0, 0, ⟨#[]⟩, false⟩

/-- What its parts are. -/
structure OpOk (o : OpV) : Prop where
  a0 : -9223372036854775808 ≤ o.f0 ∧ o.f0 ≤ 9223372036854775807
  a1 : -9223372036854775808 ≤ o.f1 ∧ o.f1 ≤ 9223372036854775807
  a2 : -9223372036854775808 ≤ o.f2 ∧ o.f2 ≤ 9223372036854775807
  a3 : 0 ≤ o.f3 ∧ o.f3 ≤ 255
  a4 : o.f4.size ≤ maxLen

/-- One of them lies at a place. -/
structure OpAt (w : World) (b off : Nat) (o : OpV) : Prop where
  c0 : w.cell? ⟨b, off, none⟩ = some (.int .i64 o.f0)
  c1 : w.cell? ⟨b, off + 1, none⟩ = some (.int .i64 o.f1)
  c2 : w.cell? ⟨b, off + 2, none⟩ = some (.int .i64 o.f2)
  c3 : w.cell? ⟨b, off + 3, none⟩ = some (.int .u8 o.f3)
  c4 : w.cell? ⟨b, off + 4, none⟩ = some (.string o.f4)
  c5 : w.cell? ⟨b, off + 5, none⟩ = some (.bool o.f5)

/-- A slice of them. -/
def OpsAt (w : World) (a : Option Addr) (len cap : Nat) (os : List OpV) : Prop :=
  os.length = len ∧ len ≤ cap ∧ cap ≤ maxLen ∧ (∀ o ∈ os, OpOk o) ∧ (0 < len → ∃ b off, a = some ⟨b, off, none⟩ ∧ b < w.heap.size ∧ ∀ i, i < len → OpAt w b (off + i * 6) (os.getD i op0))

theorem OpAt.same {w w' : World} {b off : Nat} {o : OpV} (h : OpAt w b off o) (hb : w'.heap[b]? = w.heap[b]?) : OpAt w' b off o :=
  ⟨(World.cell?_of_block hb).trans h.c0, (World.cell?_of_block hb).trans h.c1, (World.cell?_of_block hb).trans h.c2, (World.cell?_of_block hb).trans h.c3, (World.cell?_of_block hb).trans h.c4, (World.cell?_of_block hb).trans h.c5⟩

set_option maxRecDepth 100000 in
theorem opsAt_of {H : Type} {enc : TypeId × Value → H} {W : World} {base : Nat} {held : Bool} {fuel : Nat} {a : Option Addr} {len cap : Nat} {x : DataW H × List MemPlace}
    (h : DataW.trod enc Try.prog W base (fun _ => true) held fuel 22 [.slice a len cap] = some x) : ∃ os, OpsAt W a len cap os := by
  rcases Deep.open_slice Try.underlying22 h with ⟨hcs, _⟩ | ⟨a', l, c, m, n, D, Pl, hcs, hb, hl, hm, hmm, _, hx⟩
  · simp at hcs
    obtain ⟨rfl, rfl, rfl⟩ := hcs
    exact ⟨[], rfl, Nat.le_refl _, Nat.zero_le _, by simp, fun h => by omega⟩
  · simp at hcs
    obtain ⟨rfl, rfl, rfl⟩ := hcs
    have each : ∀ i, i < len → ∃ o : OpV, OpOk o ∧ W.cell? (a'.add (i * 6 + 0)) = some (.int .i64 o.f0) ∧ W.cell? (a'.add (i * 6 + 1)) = some (.int .i64 o.f1) ∧ W.cell? (a'.add (i * 6 + 2)) = some (.int .i64 o.f2) ∧ W.cell? (a'.add (i * 6 + 3)) = some (.int .u8 o.f3) ∧ W.cell? (a'.add (i * 6 + 4)) = some (.string o.f4) ∧ W.cell? (a'.add (i * 6 + 5)) = some (.bool o.f5) := by
      intro i hi
      obtain ⟨cs', h1, h2⟩ := hx i (by rw [hmm]; simp; omega)
      rw [show Try.prog.cellsOf 32 = 6 from by kernel_rfl] at h1
      obtain ⟨_, hlen, hcell⟩ := World.cells?_some h1
      obtain ⟨xs, k, hk, hxy, _, hxl, hf⟩ := DataW.trod_struct Try.underlying32 h2
      have hxl : xs.length = 6 := hxl
      clear hxy hk h1 h2
      match xs, hxl, cs', hlen with
      | [y0, y1, y2, y3, y4, y5], _, [v0, v1, v2, v3, v4, v5], _ =>
        have g0 : DataW.trod enc Try.prog W base (fun _ => true) held k 3 (([v0, v1, v2, v3, v4, v5].drop 0).take (Try.prog.cellsOf 3)) = some y0 := hf 0 _ rfl
        have g1 : DataW.trod enc Try.prog W base (fun _ => true) held k 3 (([v0, v1, v2, v3, v4, v5].drop 1).take (Try.prog.cellsOf 3)) = some y1 := hf 1 _ rfl
        have g2 : DataW.trod enc Try.prog W base (fun _ => true) held k 3 (([v0, v1, v2, v3, v4, v5].drop 2).take (Try.prog.cellsOf 3)) = some y2 := hf 2 _ rfl
        have g3 : DataW.trod enc Try.prog W base (fun _ => true) held k 5 (([v0, v1, v2, v3, v4, v5].drop 3).take (Try.prog.cellsOf 5)) = some y3 := hf 3 _ rfl
        have g4 : DataW.trod enc Try.prog W base (fun _ => true) held k 9 (([v0, v1, v2, v3, v4, v5].drop 4).take (Try.prog.cellsOf 9)) = some y4 := hf 4 _ rfl
        have g5 : DataW.trod enc Try.prog W base (fun _ => true) held k 4 (([v0, v1, v2, v3, v4, v5].drop 5).take (Try.prog.cellsOf 4)) = some y5 := hf 5 _ rfl
        rw [show Try.prog.cellsOf 3 = 1 from by kernel_rfl] at g0 g1 g2
        rw [show Try.prog.cellsOf 5 = 1 from by kernel_rfl] at g3
        rw [show Try.prog.cellsOf 9 = 1 from by kernel_rfl] at g4
        rw [show Try.prog.cellsOf 4 = 1 from by kernel_rfl] at g5
        simp only [List.drop_zero, List.drop_succ_cons, List.take_succ_cons, List.take_zero] at g0 g1 g2 g3 g4 g5
        obtain ⟨z0, e0, _, w0⟩ := DataW.trod_int Try.underlying3 g0
        obtain ⟨z1, e1, _, w1⟩ := DataW.trod_int Try.underlying3 g1
        obtain ⟨z2, e2, _, w2⟩ := DataW.trod_int Try.underlying3 g2
        obtain ⟨z3, e3, _, w3⟩ := DataW.trod_int Try.underlying5 g3
        obtain ⟨z4, e4, _, w4⟩ := DataW.trod_string Try.underlying9 g4
        obtain ⟨z5, e5, _⟩ := DataW.trod_bool Try.underlying4 g5
        simp only [List.cons.injEq, and_true] at e0 e1 e2 e3 e4 e5
        subst e0 e1 e2 e3 e4 e5
        have q0 := hcell 0 (by omega)
        have q1 := hcell 1 (by omega)
        have q2 := hcell 2 (by omega)
        have q3 := hcell 3 (by omega)
        have q4 := hcell 4 (by omega)
        have q5 := hcell 5 (by omega)
        rw [Deep.add_add] at q0 q1 q2 q3 q4 q5
        exact ⟨⟨z0, z1, z2, z3, z4, z5⟩, ⟨bounds_i64 w0, bounds_i64 w1, bounds_i64 w2, bounds_u8 w3, w4⟩, q0, q1, q2, q3, q4, q5⟩
    have hin : Inhabited OpV := ⟨op0⟩
    obtain ⟨f, hf⟩ := Deep.choose_lt each
    refine ⟨(List.range len).map f, by simp, hl, hm, fun o ho => ?_, fun hp => ?_⟩
    · obtain ⟨i, hi, rfl⟩ := List.mem_map.1 ho
      exact (hf i (List.mem_range.1 hi)).1
    · obtain ⟨b, off, spot⟩ := a'
      have q0 := (hf 0 hp).2.1
      have hspot : spot = none := by simpa [Addr.add] using World.cell?_spot q0
      subst hspot
      have hadd : ∀ j, (⟨b, off, none⟩ : Addr).add j = ⟨b, off + j, none⟩ := fun j => by unfold Addr.add; split <;> simp_all
      rw [hadd] at q0
      refine ⟨b, off, rfl, World.block_lt_of_cell? _ _ q0, fun i hi => ?_⟩
      obtain ⟨_, q0, q1, q2, q3, q4, q5⟩ := hf i hi
      rw [hadd, ← Nat.add_assoc] at q0 q1 q2 q3 q4 q5
      rw [List.getD_eq_getElem?_getD, List.getElem?_map, List.getElem?_range hi]
      exact ⟨q0, q1, q2, q3, q4, q5⟩

end Go.Proofs.Ytjfhcbokfbbbhaa
