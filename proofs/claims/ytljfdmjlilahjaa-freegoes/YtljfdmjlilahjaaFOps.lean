/- The calls that a statement is handed: a slice of structs. -/
import Derived.Test.YtljfdmjlilahjaaFArg
namespace Go.Proofs.Ytljfdmjlilahjaa
open Go.RowKit
set_option linter.unusedVariables false

/-- A call, as it is handed in. -/
structure FopV where
  f0 : Int
  f1 : Int
  v2 : Value
  f2 : List Int
  f3 : Bool

def fop0 : FopV := ⟨0, 0, .slice none 0 0, [], false⟩

/-- What its parts are. -/
structure FopOk (o : FopV) : Prop where
  a0 : -9223372036854775808 ≤ o.f0 ∧ o.f0 ≤ 9223372036854775807
  a1 : -9223372036854775808 ≤ o.f1 ∧ o.f1 ≤ 9223372036854775807
  a2 : IntsOk o.f2

/-- One of them lies at a place. -/
structure FopAt (w : World) (b off : Nat) (o : FopV) : Prop where
  c0 : w.cell? ⟨b, off, none⟩ = some (.int .i64 o.f0)
  c1 : w.cell? ⟨b, off + 1, none⟩ = some (.int .i64 o.f1)
  c2 : w.cell? ⟨b, off + 2, none⟩ = some o.v2
  c3 : w.cell? ⟨b, off + 3, none⟩ = some (.bool o.f3)
  rd : RdI w o.v2 o.f2

/-- A slice of them. -/
def FopsAt (w : World) (a : Option Addr) (len cap : Nat) (os : List FopV) : Prop :=
  os.length = len ∧ len ≤ cap ∧ cap ≤ maxLen ∧ (∀ o ∈ os, FopOk o) ∧ (0 < len → ∃ b off, a = some ⟨b, off, none⟩ ∧ b < w.heap.size ∧ ∀ i, i < len → FopAt w b (off + i * 4) (os.getD i fop0))

theorem FopAt.below {w w' : World} {b off : Nat} {o : FopV} (h : FopAt w b off o) (hb : b < w.heap.size) (hB : Below w.heap.size w w') : FopAt w' b off o :=
  ⟨(World.cell?_of_block (hB.block b hb)).trans h.c0, (World.cell?_of_block (hB.block b hb)).trans h.c1, (World.cell?_of_block (hB.block b hb)).trans h.c2, (World.cell?_of_block (hB.block b hb)).trans h.c3, h.rd.below hB⟩

set_option maxRecDepth 100000 in
theorem fopsAt_of {H : Type} {enc : TypeId × Value → H} {W : World} {base : Nat} {held : Bool} {fuel : Nat} {a : Option Addr} {len cap : Nat} {x : DataW H × List MemPlace}
    (h : DataW.trod enc Try.prog W base (fun _ => true) held fuel 23 [.slice a len cap] = some x) : ∃ os, FopsAt W a len cap os := by
  rcases Deep.open_slice Try.underlying23 h with ⟨hcs, _⟩ | ⟨a', l, c, m, n, D, Pl, hcs, hb, hl, hm, hmm, _, hx⟩
  · simp at hcs
    obtain ⟨rfl, rfl, rfl⟩ := hcs
    exact ⟨[], rfl, Nat.le_refl _, Nat.zero_le _, by simp, fun h => by omega⟩
  · simp at hcs
    obtain ⟨rfl, rfl, rfl⟩ := hcs
    have each : ∀ i, i < len → ∃ o : FopV, (FopOk o ∧ RdI W o.v2 o.f2) ∧ W.cell? (a'.add (i * 4 + 0)) = some (.int .i64 o.f0) ∧ W.cell? (a'.add (i * 4 + 1)) = some (.int .i64 o.f1) ∧ W.cell? (a'.add (i * 4 + 2)) = some o.v2 ∧ W.cell? (a'.add (i * 4 + 3)) = some (.bool o.f3) := by
      intro i hi
      obtain ⟨cs', h1, h2⟩ := hx i (by rw [hmm]; simp; omega)
      rw [show Try.prog.cellsOf 33 = 4 from by kernel_rfl] at h1
      obtain ⟨_, hlen, hcell⟩ := World.cells?_some h1
      obtain ⟨xs, k, hk, hxy, _, hxl, hf⟩ := DataW.trod_struct Try.underlying33 h2
      have hxl : xs.length = 4 := hxl
      clear hxy hk h1 h2
      match xs, hxl, cs', hlen with
      | [y0, y1, y2, y3], _, [v0, v1, v2, v3], _ =>
        have g0 : DataW.trod enc Try.prog W base (fun _ => true) held k 3 (([v0, v1, v2, v3].drop 0).take (Try.prog.cellsOf 3)) = some y0 := hf 0 _ rfl
        have g1 : DataW.trod enc Try.prog W base (fun _ => true) held k 3 (([v0, v1, v2, v3].drop 1).take (Try.prog.cellsOf 3)) = some y1 := hf 1 _ rfl
        have g2 : DataW.trod enc Try.prog W base (fun _ => true) held k 22 (([v0, v1, v2, v3].drop 2).take (Try.prog.cellsOf 22)) = some y2 := hf 2 _ rfl
        have g3 : DataW.trod enc Try.prog W base (fun _ => true) held k 4 (([v0, v1, v2, v3].drop 3).take (Try.prog.cellsOf 4)) = some y3 := hf 3 _ rfl
        rw [show Try.prog.cellsOf 3 = 1 from by kernel_rfl] at g0 g1
        rw [show Try.prog.cellsOf 22 = 1 from by kernel_rfl] at g2
        rw [show Try.prog.cellsOf 4 = 1 from by kernel_rfl] at g3
        simp only [List.drop_zero, List.drop_succ_cons, List.take_succ_cons, List.take_zero] at g0 g1 g2 g3
        obtain ⟨z0, e0, _, w0⟩ := DataW.trod_int Try.underlying3 g0
        obtain ⟨z1, e1, _, w1⟩ := DataW.trod_int Try.underlying3 g1
        obtain ⟨l2, k2, r2⟩ := ints_of g2
        obtain ⟨z3, e3, _⟩ := DataW.trod_bool Try.underlying4 g3
        simp only [List.cons.injEq, and_true] at e0 e1 e3
        subst e0 e1 e3
        have q0 := hcell 0 (by omega)
        have q1 := hcell 1 (by omega)
        have q2 := hcell 2 (by omega)
        have q3 := hcell 3 (by omega)
        rw [Deep.add_add] at q0 q1 q2 q3
        exact ⟨⟨z0, z1, v2, l2, z3⟩, ⟨⟨bounds_i64 w0, bounds_i64 w1, k2⟩, r2⟩, q0, q1, q2, q3⟩
    have hin : Inhabited FopV := ⟨fop0⟩
    obtain ⟨f, hf⟩ := Deep.choose_lt each
    refine ⟨(List.range len).map f, by simp, hl, hm, fun o ho => ?_, fun hp => ?_⟩
    · obtain ⟨i, hi, rfl⟩ := List.mem_map.1 ho
      exact (hf i (List.mem_range.1 hi)).1.1
    · obtain ⟨b, off, spot⟩ := a'
      have q0 := (hf 0 hp).2.1
      have hspot : spot = none := by simpa [Addr.add] using World.cell?_spot q0
      subst hspot
      have hadd : ∀ j, (⟨b, off, none⟩ : Addr).add j = ⟨b, off + j, none⟩ := fun j => by unfold Addr.add; split <;> simp_all
      rw [hadd] at q0
      refine ⟨b, off, rfl, World.block_lt_of_cell? _ _ q0, fun i hi => ?_⟩
      obtain ⟨hh, q0, q1, q2, q3⟩ := hf i hi
      rw [hadd, ← Nat.add_assoc] at q0 q1 q2 q3
      rw [List.getD_eq_getElem?_getD, List.getElem?_map, List.getElem?_range hi]
      exact ⟨q0, q1, q2, q3, hh.2⟩

end Go.Proofs.Ytljfdmjlilahjaa
