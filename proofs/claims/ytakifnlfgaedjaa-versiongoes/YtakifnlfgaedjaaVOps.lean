/- The calls that a statement is handed: a slice of structs. -/
import Derived.Test.YtakifnlfgaedjaaVLive
import Derived.Lib.SmallJoins
import Derived.Deep.Slices
namespace Go.Proofs.Ytakifnlfgaedjaa
open Go.RowKit
set_option linter.unusedVariables false

/-- A call, as it is handed in. -/
structure VopV where
  f0 : Int
  f1 : Int
  f2 : Int

def vop0 : VopV := ⟨0, 0, 0⟩

/-- What its parts are. -/
structure VopOk (o : VopV) : Prop where
  a0 : -9223372036854775808 ≤ o.f0 ∧ o.f0 ≤ 9223372036854775807
  a1 : -9223372036854775808 ≤ o.f1 ∧ o.f1 ≤ 9223372036854775807
  a2 : 0 ≤ o.f2 ∧ o.f2 ≤ 4294967295

/-- One of them lies at a place. -/
structure VopAt (w : World) (b off : Nat) (o : VopV) : Prop where
  c0 : w.cell? ⟨b, off, none⟩ = some (.int .i64 o.f0)
  c1 : w.cell? ⟨b, off + 1, none⟩ = some (.int .i64 o.f1)
  c2 : w.cell? ⟨b, off + 2, none⟩ = some (.int .u32 o.f2)

/-- A slice of them. -/
def VopsAt (w : World) (a : Option Addr) (len cap : Nat) (os : List VopV) : Prop :=
  os.length = len ∧ len ≤ cap ∧ cap ≤ maxLen ∧ (∀ o ∈ os, VopOk o) ∧ (0 < len → ∃ b off, a = some ⟨b, off, none⟩ ∧ b < w.heap.size ∧ ∀ i, i < len → VopAt w b (off + i * 3) (os.getD i vop0))

theorem VopAt.below {w w' : World} {b off : Nat} {o : VopV} (h : VopAt w b off o) (hb : b < w.heap.size) (hB : Below w.heap.size w w') : VopAt w' b off o :=
  ⟨(World.cell?_of_block (hB.block b hb)).trans h.c0, (World.cell?_of_block (hB.block b hb)).trans h.c1, (World.cell?_of_block (hB.block b hb)).trans h.c2⟩

set_option maxRecDepth 100000 in
theorem vopsAt_of {H : Type} {enc : TypeId × Value → H} {W : World} {base : Nat} {held : Bool} {fuel : Nat} {a : Option Addr} {len cap : Nat} {x : DataW H × List MemPlace}
    (h : DataW.trod enc Try.prog W base (fun _ => true) held fuel 24 [.slice a len cap] = some x) : ∃ os, VopsAt W a len cap os := by
  rcases Deep.open_slice Try.underlying24 h with ⟨hcs, _⟩ | ⟨a', l, c, m, n, D, Pl, hcs, hb, hl, hm, hmm, _, hx⟩
  · simp at hcs
    obtain ⟨rfl, rfl, rfl⟩ := hcs
    exact ⟨[], rfl, Nat.le_refl _, Nat.zero_le _, by simp, fun h => by omega⟩
  · simp at hcs
    obtain ⟨rfl, rfl, rfl⟩ := hcs
    have each : ∀ i, i < len → ∃ o : VopV, VopOk o ∧ W.cell? (a'.add (i * 3 + 0)) = some (.int .i64 o.f0) ∧ W.cell? (a'.add (i * 3 + 1)) = some (.int .i64 o.f1) ∧ W.cell? (a'.add (i * 3 + 2)) = some (.int .u32 o.f2) := by
      intro i hi
      obtain ⟨cs', h1, h2⟩ := hx i (by rw [hmm]; simp; omega)
      rw [show Try.prog.cellsOf 31 = 3 from by kernel_rfl] at h1
      obtain ⟨_, hlen, hcell⟩ := World.cells?_some h1
      obtain ⟨xs, k, hk, hxy, _, hxl, hf⟩ := DataW.trod_struct Try.underlying31 h2
      have hxl : xs.length = 3 := hxl
      clear hxy hk h1 h2
      match xs, hxl, cs', hlen with
      | [y0, y1, y2], _, [v0, v1, v2], _ =>
        have g0 : DataW.trod enc Try.prog W base (fun _ => true) held k 3 (([v0, v1, v2].drop 0).take (Try.prog.cellsOf 3)) = some y0 := hf 0 _ rfl
        have g1 : DataW.trod enc Try.prog W base (fun _ => true) held k 3 (([v0, v1, v2].drop 1).take (Try.prog.cellsOf 3)) = some y1 := hf 1 _ rfl
        have g2 : DataW.trod enc Try.prog W base (fun _ => true) held k 22 (([v0, v1, v2].drop 2).take (Try.prog.cellsOf 22)) = some y2 := hf 2 _ rfl
        rw [show Try.prog.cellsOf 3 = 1 from by kernel_rfl] at g0 g1
        rw [show Try.prog.cellsOf 22 = 1 from by kernel_rfl] at g2
        simp only [List.drop_zero, List.drop_succ_cons, List.take_succ_cons, List.take_zero] at g0 g1 g2
        obtain ⟨z0, e0, _, w0⟩ := DataW.trod_int Try.underlying3 g0
        obtain ⟨z1, e1, _, w1⟩ := DataW.trod_int Try.underlying3 g1
        obtain ⟨z2, e2, _, w2⟩ := DataW.trod_int Try.underlying22 g2
        simp only [List.cons.injEq, and_true] at e0 e1 e2
        subst e0 e1 e2
        have q0 := hcell 0 (by omega)
        have q1 := hcell 1 (by omega)
        have q2 := hcell 2 (by omega)
        rw [Deep.add_add] at q0 q1 q2
        exact ⟨⟨z0, z1, z2⟩, ⟨bounds_i64 w0, bounds_i64 w1, bounds_u32 w2⟩, q0, q1, q2⟩
    have hin : Inhabited VopV := ⟨vop0⟩
    obtain ⟨f, hf⟩ := Deep.choose_lt each
    refine ⟨(List.range len).map f, by simp, hl, hm, fun o ho => ?_, fun hp => ?_⟩
    · obtain ⟨i, hi, rfl⟩ := List.mem_map.1 ho
      exact (hf i (List.mem_range.1 hi)).1
    · obtain ⟨b, off, spot⟩ := a'
      have q0 := (hf 0 hp).2.1
      have hspot : spot = none := by simpa [Addr.add] using World.cell?_spot q0
      subst hspot
      have hadd : ∀ j, (⟨b, off, none⟩ : Addr).add j = ⟨b, off + j, none⟩ := fun j => by unfold Addr.add; split <;> simp_all
      rw [hadd] at q0
      refine ⟨b, off, rfl, World.block_lt_of_cell? _ _ q0, fun i hi => ?_⟩
      obtain ⟨_, q0, q1, q2⟩ := hf i hi
      rw [hadd, ← Nat.add_assoc] at q0 q1 q2
      rw [List.getD_eq_getElem?_getD, List.getElem?_map, List.getElem?_range hi]
      exact ⟨q0, q1, q2⟩

/-- One of the calls, whatever was done behind those that were handed in. -/
theorem vop_at {w W : World} {a : Option Addr} {len cap : Nat} {os : List VopV} (h : VopsAt w a len cap os) (hb : Below w.heap.size w W) (k : Nat) (hk : k < len) : ∃ b off o, a = some ⟨b, off, none⟩ ∧ VopOk o ∧ VopAt W b (off + k * 3) o := by
  obtain ⟨h1, h2, h3, h4, h5⟩ := h
  obtain ⟨b, off, rfl, hbl, hat⟩ := h5 (by omega)
  refine ⟨b, off, os.getD k vop0, rfl, h4 _ ?_, (hat k hk).below hbl hb⟩
  rw [List.getD_eq_getElem?_getD, List.getElem?_eq_getElem (by omega)]
  exact List.getElem_mem _

end Go.Proofs.Ytakifnlfgaedjaa
