/- What a statement of extent is handed: calls, rows of calls. -/
import Derived.Test.YtiplhhaehbjghaaGreatR1
import Derived.Test.YtiplhhaehbjghaaGreatVA
import Derived.Lib.SmallJoins
import Derived.Deep.Slices
namespace Go.Proofs.YtiplhhaehbjghaaGreat
open Go.RowKit
set_option linter.unusedVariables false
set_option maxHeartbeats 32000000
set_option maxRecDepth 100000
structure Eop where
 f0 : Int
 off : Int
 n : Int
 ino : Int
 data : ByteArray
def eop0 : Eop := ⟨0, 0, 0, 0, ⟨#[]⟩⟩
structure EopOk (o : Eop) : Prop where
 a0 : -9223372036854775808 ≤ o.f0 ∧ o.f0 ≤ 9223372036854775807
 a1 : -9223372036854775808 ≤ o.off ∧ o.off ≤ 9223372036854775807
 a2 : -9223372036854775808 ≤ o.n ∧ o.n ≤ 9223372036854775807
 a3 : 0 ≤ o.ino ∧ o.ino ≤ 4294967295
 a4 : o.data.size ≤ maxLen
def eopE (o : Eop) : List Value := [.int .i64 o.f0, .int .i64 o.off, .int .i64 o.n, .int .u32 o.ino, .string o.data]
def eopC (o : Eop) : Array Value := #[.int .i64 o.f0, .int .i64 o.off, .int .i64 o.n, .int .u32 o.ino, .string o.data]
theorem eop_len (o : Eop) : (eopE o).length = 5 := rfl
def EopsAt (w : World) (a : Option Addr) (len cap : Nat) (l : List Eop) : Prop := RdZ 5 eopE w (.slice a len cap) l ∧ ∀ o ∈ l, EopOk o
theorem EopsAt.below {w w' : World} {a : Option Addr} {len cap : Nat} {l : List Eop} (h : EopsAt w a len cap l) (hb : Below w.heap.size w w') : EopsAt w' a len cap l := ⟨h.1.below hb, h.2⟩
theorem EopsAt.len {w : World} {a : Option Addr} {len cap : Nat} {l : List Eop} (h : EopsAt w a len cap l) : l.length = len := (RdZ.len h.1).1
def EoRow (w : World) (g : Nat) (o : Eop) : Prop := w.heap[g]? = some (.cells (eopC o) 36 (0, 0))
theorem EoRow.c0 {w : World} {g : Nat} {o : Eop} (h : EoRow w g o) : w.cell? ⟨g, 0, none⟩ = some (.int .i64 o.f0) := by rw [cell_of_row _ _ _ _ _ (0, 0) h]; rfl
theorem EoRow.c1 {w : World} {g : Nat} {o : Eop} (h : EoRow w g o) : w.cell? ⟨g, 1, none⟩ = some (.int .i64 o.off) := by rw [cell_of_row _ _ _ _ _ (0, 0) h]; rfl
theorem EoRow.c2 {w : World} {g : Nat} {o : Eop} (h : EoRow w g o) : w.cell? ⟨g, 2, none⟩ = some (.int .i64 o.n) := by rw [cell_of_row _ _ _ _ _ (0, 0) h]; rfl
theorem EoRow.c3 {w : World} {g : Nat} {o : Eop} (h : EoRow w g o) : w.cell? ⟨g, 3, none⟩ = some (.int .u32 o.ino) := by rw [cell_of_row _ _ _ _ _ (0, 0) h]; rfl
theorem EoRow.c4 {w : World} {g : Nat} {o : Eop} (h : EoRow w g o) : w.cell? ⟨g, 4, none⟩ = some (.string o.data) := by rw [cell_of_row _ _ _ _ _ (0, 0) h]; rfl
theorem EoRow.below {w w' : World} {g : Nat} {o : Eop} (h : EoRow w g o) (hb : Below w.heap.size w w') : EoRow w' g o := (hb.block _ (Array.getElem?_eq_some_iff.1 h).1).trans h
theorem eop_ofL {H : Type} {enc : TypeId × Value → H} {W : World} {base : Nat} {held : Bool} {fuel : Nat} {l : List Value} {x : DataW H × List MemPlace} (hlen : l.length = 5)
  (h : DataW.trod enc Tryz.prog W base (fun _ => true) held fuel 36 l = some x) : ∃ p : Eop, EopOk p ∧ l = eopE p := by
 obtain ⟨xs, k, hk, hxy, _, hxl, hf⟩ := DataW.trod_struct Tryz.underlying36 h
 have hxl : xs.length = 5 := hxl
 clear hxy hk h
 match xs, hxl, l, hlen with
 | [y0, y1, y2, y3, y4], _, [v0, v1, v2, v3, v4], _ =>
  have g0 : DataW.trod enc Tryz.prog W base (fun _ => true) held k 3 (([v0, v1, v2, v3, v4].drop 0).take (Tryz.prog.cellsOf 3)) = some y0 := hf 0 _ rfl
  have g1 : DataW.trod enc Tryz.prog W base (fun _ => true) held k 3 (([v0, v1, v2, v3, v4].drop 1).take (Tryz.prog.cellsOf 3)) = some y1 := hf 1 _ rfl
  have g2 : DataW.trod enc Tryz.prog W base (fun _ => true) held k 3 (([v0, v1, v2, v3, v4].drop 2).take (Tryz.prog.cellsOf 3)) = some y2 := hf 2 _ rfl
  have g3 : DataW.trod enc Tryz.prog W base (fun _ => true) held k 23 (([v0, v1, v2, v3, v4].drop 3).take (Tryz.prog.cellsOf 23)) = some y3 := hf 3 _ rfl
  have g4 : DataW.trod enc Tryz.prog W base (fun _ => true) held k 9 (([v0, v1, v2, v3, v4].drop 4).take (Tryz.prog.cellsOf 9)) = some y4 := hf 4 _ rfl
  rw [show Tryz.prog.cellsOf 23 = 1 from by kernel_rfl] at g3
  rw [show Tryz.prog.cellsOf 3 = 1 from by kernel_rfl] at g0 g1 g2
  rw [show Tryz.prog.cellsOf 9 = 1 from by kernel_rfl] at g4
  simp only [List.drop_zero, List.drop_succ_cons, List.take_succ_cons, List.take_zero] at g0 g1 g2 g3 g4
  obtain ⟨z0, e0, _, w0⟩ := DataW.trod_int Tryz.underlying3 g0
  obtain ⟨z1, e1, _, w1⟩ := DataW.trod_int Tryz.underlying3 g1
  obtain ⟨z2, e2, _, w2⟩ := DataW.trod_int Tryz.underlying3 g2
  obtain ⟨z3, e3, _, w3⟩ := DataW.trod_int Tryz.underlying23 g3
  obtain ⟨z4, e4, _, w4⟩ := DataW.trod_string Tryz.underlying9 g4
  simp only [List.cons.injEq, and_true] at e0 e1 e2 e3 e4
  subst e0 e1 e2 e3 e4
  exact ⟨⟨z0, z1, z2, z3, z4⟩, ⟨bounds_i64 w0, bounds_i64 w1, bounds_i64 w2, bounds_u32 w3, w4⟩, rfl⟩
theorem erows_of {H : Type} {enc : TypeId × Value → H} {W : World} {base : Nat} {held : Bool} {fuel : Nat} {a : Option Addr} {len cap : Nat} {x : DataW H × List MemPlace} {t e : TypeId} {α : Type} (k : Nat) (ec : α → List Value) (P : α → Prop) (d : α) (hk : 0 < k)
  (ht : Tryz.prog.underlying t = some (.slice e)) (hc : Tryz.prog.cellsOf e = k) (hl : ∀ x, (ec x).length = k)
  (one : ∀ (l : List Value) (n : Nat) (y : DataW H × List MemPlace), l.length = k → DataW.trod enc Tryz.prog W base (fun _ => true) held n e l = some y → ∃ p : α, P p ∧ l = ec p)
  (h : DataW.trod enc Tryz.prog W base (fun _ => true) held fuel t [.slice a len cap] = some x) : ∃ os : List α, RdZ k ec W (.slice a len cap) os ∧ ∀ o ∈ os, P o := by
 rcases Deep.open_slice ht h with ⟨hcs, _⟩ | ⟨a', l, c, m, n, D, Pl, hcs, hb, hll, hm, hmm, _, hx⟩
 ·simp at hcs
  obtain ⟨rfl, rfl, rfl⟩ := hcs
  exact ⟨[], RdZ.nil _ _ _, by simp⟩
 ·simp at hcs
  obtain ⟨rfl, rfl, rfl⟩ := hcs
  have each : ∀ i, i < len → ∃ o : α, P o ∧ ∀ j u, (ec o)[j]? = some u → W.cell? (a'.add (i * k + j)) = some u := by
   intro i hi
   obtain ⟨cs', h1, h2⟩ := hx i (by rw [hmm]; simp; omega)
   rw [hc] at h1
   obtain ⟨_, hlen, hcell⟩ := World.cells?_some h1
   obtain ⟨c, hc, er⟩ := one cs' n _ hlen h2
   refine ⟨c, hc, fun j u hu => ?_⟩
   have hj : j < k := by
    have := (List.getElem?_eq_some_iff.1 hu).1
    rw [hl] at this; exact this
   have q := hcell j hj
   rw [Deep.add_add] at q
   rw [q, er]
   exact hu
  have hin : Inhabited α := ⟨d⟩
  obtain ⟨f, hf⟩ := Deep.choose_lt each
  refine ⟨(List.range len).map f, ⟨⟨some a', cap, by simp, by simpa using hll, hm, fun hne => ?_⟩, fun c hv => by cases hv⟩, fun o ho => ?_⟩
  ·have hp : 0 < len := by
    rcases Nat.eq_zero_or_pos len with h0 | h0
    ·subst h0; simp at hne
    ·exact h0
   obtain ⟨b, off, spot⟩ := a'
   obtain ⟨u0, hu0⟩ : ∃ u0, (ec (f 0))[0]? = some u0 := ⟨_, List.getElem?_eq_getElem (by rw [hl]; exact hk)⟩
   have q0 := (hf 0 hp).2 0 _ hu0
   have hspot : spot = none := by simpa [Addr.add] using World.cell?_spot q0
   subst hspot
   have hadd : ∀ j, (⟨b, off, none⟩ : Addr).add j = ⟨b, off + j, none⟩ := fun j => by unfold Addr.add; split <;> simp_all
   rw [hadd] at q0
   refine ⟨b, off, rfl, World.block_lt_of_cell? _ _ q0, fun i x j u hi hj => ?_⟩
   have hil : i < len := by have := (List.getElem?_eq_some_iff.1 hi).1; simpa using this
   rw [List.getElem?_map, List.getElem?_range hil] at hi
   simp only [Option.map_some, Option.some.injEq] at hi
   subst hi
   have q := (hf i hil).2 j u hj
   rw [hadd, ← Nat.add_assoc] at q
   exact q
  ·obtain ⟨i, hi, rfl⟩ := List.mem_map.1 ho
   exact (hf i (List.mem_range.1 hi)).1
theorem eops_of {H : Type} {enc : TypeId × Value → H} {W : World} {base : Nat} {held : Bool} {fuel : Nat} {a : Option Addr} {len cap : Nat} {x : DataW H × List MemPlace}
  (h : DataW.trod enc Tryz.prog W base (fun _ => true) held fuel 34 [.slice a len cap] = some x) : ∃ os, EopsAt W a len cap os :=
 erows_of 5 eopE EopOk eop0 (by decide) Tryz.underlying34 (by kernel_rfl) eop_len (fun l n y h1 h2 => eop_ofL h1 h2) h
end Go.Proofs.YtiplhhaehbjghaaGreat
