/- What a statement is handed: texts, numbers, calls. -/
import Derived.Test.YtckcdmkgmbicfaaGreatMW1
import Derived.Lib.SmallJoins
import Derived.Deep.Slices
import Derived.SizedLaws
namespace Go.Proofs.YtckcdmkgmbicfaaGreat
open Go.RowKit
set_option linter.unusedVariables false
set_option maxRecDepth 4000

/-- Each text is one that memory may hold. -/
def TxsOk (l : List ByteArray) : Prop := ∀ x ∈ l, x.size ≤ 140737488351232

theorem weightsAll_mem {H : Type} {e : TypeId} {n : Nat} : ∀ {l : List (DataW H)} {d : DataW H}, d ∈ l → n ∈ d.weights Tryz.prog e → n ∈ DataW.weightsAll Tryz.prog e l
  | d0 :: l, d, hd, hn => by
    simp only [DataW.weightsAll, List.mem_append]
    rcases List.mem_cons.1 hd with rfl | h
    · exact .inl hn
    · exact .inr (weightsAll_mem h hn)

set_option maxRecDepth 100000 in
theorem texts_of {H : Type} {enc : TypeId × Value → H} {W : World} {base : Nat} {held : Bool} {fuel : Nat} {v : Value} {x : DataW H × List MemPlace}
    (h : DataW.trod enc Tryz.prog W base (fun _ => true) held fuel 42 [v] = some x) (hsz : ∀ n ∈ x.1.weights Tryz.prog 42, n ≤ reachBytes) : ∃ l b, TxsOk l ∧ RdT [b] W v l ∧ (0 < l.length → b < W.heap.size) ∧ l.length ≤ 8796093021952 := by
  rcases Deep.open_slice1 Tryz.underlying42 (by kernel_rfl) h with ⟨hcs, _⟩ | ⟨a', len, c, m, n, V, D, Pl, hcs, hb, hl, hm, hmm, hxe, hx⟩
  · simp at hcs
    subst hcs
    exact ⟨[], 0, (fun x hx => by cases hx), RdT.nil _ _, (fun h => by simp at h), by simp⟩
  · simp at hcs
    subst hcs
    have each : ∀ i, i < len → ∃ z : ByteArray, z.size ≤ 140737488351232 ∧ W.cell? (a'.add i) = some (.string z) := fun i hi => by
      obtain ⟨q, t⟩ := hx i (by rw [hmm]; simp; omega)
      obtain ⟨z, e, hd, wz⟩ := DataW.trod_string Tryz.underlying9 t
      simp only [List.cons.injEq, and_true] at e
      have hD : D i = .lit (.string z.data.toList) := by
        have := congrArg Prod.fst hd
        simpa using this
      have hw := hsz z.size (by
        rw [hxe]
        simp only [DataW.weights, Tryz.underlying42, List.mem_cons, List.mem_append]
        refine .inr (.inl (weightsAll_mem (d := D i) (List.mem_map.2 ⟨i, List.mem_range.2 hi, rfl⟩) ?_))
        rw [hD]
        simp only [DataW.weights, List.mem_singleton, Array.length_toList]
        rfl)
      exact ⟨z, hw, by rw [q, e]⟩
    have hwl : len * 16 ≤ 140737488351232 := by
      have hw := hsz _ (by
        rw [hxe]
        simp only [DataW.weights, Tryz.underlying42, List.mem_cons]
        exact .inl rfl)
      have hbt : Tryz.prog.bytesOf 9 = 16 := by kernel_rfl
      rw [hbt, List.length_map, List.length_range] at hw
      have hrb : reachBytes = 140737488351232 := rfl
      rw [hrb] at hw
      generalize (List.map (fun j => D (len + j)) (List.range (m - len))).length = z at hw
      omega
    have hin : Inhabited ByteArray := ⟨⟨#[]⟩⟩
    obtain ⟨f, hf⟩ := Deep.choose_lt each
    have hlen : ((List.range len).map f).length = len := by simp
    refine ⟨(List.range len).map f, a'.block, fun x hx => ?_, ⟨some a', c, by rw [hlen], by rw [hlen]; exact hl, hm, (by intro e; cases e), fun hp => ?_⟩, fun hp => ?_, by rw [hlen]; omega⟩
    · obtain ⟨i, hi, rfl⟩ := List.mem_map.1 hx
      exact (hf i (List.mem_range.1 hi)).1
    · rw [hlen] at hp
      obtain ⟨b, off, spot⟩ := a'
      have q0 := (hf 0 hp).2
      have hspot : spot = none := by simpa [Addr.add] using World.cell?_spot q0
      subst hspot
      have hadd : ∀ j, (⟨b, off, none⟩ : Addr).add j = ⟨b, off + j, none⟩ := fun j => by unfold Addr.add; split <;> simp_all
      rw [hadd] at q0
      refine ⟨b, off, rfl, World.block_lt_of_cell? _ _ q0, by simp, fun i x hi => ?_⟩
      rw [List.getElem?_map] at hi
      rcases Nat.lt_or_ge i len with hlt | hge
      · rw [List.getElem?_range hlt] at hi
        simp only [Option.map_some, Option.some.injEq] at hi
        subst hi
        have := (hf i hlt).2
        rw [hadd] at this
        exact this
      · rw [List.getElem?_eq_none (by simpa using hge)] at hi
        cases hi
    · rw [hlen] at hp
      obtain ⟨b, off, spot⟩ := a'
      have q0 := (hf 0 hp).2
      have hspot : spot = none := by simpa [Addr.add] using World.cell?_spot q0
      subst hspot
      have hadd : (⟨b, off, none⟩ : Addr).add 0 = ⟨b, off, none⟩ := by unfold Addr.add; split <;> simp_all
      rw [hadd] at q0
      exact World.block_lt_of_cell? _ _ q0

/-- A call, as it is handed in. -/
structure WopV where
  f0 : Int
  f1 : Int
  f2 : Int
  v3 : Value
  f3 : List ByteArray
  b3 : Nat

def wop0 : WopV := ⟨0, 0, 0, .slice none 0 0, [], 0⟩

/-- What its parts are. -/
structure WopOk (o : WopV) : Prop where
  a0 : -9223372036854775808 ≤ o.f0 ∧ o.f0 ≤ 9223372036854775807
  a1 : -9223372036854775808 ≤ o.f1 ∧ o.f1 ≤ 9223372036854775807
  a2 : -9223372036854775808 ≤ o.f2 ∧ o.f2 ≤ 9223372036854775807
  a3 : TxsOk o.f3
  a4 : o.f3.length ≤ 8796093021952

/-- One of them lies at a place. -/
structure WopAt (w : World) (b off : Nat) (o : WopV) : Prop where
  c0 : w.cell? ⟨b, off, none⟩ = some (.int .i64 o.f0)
  c1 : w.cell? ⟨b, off + 1, none⟩ = some (.int .i64 o.f1)
  c2 : w.cell? ⟨b, off + 2, none⟩ = some (.int .i64 o.f2)
  c3 : w.cell? ⟨b, off + 3, none⟩ = some o.v3
  rd : RdT [o.b3] w o.v3 o.f3
  lt : 0 < o.f3.length → o.b3 < w.heap.size

/-- A slice of them. -/
def WopsAt (w : World) (a : Option Addr) (len cap : Nat) (os : List WopV) : Prop :=
  os.length = len ∧ len ≤ cap ∧ cap ≤ maxLen ∧ (∀ o ∈ os, WopOk o) ∧ (0 < len → ∃ b off, a = some ⟨b, off, none⟩ ∧ b < w.heap.size ∧ ∀ i, i < len → WopAt w b (off + i * 4) (os.getD i wop0))

theorem WopAt.below {w w' : World} {b off : Nat} {o : WopV} (h : WopAt w b off o) (hb : b < w.heap.size) (hB : Below w.heap.size w w') : WopAt w' b off o :=
  ⟨(World.cell?_of_block (hB.block b hb)).trans h.c0, (World.cell?_of_block (hB.block b hb)).trans h.c1, (World.cell?_of_block (hB.block b hb)).trans h.c2, (World.cell?_of_block (hB.block b hb)).trans h.c3, h.rd.below hB, fun hp => Nat.lt_of_lt_of_le (h.lt hp) hB.size⟩

set_option maxRecDepth 100000 in
theorem wopsAt_of {H : Type} {enc : TypeId × Value → H} {W : World} {base : Nat} {held : Bool} {fuel : Nat} {a : Option Addr} {len cap : Nat} {x : DataW H × List MemPlace}
    (h : DataW.trod enc Tryz.prog W base (fun _ => true) held fuel 37 [.slice a len cap] = some x) (hsz : ∀ n ∈ x.1.weights Tryz.prog 37, n ≤ reachBytes) : ∃ os, WopsAt W a len cap os := by
  rcases Deep.open_slice Tryz.underlying37 h with ⟨hcs, _⟩ | ⟨a', l, c, m, n, D, Pl, hcs, hb, hl, hm, hmm, hxe, hx⟩
  · simp at hcs
    obtain ⟨rfl, rfl, rfl⟩ := hcs
    exact ⟨[], rfl, Nat.le_refl _, Nat.zero_le _, by simp, fun h => by omega⟩
  · simp at hcs
    obtain ⟨rfl, rfl, rfl⟩ := hcs
    have each : ∀ i, i < len → ∃ o : WopV, (WopOk o ∧ RdT [o.b3] W o.v3 o.f3 ∧ (0 < o.f3.length → o.b3 < W.heap.size)) ∧ W.cell? (a'.add (i * 4 + 0)) = some (.int .i64 o.f0) ∧ W.cell? (a'.add (i * 4 + 1)) = some (.int .i64 o.f1) ∧ W.cell? (a'.add (i * 4 + 2)) = some (.int .i64 o.f2) ∧ W.cell? (a'.add (i * 4 + 3)) = some o.v3 := by
      intro i hi
      obtain ⟨cs', h1, h2⟩ := hx i (by rw [hmm]; simp; omega)
      rw [show Tryz.prog.cellsOf 44 = 4 from by kernel_rfl] at h1
      obtain ⟨_, hlen, hcell⟩ := World.cells?_some h1
      obtain ⟨xs, k, hk, hxy, _, hxl, hf⟩ := DataW.trod_struct Tryz.underlying44 h2
      have hxl : xs.length = 4 := hxl
      clear hk h1 h2
      match xs, hxl, cs', hlen with
      | [y0, y1, y2, y3], _, [v0, v1, v2, v3], _ =>
        have g0 : DataW.trod enc Tryz.prog W base (fun _ => true) held k 3 (([v0, v1, v2, v3].drop 0).take (Tryz.prog.cellsOf 3)) = some y0 := hf 0 _ rfl
        have g1 : DataW.trod enc Tryz.prog W base (fun _ => true) held k 3 (([v0, v1, v2, v3].drop 1).take (Tryz.prog.cellsOf 3)) = some y1 := hf 1 _ rfl
        have g2 : DataW.trod enc Tryz.prog W base (fun _ => true) held k 3 (([v0, v1, v2, v3].drop 2).take (Tryz.prog.cellsOf 3)) = some y2 := hf 2 _ rfl
        have g3 : DataW.trod enc Tryz.prog W base (fun _ => true) held k 42 (([v0, v1, v2, v3].drop 3).take (Tryz.prog.cellsOf 42)) = some y3 := hf 3 _ rfl
        rw [show Tryz.prog.cellsOf 3 = 1 from by kernel_rfl] at g0 g1 g2
        rw [show Tryz.prog.cellsOf 42 = 1 from by kernel_rfl] at g3
        simp only [List.drop_zero, List.drop_succ_cons, List.take_succ_cons, List.take_zero] at g0 g1 g2 g3
        obtain ⟨z0, e0, _, w0⟩ := DataW.trod_int Tryz.underlying3 g0
        obtain ⟨z1, e1, _, w1⟩ := DataW.trod_int Tryz.underlying3 g1
        obtain ⟨z2, e2, _, w2⟩ := DataW.trod_int Tryz.underlying3 g2
        have hw3 : ∀ q ∈ y3.1.weights Tryz.prog 42, q ≤ reachBytes := fun q hq => by
          refine hsz q ?_
          rw [hxe]
          simp only [DataW.weights, Tryz.underlying37, List.mem_cons, List.mem_append]
          refine .inr (.inl (weightsAll_mem (d := D i) (List.mem_map.2 ⟨i, List.mem_range.2 hi, rfl⟩) ?_))
          have hDi := congrArg Prod.fst hxy
          have := DataW.weights_mem_each (P := Tryz.prog) (ts := [3, 3, 3, 42]) (ds := [y0.1, y1.1, y2.1, y3.1]) (j := 3) rfl rfl q hq
          have hDi' : D i = .agg [y0.1, y1.1, y2.1, y3.1] := by simpa using hDi
          rw [hDi']
          simp only [DataW.weights, Tryz.underlying44]
          exact this
        obtain ⟨l3, b3, k3, r3, lt3, len3⟩ := texts_of g3 hw3
        simp only [List.cons.injEq, and_true] at e0 e1 e2
        subst e0 e1 e2
        have q0 := hcell 0 (by omega)
        have q1 := hcell 1 (by omega)
        have q2 := hcell 2 (by omega)
        have q3 := hcell 3 (by omega)
        rw [Deep.add_add] at q0 q1 q2 q3
        exact ⟨⟨z0, z1, z2, v3, l3, b3⟩, ⟨⟨bounds_i64 w0, bounds_i64 w1, bounds_i64 w2, k3, len3⟩, r3, lt3⟩, q0, q1, q2, q3⟩
    have hin : Inhabited WopV := ⟨wop0⟩
    obtain ⟨f, hf⟩ := Deep.choose_lt each
    refine ⟨(List.range len).map f, by simp, hl, hm, fun o ho => ?_, fun hp => ?_⟩
    · obtain ⟨i, hi, rfl⟩ := List.mem_map.1 ho
      exact (hf i (List.mem_range.1 hi)).1.1
    · obtain ⟨b, off, spot⟩ := a'
      have q0 := (hf 0 hp).2.1
      have hspot : spot = none := by simpa [Addr.add] using World.cell?_spot q0
      subst hspot
      have hadd : ∀ j, (⟨b, off, none⟩ : Addr).add j = ⟨b, off + j, none⟩ := fun j => by unfold Addr.add; split <;> simp_all
      rw [hadd] at q0
      refine ⟨b, off, rfl, World.block_lt_of_cell? _ _ q0, fun i hi => ?_⟩
      obtain ⟨hh, q0, q1, q2, q3⟩ := hf i hi
      rw [hadd, ← Nat.add_assoc] at q0 q1 q2 q3
      rw [List.getD_eq_getElem?_getD, List.getElem?_map, List.getElem?_range hi]
      exact ⟨q0, q1, q2, q3, hh.2.1, hh.2.2⟩

end Go.Proofs.YtckcdmkgmbicfaaGreat
