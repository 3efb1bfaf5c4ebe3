/- A node that is handed in (but for the bound on its pairs). -/
import Derived.Test.YthgdbjpefjjeaaaGreatQBase
import Derived.Lib.SmallJoins
import Derived.Deep.Slices
namespace Go.Proofs.YthgdbjpefjjeaaaGreat
open Go.RowKit
set_option linter.unusedVariables false

/-- A row out of what each of its elements holds. -/
theorem rdE_mk {α : Type} {k : Nat} {enc : α → List Value} {Good : α → Prop} (d : α) (h0 : ∀ x, ∃ u, (enc x)[0]? = some u) {W : World} {a' : Addr} {len cap : Nat} (hl : len ≤ cap) (hm : cap ≤ maxLen)
    (each : ∀ i, i < len → ∃ x, Good x ∧ ∀ j u, (enc x)[j]? = some u → W.cell? (a'.add (i * k + j)) = some u) :
    ∃ l : List α, l.length = len ∧ (∀ x ∈ l, Good x) ∧ RdE k enc W (.slice (some a') len cap) l := by
  have hin : Inhabited α := ⟨d⟩
  obtain ⟨f, hf⟩ := Deep.choose_lt each
  have hlen : ((List.range len).map f).length = len := by simp
  refine ⟨(List.range len).map f, hlen, fun x hx => ?_, ⟨some a', cap, by rw [hlen], by rw [hlen]; exact hl, hm, fun hne => ?_⟩⟩
  · obtain ⟨i, hi, rfl⟩ := List.mem_map.1 hx
    exact (hf i (List.mem_range.1 hi)).1
  · have hp : 0 < len := by
      rcases Nat.eq_zero_or_pos len with e | e
      · subst e; simp at hne
      · exact e
    obtain ⟨b, off, spot⟩ := a'
    obtain ⟨u, hu⟩ := h0 (f 0)
    have q0 := (hf 0 hp).2 0 u hu
    have hspot : spot = none := by simpa [Addr.add] using World.cell?_spot q0
    subst hspot
    have hadd : ∀ j, (⟨b, off, none⟩ : Addr).add j = ⟨b, off + j, none⟩ := fun j => by unfold Addr.add; split <;> simp_all
    rw [hadd] at q0
    refine ⟨b, off, rfl, World.block_lt_of_cell? _ _ q0, fun i x j u hi hj => ?_⟩
    rw [List.getElem?_map] at hi
    rcases Nat.lt_or_ge i len with h | h
    · rw [List.getElem?_range h] at hi
      simp only [Option.map_some, Option.some.injEq] at hi
      subst hi
      have := (hf i h).2 j u hj
      rw [hadd, ← Nat.add_assoc] at this
      exact this
    · rw [List.getElem?_eq_none (by simpa using h)] at hi
      cases hi

set_option maxRecDepth 100000 in
theorem strings_of {H : Type} {enc : TypeId × Value → H} {W : World} {base : Nat} {held : Bool} {fuel : Nat} {v : Value} {x : DataW H × List MemPlace}
    (h : DataW.trod enc Tryz.prog W base (fun _ => true) held fuel 38 [v] = some x) : ∃ a n c l, v = .slice a n c ∧ l.length = n ∧ RdS W (.slice a n c) l := by
  rcases Deep.open_slice1 Tryz.underlying38 (by kernel_rfl) h with ⟨hcs, _⟩ | ⟨a', l, c, m, n, V, D, Pl, hcs, hb, hl, hm, hmm, _, hx⟩
  · simp at hcs
    exact ⟨none, 0, 0, [], hcs, rfl, RdE.nil _ _ _⟩
  · simp at hcs
    obtain ⟨ls, h1, _, h3⟩ := rdE_mk (α := ByteArray) (k := 1) (enc := strE) (Good := fun _ => True) ⟨#[]⟩ (fun x => ⟨_, rfl⟩) (W := W) (a' := a') hl hm (fun i hi => by
      obtain ⟨q, t⟩ := hx i (by rw [hmm]; simp; omega)
      obtain ⟨z, e, _, _⟩ := DataW.trod_string Tryz.underlying9 t
      simp only [List.cons.injEq, and_true] at e
      refine ⟨z, trivial, fun j u hu => ?_⟩
      match j, hu with
      | 0, hu =>
        simp [strE] at hu
        rw [Nat.mul_one, Nat.add_zero, q, e, hu])
    exact ⟨_, _, _, ls, hcs, h1, h3⟩

set_option maxRecDepth 100000 in
theorem numbers_of {H : Type} {enc : TypeId × Value → H} {W : World} {base : Nat} {held : Bool} {fuel : Nat} {v : Value} {x : DataW H × List MemPlace}
    (h : DataW.trod enc Tryz.prog W base (fun _ => true) held fuel 36 [v] = some x) : ∃ a n c l, v = .slice a n c ∧ l.length = n ∧ (∀ k ∈ l, 0 ≤ k ∧ k ≤ 4294967295) ∧ RdU W (.slice a n c) l := by
  rcases Deep.open_slice1 Tryz.underlying36 (by kernel_rfl) h with ⟨hcs, _⟩ | ⟨a', l, c, m, n, V, D, Pl, hcs, hb, hl, hm, hmm, _, hx⟩
  · simp at hcs
    exact ⟨none, 0, 0, [], hcs, rfl, by simp, RdE.nil _ _ _⟩
  · simp at hcs
    obtain ⟨ls, h1, h2, h3⟩ := rdE_mk (α := Int) (k := 1) (enc := u32E) (Good := fun k => 0 ≤ k ∧ k ≤ 4294967295) 0 (fun x => ⟨_, rfl⟩) (W := W) (a' := a') hl hm (fun i hi => by
      obtain ⟨q, t⟩ := hx i (by rw [hmm]; simp; omega)
      obtain ⟨z, e, _, wz⟩ := DataW.trod_int Tryz.underlying35 t
      simp only [List.cons.injEq, and_true] at e
      refine ⟨z, bounds_u32 wz, fun j u hu => ?_⟩
      match j, hu with
      | 0, hu =>
        simp [u32E] at hu
        rw [Nat.mul_one, Nat.add_zero, q, e, hu])
    exact ⟨_, _, _, ls, hcs, h1, h2, h3⟩

set_option maxRecDepth 100000 in
theorem pairs_of {H : Type} {enc : TypeId × Value → H} {W : World} {base : Nat} {held : Bool} {fuel : Nat} {v : Value} {x : DataW H × List MemPlace}
    (h : DataW.trod enc Tryz.prog W base (fun _ => true) held fuel 37 [v] = some x) : ∃ a n c l, v = .slice a n c ∧ l.length = n ∧ RdP W (.slice a n c) l := by
  rcases Deep.open_slice Tryz.underlying37 h with ⟨hcs, _⟩ | ⟨a', l, c, m, n, D, Pl, hcs, hb, hl, hm, hmm, _, hx⟩
  · simp at hcs
    exact ⟨none, 0, 0, [], hcs, rfl, RdE.nil _ _ _⟩
  · simp at hcs
    obtain ⟨ls, h1, _, h3⟩ := rdE_mk (α := ByteArray × ByteArray) (k := 2) (enc := kvE) (Good := fun _ => True) (⟨#[]⟩, ⟨#[]⟩) (fun x => ⟨_, rfl⟩) (W := W) (a' := a') hl hm (fun i hi => by
      obtain ⟨cs', k1, k2⟩ := hx i (by rw [hmm]; simp; omega)
      rw [show Tryz.prog.cellsOf 85 = 2 from by kernel_rfl] at k1
      obtain ⟨_, hlen, hcell⟩ := World.cells?_some k1
      obtain ⟨xs, k, hk, hxy, _, hxl, hf⟩ := DataW.trod_struct Tryz.underlying85 k2
      have hxl : xs.length = 2 := hxl
      clear hxy hk k1 k2
      match xs, hxl, cs', hlen with
      | [y0, y1], _, [v0, v1], _ =>
        have g0 : DataW.trod enc Tryz.prog W base (fun _ => true) held k 9 (([v0, v1].drop 0).take (Tryz.prog.cellsOf 9)) = some y0 := hf 0 _ rfl
        have g1 : DataW.trod enc Tryz.prog W base (fun _ => true) held k 9 (([v0, v1].drop 1).take (Tryz.prog.cellsOf 9)) = some y1 := hf 1 _ rfl
        rw [show Tryz.prog.cellsOf 9 = 1 from by kernel_rfl] at g0 g1
        simp only [List.drop_zero, List.drop_succ_cons, List.take_succ_cons, List.take_zero] at g0 g1
        obtain ⟨z0, e0, _, w0⟩ := DataW.trod_string Tryz.underlying9 g0
        obtain ⟨z1, e1, _, w1⟩ := DataW.trod_string Tryz.underlying9 g1
        simp only [List.cons.injEq, and_true] at e0 e1
        subst e0 e1
        have q0 := hcell 0 (by omega)
        have q1 := hcell 1 (by omega)
        rw [Deep.add_add] at q0 q1
        refine ⟨(z0, z1), trivial, fun j u hu => ?_⟩
        match j, hu with
        | 0, hu => simp [kvE] at hu; rw [← hu]; exact q0
        | 1, hu => simp [kvE] at hu; rw [← hu]; exact q1)
    exact ⟨_, _, _, ls, hcs, h1, h3⟩

set_option maxRecDepth 100000 in
theorem node_of {H : Type} {enc : TypeId × Value → H} {W : World} {base : Nat} {held : Bool} {fuel : Nat} {cs : Array Value} {x : DataW H × List MemPlace} (hc : cs.size = Tryz.prog.cellsOf 40)
    (h : DataW.trod enc Tryz.prog W base (fun _ => true) held fuel 40 (Value.agg cs).cells.toList = some x) :
    ∃ (n : Nd) (a1 : Option Addr) (c1 : Nat) (a2 : Option Addr) (c2 : Nat) (a3 : Option Addr) (c3 : Nat), NdOk n ∧ cs = #[.bool n.leaf, .slice a1 n.pairs.length c1, .slice a2 n.keys.length c2, .slice a3 n.kids.length c3] ∧
      RdP W (.slice a1 n.pairs.length c1) n.pairs ∧ RdS W (.slice a2 n.keys.length c2) n.keys ∧ RdU W (.slice a3 n.kids.length c3) n.kids := by
  obtain ⟨xs, k, hk, hxy, _, hxl, hf⟩ := DataW.trod_struct Tryz.underlying40 h
  have hxl : xs.length = 4 := hxl
  have hlen : cs.toList.length = 4 := by rw [Array.length_toList, hc]; kernel_rfl
  clear hxy hk h
  obtain ⟨l⟩ := cs
  simp only [Value.cells] at hf
  match xs, hxl, l, hlen with
  | [y0, y1, y2, y3], _, [v0, v1, v2, v3], _ =>
    have g0 : DataW.trod enc Tryz.prog W base (fun _ => true) held k 4 (([v0, v1, v2, v3].drop 0).take (Tryz.prog.cellsOf 4)) = some y0 := hf 0 _ rfl
    have g1 : DataW.trod enc Tryz.prog W base (fun _ => true) held k 37 (([v0, v1, v2, v3].drop 1).take (Tryz.prog.cellsOf 37)) = some y1 := hf 1 _ rfl
    have g2 : DataW.trod enc Tryz.prog W base (fun _ => true) held k 38 (([v0, v1, v2, v3].drop 2).take (Tryz.prog.cellsOf 38)) = some y2 := hf 2 _ rfl
    have g3 : DataW.trod enc Tryz.prog W base (fun _ => true) held k 36 (([v0, v1, v2, v3].drop 3).take (Tryz.prog.cellsOf 36)) = some y3 := hf 3 _ rfl
    rw [show Tryz.prog.cellsOf 4 = 1 from by kernel_rfl] at g0
    rw [show Tryz.prog.cellsOf 37 = 1 from by kernel_rfl] at g1
    rw [show Tryz.prog.cellsOf 38 = 1 from by kernel_rfl] at g2
    rw [show Tryz.prog.cellsOf 36 = 1 from by kernel_rfl] at g3
    simp only [List.drop_zero, List.drop_succ_cons, List.take_succ_cons, List.take_zero] at g0 g1 g2 g3
    obtain ⟨z0, e0, _⟩ := DataW.trod_bool Tryz.underlying4 g0
    obtain ⟨a1, n1, c1, l1, rfl, rfl, r1⟩ := pairs_of g1
    obtain ⟨a2, n2, c2, l2, rfl, rfl, r2⟩ := strings_of g2
    obtain ⟨a3, n3, c3, l3, rfl, rfl, b3, r3⟩ := numbers_of g3
    simp only [List.cons.injEq, and_true] at e0
    subst e0
    exact ⟨⟨z0, l1, l2, l3⟩, a1, c1, a2, c2, a3, c3, b3, rfl, r1, r2, r3⟩

end Go.Proofs.YthgdbjpefjjeaaaGreat
