/- What a statement is handed: a row of fields. -/
import Derived.Test.YtkmckipfjahlcaaGreatInA
import Derived.Test.YtkmckipfjahlcaaGreatInC0
import Derived.Lib.SmallJoins
import Derived.Deep.Slices
namespace Go.Proofs.YtkmckipfjahlcaaGreat
open Go.RowKit
set_option maxRecDepth 100000
set_option linter.unusedVariables false
set_option linter.unusedSimpArgs false

/-- Rows that are handed in, whatever their elements. -/
theorem rows_of {H : Type} {enc : TypeId × Value → H} {W : World} {base : Nat} {held : Bool} {fuel : Nat} {a : Option Addr} {len cap : Nat} {x : DataW H × List MemPlace} {t e : TypeId} {α : Type} (k : Nat) (ec : α → List Value) (P : α → Prop) (d : α) (hk : 0 < k)
    (ht : Tryz.prog.underlying t = some (.slice e)) (hc : Tryz.prog.cellsOf e = k) (hl : ∀ x, (ec x).length = k)
    (one : ∀ (l : List Value) (n : Nat) (y : DataW H × List MemPlace), l.length = k → DataW.trod enc Tryz.prog W base (fun _ => true) held n e l = some y → ∃ p : α, P p ∧ l = ec p)
    (h : DataW.trod enc Tryz.prog W base (fun _ => true) held fuel t [.slice a len cap] = some x) : ∃ os : List α, RdZ k ec W (.slice a len cap) os ∧ ∀ o ∈ os, P o := by
  rcases Deep.open_slice ht h with ⟨hcs, _⟩ | ⟨a', l, c, m, n, D, Pl, hcs, hb, hll, hm, hmm, _, hx⟩
  · simp at hcs
    obtain ⟨rfl, rfl, rfl⟩ := hcs
    exact ⟨[], RdZ.nil _ _ _, by simp⟩
  · simp at hcs
    obtain ⟨rfl, rfl, rfl⟩ := hcs
    have each : ∀ i, i < len → ∃ o : α, P o ∧ ∀ j u, (ec o)[j]? = some u → W.cell? (a'.add (i * k + j)) = some u := by
      intro i hi
      obtain ⟨cs', h1, h2⟩ := hx i (by rw [hmm]; simp; omega)
      rw [hc] at h1
      obtain ⟨_, hlen, hcell⟩ := World.cells?_some h1
      obtain ⟨c, hc, er⟩ := one cs' n _ hlen h2
      refine ⟨c, hc, fun j u hu => ?_⟩
      have hj : j < k := by
        have := (List.getElem?_eq_some_iff.1 hu).1
        rw [hl] at this; exact this
      have q := hcell j hj
      rw [Deep.add_add] at q
      rw [q, er]
      exact hu
    have hin : Inhabited α := ⟨d⟩
    obtain ⟨f, hf⟩ := Deep.choose_lt each
    refine ⟨(List.range len).map f, ⟨⟨some a', cap, by simp, by simpa using hll, hm, fun hne => ?_⟩, fun c hv => by cases hv⟩, fun o ho => ?_⟩
    · have hp : 0 < len := by
        rcases Nat.eq_zero_or_pos len with h0 | h0
        · subst h0; simp at hne
        · exact h0
      obtain ⟨b, off, spot⟩ := a'
      obtain ⟨u0, hu0⟩ : ∃ u0, (ec (f 0))[0]? = some u0 := ⟨_, List.getElem?_eq_getElem (by rw [hl]; exact hk)⟩
      have q0 := (hf 0 hp).2 0 _ hu0
      have hspot : spot = none := by simpa [Addr.add] using World.cell?_spot q0
      subst hspot
      have hadd : ∀ j, (⟨b, off, none⟩ : Addr).add j = ⟨b, off + j, none⟩ := fun j => by unfold Addr.add; split <;> simp_all
      rw [hadd] at q0
      refine ⟨b, off, rfl, World.block_lt_of_cell? _ _ q0, fun i x j u hi hj => ?_⟩
      have hil : i < len := by have := (List.getElem?_eq_some_iff.1 hi).1; simpa using this
      rw [List.getElem?_map, List.getElem?_range hil] at hi
      simp only [Option.map_some, Option.some.injEq] at hi
      subst hi
      have q := (hf i hil).2 j u hj
      rw [hadd, ← Nat.add_assoc] at q
      exact q
    · obtain ⟨i, hi, rfl⟩ := List.mem_map.1 ho
      exact (hf i (List.mem_range.1 hi)).1

theorem fi_ofL {H : Type} {enc : TypeId × Value → H} {W : World} {base : Nat} {held : Bool} {fuel : Nat} {l : List Value} {x : DataW H × List MemPlace} (hlen : l.length = 2)
    (h : DataW.trod enc Tryz.prog W base (fun _ => true) held fuel 43 l = some x) : ∃ p : Int × Int, (-9223372036854775808 ≤ p.2 ∧ p.2 ≤ 9223372036854775807) ∧ l = fiE p := by
  obtain ⟨xs, k, hk, hxy, _, hxl, hf⟩ := DataW.trod_struct Tryz.underlying43 h
  have hxl : xs.length = 2 := hxl
  clear hxy hk h
  match xs, hxl, l, hlen with
  | [y0, y1], _, [v0, v1], _ =>
    have g0 : DataW.trod enc Tryz.prog W base (fun _ => true) held k 3 (([v0, v1].drop 0).take (Tryz.prog.cellsOf 3)) = some y0 := hf 0 _ rfl
    have g1 : DataW.trod enc Tryz.prog W base (fun _ => true) held k 3 (([v0, v1].drop 1).take (Tryz.prog.cellsOf 3)) = some y1 := hf 1 _ rfl
    rw [show Tryz.prog.cellsOf 3 = 1 from by kernel_rfl] at g0 g1
    simp only [List.drop_zero, List.drop_succ_cons, List.take_succ_cons, List.take_zero] at g0 g1
    obtain ⟨z0, e0, _, w0⟩ := DataW.trod_int Tryz.underlying3 g0
    obtain ⟨z1, e1, _, w1⟩ := DataW.trod_int Tryz.underlying3 g1
    simp only [List.cons.injEq, and_true] at e0 e1
    subst e0 e1
    obtain ⟨b0, b1⟩ := bounds_i64 w1
    exact ⟨(z0, z1), ⟨b0, b1⟩, rfl⟩
theorem fis_of {H : Type} {enc : TypeId × Value → H} {W : World} {base : Nat} {held : Bool} {fuel : Nat} {a : Option Addr} {len cap : Nat} {x : DataW H × List MemPlace}
    (h : DataW.trod enc Tryz.prog W base (fun _ => true) held fuel 29 [.slice a len cap] = some x) : ∃ os : List (Int × Int), RdZ 2 fiE W (.slice a len cap) os ∧ fiOk os :=
  rows_of 2 fiE (fun p => -9223372036854775808 ≤ p.2 ∧ p.2 ≤ 9223372036854775807) (0, 0) (by decide) Tryz.underlying29 (by kernel_rfl) fi_len (fun l n y hl hy => fi_ofL hl hy) h

end Go.Proofs.YtkmckipfjahlcaaGreat
