/- Pairs that a statement is handed. -/
import Derived.Test.YtkmckipfjahlcaaGreatVwStore
import Derived.Test.YtkmckipfjahlcaaGreatPArg
import Derived.Lib.SmallJoins
import Derived.Deep.Slices
namespace Go.Proofs.YtkmckipfjahlcaaGreat
open Go.RowKit
set_option linter.unusedVariables false
set_option linter.unusedSimpArgs false
set_option maxRecDepth 100000

/-- Strings that can be. -/
def KvsOk (l : List (ByteArray × ByteArray)) : Prop := ∀ p ∈ l, p.1.size ≤ maxLen ∧ p.2.size ≤ maxLen

theorem kvs_of {H : Type} {enc : TypeId × Value → H} {W : World} {base : Nat} {held : Bool} {fuel : Nat} {a : Option Addr} {len cap : Nat} {x : DataW H × List MemPlace}
    (h : DataW.trod enc Tryz.prog W base (fun _ => true) held fuel 22 [.slice a len cap] = some x) : ∃ l, RdK W a len cap l ∧ KvsOk l := by
  rcases Deep.open_slice Tryz.underlying22 h with ⟨hcs, _⟩ | ⟨a', l, c, m, n, D, Pl, hcs, hb, hl, hm, hmm, _, hx⟩
  · simp at hcs
    obtain ⟨rfl, rfl, rfl⟩ := hcs
    exact ⟨[], ⟨rfl, Nat.le_refl _, Nat.zero_le _, fun h => by omega⟩, fun p hp => by cases hp⟩
  · simp at hcs
    obtain ⟨rfl, rfl, rfl⟩ := hcs
    have each : ∀ i, i < len → ∃ o : ByteArray × ByteArray, (o.1.size ≤ maxLen ∧ o.2.size ≤ maxLen) ∧ W.cell? (a'.add (i * 2)) = some (.string o.1) ∧ W.cell? (a'.add (i * 2 + 1)) = some (.string o.2) := by
      intro i hi
      obtain ⟨cs', h1, h2⟩ := hx i (by rw [hmm]; simp; omega)
      rw [show Tryz.prog.cellsOf 79 = 2 from by kernel_rfl] at h1
      obtain ⟨_, hlen, hcell⟩ := World.cells?_some h1
      obtain ⟨xs, k, hk, hxy, _, hxl, hf⟩ := DataW.trod_struct Tryz.underlying79 h2
      have hxl : xs.length = 2 := hxl
      clear hxy hk h1 h2
      match xs, hxl, cs', hlen with
      | [y0, y1], _, [v0, v1], _ =>
        have g0 : DataW.trod enc Tryz.prog W base (fun _ => true) held k 9 (([v0, v1].drop 0).take (Tryz.prog.cellsOf 9)) = some y0 := hf 0 _ rfl
        have g1 : DataW.trod enc Tryz.prog W base (fun _ => true) held k 9 (([v0, v1].drop 1).take (Tryz.prog.cellsOf 9)) = some y1 := hf 1 _ rfl
        rw [show Tryz.prog.cellsOf 9 = 1 from by kernel_rfl] at g0 g1
        simp only [List.drop_zero, List.drop_succ_cons, List.take_succ_cons, List.take_zero] at g0 g1
        obtain ⟨z0, e0, _, w0⟩ := DataW.trod_string Tryz.underlying9 g0
        obtain ⟨z1, e1, _, w1⟩ := DataW.trod_string Tryz.underlying9 g1
        simp only [List.cons.injEq, and_true] at e0 e1
        have q0 := hcell 0 (by omega)
        have q1 := hcell 1 (by omega)
        rw [Deep.add_add] at q0 q1
        rw [e0, e1] at q0 q1
        exact ⟨(z0, z1), ⟨w0, w1⟩, q0, q1⟩
    have hin : Inhabited (ByteArray × ByteArray) := ⟨(⟨#[]⟩, ⟨#[]⟩)⟩
    obtain ⟨f, hf⟩ := Deep.choose_lt each
    refine ⟨(List.range len).map f, ⟨by simp, hl, hm, fun hp => ?_⟩, fun p hp => ?_⟩
    rotate_left
    · obtain ⟨i, hi, rfl⟩ := List.mem_map.1 hp
      exact (hf i (List.mem_range.1 hi)).1
    obtain ⟨b, off, spot⟩ := a'
    have q0 := (hf 0 hp).2.1
    have hspot : spot = none := by simpa [Addr.add] using World.cell?_spot q0
    subst hspot
    have hadd : ∀ j, (⟨b, off, none⟩ : Addr).add j = ⟨b, off + j, none⟩ := fun j => by unfold Addr.add; split <;> simp_all
    rw [hadd] at q0
    refine ⟨b, off, rfl, World.block_lt_of_cell? _ _ q0, fun i u hu => ?_⟩
    have hi : i < len := by
      have := (List.getElem?_eq_some_iff.1 hu).1
      simpa using this
    rw [List.getElem?_map, List.getElem?_range hi] at hu
    simp only [Option.map_some, Option.some.injEq] at hu
    subst hu
    have q := (hf i hi).2
    rw [hadd, hadd, ← Nat.add_assoc] at q
    exact q

end Go.Proofs.YtkmckipfjahlcaaGreat
