/- A slice of ints that is handed in. -/
import Derived.Test.YtljfdmjlilahjaaFMark
import Derived.Lib.SmallJoins
import Derived.Deep.Slices
namespace Go.Proofs.Ytljfdmjlilahjaa
open Go.RowKit
set_option linter.unusedVariables false

/-- Numbers of 64 bits. -/
def IntsOk (l : List Int) : Prop := ∀ x ∈ l, -9223372036854775808 ≤ x ∧ x ≤ 9223372036854775807

set_option maxRecDepth 100000 in
theorem ints_of {H : Type} {enc : TypeId × Value → H} {W : World} {base : Nat} {held : Bool} {fuel : Nat} {v : Value} {x : DataW H × List MemPlace}
    (h : DataW.trod enc Try.prog W base (fun _ => true) held fuel 22 [v] = some x) : ∃ l, IntsOk l ∧ RdI W v l := by
  rcases Deep.open_slice1 Try.underlying22 (by kernel_rfl) h with ⟨hcs, _⟩ | ⟨a', len, c, m, n, V, D, Pl, hcs, hb, hl, hm, hmm, _, hx⟩
  · simp at hcs
    subst hcs
    exact ⟨[], (fun x hx => by cases hx), ⟨none, 0, rfl, Nat.le_refl _, by simp, fun h => by simp at h⟩⟩
  · simp at hcs
    subst hcs
    have each : ∀ i, i < len → ∃ z : Int, (-9223372036854775808 ≤ z ∧ z ≤ 9223372036854775807) ∧ W.cell? (a'.add i) = some (.int .i64 z) := fun i hi => by
      obtain ⟨q, t⟩ := hx i (by rw [hmm]; simp; omega)
      obtain ⟨z, e, _, wz⟩ := DataW.trod_int Try.underlying3 t
      simp only [List.cons.injEq, and_true] at e
      exact ⟨z, bounds_i64 wz, by rw [q, e]⟩
    have hin : Inhabited Int := ⟨0⟩
    obtain ⟨f, hf⟩ := Deep.choose_lt each
    have hlen : ((List.range len).map f).length = len := by simp
    refine ⟨(List.range len).map f, fun x hx => ?_, some a', c, by rw [hlen], by rw [hlen]; exact hl, hm, fun hp => ?_⟩
    · obtain ⟨i, hi, rfl⟩ := List.mem_map.1 hx
      exact (hf i (List.mem_range.1 hi)).1
    · rw [hlen] at hp
      obtain ⟨b, off, spot⟩ := a'
      have q0 := (hf 0 hp).2
      have hspot : spot = none := by simpa [Addr.add] using World.cell?_spot q0
      subst hspot
      have hadd : ∀ j, (⟨b, off, none⟩ : Addr).add j = ⟨b, off + j, none⟩ := fun j => by unfold Addr.add; split <;> simp_all
      rw [hadd] at q0
      refine ⟨b, off, rfl, World.block_lt_of_cell? _ _ q0, fun i x hi => ?_⟩
      rw [List.getElem?_map] at hi
      rcases Nat.lt_or_ge i len with hlt | hge
      · rw [List.getElem?_range hlt] at hi
        simp only [Option.map_some, Option.some.injEq] at hi
        subst hi
        have := (hf i hlt).2
        rw [hadd] at this
        exact this
      · rw [List.getElem?_eq_none (by simpa using hge)] at hi
        cases hi

end Go.Proofs.Ytljfdmjlilahjaa
