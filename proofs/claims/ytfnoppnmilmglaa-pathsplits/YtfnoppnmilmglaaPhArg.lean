/- What a statement is handed: rows of names. -/
import Derived.Test.YtfnoppnmilmglaaPhRow
import Derived.Lib.SmallJoins
import Derived.Deep.Slices
import Derived.SizedLaws
namespace Go.Proofs.Ytfnoppnmilmglaa
open Go.RowKit
set_option maxRecDepth 100000
set_option linter.unusedVariables false

/-- Rows that are handed in, whatever their elements. -/
theorem rows_of {H : Type} {enc : TypeId × Value → H} {W : World} {base : Nat} {held : Bool} {fuel : Nat} {a : Option Addr} {len cap : Nat} {x : DataW H × List MemPlace} {t e : TypeId} {α : Type} (k : Nat) (ec : α → List Value) (P : α → Prop) (d : α) (hk : 0 < k)
    (ht : Try.prog.underlying t = some (.slice e)) (hc : Try.prog.cellsOf e = k) (hl : ∀ x, (ec x).length = k)
    (one : ∀ (l : List Value) (n : Nat) (y : DataW H × List MemPlace), l.length = k → DataW.trod enc Try.prog W base (fun _ => true) held n e l = some y → ∃ p : α, P p ∧ l = ec p)
    (h : DataW.trod enc Try.prog W base (fun _ => true) held fuel t [.slice a len cap] = some x) : ∃ os : List α, RdZ k ec W (.slice a len cap) os ∧ ∀ o ∈ os, P o := by
  rcases Deep.open_slice ht h with ⟨hcs, _⟩ | ⟨a', l, c, m, n, D, Pl, hcs, hb, hll, hm, hmm, _, hx⟩
  · simp at hcs
    obtain ⟨rfl, rfl, rfl⟩ := hcs
    exact ⟨[], RdZ.nil _ _ _, by simp⟩
  · simp at hcs
    obtain ⟨rfl, rfl, rfl⟩ := hcs
    have each : ∀ i, i < len → ∃ o : α, P o ∧ ∀ j u, (ec o)[j]? = some u → W.cell? (a'.add (i * k + j)) = some u := by
      intro i hi
      obtain ⟨cs', h1, h2⟩ := hx i (by rw [hmm]; simp; omega)
      rw [hc] at h1
      obtain ⟨_, hlen, hcell⟩ := World.cells?_some h1
      obtain ⟨c, hc, er⟩ := one cs' n _ hlen h2
      refine ⟨c, hc, fun j u hu => ?_⟩
      have hj : j < k := by
        have := (List.getElem?_eq_some_iff.1 hu).1
        rw [hl] at this; exact this
      have q := hcell j hj
      rw [Deep.add_add] at q
      rw [q, er]
      exact hu
    have hin : Inhabited α := ⟨d⟩
    obtain ⟨f, hf⟩ := Deep.choose_lt each
    refine ⟨(List.range len).map f, ⟨⟨some a', cap, by simp, by simpa using hll, hm, fun hne => ?_⟩, fun c hv => by cases hv⟩, fun o ho => ?_⟩
    · have hp : 0 < len := by
        rcases Nat.eq_zero_or_pos len with h0 | h0
        · subst h0; simp at hne
        · exact h0
      obtain ⟨b, off, spot⟩ := a'
      obtain ⟨u0, hu0⟩ : ∃ u0, (ec (f 0))[0]? = some u0 := ⟨_, List.getElem?_eq_getElem (by rw [hl]; exact hk)⟩
      have q0 := (hf 0 hp).2 0 _ hu0
      have hspot : spot = none := by simpa [Addr.add] using World.cell?_spot q0
      subst hspot
      have hadd : ∀ j, (⟨b, off, none⟩ : Addr).add j = ⟨b, off + j, none⟩ := fun j => by unfold Addr.add; split <;> simp_all
      rw [hadd] at q0
      refine ⟨b, off, rfl, World.block_lt_of_cell? _ _ q0, fun i x j u hi hj => ?_⟩
      have hil : i < len := by have := (List.getElem?_eq_some_iff.1 hi).1; simpa using this
      rw [List.getElem?_map, List.getElem?_range hil] at hi
      simp only [Option.map_some, Option.some.injEq] at hi
      subst hi
      have q := (hf i hil).2 j u hj
      rw [hadd, ← Nat.add_assoc] at q
      exact q
    · obtain ⟨i, hi, rfl⟩ := List.mem_map.1 ho
      exact (hf i (List.mem_range.1 hi)).1

/-- The slice value 'v' reads as names. -/
def RdS (w : World) (a : Option Addr) (n c : Nat) (l : List ByteArray) : Prop := RdZ 1 strE w (.slice a n c) l ∧ ∀ x ∈ l, x.size ≤ maxLen
theorem RdS.below {w w' : World} {a : Option Addr} {n c : Nat} {l : List ByteArray} (h : RdS w a n c l) (hb : Below w.heap.size w w') : RdS w' a n c l := ⟨h.1.below hb, h.2⟩
theorem strs_of {H : Type} {enc : TypeId × Value → H} {W : World} {base : Nat} {held : Bool} {fuel : Nat} {a : Option Addr} {len cap : Nat} {x : DataW H × List MemPlace}
    (h : DataW.trod enc Try.prog W base (fun _ => true) held fuel 23 [.slice a len cap] = some x) : ∃ os, RdS W a len cap os :=
  rows_of 1 strE (fun x => x.size ≤ maxLen) ⟨#[]⟩ (by decide) Try.underlying23 (by kernel_rfl) str_len (fun l n y h1 h2 => by
    obtain ⟨z, e, _, hz⟩ := DataW.trod_string Try.underlying9 h2
    exact ⟨z, hz, e⟩) h

theorem strs_sized {H : Type} {enc : TypeId × Value → H} {W : World} {base : Nat} {held : Bool} {fuel : Nat} {a : Option Addr} {len cap : Nat} {x : DataW H × List MemPlace}
    (h : DataW.trod enc Try.prog W base (fun _ => true) held fuel 23 [.slice a len cap] = some x)
    {ts : List TypeId} {ds : List (DataW H)} {j : Nat} (hsz : (DataW.weightsEach Try.prog ts ds).all (· ≤ reachBytes) = true) (ht : ts[j]? = some 23) (hd : ds[j]? = some x.1) : len ≤ 17592186043904 := by
  rcases Deep.open_slice Try.underlying23 h with ⟨hcs, _⟩ | ⟨a', l, c, m, n, D, Pl, hcs, hb, hl, hm, hmm, hy, hx⟩
  · simp at hcs
    obtain ⟨rfl, rfl, rfl⟩ := hcs
    exact Nat.zero_le _
  · simp at hcs
    obtain ⟨rfl, rfl, rfl⟩ := hcs
    rw [hy] at hd
    have hw := sized_slice hsz ht hd Try.underlying23
    rw [show Try.prog.bytesOf 9 = 16 from by kernel_rfl] at hw
    simp only [List.length_map, List.length_range, reachBytes] at hw
    omega

end Go.Proofs.Ytfnoppnmilmglaa
