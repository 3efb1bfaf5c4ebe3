/- Mathematics of the partitions, and the contracts of slices' partition and partitionEqual at numbers of 32 bits. -/
import Derived.Test.YtakifnlfgaedjaaVBits
namespace Go.Proofs.Ytakifnlfgaedjaa
open Go.RowKit Go.Sort
set_option linter.unusedVariables false
set_option linter.unusedSimpArgs false
set_option maxRecDepth 4000

/-- What stands left of i goes left (L), what stands right of j does not; the pivot p stands at a. -/
structure Parts (L : Int → Bool) (a b i j : Nat) (p : Int) (d0 d : Array Int) : Prop where
  perm : PermIn a b d0 d
  piv : d[a]! = p
  lo : a + 1 ≤ i
  mid : i ≤ j + 1
  hi : j + 1 ≤ b
  left : ∀ t, a + 1 ≤ t → t < i → L d[t]! = true
  right : ∀ t, j < t → t < b → L d[t]! = false

theorem Parts.up {L : Int → Bool} {a b i j : Nat} {p : Int} {d0 d : Array Int} (h : Parts L a b i j p d0 d) (hij : i ≤ j) (hl : L d[i]! = true) : Parts L a b (i + 1) j p d0 d :=
  ⟨h.perm, h.piv, by have := h.lo; omega, by omega, h.hi, fun t h1 h2 => by
    by_cases e : t = i
    · rw [e]; exact hl
    · exact h.left t h1 (by omega), h.right⟩
theorem Parts.down {L : Int → Bool} {a b i j : Nat} {p : Int} {d0 d : Array Int} (h : Parts L a b i (j + 1) p d0 d) (hij : i ≤ j + 1) (hl : L d[j + 1]! = false) : Parts L a b i j p d0 d :=
  ⟨h.perm, h.piv, h.lo, by omega, by have := h.hi; omega, h.left, fun t h1 h2 => by
    by_cases e : t = j + 1
    · rw [e]; exact hl
    · exact h.right t (by omega) h2⟩
theorem Parts.swap {L : Int → Bool} {a b i j : Nat} {p : Int} {d0 d : Array Int} (h : Parts L a b i (j + 1) p d0 d) (hb : b ≤ d.size) (hij : i ≤ j + 1) (hi : L d[i]! = false) (hj : L d[j + 1]! = true) : Parts L a b (i + 1) j p d0 (swp d i (j + 1)) := by
  have hlo := h.lo
  have hhi := h.hi
  have hne : i ≠ j + 1 := fun e => by rw [e] at hi; rw [hi] at hj; cases hj
  refine ⟨permIn_trans _ _ _ _ _ h.perm (swp_permIn d a b i (j + 1) (by omega) (by omega) (by omega) (by omega) hb), ?_, by omega, by omega, by omega, fun t h1 h2 => ?_, fun t h1 h2 => ?_⟩
  · rw [swp_other d i (j + 1) a (by omega) (by omega)]; exact h.piv
  · by_cases e : t = i
    · rw [e, swp_left d i (j + 1) (by omega) hne]; exact hj
    · rw [swp_other d i (j + 1) t e (by omega)]; exact h.left t h1 (by omega)
  · by_cases e : t = j + 1
    · rw [e, swp_right d i (j + 1) (by omega)]; exact hi
    · rw [swp_other d i (j + 1) t (by omega) e]; exact h.right t (by omega) h2

/-- What a partition leaves. -/
structure Parted (a b m : Nat) (d d' : Array Int) : Prop where
  perm : PermIn a b d d'
  lo : a ≤ m
  hi : m < b
  left : ∀ i, a ≤ i → i < m → d'[i]! < d'[m]!
  right : ∀ i, m < i → i < b → d'[m]! ≤ d'[i]!
theorem Parts.done {a b i j : Nat} {p : Int} {d0 d : Array Int} (h : Parts (fun x => ltInt x p) a b i j p d0 d) (hb : b ≤ d.size) (hij : ¬ i ≤ j) : Parted a b j d0 (swp d j a) := by
  have hlo := h.lo
  have hmid := h.mid
  have hhi := h.hi
  have e : i = j + 1 := by omega
  refine ⟨permIn_trans _ _ _ _ _ h.perm (swp_permIn d a b j a (by omega) (by omega) (by omega) (by omega) hb), by omega, by omega, fun t h1 h2 => ?_, fun t h1 h2 => ?_⟩
  · have hja : j ≠ a := by omega
    rw [swp_left d j a (by omega) hja, h.piv]
    by_cases q : t = a
    · rw [q, swp_right d j a (by omega)]
      have := h.left j (by omega) (by omega)
      simpa [ltInt] using this
    · rw [swp_other d j a t (by omega) q]
      have := h.left t (by omega) (by omega)
      simpa [ltInt] using this
  · have hm : (swp d j a)[j]! = p := by
      by_cases hja : j = a
      · rw [hja, swp_right d a a (by omega)]; exact h.piv
      · rw [swp_left d j a (by omega) hja]; exact h.piv
    rw [hm, swp_other d j a t (by omega) (by omega)]
    have := h.right t h1 h2
    simpa [ltInt] using this

/-- What a partition by equal ones leaves. -/
structure PartedE (a b m : Nat) (p : Int) (d d' : Array Int) : Prop where
  perm : PermIn a b d d'
  lo : a < m
  hi : m ≤ b
  left : ∀ i, a ≤ i → i < m → d'[i]! ≤ p
  right : ∀ i, m ≤ i → i < b → p < d'[i]!
theorem Parts.doneE {a b i j : Nat} {p : Int} {d0 d : Array Int} (h : Parts (fun x => !ltInt p x) a b i j p d0 d) (hij : ¬ i ≤ j) : PartedE a b i p d0 d := by
  have hlo := h.lo
  have hmid := h.mid
  have hhi := h.hi
  have e : i = j + 1 := by omega
  refine ⟨h.perm, by omega, by omega, fun t h1 h2 => ?_, fun t h1 h2 => ?_⟩
  · by_cases q : t = a
    · rw [q, h.piv]; exact Int.le_refl _
    · have := h.left t (by omega) h2
      simpa [ltInt] using this
  · have := h.right t (by omega) h2
    simpa [ltInt] using this
theorem Parts.start (L : Int → Bool) {a b piv : Nat} {d : Array Int} (hb : b ≤ d.size) (h1 : a ≤ piv) (h2 : piv < b) : Parts L a b (a + 1) (b - 1) d[piv]! d (swp d a piv) := by
  refine ⟨swp_permIn d a b a piv (by omega) (by omega) (by omega) (by omega) hb, ?_, by omega, by omega, by omega, fun t q1 q2 => by omega, fun t q1 q2 => by omega⟩
  by_cases e : a = piv
  · rw [← e, swp_right d a a (by omega)]
  · rw [swp_left d a piv (by omega) e]

end Go.Proofs.Ytakifnlfgaedjaa
