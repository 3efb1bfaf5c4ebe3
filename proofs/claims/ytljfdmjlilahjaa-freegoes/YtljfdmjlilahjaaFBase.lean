/- What a map of blocks is, in plain words, and where it lies (the program's and the document's). -/
import Derived.Test.YtljfdmjlilahjaaBase
import Derived.Below
namespace Go.Proofs.Ytljfdmjlilahjaa
open Go.RowKit
set_option linter.unusedVariables false
set_option maxRecDepth 4000

/-- Of the blocks that were there nothing has turned but those of 'S'. -/
structure Sole (S : List Nat) (w w' : World) : Prop where
  os : w'.os = w.os
  tape : w'.tape = w.tape
  output : w'.output = w.output
  size : w.heap.size ≤ w'.heap.size
  block : ∀ k, k < w.heap.size → k ∉ S → w'.heap[k]? = w.heap[k]?

theorem Sole.refl (S : List Nat) (w : World) : Sole S w w := ⟨rfl, rfl, rfl, Nat.le_refl _, fun _ _ _ => rfl⟩
theorem Sole.trans {S : List Nat} {a b c : World} (h : Sole S a b) (k : Sole S b c) : Sole S a c :=
  ⟨k.os.trans h.os, k.tape.trans h.tape, k.output.trans h.output, Nat.le_trans h.size k.size, fun i hi hn => (k.block i (Nat.lt_of_lt_of_le hi h.size) hn).trans (h.block i hi hn)⟩
theorem Sole.mono {S S' : List Nat} {w w' : World} (h : Sole S w w') (hs : ∀ k ∈ S, k ∈ S') : Sole S' w w' :=
  ⟨h.os, h.tape, h.output, h.size, fun k hk hn => h.block k hk (fun e => hn (hs k e))⟩
theorem Sole.after {S S' : List Nat} {w0 w w' : World} (h0 : Sole S w0 w) (h : Sole S' w w') (hs : ∀ k ∈ S', k ∈ S ∨ w0.heap.size ≤ k) : Sole S w0 w' :=
  ⟨h.os.trans h0.os, h.tape.trans h0.tape, h.output.trans h0.output, Nat.le_trans h0.size h.size, fun i hi hn => (h.block i (Nat.lt_of_lt_of_le hi h0.size) (fun e => by rcases hs i e with h | h; exact hn h; omega)).trans (h0.block i hi hn)⟩
theorem Sole.of_below {w w' : World} (h : Below w.heap.size w w') (S : List Nat) : Sole S w w' := ⟨h.os, h.tape, h.output, h.size, fun k hk _ => h.block k hk⟩
theorem Sole.below {w w' : World} (h : Sole [] w w') : Below w.heap.size w w' := ⟨h.os, h.tape, h.output, h.size, fun k hk => h.block k hk (by simp)⟩
theorem Sole.setCell (w : World) {a : Addr} (u : Value) {S : List Nat} (hb : a.block ∈ S) : Sole S w (w.setCell a u) :=
  ⟨rfl, rfl, rfl, by simp [World.setCell], fun k hk hn => Below.heap_setCell _ _ _ _ (fun e => hn (by rw [e]; exact hb))⟩
theorem Sole.drew (w : World) (S : List Nat) : Sole S w w.drew := ⟨rfl, rfl, rfl, Nat.le_refl _, fun _ _ _ => rfl⟩
theorem Sole.belowOf {B : Nat} {S : List Nat} {w0 w w' : World} (h0 : Below B w0 w) (h : Sole S w w') (hB : B ≤ w.heap.size) (hs : ∀ k ∈ S, B ≤ k) : Below B w0 w' :=
  h0.trans ⟨h.os, h.tape, h.output, h.size, fun k hk => h.block k (by omega) (fun e => by have := hs k e; omega)⟩
theorem belowQ (W : World) (q B : Nat) : Below B W (W.drewN q) := ⟨rfl, rfl, rfl, Nat.le_refl _, fun _ _ => rfl⟩

/-- A map of blocks: the first one, and what each is (1 free, 2 taken, 3 waiting). -/
structure Fr where
  lo : Nat
  ks : List Nat

structure FrOk (s : Fr) : Prop where
  any : 0 < s.ks.length
  most : s.lo + s.ks.length ≤ 1024
  kinds : ∀ k ∈ s.ks, 1 ≤ k ∧ k ≤ 3

/-- Where it lies: the variable in block p, the row in block h. -/
structure FrAt (T E : TypeId) (f : Nat → Int) (w : World) (p h : Nat) (s : Fr) : Prop where
  body : ∃ (cap : Nat) (cur : Array Value), w.heap[p]? = some (.cells #[.int .i64 s.lo, .slice (some ⟨h, 0, none⟩) s.ks.length cap] T (0, 0)) ∧ w.heap[h]? = some (.cells cur E (0, 0)) ∧ s.ks.length ≤ cap ∧ cap ≤ maxLen ∧ p ≠ h ∧ ∀ (i k : Nat), s.ks[i]? = some k → cur[i]? = some (.int .i64 (f k))

theorem FrAt.other {T E : TypeId} {f : Nat → Int} {w w' : World} {p h : Nat} {s : Fr} (H : FrAt T E f w p h s) {S : List Nat} (hS : Sole S w w') (h1 : p ∉ S) (h2 : h ∉ S) : FrAt T E f w' p h s := by
  obtain ⟨cap, cur, a, b, r⟩ := H.body
  exact ⟨cap, cur, (hS.block p (Array.getElem?_eq_some_iff.1 a).1 h1).trans a, (hS.block h (Array.getElem?_eq_some_iff.1 b).1 h2).trans b, r⟩

theorem FrAt.below {T E : TypeId} {f : Nat → Int} {w w' : World} {p h : Nat} {s : Fr} (H : FrAt T E f w p h s) (hb : Below w.heap.size w w') : FrAt T E f w' p h s :=
  H.other (Sole.of_below hb []) (by simp) (by simp)

/-- What is read of it. -/
theorem FrAt.opened {T E : TypeId} {f : Nat → Int} {w : World} {p h : Nat} {s : Fr} (H : FrAt T E f w p h s) : ∃ cap, w.cell? ⟨p, 0, none⟩ = some (.int .i64 s.lo) ∧ w.cell? ⟨p, 1, none⟩ = some (.slice (some ⟨h, 0, none⟩) s.ks.length cap) ∧ s.ks.length ≤ cap ∧ cap ≤ 9223372036854775807 ∧ p < w.heap.size ∧ h < w.heap.size ∧ p ≠ h ∧
    ∀ (i k : Nat), s.ks[i]? = some k → w.cell? ⟨h, i, none⟩ = some (.int .i64 (f k)) ∧ w.frozen? ⟨h, i, none⟩ = false := by
  obtain ⟨cap, cur, a, b, h1, h2, h3, h4⟩ := H.body
  unfold maxLen at h2
  refine ⟨cap, cell_of_row w _ 0 _ _ (0, 0) a, cell_of_row w _ 1 _ _ (0, 0) a, h1, by omega, (Array.getElem?_eq_some_iff.1 a).1, (Array.getElem?_eq_some_iff.1 b).1, h3, fun i k hk => ⟨?_, frozen_of_row w h i _ E b⟩⟩
  rw [cell_of_row w _ i _ _ (0, 0) b]
  exact h4 i k hk

/-- One of its kinds written anew. -/
theorem FrAt.put {T E : TypeId} {f : Nat → Int} {w : World} {p h : Nat} {s : Fr} (H : FrAt T E f w p h s) (i v : Nat) : FrAt T E f (w.setCell ⟨h, i, none⟩ (.int .i64 (f v))) p h ⟨s.lo, s.ks.set i v⟩ := by
  obtain ⟨cap, cur, a, b, h1, h2, h3, h4⟩ := H.body
  refine ⟨cap, cur.setIfInBounds i (.int .i64 (f v)), ?_, heap_setCell_same w h i _ E _ b, by simpa using h1, h2, h3, fun j k hk => ?_⟩
  · rw [heap_setCell_other _ _ _ _ (by show p ≠ h; exact h3)]
    simpa using a
  · rw [List.getElem?_set] at hk
    split at hk
    · rename_i e
      subst e
      split at hk
      · rename_i hlt
        cases hk
        have hs : ∃ k0, s.ks[i]? = some k0 := ⟨_, List.getElem?_eq_getElem hlt⟩
        obtain ⟨k0, hk0⟩ := hs
        have := (Array.getElem?_eq_some_iff.1 (h4 i k0 hk0)).1
        rw [Array.getElem?_setIfInBounds_self_of_lt this]
      · cases hk
    · rename_i e
      rw [Array.getElem?_setIfInBounds_ne (by omega)]
      exact h4 j k hk

def kindOfN (s : Fr) (i : Int) : Nat := if s.lo ≤ i ∧ i < s.lo + s.ks.length then s.ks.getD (i - s.lo).toNat 0 else 0
def lacksB (s : Fr) (i : Int) : Bool := !decide (s.lo ≤ i ∧ i < s.lo + s.ks.length)

def PAt (w : World) (p h : Nat) (s : Fr) : Prop := FrAt 53 51 (fun k => (k : Int)) w p h s
def ptr (p : Nat) : Value := .pointer (some ⟨p, 0, none⟩)

end Go.Proofs.Ytljfdmjlilahjaa
