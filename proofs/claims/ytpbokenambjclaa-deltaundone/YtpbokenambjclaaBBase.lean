/- What a call may change; no function of the program. -/
import Derived.Test.YtpbokenambjclaaBase
import Derived.Below
namespace Go.Proofs.Ytpbokenambjclaa
open Go.RowKit
set_option linter.unusedVariables false
set_option maxRecDepth 4000

/- What a call may change; no function of the program. -/
structure Sole (S : List Nat) (w w' : World) : Prop where
  os : w'.os = w.os
  tape : w'.tape = w.tape
  output : w'.output = w.output
  size : w.heap.size ≤ w'.heap.size
  block : ∀ k, k < w.heap.size → k ∉ S → w'.heap[k]? = w.heap[k]?

theorem Sole.refl (S : List Nat) (w : World) : Sole S w w := ⟨rfl, rfl, rfl, Nat.le_refl _, fun _ _ _ => rfl⟩
theorem Sole.trans {S : List Nat} {a b c : World} (h : Sole S a b) (k : Sole S b c) : Sole S a c :=
  ⟨k.os.trans h.os, k.tape.trans h.tape, k.output.trans h.output, Nat.le_trans h.size k.size, fun i hi hn => (k.block i (Nat.lt_of_lt_of_le hi h.size) hn).trans (h.block i hi hn)⟩
theorem Sole.mono {S S' : List Nat} {w w' : World} (h : Sole S w w') (hs : ∀ k ∈ S, k ∈ S') : Sole S' w w' :=
  ⟨h.os, h.tape, h.output, h.size, fun k hk hn => h.block k hk (fun e => hn (hs k e))⟩
theorem Sole.after {S S' : List Nat} {w0 w w' : World} (h0 : Sole S w0 w) (h : Sole S' w w') (hs : ∀ k ∈ S', k ∈ S ∨ w0.heap.size ≤ k) : Sole S w0 w' :=
  ⟨h.os.trans h0.os, h.tape.trans h0.tape, h.output.trans h0.output, Nat.le_trans h0.size h.size, fun i hi hn => (h.block i (Nat.lt_of_lt_of_le hi h0.size) (fun e => by rcases hs i e with h | h; exact hn h; omega)).trans (h0.block i hi hn)⟩
theorem Sole.of_below {w w' : World} (h : Below w.heap.size w w') (S : List Nat) : Sole S w w' := ⟨h.os, h.tape, h.output, h.size, fun k hk _ => h.block k hk⟩
theorem Sole.below {w w' : World} (h : Sole [] w w') : Below w.heap.size w w' := ⟨h.os, h.tape, h.output, h.size, fun k hk => h.block k hk (by simp)⟩
theorem Sole.setCell (w : World) {a : Addr} (u : Value) {S : List Nat} (hb : a.block ∈ S) : Sole S w (w.setCell a u) :=
  ⟨rfl, rfl, rfl, by simp [World.setCell], fun k hk hn => Below.heap_setCell _ _ _ _ (fun e => hn (by rw [e]; exact hb))⟩
theorem Sole.drew (w : World) (S : List Nat) : Sole S w w.drew := ⟨rfl, rfl, rfl, Nat.le_refl _, fun _ _ _ => rfl⟩
theorem Sole.belowOf {B : Nat} {S : List Nat} {w0 w w' : World} (h0 : Below B w0 w) (h : Sole S w w') (hB : B ≤ w.heap.size) (hs : ∀ k ∈ S, B ≤ k) : Below B w0 w' :=
  h0.trans ⟨h.os, h.tape, h.output, h.size, fun k hk => h.block k (by omega) (fun e => by have := hs k e; omega)⟩
theorem belowQ (W : World) (q B : Nat) : Below B W (W.drewN q) := ⟨rfl, rfl, rfl, Nat.le_refl _, fun _ _ => rfl⟩

theorem Sole.of_grown {w w' : World} {b : Nat} (h : w.grownBy w' (some b)) {S : List Nat} (hb : b ∈ S) : Sole S w w' :=
  ⟨h.os, h.tape, h.output, h.size, fun k hk hn => h.block k hk (fun e => hn (by cases e; exact hb))⟩
def ptr (p : Nat) : Value := .pointer (some ⟨p, 0, none⟩)

end Go.Proofs.Ytpbokenambjclaa
