/- What a disk is, in plain words, and where it lies. -/
import Derived.Test.YtckcdmkgmbicfaaGreatDMap
namespace Go.Proofs.YtckcdmkgmbicfaaGreat
open Go.RowKit Go.Maps
set_option linter.unusedVariables false

/-- Of the blocks that were there nothing has turned but those of 'S'. -/
structure Sole (S : List Nat) (w w' : World) : Prop where
  os : w'.os = w.os
  tape : w'.tape = w.tape
  output : w'.output = w.output
  size : w.heap.size ≤ w'.heap.size
  block : ∀ k, k < w.heap.size → k ∉ S → w'.heap[k]? = w.heap[k]?

theorem Sole.refl (S : List Nat) (w : World) : Sole S w w := ⟨rfl, rfl, rfl, Nat.le_refl _, fun _ _ _ => rfl⟩
theorem Sole.trans {S : List Nat} {a b c : World} (h : Sole S a b) (k : Sole S b c) : Sole S a c :=
  ⟨k.os.trans h.os, k.tape.trans h.tape, k.output.trans h.output, Nat.le_trans h.size k.size, fun i hi hn => (k.block i (Nat.lt_of_lt_of_le hi h.size) hn).trans (h.block i hi hn)⟩
theorem Sole.mono {S S' : List Nat} {w w' : World} (h : Sole S w w') (hs : ∀ k ∈ S, k ∈ S') : Sole S' w w' :=
  ⟨h.os, h.tape, h.output, h.size, fun k hk hn => h.block k hk (fun e => hn (hs k e))⟩
/-- What was turned was made since: nothing of 'w0' has turned. -/
theorem Sole.after {S S' : List Nat} {w0 w w' : World} (h0 : Sole S w0 w) (h : Sole S' w w') (hs : ∀ k ∈ S', k ∈ S ∨ w0.heap.size ≤ k) : Sole S w0 w' :=
  ⟨h.os.trans h0.os, h.tape.trans h0.tape, h.output.trans h0.output, Nat.le_trans h0.size h.size, fun i hi hn => (h.block i (Nat.lt_of_lt_of_le hi h0.size) (fun e => by rcases hs i e with h | h; exact hn h; omega)).trans (h0.block i hi hn)⟩
theorem Sole.of_below {w w' : World} (h : Below w.heap.size w w') (S : List Nat) : Sole S w w' := ⟨h.os, h.tape, h.output, h.size, fun k hk _ => h.block k hk⟩
theorem Sole.below {w w' : World} (h : Sole [] w w') : Below w.heap.size w w' := ⟨h.os, h.tape, h.output, h.size, fun k hk => h.block k hk (by simp)⟩
theorem Sole.of_grown {w w' : World} {b : Nat} (h : w.grownBy w' (some b)) {S : List Nat} (hb : b ∈ S) : Sole S w w' :=
  ⟨h.os, h.tape, h.output, h.size, fun k hk hn => h.block k hk (fun e => hn (by cases e; exact hb))⟩
theorem Sole.setCell (w : World) {a : Addr} (u : Value) {S : List Nat} (hb : a.block ∈ S) : Sole S w (w.setCell a u) :=
  ⟨rfl, rfl, rfl, by simp [World.setCell], fun k hk hn => Below.heap_setCell _ _ _ _ (fun e => hn (by rw [e]; exact hb))⟩
theorem Sole.alloc (w : World) (o : Obj) (S : List Nat) : Sole S w (w.alloc o) := ⟨rfl, rfl, rfl, by simp, fun k hk _ => Below.heap_alloc _ _ _ hk⟩
theorem Sole.drew (w : World) (S : List Nat) : Sole S w w.drew := ⟨rfl, rfl, rfl, Nat.le_refl _, fun _ _ _ => rfl⟩
theorem Sole.belowOf {B : Nat} {S : List Nat} {w0 w w' : World} (h0 : Below B w0 w) (h : Sole S w w') (hB : B ≤ w.heap.size) (hs : ∀ k ∈ S, B ≤ k) : Below B w0 w' :=
  h0.trans ⟨h.os, h.tape, h.output, h.size, fun k hk => h.block k (by omega) (fun e => by have := hs k e; omega)⟩

/-- A disk, in plain words. -/
structure St where
  blocks : Int
  safe : Int → List Int
  pend : Int → Option (List Int)
  off : Bool
  armed : Bool
  left : Int
  mask : ByteArray
  writes : Int

/-- What always holds of one. -/
structure Good (s : St) : Prop where
  b0 : 1 ≤ s.blocks
  b1 : s.blocks ≤ 1024
  safe : ∀ i, Blk (s.safe i)
  pend : ∀ i c, s.pend i = some c → 0 ≤ i ∧ i < s.blocks ∧ Blk c
  l0 : 0 ≤ s.left
  l1 : s.left ≤ 9223372036854775807
  w0 : -9223372036854775808 ≤ s.writes
  w1 : s.writes ≤ 9223372036854775807
  mz : s.mask.size ≤ maxLen

def cellsOf (bs bp : Nat) (s : St) : Array Value := #[.int .i64 s.blocks, .map (some bs), .map (some bp), .bool s.off, .bool s.armed, .int .i64 s.left, .string s.mask, .int .i64 s.writes]

/-- The disk 's' lies in the block 'p', its maps in 'bs' and 'bp'. -/
structure DiskAt (w : World) (p bs bp : Nat) (s : St) : Prop where
  row : w.heap[p]? = some (.cells (cellsOf bs bp s) 69 (0, 0))
  safe : ∃ M, MapAt w bs M ∧ ∀ i, s.safe i = (M i).getD zeroB
  pend : MapAt w bp s.pend
  ne : bs ≠ bp
  good : Good s

theorem DiskAt.lt {w : World} {p bs bp : Nat} {s : St} (h : DiskAt w p bs bp s) : p < w.heap.size ∧ bs < w.heap.size ∧ bp < w.heap.size := by
  obtain ⟨M, hM, _⟩ := h.safe
  exact ⟨(Array.getElem?_eq_some_iff.1 h.row).1, hM.lt, h.pend.lt⟩

theorem DiskAt.ne_s {w : World} {p bs bp : Nat} {s : St} (h : DiskAt w p bs bp s) : p ≠ bs := by
  obtain ⟨M, hM, _⟩ := h.safe
  obtain ⟨es, c, hm⟩ := hM.is
  intro e; subst e
  rw [h.row] at hm; cases hm

theorem DiskAt.ne_p {w : World} {p bs bp : Nat} {s : St} (h : DiskAt w p bs bp s) : p ≠ bp := by
  obtain ⟨es, c, hm⟩ := h.pend.is
  intro e; subst e
  rw [h.row] at hm; cases hm

/-- It stays what it is while its three blocks do. -/
theorem DiskAt.same {w w' : World} {p bs bp : Nat} {s : St} (h : DiskAt w p bs bp s) (h1 : w'.heap[p]? = w.heap[p]?) (h2 : w'.heap[bs]? = w.heap[bs]?) (h3 : w'.heap[bp]? = w.heap[bp]?) : DiskAt w' p bs bp s := by
  obtain ⟨hr, ⟨M, hM, hs⟩, hp, hne, hg⟩ := h
  exact ⟨h1.trans hr, ⟨M, hM.same h2, hs⟩, hp.same h3, hne, hg⟩

theorem DiskAt.other {w w' : World} {p bs bp : Nat} {s : St} (h : DiskAt w p bs bp s) {S : List Nat} (hS : Sole S w w') (h1 : p ∉ S) (h2 : bs ∉ S) (h3 : bp ∉ S) : DiskAt w' p bs bp s :=
  h.same (hS.block p h.lt.1 h1) (hS.block bs h.lt.2.1 h2) (hS.block bp h.lt.2.2 h3)

theorem DiskAt.below {w w' : World} {p bs bp : Nat} {s : St} (h : DiskAt w p bs bp s) (hb : Below w.heap.size w w') : DiskAt w' p bs bp s :=
  h.same (hb.block p h.lt.1) (hb.block bs h.lt.2.1) (hb.block bp h.lt.2.2)

theorem DiskAt.cell {w : World} {p bs bp : Nat} {s : St} (h : DiskAt w p bs bp s) (j : Nat) (v : Value) (hv : (cellsOf bs bp s)[j]? = some v) : w.cell? ⟨p, j, none⟩ = some v := by
  rw [cell_of_row w p j _ _ (0, 0) h.row]; exact hv

theorem DiskAt.c0 {w : World} {p bs bp : Nat} {s : St} (h : DiskAt w p bs bp s) : w.cell? ⟨p, 0, none⟩ = some (.int .i64 s.blocks) := h.cell 0 _ rfl
theorem DiskAt.c1 {w : World} {p bs bp : Nat} {s : St} (h : DiskAt w p bs bp s) : w.cell? ⟨p, 1, none⟩ = some (.map (some bs)) := h.cell 1 _ rfl
theorem DiskAt.c2 {w : World} {p bs bp : Nat} {s : St} (h : DiskAt w p bs bp s) : w.cell? ⟨p, 2, none⟩ = some (.map (some bp)) := h.cell 2 _ rfl
theorem DiskAt.c3 {w : World} {p bs bp : Nat} {s : St} (h : DiskAt w p bs bp s) : w.cell? ⟨p, 3, none⟩ = some (.bool s.off) := h.cell 3 _ rfl
theorem DiskAt.c4 {w : World} {p bs bp : Nat} {s : St} (h : DiskAt w p bs bp s) : w.cell? ⟨p, 4, none⟩ = some (.bool s.armed) := h.cell 4 _ rfl
theorem DiskAt.c5 {w : World} {p bs bp : Nat} {s : St} (h : DiskAt w p bs bp s) : w.cell? ⟨p, 5, none⟩ = some (.int .i64 s.left) := h.cell 5 _ rfl
theorem DiskAt.c6 {w : World} {p bs bp : Nat} {s : St} (h : DiskAt w p bs bp s) : w.cell? ⟨p, 6, none⟩ = some (.string s.mask) := h.cell 6 _ rfl
theorem DiskAt.c7 {w : World} {p bs bp : Nat} {s : St} (h : DiskAt w p bs bp s) : w.cell? ⟨p, 7, none⟩ = some (.int .i64 s.writes) := h.cell 7 _ rfl

/-- No cell of it is frozen. -/
theorem DiskAt.fr {w : World} {p bs bp : Nat} {s : St} (h : DiskAt w p bs bp s) (j : Nat) : w.frozen? ⟨p, j, none⟩ = false := by simp [World.frozen?, h.row]

/-- One cell of it is stored. -/
theorem DiskAt.put {w : World} {p bs bp : Nat} {s s' : St} (h : DiskAt w p bs bp s) (j : Nat) (v : Value) (hv : (cellsOf bs bp s).setIfInBounds j v = cellsOf bs bp s') (hs : s'.safe = s.safe) (hp : s'.pend = s.pend) (hg : Good s') :
    DiskAt (w.setCell ⟨p, j, none⟩ v) p bs bp s' := by
  have hS := Sole.setCell w (a := ⟨p, j, none⟩) v (S := [p]) (by simp)
  obtain ⟨M, hM, hsM⟩ := h.safe
  refine ⟨?_, ⟨M, hM.same (hS.block bs h.lt.2.1 (by simpa using Ne.symm h.ne_s)), by rw [hs]; exact hsM⟩, ?_, h.ne, hg⟩
  · rw [heap_setCell_same w p j _ _ _ h.row, hv]
  · rw [hp]; exact h.pend.same (hS.block bp h.lt.2.2 (by simpa using Ne.symm h.ne_p))

/-- The map of what is safe has turned. -/
theorem DiskAt.safeTurn {w w' : World} {p bs bp : Nat} {s : St} (h : DiskAt w p bs bp s) {M : Int → Option (List Int)} (hM : MapAt w' bs M) (hg : w.grownBy w' (some bs)) {f : Int → List Int} (hf : ∀ i, f i = (M i).getD zeroB) (hb : ∀ i, Blk (f i)) :
    DiskAt w' p bs bp { s with safe := f } :=
  ⟨(hg.block p h.lt.1 (fun e => h.ne_s (Option.some.inj e))).trans h.row, ⟨M, hM, hf⟩, h.pend.same (hg.block bp h.lt.2.2 (fun e => h.ne (Option.some.inj e).symm)), h.ne,
    ⟨h.good.b0, h.good.b1, hb, h.good.pend, h.good.l0, h.good.l1, h.good.w0, h.good.w1, h.good.mz⟩⟩

/-- The map of what is pending has turned. -/
theorem DiskAt.pendTurn {w w' : World} {p bs bp : Nat} {s : St} (h : DiskAt w p bs bp s) {M : Int → Option (List Int)} (hM : MapAt w' bp M) (hg : w.grownBy w' (some bp)) (hb : ∀ i c, M i = some c → 0 ≤ i ∧ i < s.blocks ∧ Blk c) :
    DiskAt w' p bs bp { s with pend := M } := by
  obtain ⟨Ms, hs, hf⟩ := h.safe
  exact ⟨(hg.block p h.lt.1 (fun e => h.ne_p (Option.some.inj e))).trans h.row, ⟨Ms, hs.same (hg.block bs h.lt.2.1 (fun e => h.ne (Option.some.inj e))), hf⟩, hM, h.ne,
    ⟨h.good.b0, h.good.b1, h.good.safe, hb, h.good.l0, h.good.l1, h.good.w0, h.good.w1, h.good.mz⟩⟩

theorem DiskAt.as {w : World} {p bs bp : Nat} {s s' : St} (h : DiskAt w p bs bp s) (e : s' = s) : DiskAt w p bs bp s' := by rw [e]; exact h

/-- How it is armed is stored. -/
theorem DiskAt.arming {w : World} {p bs bp : Nat} {s : St} (h : DiskAt w p bs bp s) (a : Bool) (l : Int) (m : ByteArray) (h0 : 0 ≤ l) (h1 : l ≤ 9223372036854775807) (hm : m.size ≤ maxLen) :
    DiskAt (((w.setCell ⟨p, 4, none⟩ (.bool a)).setCell ⟨p, 5, none⟩ (.int .i64 l)).setCell ⟨p, 6, none⟩ (.string m)) p bs bp { s with armed := a, left := l, mask := m } :=
  ((h.put 4 (.bool a) (s' := { s with armed := a }) (by simp [cellsOf]) rfl rfl ⟨h.good.b0, h.good.b1, h.good.safe, h.good.pend, h.good.l0, h.good.l1, h.good.w0, h.good.w1, h.good.mz⟩).put 5 (.int .i64 l) (s' := { s with armed := a, left := l }) (by simp [cellsOf]) rfl rfl
    ⟨h.good.b0, h.good.b1, h.good.safe, h.good.pend, h0, h1, h.good.w0, h.good.w1, h.good.mz⟩).put 6 (.string m) (s' := { s with armed := a, left := l, mask := m }) (by simp [cellsOf]) rfl rfl ⟨h.good.b0, h.good.b1, h.good.safe, h.good.pend, h0, h1, h.good.w0, h.good.w1, hm⟩

theorem sole_arming (w : World) (p : Nat) (u v x : Value) : Sole [p] w (((w.setCell ⟨p, 4, none⟩ u).setCell ⟨p, 5, none⟩ v).setCell ⟨p, 6, none⟩ x) :=
  ((Sole.setCell _ _ (by simp)).trans (Sole.setCell _ _ (by simp))).trans (Sole.setCell _ _ (by simp))

end Go.Proofs.YtckcdmkgmbicfaaGreat
