/- What a place is, in plain words, and where it lies. -/
import Derived.Test.YtmifpeocgikbeabLaws
import Derived.Test.YtmifpeocgikbeabNumMath
namespace Go.Proofs.Ytmifpeocgikbeab
open Go.RowKit
set_option maxRecDepth 4000
set_option linter.unusedVariables false

/-- A place, in plain words. -/
structure Pl where
  ino : Int
  part : Int
  name : ByteArray
  chunk : Int

/-- What its parts are. -/
structure PlOk (p : Pl) : Prop where
  i0 : 0 ≤ p.ino
  i1 : p.ino ≤ 4294967295
  p0 : -9223372036854775808 ≤ p.part
  p1 : p.part ≤ 9223372036854775807
  n1 : p.name.size ≤ maxLen
  c0 : 0 ≤ p.chunk
  c1 : p.chunk ≤ 4294967295

def plCells (p : Pl) : Array Value := #[.int .u32 p.ino, .int .i64 p.part, .string p.name, .int .u32 p.chunk]
def plV (p : Pl) : Value := .agg #[.int .u32 p.ino, .int .i64 p.part, .string p.name, .int .u32 p.chunk]

/-- The place that holds nothing. -/
def pl0 : Pl := ⟨0, 0, ⟨#[]⟩, 0⟩
def recP (i : Int) : Pl := ⟨i, 1, ⟨#[]⟩, 0⟩
def entP (i : Int) (s : ByteArray) : Pl := ⟨i, 2, s, 0⟩
def datP (i c : Int) : Pl := ⟨i, 3, ⟨#[]⟩, c⟩

/-- A place lies in the block 'g'. -/
structure PlAt (w : World) (g : Nat) (p : Pl) : Prop where
  row : w.heap[g]? = some (.cells (plCells p) 25 (0, 0))

theorem PlAt.lt {w : World} {g : Nat} {p : Pl} (h : PlAt w g p) : g < w.heap.size := (Array.getElem?_eq_some_iff.1 h.row).1
theorem PlAt.below {w w' : World} {g : Nat} {p : Pl} (h : PlAt w g p) (hb : Below w.heap.size w w') : PlAt w' g p := ⟨(hb.block g h.lt).trans h.row⟩
theorem PlAt.laid (w : World) (p : Pl) : PlAt (w.alloc (.cells (plCells p) 25)) w.heap.size p := ⟨heap_alloc_new w _⟩
theorem PlAt.cell {w : World} {g : Nat} {p : Pl} (h : PlAt w g p) (j : Nat) (v : Value) (hv : (plCells p)[j]? = some v) : w.cell? ⟨g, j, none⟩ = some v := by
  rw [cell_of_row w g j _ _ (0, 0) h.row]; exact hv
theorem PlAt.c0 {w : World} {g : Nat} {p : Pl} (h : PlAt w g p) : w.cell? ⟨g, 0, none⟩ = some (.int .u32 p.ino) := h.cell 0 _ rfl
theorem PlAt.c1 {w : World} {g : Nat} {p : Pl} (h : PlAt w g p) : w.cell? ⟨g, 1, none⟩ = some (.int .i64 p.part) := h.cell 1 _ rfl
theorem PlAt.c2 {w : World} {g : Nat} {p : Pl} (h : PlAt w g p) : w.cell? ⟨g, 2, none⟩ = some (.string p.name) := h.cell 2 _ rfl
theorem PlAt.c3 {w : World} {g : Nat} {p : Pl} (h : PlAt w g p) : w.cell? ⟨g, 3, none⟩ = some (.int .u32 p.chunk) := h.cell 3 _ rfl

/-- A place stored into a block, cell by cell. -/
def put4 (w : World) (g : Nat) (q : Pl) : World := (((w.setCell ⟨g, 0, none⟩ (.int .u32 q.ino)).setCell ⟨g, 1, none⟩ (.int .i64 q.part)).setCell ⟨g, 2, none⟩ (.string q.name)).setCell ⟨g, 3, none⟩ (.int .u32 q.chunk)
theorem PlAt.put4 {w : World} {g : Nat} {p : Pl} (h : PlAt w g p) (q : Pl) : PlAt (put4 w g q) g q := by
  have h1 := heap_setCell_same w g 0 _ _ (.int .u32 q.ino) h.row
  have h2 := heap_setCell_same _ g 1 _ _ (.int .i64 q.part) h1
  have h3 := heap_setCell_same _ g 2 _ _ (.string q.name) h2
  have h4 := heap_setCell_same _ g 3 _ _ (.int .u32 q.chunk) h3
  exact ⟨h4⟩
theorem below_put4 {B : Nat} {w0 w : World} {g : Nat} (hb : Below B w0 w) (hg : B ≤ g) (q : Pl) : Below B w0 (put4 w g q) := (((hb.setCell hg _).setCell hg _).setCell hg _).setCell hg _
theorem PlAt.fr {w : World} {g : Nat} {p : Pl} (h : PlAt w g p) (j : Nat) : w.frozen? ⟨g, j, none⟩ = false := by simp [World.frozen?, h.row]


end Go.Proofs.Ytmifpeocgikbeab
