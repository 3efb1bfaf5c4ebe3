/- What a touch is, in plain words, and where it lies; which may be, and which meet. -/
import Derived.Test.YtmncjecbgakmfaaRtRow
import Derived.BigQuiet
import Derived.Deep.QuietTactic
import Derived.Deep.RegionHeld3
import Derived.Deep.MidRow
namespace Go.Proofs.Ytmncjecbgakmfaa
open Go.RowKit
set_option linter.unusedVariables false
set_option linter.unusedSimpArgs false
set_option maxRecDepth 4000

/-- A touch, in plain words. -/
structure Tc where
  kind : Int
  ino : Int
  name : ByteArray
  lo : Int
  hi : Int

/-- What its parts are. -/
structure TcOk (t : Tc) : Prop where
  k0 : -9223372036854775808 ≤ t.kind
  k1 : t.kind ≤ 9223372036854775807
  i0 : 0 ≤ t.ino
  i1 : t.ino ≤ 4294967295
  n1 : t.name.size ≤ maxLen
  l0 : -9223372036854775808 ≤ t.lo
  l1 : t.lo ≤ 9223372036854775807
  h0 : -9223372036854775808 ≤ t.hi
  h1 : t.hi ≤ 9223372036854775807

def tcE (t : Tc) : List Value := [.int .i64 t.kind, .int .u32 t.ino, .string t.name, .int .i64 t.lo, .int .i64 t.hi]
def tcC (t : Tc) : Array Value := #[.int .i64 t.kind, .int .u32 t.ino, .string t.name, .int .i64 t.lo, .int .i64 t.hi]
def tc0 : Tc := ⟨0, 0, ⟨#[]⟩, 0, 0⟩
theorem tc_len (t : Tc) : (tcE t).length = 5 := rfl
theorem tc_one (t : Tc) : ∀ u ∈ tcE t, u.oneCell' = true := fun u hu => by
  simp [tcE] at hu
  rcases hu with rfl | rfl | rfl | rfl | rfl <;> rfl
theorem tc0_ok : TcOk tc0 := by
  constructor <;> simp [tc0]
  exact Nat.zero_le _

/-- Whether two touches are one. -/
def tcEq (a b : Tc) : Bool := a.kind == b.kind && a.ino == b.ino && a.name.toList == b.name.toList && a.lo == b.lo && a.hi == b.hi
theorem tcEq_iff {a b : Tc} : tcEq a b = true ↔ a = b := by
  obtain ⟨k, i, s, l, h⟩ := a
  obtain ⟨k', i', s', l', h'⟩ := b
  simp only [tcEq, Bool.and_eq_true, beq_iff_eq, Tc.mk.injEq]
  constructor
  · rintro ⟨⟨⟨⟨rfl, rfl⟩, h⟩, rfl⟩, rfl⟩
    exact ⟨rfl, rfl, toList_inj h, rfl, rfl⟩
  · rintro ⟨rfl, rfl, rfl, rfl, rfl⟩
    exact ⟨⟨⟨⟨rfl, rfl⟩, rfl⟩, rfl⟩, rfl⟩
theorem tcEq_self (a : Tc) : tcEq a a = true := tcEq_iff.2 rfl

/-- '==' of two touches. -/
theorem equal_tcs (w : World) (k i l h k' i' l' h' : Int) (s s' : ByteArray) : (Op.equalIn 10000 24 (.agg #[.int .i64 k, .int .u32 i, .string s, .int .i64 l, .int .i64 h]) (.agg #[.int .i64 k', .int .u32 i', .string s', .int .i64 l', .int .i64 h'])).run Try.prog w = .ok (tcEq ⟨k, i, s, l, h⟩ ⟨k', i', s', l', h'⟩) w := by
  have u3 := Try.underlying3
  have u9 := Try.underlying9
  have u22 := Try.underlying22
  have hS : Try.prog.underlying 24 = some (.struct (Try.prog.fieldsOf 24)) := by kernel_rfl
  have hp : Try.prog.stoodInHeld 24 = false := by kernel_rfl
  rw [show (10000 : Nat) = 9999 + 1 from rfl, run_equalIn_agg w 9999 _ _ _ hS hp]
  simp only [Program.fieldsOf, Try.underlying24]
  go_simp
  unfold tcEq
  by_cases h1 : k = k' <;> by_cases h2 : i = i' <;> by_cases h3 : s.toList = s'.toList <;> by_cases h4 : l = l' <;> by_cases h5 : h = h' <;> simp [h1, h2, h3, h4, h5]

theorem eq_tcs (w : World) (k i l h k' i' l' h' : Int) (s s' : ByteArray) : (binOp .eql 24 (.agg #[.int .i64 k, .int .u32 i, .string s, .int .i64 l, .int .i64 h]) (.agg #[.int .i64 k', .int .u32 i', .string s', .int .i64 l', .int .i64 h'])).run Try.prog w = .ok (.bool (tcEq ⟨k, i, s, l, h⟩ ⟨k', i', s', l', h'⟩)) w := by
  rw [run_eql_struct, equal_tcs]
  rfl

theorem eq_tc (w : World) (a b : Tc) : (binOp .eql 24 (.agg (tcC a)) (.agg (tcC b))).run Try.prog w = .ok (.bool (tcEq a b)) w := by
  obtain ⟨k, i, s, l, h⟩ := a
  obtain ⟨k', i', s', l', h'⟩ := b
  exact eq_tcs w k i l h k' i' l' h' s s'

theorem neq_tc (w : World) (a b : Tc) : (binOp .neq 24 (.agg (tcC a)) (.agg (tcC b))).run Try.prog w = .ok (.bool (!tcEq a b)) w := by
  obtain ⟨k, i, s, l, h⟩ := a
  obtain ⟨k', i', s', l', h'⟩ := b
  unfold tcC
  rw [run_neq_struct, equal_tcs]
  rfl

/-- A touch lies in the block 'g', a variable of its own. -/
structure TcAt (w : World) (g : Nat) (t : Tc) : Prop where
  row : w.heap[g]? = some (.cells (tcC t) 24 (0, 0))
theorem TcAt.lt {w : World} {g : Nat} {t : Tc} (h : TcAt w g t) : g < w.heap.size := (Array.getElem?_eq_some_iff.1 h.row).1
theorem TcAt.below {w w' : World} {g : Nat} {t : Tc} (h : TcAt w g t) (hb : Below w.heap.size w w') : TcAt w' g t := ⟨(hb.block g h.lt).trans h.row⟩
theorem TcAt.laid (w : World) (t : Tc) : TcAt (w.alloc (.cells (tcC t) 24)) w.heap.size t := ⟨heap_alloc_new w _⟩
theorem TcAt.cell {w : World} {g : Nat} {t : Tc} (h : TcAt w g t) (j : Nat) (v : Value) (hv : (tcC t)[j]? = some v) : w.cell? ⟨g, j, none⟩ = some v := by
  rw [cell_of_row w g j _ _ (0, 0) h.row]; exact hv
theorem TcAt.c0 {w : World} {g : Nat} {t : Tc} (h : TcAt w g t) : w.cell? ⟨g, 0, none⟩ = some (.int .i64 t.kind) := h.cell 0 _ rfl
theorem TcAt.c1 {w : World} {g : Nat} {t : Tc} (h : TcAt w g t) : w.cell? ⟨g, 1, none⟩ = some (.int .u32 t.ino) := h.cell 1 _ rfl
theorem TcAt.c2 {w : World} {g : Nat} {t : Tc} (h : TcAt w g t) : w.cell? ⟨g, 2, none⟩ = some (.string t.name) := h.cell 2 _ rfl
theorem TcAt.c3 {w : World} {g : Nat} {t : Tc} (h : TcAt w g t) : w.cell? ⟨g, 3, none⟩ = some (.int .i64 t.lo) := h.cell 3 _ rfl
theorem TcAt.c4 {w : World} {g : Nat} {t : Tc} (h : TcAt w g t) : w.cell? ⟨g, 4, none⟩ = some (.int .i64 t.hi) := h.cell 4 _ rfl
theorem TcAt.load {w : World} {g : Nat} {t : Tc} (h : TcAt w g t) : (Instr.loadAt 24 (.pointer (some ⟨g, 0, none⟩))).run Try.prog w = .ok (.agg (tcC t)) w := by
  have hl := run_loadVar_row (P := Try.prog) w g _ 24 (tcC t) _ _ h.row Try.underlying24 rfl (by kernel_rfl)
  simp only [Instr.loadAt, Instr.sureAddr, Sem.run_bind, Sem.run_pure, Result.andThen_ok, hl]
/-- A load, guarded or not, whose outcome is told. -/
theorem wpList_loadG {ops : Array Oper} {rest : List Oper} {o : Oper} {a : Act} {w : World} {Q : Exit → Act → World → Prop} (hw : Region.wanted o (yielded ops a.tmps) = true) (ty : TypeId) (x : Operand) (ho : o.op = .load ty x)
    (q : Addr) (hx : a.eval x = .pointer (some q)) (v : Value) (hl : (Instr.loadAt ty (.pointer (some q))).run Try.prog w = .ok v w)
    (h : wpList Try.prog ops Q rest (a.put o.dst v) w) : wpList Try.prog ops Q (o :: rest) a w :=
  BigFrame.wpList_want hw fun K hK => by
    unfold Oper.wp execOp
    simp only [ho, hx, hl, Sem.run_bind, Sem.run_pure, Result.andThen_ok]
    exact hK _ _ h
theorem yields_load {ops : Array Oper} {S : World → Prop} {op : Oper} {a : Act} (hw : Region.wanted op (yielded ops a.tmps) = true) (ty : TypeId) (x : Operand) (ho : op.op = .load ty x)
    (q : Addr) (hx : a.eval x = .pointer (some q)) (v : Value) (hS : ∀ w, S w → (Instr.loadAt ty (.pointer (some q))).run Try.prog w = .ok v w) : YieldsIf Try.prog ops S op v a :=
  .inl ⟨hw, fun w hw' => by
    unfold execOp
    simp only [ho, hx, Sem.run_bind, Sem.run_pure, Result.andThen_ok, hS w hw']⟩

/-- What a kind does not name is zero. -/
def noName (t : Tc) : Bool := t.name.toList == []
def noSpan (t : Tc) : Bool := t.lo == 0 && t.hi == 0
/-- The kinds that name nothing. -/
def bareK (k : Int) : Bool := k == 1 || k == 2 || k == 3 || k == 6 || k == 7
/-- Whether a touch may be. -/
def mayB (t : Tc) : Bool :=
  t.ino != 0 && (if t.kind = 4 then noName t && (decide (0 ≤ t.lo) && decide (t.lo < t.hi) && decide (t.hi ≤ 512)) else if t.kind = 5 then !(noName t) && noSpan t else bareK t.kind && noName t && noSpan t)
/-- Whether two of one inode meet, which may be. -/
def withinB (a b : Tc) : Bool :=
  if b.kind = 7 then true else if a.kind = 6 then b.kind == 5 else if a.kind = b.kind ∧ a.kind ≠ 7 then (if a.kind = 4 then decide (a.lo < b.hi) && decide (b.lo < a.hi) else if a.kind = 5 then a.name.toList == b.name.toList else true) else false
/-- Whether what was read meets what was written. -/
def meetB (a b : Tc) : Bool := mayB a && mayB b && a.ino == b.ino && withinB a b
/-- Why a touch may not be. -/
def ckE (t : Tc) : Int := if mayB t = true then 0 else 1

end Go.Proofs.Ytmncjecbgakmfaa
