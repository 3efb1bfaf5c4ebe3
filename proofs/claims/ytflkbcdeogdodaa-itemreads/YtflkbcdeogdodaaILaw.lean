/- What the laws' walks share: the parameters in their boxes; loads behind guards. -/
import Derived.Test.YtflkbcdeogdodaaILive
import Derived.Test.YtflkbcdeogdodaaIArg
namespace Go.Proofs.Ytflkbcdeogdodaa
open Go.RowKit
set_option linter.unusedVariables false

/-- A load, guarded or not, whose outcome is told. -/
theorem wpList_loadG {ops : Array Oper} {rest : List Oper} {o : Oper} {a : Act} {w : World} {Q : Exit → Act → World → Prop} (hw : Region.wanted o (yielded ops a.tmps) = true) (ty : TypeId) (x : Operand) (ho : o.op = .load ty x)
    (q : Addr) (hx : a.eval x = .pointer (some q)) (v : Value) (hl : (Instr.loadAt ty (.pointer (some q))).run Try.prog w = .ok v w)
    (h : wpList Try.prog ops Q rest (a.put o.dst v) w) : wpList Try.prog ops Q (o :: rest) a w :=
  BigFrame.wpList_want hw fun K hK => by
    unfold Oper.wp execOp
    simp only [ho, hx, hl, Sem.run_bind, Sem.run_pure, Result.andThen_ok]
    exact hK _ _ h

/-- A chunk lies in the block 'g', a variable of its own. -/
structure ChAt (w : World) (g : Nat) (b : List Int) : Prop where
  row : w.heap[g]? = some (.cells (bytesV b) 25 (0, 0))
theorem ChAt.lt {w : World} {g : Nat} {b : List Int} (h : ChAt w g b) : g < w.heap.size := (Array.getElem?_eq_some_iff.1 h.row).1
theorem ChAt.below {w w' : World} {g : Nat} {b : List Int} (h : ChAt w g b) (hb : Below w.heap.size w w') : ChAt w' g b := ⟨(hb.block g h.lt).trans h.row⟩
theorem ChAt.load {w : World} {g : Nat} {b : List Int} (h : ChAt w g b) (hb : b.length = 32) : (Instr.loadAt 25 (.pointer (some ⟨g, 0, none⟩))).run Try.prog w = .ok (.agg (bytesV b)) w := by
  have hl := run_loadVar_row (P := Try.prog) w g _ 25 (bytesV b) _ _ h.row Try.underlying25 rfl (by rw [bytesV_size, hb]; exact size_chunk)
  simp only [Instr.loadAt, Instr.sureAddr, Sem.run_bind, Sem.run_pure, Result.andThen_ok, hl]

/-- An inode lies in the block 'g', a variable of its own. -/
structure InAt (w : World) (g : Nat) (k m l s : Int) : Prop where
  row : w.heap[g]? = some (.cells #[.int .i64 k, .int .i64 m, .int .i64 l, .int .i64 s] 23 (0, 0))
theorem InAt.lt {w : World} {g : Nat} {k m l s : Int} (h : InAt w g k m l s) : g < w.heap.size := (Array.getElem?_eq_some_iff.1 h.row).1
theorem InAt.below {w w' : World} {g : Nat} {k m l s : Int} (h : InAt w g k m l s) (hb : Below w.heap.size w w') : InAt w' g k m l s := ⟨(hb.block g h.lt).trans h.row⟩
theorem InAt.load {w : World} {g : Nat} {k m l s : Int} (h : InAt w g k m l s) : (Instr.loadAt 23 (.pointer (some ⟨g, 0, none⟩))).run Try.prog w = .ok (.agg #[.int .i64 k, .int .i64 m, .int .i64 l, .int .i64 s]) w := by
  have hl := run_loadVar_row (P := Try.prog) w g _ 23 _ _ _ h.row Try.underlying23 rfl size_inode
  simp only [Instr.loadAt, Instr.sureAddr, Sem.run_bind, Sem.run_pure, Result.andThen_ok, hl]

theorem ItOk.mk' {k m l s t : Int} {b : List Int} (h : InoOk k m l s) (ht : (Lit.int .u32 t).wf = true) (hb : Ch b) : ItOk ⟨k, m, l, s, t, b⟩ := ⟨h, (bounds_u32 ht).1, (bounds_u32 ht).2, hb⟩

/-! ### What follows of Encode and Decode -/
theorem encOk_iff {p : Int} {x : It} : encOk p x = true ↔ giveI p x = x ∧ standsB p x = true := by
  unfold encOk; rw [Bool.and_eq_true, itEq_iff]

theorem encE_0 {p : Int} {x : It} : encE p x = 0 ↔ wid p ≠ 0 ∧ encOk p x = true := by
  by_cases hp : wid p = 0
  · rw [(enc_arg hp x).1]
    exact ⟨fun h => absurd h (by decide), fun h => absurd hp h.1⟩
  · cases ho : encOk p x with
    | false => rw [(enc_no hp ho).1]; exact ⟨fun h => absurd h (by decide), fun h => absurd h.2 (by decide)⟩
    | true => rw [(enc_yes hp ho).1]; exact ⟨fun _ => ⟨hp, rfl⟩, fun _ => rfl⟩

theorem encE_or {p : Int} (hp : wid p ≠ 0) (x : It) : encE p x = 0 ∨ encE p x = 11 := by
  cases ho : encOk p x with
  | false => exact .inr (enc_no hp ho).1
  | true => exact .inl (enc_yes hp ho).1

end Go.Proofs.Ytflkbcdeogdodaa
