/- PtMath, PtState: in one text. -/
import Derived.Test.YtiplhhaehbjghaaGreatI1
import Derived.Laws.BitsAllLaws
import Derived.Laws.CopyOwn
import Derived.Lib.BufferWrite
namespace Go.Proofs.YtiplhhaehbjghaaGreat
open Go.RowKit
set_option linter.unusedVariables false
set_option maxHeartbeats 32000000
set_option maxRecDepth 100000
set_option linter.unusedSimpArgs false
structure Pt where
 fresh : Bool
 mask : Nat
 bytes : List Int
structure PtOk (p : Pt) : Prop where
 lt : p.mask < 4294967296
 ch : Ch p.bytes
def pt0 : Pt := ⟨false, 0, zeroC⟩
theorem pt0_ok : PtOk pt0 := ⟨by decide, ch_zero⟩
def layAt (b : List Int) (p : Pt) (i : Nat) : Int := if p.mask.testBit i then p.bytes.getD i 0 else if p.fresh then 0 else b.getD i 0
def layB (b : List Int) (p : Pt) : List Int := (List.range 32).map (layAt b p)
def trimP (p : Pt) : Pt := ⟨p.fresh, p.mask, layB zeroC p⟩
def joinP (a b : Pt) : Pt := if b.fresh then trimP b else ⟨a.fresh, a.mask ||| b.mask, layB (trimP a).bytes b⟩
theorem layB_len (b : List Int) (p : Pt) : (layB b p).length = 32 := by simp [layB]
theorem layB_get (b : List Int) (p : Pt) {i : Nat} (h : i < 32) : (layB b p).getD i 0 = layAt b p i := by
 unfold layB
 rw [List.getD_eq_getElem?_getD, List.getElem?_map, List.getElem?_range h]; rfl
theorem layAt_byt {b : List Int} (hb : Ch b) {p : Pt} (hp : PtOk p) (i : Nat) : 0 ≤ layAt b p i ∧ layAt b p i ≤ 255 := by
 unfold layAt
 split
 ·exact hp.ch.2.getD i
 ·split
  ·omega
  ·exact hb.2.getD i
theorem layB_ch {b : List Int} (hb : Ch b) {p : Pt} (hp : PtOk p) : Ch (layB b p) := by
 refine ⟨layB_len b p, fun x hx => ?_⟩
 unfold layB at hx
 obtain ⟨i, _, rfl⟩ := List.mem_map.1 hx
 exact layAt_byt hb hp i
theorem zeroC_get (i : Nat) : zeroC.getD i 0 = 0 := by
 unfold zeroC
 rw [List.getD_eq_getElem?_getD, List.getElem?_replicate]
 split <;> rfl
theorem ch_ext {a b : List Int} (ha : a.length = 32) (hb : b.length = 32) (h : ∀ i, i < 32 → a.getD i 0 = b.getD i 0) : a = b := by
 rw [ch_eq ha, ch_eq hb]
 exact List.map_congr_left fun i hi => h i (List.mem_range.1 hi)
theorem trimP_ok {p : Pt} (h : PtOk p) : PtOk (trimP p) := ⟨h.lt, layB_ch ch_zero h⟩
theorem or_lt32 {a b : Nat} (ha : a < 4294967296) (hb : b < 4294967296) : a ||| b < 4294967296 := Nat.or_lt_two_pow (n := 32) ha hb
theorem joinP_ok {a b : Pt} (ha : PtOk a) (hb : PtOk b) : PtOk (joinP a b) := by
 unfold joinP
 split
 ·exact trimP_ok hb
 ·exact ⟨or_lt32 ha.lt hb.lt, layB_ch (trimP_ok ha).ch hb⟩
theorem trimP_get (p : Pt) {i : Nat} (h : i < 32) : (trimP p).bytes.getD i 0 = if p.mask.testBit i then p.bytes.getD i 0 else 0 := by
 show (layB zeroC p).getD i 0 = _
 rw [layB_get _ _ h]
 unfold layAt
 rw [zeroC_get]
 split
 ·rfl
 ·split <;> rfl
theorem lay_join (x : List Int) (a b : Pt) : layB x (joinP a b) = layB (layB x a) b := by
 apply ch_ext (layB_len _ _) (layB_len _ _)
 intro i hi
 rw [layB_get _ _ hi, layB_get _ _ hi]
 unfold joinP
 cases hf : b.fresh
 ·rw [if_neg (by decide)]
  unfold layAt
  simp only [hf, Bool.false_eq_true, if_false, Nat.testBit_or]
  rw [layB_get _ _ hi, layB_get _ _ hi]
  unfold layAt
  simp only [hf, Bool.false_eq_true, if_false]
  rw [trimP_get a hi]
  cases ha : a.mask.testBit i <;> cases hb : b.mask.testBit i <;> simp [trimP]
 ·rw [if_pos rfl]
  have e : (trimP b).fresh = b.fresh := rfl
  have m : (trimP b).mask = b.mask := rfl
  unfold layAt
  rw [e, m, hf, trimP_get b hi]
  cases hb : b.mask.testBit i <;> simp
def runM (o n : Nat) : Nat := 2 ^ o * (2 ^ n - 1)
theorem runM_bit (o n i : Nat) : (runM o n).testBit i = (decide (o ≤ i) && decide (i < o + n)) := by
 unfold runM
 rw [Nat.mul_comm, ← Nat.shiftLeft_eq, Nat.testBit_shiftLeft, Nat.testBit_two_pow_sub_one]
 by_cases h : o ≤ i
 ·have : (i - o < n) = (i < o + n) := by apply propext; omega
  simp [h, this]
 ·simp [h]
theorem runM_lt {o n : Nat} (h : o + n ≤ 32) : runM o n < 4294967296 := by
 have h1 : 2 ^ (o + n) ≤ 4294967296 := by rw [show (4294967296 : Nat) = 2 ^ 32 from rfl]; exact Nat.pow_le_pow_right (by decide) h
 have hp : 0 < 2 ^ o := Nat.pow_pos (by decide)
 have hq : 0 < 2 ^ n := Nat.pow_pos (by decide)
 rw [Nat.pow_add] at h1
 unfold runM
 exact Nat.lt_of_lt_of_le (Nat.mul_lt_mul_of_pos_left (by omega) hp) h1
theorem runM_0 (o : Nat) : runM o 0 = 0 := by simp [runM]
theorem runM_next (o n : Nat) : runM o (n + 1) = runM o n ||| 2 ^ (o + n) := by
 apply Nat.eq_of_testBit_eq
 intro i
 rw [Nat.testBit_or, runM_bit, runM_bit, Nat.testBit_two_pow, Bool.eq_iff_iff]
 simp only [Bool.or_eq_true, Bool.and_eq_true, decide_eq_true_eq]
 omega
theorem from_shift {o : Nat} (h : o ≤ 32) : (4294967295 * 2 ^ o) % 4294967296 = runM o (32 - o) := by
 unfold runM
 obtain ⟨d, hd⟩ : ∃ d, 32 = o + d := ⟨32 - o, by omega⟩
 rw [show 32 - o = d from by omega, show (4294967295 : Nat) = 2 ^ (o + d) - 1 from by rw [← hd], show (4294967296 : Nat) = 2 ^ (o + d) from by rw [← hd]]
 have hp : 0 < 2 ^ o := Nat.pow_pos (by decide)
 have hq : 0 < 2 ^ d := Nat.pow_pos (by decide)
 rw [Nat.pow_add]
 generalize 2 ^ o = A at *
 generalize 2 ^ d = D at *
 have e : (A * D - 1) * A = A * (D - 1) + A * D * (A - 1) := by
  obtain ⟨A, rfl⟩ : ∃ k, A = k + 1 := ⟨A - 1, by omega⟩
  obtain ⟨D, rfl⟩ : ∃ k, D = k + 1 := ⟨D - 1, by omega⟩
  simp only [Nat.add_sub_cancel]
  have : (A + 1) * (D + 1) - 1 = A * D + A + D := by rw [Nat.add_mul, Nat.mul_add]; omega
  rw [this]
  simp only [Nat.add_mul, Nat.mul_add, Nat.mul_one, Nat.one_mul]
  rw [Nat.mul_comm D A, Nat.mul_assoc A D A, Nat.mul_comm D A]
  omega
 rw [e, Nat.add_mul_mod_self_left]
 refine Nat.mod_eq_of_lt (Nat.mul_lt_mul_of_pos_left (by omega) hp)
theorem run_andNot {o n : Nat} (h : o + n ≤ 32) : runM o (32 - o) &&& (4294967295 - runM (o + n) (32 - (o + n))) = runM o n := by
 have e : 4294967295 - runM (o + n) (32 - (o + n)) = 2 ^ (o + n) - 1 := by
  unfold runM
  have : 2 ^ (o + n) * 2 ^ (32 - (o + n)) = 4294967296 := by rw [← Nat.pow_add, show o + n + (32 - (o + n)) = 32 from by omega]
  rw [Nat.mul_sub, this]
  have : 0 < 2 ^ (o + n) := Nat.pow_pos (by decide)
  have : 2 ^ (o + n) ≤ 4294967296 := by rw [show (4294967296 : Nat) = 2 ^ 32 from rfl]; exact Nat.pow_le_pow_right (by decide) h
  omega
 rw [e]
 apply Nat.eq_of_testBit_eq
 intro i
 rw [Nat.testBit_and, runM_bit, runM_bit, Nat.testBit_two_pow_sub_one, Bool.eq_iff_iff]
 simp only [Bool.and_eq_true, decide_eq_true_eq]
 omega
def setAt (n : Nat) (o : Nat) (xs : List Int) (i : Nat) : Int := if o ≤ i ∧ i < o + n then xs.getD (i - o) 0 else 0
def ofP (o : Nat) (xs : List Int) : Pt := ⟨false, runM o xs.length, (List.range 32).map (setAt xs.length o xs)⟩
theorem setAt_byt {xs : List Int} (h : Byt xs) (n o i : Nat) : 0 ≤ setAt n o xs i ∧ setAt n o xs i ≤ 255 := by
 unfold setAt
 split
 ·exact h.getD _
 ·omega
theorem ofP_ok {o : Nat} {xs : List Int} (hb : Byt xs) (h : o + xs.length ≤ 32) : PtOk (ofP o xs) := by
 refine ⟨runM_lt h, by simp [ofP], fun x hx => ?_⟩
 simp only [ofP, List.mem_map] at hx
 obtain ⟨i, _, rfl⟩ := hx
 exact setAt_byt hb _ _ _
theorem range_get (f : Nat → Int) {i : Nat} (h : i < 32) : ((List.range 32).map f).getD i 0 = f i := by
 rw [List.getD_eq_getElem?_getD, List.getElem?_map, List.getElem?_range h]; rfl
def ptC (p : Pt) : Array Value := (Value.bool p.fresh :: Value.int .u32 (p.mask : Int) :: p.bytes.map (Value.int .u8)).toArray
theorem ptC_size {p : Pt} (h : p.bytes.length = 32) : (ptC p).size = 34 := by simp [ptC, h]
theorem one_pt (p : Pt) : (ptC p).all (·.oneCell') = true := by
 refine Array.all_eq_true_iff_forall_mem.2 (fun u hu => ?_)
 have hu' : u = Value.bool p.fresh ∨ u = Value.int .u32 (p.mask : Int) ∨ u ∈ p.bytes.map (Value.int .u8) := by
  simpa only [ptC, List.mem_toArray, List.mem_cons] using hu
 rcases hu' with rfl | rfl | hu'
 ·rfl
 ·rfl
 ·exact ints_oneCell .u8 p.bytes u hu'
theorem size_pt : (Tryz.prog.info? 117).map (·.size) = some 34 := by kernel_rfl
theorem size_ch : (Tryz.prog.info? 115).map (·.size) = some 32 := by kernel_rfl
structure PtAt (w : World) (g : Nat) (p : Pt) : Prop where
 row : w.heap[g]? = some (.cells (ptC p) 117 (0, 0))
theorem PtAt.lt {w : World} {g : Nat} {p : Pt} (h : PtAt w g p) : g < w.heap.size := (Array.getElem?_eq_some_iff.1 h.row).1
theorem PtAt.below {w w' : World} {g : Nat} {p : Pt} (h : PtAt w g p) (hb : Below w.heap.size w w') : PtAt w' g p := ⟨(hb.block g h.lt).trans h.row⟩
theorem PtAt.laid (w : World) (p : Pt) : PtAt (w.alloc (.cells (ptC p) 117)) w.heap.size p := ⟨heap_alloc_new w _⟩
theorem PtAt.setRow {w : World} {g : Nat} {p : Pt} (h : PtAt w g p) (y : Pt) : PtAt (w.setRow g (ptC y)) g y := ⟨setRow_heap w g _ _ _ _ h.row⟩
theorem PtAt.cell {w : World} {g : Nat} {p : Pt} (h : PtAt w g p) (j : Nat) (v : Value) (hv : (ptC p)[j]? = some v) : w.cell? ⟨g, j, none⟩ = some v := by
 rw [cell_of_row w g j _ _ (0, 0) h.row]; exact hv
theorem PtAt.c0 {w : World} {g : Nat} {p : Pt} (h : PtAt w g p) : w.cell? ⟨g, 0, none⟩ = some (.bool p.fresh) := h.cell 0 _ rfl
theorem PtAt.c1 {w : World} {g : Nat} {p : Pt} (h : PtAt w g p) : w.cell? ⟨g, 1, none⟩ = some (.int .u32 (p.mask : Int)) := h.cell 1 _ rfl
theorem PtAt.byte {w : World} {g : Nat} {p : Pt} (h : PtAt w g p) (hl : p.bytes.length = 32) {i : Nat} (hi : i < 32) : w.cell? ⟨g, 2 + i, none⟩ = some (.int .u8 (p.bytes.getD i 0)) := by
 refine h.cell (2 + i) _ ?_
 rw [Nat.add_comm]
 simp [ptC, List.getElem?_eq_getElem (show i < p.bytes.length by omega)]
theorem PtAt.frozen {w : World} {g : Nat} {p : Pt} (h : PtAt w g p) (j : Nat) : w.frozen? ⟨g, j, none⟩ = false := by
 simp [World.frozen?, h.row]
theorem PtAt.load {w : World} {g : Nat} {p : Pt} (h : PtAt w g p) (hl : p.bytes.length = 32) : (Instr.loadAt 117 (.pointer (some ⟨g, 0, none⟩))).run Tryz.prog w = .ok (.agg (ptC p)) w := by
 have hl := run_loadVar_row (P := Tryz.prog) w g _ 117 (ptC p) _ _ h.row Tryz.underlying117 rfl (by rw [ptC_size hl]; exact size_pt)
 simp only [Instr.loadAt, Instr.sureAddr, Sem.run_bind, Sem.run_pure, Result.andThen_ok, hl]
structure ChAt (w : World) (g : Nat) (b : List Int) : Prop where
 row : w.heap[g]? = some (.cells (bytesV b) 115 (0, 0))
theorem ChAt.lt {w : World} {g : Nat} {b : List Int} (h : ChAt w g b) : g < w.heap.size := (Array.getElem?_eq_some_iff.1 h.row).1
theorem ChAt.below {w w' : World} {g : Nat} {b : List Int} (h : ChAt w g b) (hb : Below w.heap.size w w') : ChAt w' g b := ⟨(hb.block g h.lt).trans h.row⟩
theorem ChAt.laid (w : World) (b : List Int) : ChAt (w.alloc (.cells (bytesV b) 115)) w.heap.size b := ⟨heap_alloc_new w _⟩
theorem ChAt.setRow {w : World} {g : Nat} {b : List Int} (h : ChAt w g b) (y : List Int) : ChAt (w.setRow g (bytesV y)) g y := ⟨setRow_heap w g _ _ _ _ h.row⟩
theorem ChAt.byte {w : World} {g : Nat} {b : List Int} (h : ChAt w g b) (hl : b.length = 32) {i : Nat} (hi : i < 32) : w.cell? ⟨g, i, none⟩ = some (.int .u8 (b.getD i 0)) := by
 rw [cell_of_row w g i _ _ (0, 0) h.row]
 simp [bytesV, List.getElem?_eq_getElem (show i < b.length by omega)]
theorem ChAt.frozen {w : World} {g : Nat} {b : List Int} (h : ChAt w g b) (j : Nat) : w.frozen? ⟨g, j, none⟩ = false := by
 simp [World.frozen?, h.row]
theorem ChAt.load {w : World} {g : Nat} {b : List Int} (h : ChAt w g b) (hb : b.length = 32) : (Instr.loadAt 115 (.pointer (some ⟨g, 0, none⟩))).run Tryz.prog w = .ok (.agg (bytesV b)) w := by
 have hl := run_loadVar_row (P := Tryz.prog) w g _ 115 (bytesV b) _ _ h.row Tryz.underlying115 rfl (by rw [bytesV_size, hb]; exact size_ch)
 simp only [Instr.loadAt, Instr.sureAddr, Sem.run_bind, Sem.run_pure, Result.andThen_ok, hl]
theorem wpList_loadG {ops : Array Oper} {rest : List Oper} {o : Oper} {a : Act} {w : World} {Q : Exit → Act → World → Prop} (hw : Region.wanted o (yielded ops a.tmps) = true) (ty : TypeId) (x : Operand) (ho : o.op = .load ty x)
  (q : Addr) (hx : a.eval x = .pointer (some q)) (v : Value) (hl : (Instr.loadAt ty (.pointer (some q))).run Tryz.prog w = .ok v w)
  (h : wpList Tryz.prog ops Q rest (a.put o.dst v) w) : wpList Tryz.prog ops Q (o :: rest) a w :=
 BigFrame.wpList_want hw fun K hK => by
  unfold Oper.wp execOp
  simp only [ho, hx, hl, Sem.run_bind, Sem.run_pure, Result.andThen_ok]
  exact hK _ _ h
theorem yields_load {ops : Array Oper} {S : World → Prop} {op : Oper} {a : Act} (hw : Region.wanted op (yielded ops a.tmps) = true) (ty : TypeId) (x : Operand) (ho : op.op = .load ty x)
  (q : Addr) (hx : a.eval x = .pointer (some q)) (v : Value) (hS : ∀ w, S w → (Instr.loadAt ty (.pointer (some q))).run Tryz.prog w = .ok v w) : YieldsIf Tryz.prog ops S op v a :=
 .inl ⟨hw, fun w hw' => by
  unfold execOp
  simp only [ho, hx, Sem.run_bind, Sem.run_pure, Result.andThen_ok, hS w hw']⟩
theorem wpList_buildBy {ops : Array Oper} {rest : List Oper} {o : Oper} {a : Act} {w : World} {Q : Exit → Act → World → Prop} (hg : o.guard = none) (t : TypeId) (parts : Array (Nat × Operand)) (ho : o.op = .build t parts)
  (d : Option Tmp) (hd : o.dst = d) (vs : List (Nat × Value)) (hp : (parts.map fun (i, x) => (i, a.eval x)).toList = vs) (cells : Array Value) (hf : Tryz.prog.built t vs = some cells)
  (h : wpList Tryz.prog ops Q rest (a.put d (.agg cells)) w) : wpList Tryz.prog ops Q (o :: rest) a w :=
 wpList_buildTo hg t parts ho d hd cells (by rw [hp]; exact hf) h
theorem wpList_storeP {w : World} {ops : Array Oper} {rest : List Oper} {o : Oper} {a : Act} {Q : Exit → Act → World → Prop} (hg : o.guard = none) (x y : Operand) (ho : o.op = .store 117 x y)
  (g : Nat) (z old : Pt) (hx : a.eval x = .pointer (some ⟨g, 0, none⟩)) (hy : a.eval y = .agg (ptC z)) (hz : z.bytes.length = 32) (hold : old.bytes.length = 32) (hat : PtAt w g old)
  (h : wpList Tryz.prog ops Q rest (a.put o.dst undef) (w.setRow g (ptC z))) : wpList Tryz.prog ops Q (o :: rest) a w :=
 wpList_store_row hg 117 x y ho g (ptC z) hx hy 117 (ptC old) hat.row (by rw [ptC_size hz]; exact size_pt) (by rw [ptC_size hz, ptC_size hold]) (one_pt z) h
theorem wpList_storeC {w : World} {ops : Array Oper} {rest : List Oper} {o : Oper} {a : Act} {Q : Exit → Act → World → Prop} (hg : o.guard = none) (x y : Operand) (ho : o.op = .store 115 x y)
  (g : Nat) (z old : List Int) (hx : a.eval x = .pointer (some ⟨g, 0, none⟩)) (hy : a.eval y = .agg (bytesV z)) (hz : z.length = 32) (hold : old.length = 32) (hat : ChAt w g old)
  (h : wpList Tryz.prog ops Q rest (a.put o.dst undef) (w.setRow g (bytesV z))) : wpList Tryz.prog ops Q (o :: rest) a w :=
 wpList_store_row hg 115 x y ho g (bytesV z) hx hy 115 (bytesV old) hat.row (by rw [bytesV_size, hz]; exact size_ch) (by rw [bytesV_size, bytesV_size, hz, hold]) (one_bytes z) h
theorem built_pt0 : Tryz.prog.built 117 [] = some (ptC pt0) := by kernel_rfl
theorem built_mask (m : Nat) : Tryz.prog.built 117 [(1, .int .u32 (m : Int))] = some (ptC ⟨false, m, zeroC⟩) := by kernel_rfl
theorem built_two (f : Bool) (m : Nat) : Tryz.prog.built 117 [(0, .bool f), (1, .int .u32 (m : Int))] = some (ptC ⟨f, m, zeroC⟩) := by kernel_rfl
theorem built_ch0 : Tryz.prog.built 115 [] = some (bytesV zeroC) := by kernel_rfl
theorem built_pt (f : Bool) (m : Nat) {b : List Int} (hb : b.length = 32) : Tryz.prog.built 117 [(0, .bool f), (1, .int .u32 (m : Int)), (2, .agg (bytesV b))] = some (ptC ⟨f, m, b⟩) := by
 have h : ∀ g : Nat → Int, Tryz.prog.built 117 [(0, .bool f), (1, .int .u32 (m : Int)), (2, .agg (bytesV ((List.range 32).map g)))] = some (ptC ⟨f, m, (List.range 32).map g⟩) := by intro g; kernel_rfl
 rw [ch_eq hb]; exact h _
theorem zeroPt (w : World) : (zeroValue 117).run Tryz.prog w = .ok (.agg (ptC pt0)) w := by
 have h : (Tryz.prog.info? 117).map (fun i => (i.zero, i.size)) = some (some (.agg (ptC pt0)), 34) := by kernel_rfl
 exact (zero_of_info h).1 w
theorem zeroCh (w : World) : (zeroValue 115).run Tryz.prog w = .ok (.agg (bytesV zeroC)) w := by
 have h : (Tryz.prog.info? 115).map (fun i => (i.zero, i.size)) = some (some (.agg (bytesV zeroC)), 32) := by kernel_rfl
 exact (zero_of_info h).1 w
theorem ret_pt {fn : Func} {R : Ending → World → Prop} {a : Act} {w : World} {p : Tmp} (h : fn.results = #[.cell p 117]) (g : Nat) (x : Pt) (hx : x.bytes.length = 32) (hp : a.tmps.getD p undef = .pointer (some ⟨g, 0, none⟩))
  (hg : PtAt w g x) (hd : a.defers = []) (hR : R (.returned (.agg (ptC x))) w) : bodyPost Tryz.prog fn R .ret a w :=
 bodyPost_ret (results_cell_row h a.tmps w g _ (ptC x) _ _ hp hg.row Tryz.underlying117 rfl (by rw [ptC_size hx]; exact size_pt)) hd hR
theorem ret_ch {fn : Func} {R : Ending → World → Prop} {a : Act} {w : World} {p : Tmp} (h : fn.results = #[.cell p 115]) (g : Nat) (x : List Int) (hx : x.length = 32) (hp : a.tmps.getD p undef = .pointer (some ⟨g, 0, none⟩))
  (hg : ChAt w g x) (hd : a.defers = []) (hR : R (.returned (.agg (bytesV x))) w) : bodyPost Tryz.prog fn R .ret a w :=
 bodyPost_ret (results_cell_row h a.tmps w g _ (bytesV x) _ _ hp hg.row Tryz.underlying115 rfl (by rw [bytesV_size, hx]; exact size_ch)) hd hR
theorem ret_pt2 {fn : Func} {R : Ending → World → Prop} {a : Act} {w : World} {p u : Tmp} (h : fn.results = #[.cell p 117, .tmp u]) (g : Nat) (x : Pt) (hx : x.bytes.length = 32) (hp : a.tmps.getD p undef = .pointer (some ⟨g, 0, none⟩)) (v : Value) (hu : a.tmps.getD u undef = v)
  (hg : PtAt w g x) (hd : a.defers = []) (hR : R (.returned (.tuple #[.agg (ptC x), v])) w) : bodyPost Tryz.prog fn R .ret a w := by
 refine bodyPost_ret ?_ hd hR
 have hp' : a.tmps[p]?.getD undef = .pointer (some ⟨g, 0, none⟩) := by simpa using hp
 have hu' : a.tmps[u]?.getD undef = v := by simpa using hu
 have hl := run_loadVar_row (P := Tryz.prog) w g _ 117 (ptC x) _ _ hg.row Tryz.underlying117 rfl (by rw [ptC_size hx]; exact size_pt)
 simp [results, h, hp', hu', asAddr, hl, Result.andThen]
def ptEq (x y : Pt) : Bool := (x.fresh == y.fresh) && (x.mask == y.mask) && decide (x.bytes = y.bytes)
theorem ptEq_iff {x y : Pt} : ptEq x y = true ↔ x = y := by
 obtain ⟨f, m, b⟩ := x
 obtain ⟨f', m', b'⟩ := y
 simp only [ptEq, Bool.and_eq_true, beq_iff_eq, decide_eq_true_iff, Pt.mk.injEq]
 constructor
 ·rintro ⟨⟨h1, h2⟩, h3⟩; exact ⟨h1, h2, h3⟩
 ·rintro ⟨h1, h2, h3⟩; exact ⟨⟨h1, h2⟩, h3⟩
theorem pt_part0 (w : World) (x : Pt) : (part 4 (ptC x) 0).run Tryz.prog w = .ok (.bool x.fresh) w := by
 simp [part, isAgg, run_underlying Tryz.underlying4, ptC]
theorem pt_part1 (w : World) (x : Pt) : (part 23 (ptC x) 1).run Tryz.prog w = .ok (.int .u32 (x.mask : Int)) w := by
 simp [part, isAgg, run_underlying Tryz.underlying23, ptC]
theorem pt_part2 (w : World) (x : Pt) (h : x.bytes.length = 32) : (part 115 (ptC x) 2).run Tryz.prog w = .ok (.agg (bytesV x.bytes)) w := by
 obtain ⟨i, hi, hs⟩ : ∃ i, Tryz.prog.info? 115 = some i ∧ i.size = 32 := by
  have h : (Tryz.prog.info? 115).map (·.size) = some 32 := by kernel_rfl
  cases hq : Tryz.prog.info? 115 with
  | none => rw [hq] at h; cases h
  | some i => rw [hq] at h; exact ⟨i, rfl, by simpa using h⟩
 have he : (ptC x).extract 2 (2 + 32) = bytesV x.bytes := by
  apply Array.ext'
  simp only [ptC, bytesV, Array.toList_extract, List.extract_eq_take_drop]
  simp only [List.drop_succ_cons, List.drop_zero]
  exact List.take_of_length_le (by simp [h])
 simp [part, isAgg, run_underlying Tryz.underlying115, sizeOf, typeInfo, hi, hs, he]
theorem equal_pts (w : World) (d : Nat) {x y : Pt} (hx : x.bytes.length = 32) (hy : y.bytes.length = 32) : (Op.equalIn (d + 3) 117 (.agg (ptC x)) (.agg (ptC y))).run Tryz.prog w = .ok (ptEq x y) w := by
 have hS : Tryz.prog.underlying 117 = some (.struct (Tryz.prog.fieldsOf 117)) := by kernel_rfl
 have hp : Tryz.prog.stoodInHeld 117 = false := by kernel_rfl
 have hF : ((Tryz.prog.fieldsOf 117).toList.map fun f => (f.type, f.offset, decide (f.name = "_"))) = [(4, 0, false), (23, 1, false), (115, 2, false)] := by kernel_rfl
 have a1 := pt_part0 w x
 have a2 := pt_part1 w x
 have a3 := pt_part2 w x hx
 have b1 := pt_part0 w y
 have b2 := pt_part1 w y
 have b3 := pt_part2 w y hy
 have e1 : (Op.equalIn (d + 2) 4 (.bool x.fresh) (.bool y.fresh)).run Tryz.prog w = .ok (x.fresh == y.fresh) w := by
  have u4 := Tryz.underlying4
  go_simp
 have e2 : (Op.equalIn (d + 2) 23 (.int .u32 (x.mask : Int)) (.int .u32 (y.mask : Int))).run Tryz.prog w = .ok (x.mask == y.mask) w := by
  rw [run_equalIn_int w (d + 1) 23 .u32 .u32 _ _ Tryz.underlying23]
  congr 1
  rw [Bool.eq_iff_iff]; simp only [beq_iff_eq]; omega
 have e3 := equal_chunks w d hx hy
 rw [run_equalIn_agg w (d + 2) _ _ _ hS hp]
 generalize (Tryz.prog.fieldsOf 117).toList = L at hF
 have hl : L.length = 3 := by have := congrArg List.length hF; simpa using this
 match L, hl, hF with
 | [f0, f1, f2], _, hF =>
  simp only [List.map_cons, List.map_nil, List.cons.injEq, Prod.mk.injEq, and_true] at hF
  obtain ⟨⟨t0, o0, n0⟩, ⟨t1, o1, n1⟩, t2, o2, n2⟩ := hF
  rw [eqFields_cons w (d + 2) _ _ f0 _ _ _ _ n0 (by rw [t0, o0]; exact a1) (by rw [t0, o0]; exact b1) (by rw [t0]; exact e1)]
  rw [eqFields_cons w (d + 2) _ _ f1 _ _ _ _ n1 (by rw [t1, o1]; exact a2) (by rw [t1, o1]; exact b2) (by rw [t1]; exact e2)]
  rw [eqFields_cons w (d + 2) _ _ f2 _ _ _ _ n2 (by rw [t2, o2]; exact a3) (by rw [t2, o2]; exact b3) (by rw [t2]; exact e3)]
  unfold ptEq
  simp only [Op.eqFields, Sem.run_pure]
  cases (x.fresh == y.fresh) <;> cases (x.mask == y.mask) <;> cases decide (x.bytes = y.bytes) <;> rfl
theorem bit_and {m : Nat} (h : m < 4294967296) (i : Nat) : (bits .and .u32 ((m : Int) / 2 ^ i) 1 == 1) = m.testBit i := by
 have e : ((m : Int) / 2 ^ i) = ((m / 2 ^ i : Nat) : Int) := by first | (rw [Int.natCast_ediv]; done) | (rw [Int.natCast_ediv]; congr 1; done) | (rw [Int.natCast_ediv]; congr 1; simp)
 have hl : m / 2 ^ i < 4294967296 := Nat.lt_of_le_of_lt (Nat.div_le_self _ _) h
 rw [e, show (1 : Int) = ((1 : Nat) : Int) from rfl, u32_and_nat _ 1 hl (by decide), Nat.and_one_is_mod, Nat.testBit_eq_decide_div_mod_eq, Bool.eq_iff_iff]
 simp only [beq_iff_eq, decide_eq_true_eq]
 omega
theorem bit_mod (m i : Nat) : (((m : Int) / 2 ^ i) % 2 == 1) = m.testBit i := by
 have e : ((m : Int) / 2 ^ i) = ((m / 2 ^ i : Nat) : Int) := by first | (rw [Int.natCast_ediv]; done) | (rw [Int.natCast_ediv]; congr 1; done) | (rw [Int.natCast_ediv]; congr 1; simp)
 rw [e, Nat.testBit_eq_decide_div_mod_eq, Bool.eq_iff_iff]
 simp only [beq_iff_eq, decide_eq_true_eq]
 omega
end Go.Proofs.YtiplhhaehbjghaaGreat
