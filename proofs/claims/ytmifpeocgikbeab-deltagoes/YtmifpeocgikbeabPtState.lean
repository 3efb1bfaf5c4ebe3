/- How a patch lies in memory; chunks in variables of their own; '=='. -/
import Derived.Test.YtmifpeocgikbeabPtMath
import Derived.Test.YtmifpeocgikbeabIArg
import Derived.Laws.CopyOwn
import Derived.Lib.BufferWrite
namespace Go.Proofs.Ytmifpeocgikbeab
open Go.RowKit
set_option linter.unusedVariables false
set_option linter.unusedSimpArgs false
set_option maxRecDepth 4000


/-- The 34 cells of a patch. -/
def ptC (p : Pt) : Array Value := (Value.bool p.fresh :: Value.int .u32 (p.mask : Int) :: p.bytes.map (Value.int .u8)).toArray
theorem ptC_size {p : Pt} (h : p.bytes.length = 32) : (ptC p).size = 34 := by simp [ptC, h]
theorem one_pt (p : Pt) : (ptC p).all (·.oneCell') = true := by
  refine Array.all_eq_true_iff_forall_mem.2 (fun u hu => ?_)
  have hu' : u = Value.bool p.fresh ∨ u = Value.int .u32 (p.mask : Int) ∨ u ∈ p.bytes.map (Value.int .u8) := by
    simpa only [ptC, List.mem_toArray, List.mem_cons] using hu
  rcases hu' with rfl | rfl | hu'
  · rfl
  · rfl
  · exact ints_oneCell .u8 p.bytes u hu'

theorem size_pt : (Try.prog.info? 35).map (·.size) = some 34 := by kernel_rfl
theorem size_ch : (Try.prog.info? 33).map (·.size) = some 32 := by kernel_rfl

/-- A patch lies in the block 'g', a variable of its own. -/
structure PtAt (w : World) (g : Nat) (p : Pt) : Prop where
  row : w.heap[g]? = some (.cells (ptC p) 35 (0, 0))
theorem PtAt.lt {w : World} {g : Nat} {p : Pt} (h : PtAt w g p) : g < w.heap.size := (Array.getElem?_eq_some_iff.1 h.row).1
theorem PtAt.below {w w' : World} {g : Nat} {p : Pt} (h : PtAt w g p) (hb : Below w.heap.size w w') : PtAt w' g p := ⟨(hb.block g h.lt).trans h.row⟩
theorem PtAt.laid (w : World) (p : Pt) : PtAt (w.alloc (.cells (ptC p) 35)) w.heap.size p := ⟨heap_alloc_new w _⟩
theorem PtAt.setRow {w : World} {g : Nat} {p : Pt} (h : PtAt w g p) (y : Pt) : PtAt (w.setRow g (ptC y)) g y := ⟨setRow_heap w g _ _ _ _ h.row⟩
theorem PtAt.cell {w : World} {g : Nat} {p : Pt} (h : PtAt w g p) (j : Nat) (v : Value) (hv : (ptC p)[j]? = some v) : w.cell? ⟨g, j, none⟩ = some v := by
  rw [cell_of_row w g j _ _ (0, 0) h.row]; exact hv
theorem PtAt.c0 {w : World} {g : Nat} {p : Pt} (h : PtAt w g p) : w.cell? ⟨g, 0, none⟩ = some (.bool p.fresh) := h.cell 0 _ rfl
theorem PtAt.c1 {w : World} {g : Nat} {p : Pt} (h : PtAt w g p) : w.cell? ⟨g, 1, none⟩ = some (.int .u32 (p.mask : Int)) := h.cell 1 _ rfl
theorem PtAt.byte {w : World} {g : Nat} {p : Pt} (h : PtAt w g p) (hl : p.bytes.length = 32) {i : Nat} (hi : i < 32) : w.cell? ⟨g, 2 + i, none⟩ = some (.int .u8 (p.bytes.getD i 0)) := by
  refine h.cell (2 + i) _ ?_
  rw [Nat.add_comm]
  simp [ptC, List.getElem?_eq_getElem (show i < p.bytes.length by omega)]
theorem PtAt.frozen {w : World} {g : Nat} {p : Pt} (h : PtAt w g p) (j : Nat) : w.frozen? ⟨g, j, none⟩ = false := by
  simp [World.frozen?, h.row]
theorem PtAt.load {w : World} {g : Nat} {p : Pt} (h : PtAt w g p) (hl : p.bytes.length = 32) : (Instr.loadAt 35 (.pointer (some ⟨g, 0, none⟩))).run Try.prog w = .ok (.agg (ptC p)) w := by
  have hl := run_loadVar_row (P := Try.prog) w g _ 35 (ptC p) _ _ h.row Try.underlying35 rfl (by rw [ptC_size hl]; exact size_pt)
  simp only [Instr.loadAt, Instr.sureAddr, Sem.run_bind, Sem.run_pure, Result.andThen_ok, hl]

/-- A chunk lies in the block 'g', a variable of its own. -/
structure ChAt (w : World) (g : Nat) (b : List Int) : Prop where
  row : w.heap[g]? = some (.cells (bytesV b) 33 (0, 0))
theorem ChAt.lt {w : World} {g : Nat} {b : List Int} (h : ChAt w g b) : g < w.heap.size := (Array.getElem?_eq_some_iff.1 h.row).1
theorem ChAt.below {w w' : World} {g : Nat} {b : List Int} (h : ChAt w g b) (hb : Below w.heap.size w w') : ChAt w' g b := ⟨(hb.block g h.lt).trans h.row⟩
theorem ChAt.laid (w : World) (b : List Int) : ChAt (w.alloc (.cells (bytesV b) 33)) w.heap.size b := ⟨heap_alloc_new w _⟩
theorem ChAt.setRow {w : World} {g : Nat} {b : List Int} (h : ChAt w g b) (y : List Int) : ChAt (w.setRow g (bytesV y)) g y := ⟨setRow_heap w g _ _ _ _ h.row⟩
theorem ChAt.byte {w : World} {g : Nat} {b : List Int} (h : ChAt w g b) (hl : b.length = 32) {i : Nat} (hi : i < 32) : w.cell? ⟨g, i, none⟩ = some (.int .u8 (b.getD i 0)) := by
  rw [cell_of_row w g i _ _ (0, 0) h.row]
  simp [bytesV, List.getElem?_eq_getElem (show i < b.length by omega)]
theorem ChAt.frozen {w : World} {g : Nat} {b : List Int} (h : ChAt w g b) (j : Nat) : w.frozen? ⟨g, j, none⟩ = false := by
  simp [World.frozen?, h.row]
theorem ChAt.load {w : World} {g : Nat} {b : List Int} (h : ChAt w g b) (hb : b.length = 32) : (Instr.loadAt 33 (.pointer (some ⟨g, 0, none⟩))).run Try.prog w = .ok (.agg (bytesV b)) w := by
  have hl := run_loadVar_row (P := Try.prog) w g _ 33 (bytesV b) _ _ h.row Try.underlying33 rfl (by rw [bytesV_size, hb]; exact size_ch)
  simp only [Instr.loadAt, Instr.sureAddr, Sem.run_bind, Sem.run_pure, Result.andThen_ok, hl]

/-- A load, guarded or not, whose outcome is told. -/
theorem wpList_loadG {ops : Array Oper} {rest : List Oper} {o : Oper} {a : Act} {w : World} {Q : Exit → Act → World → Prop} (hw : Region.wanted o (yielded ops a.tmps) = true) (ty : TypeId) (x : Operand) (ho : o.op = .load ty x)
    (q : Addr) (hx : a.eval x = .pointer (some q)) (v : Value) (hl : (Instr.loadAt ty (.pointer (some q))).run Try.prog w = .ok v w)
    (h : wpList Try.prog ops Q rest (a.put o.dst v) w) : wpList Try.prog ops Q (o :: rest) a w :=
  BigFrame.wpList_want hw fun K hK => by
    unfold Oper.wp execOp
    simp only [ho, hx, hl, Sem.run_bind, Sem.run_pure, Result.andThen_ok]
    exact hK _ _ h

theorem yields_load {ops : Array Oper} {S : World → Prop} {op : Oper} {a : Act} (hw : Region.wanted op (yielded ops a.tmps) = true) (ty : TypeId) (x : Operand) (ho : op.op = .load ty x)
    (q : Addr) (hx : a.eval x = .pointer (some q)) (v : Value) (hS : ∀ w, S w → (Instr.loadAt ty (.pointer (some q))).run Try.prog w = .ok v w) : YieldsIf Try.prog ops S op v a :=
  .inl ⟨hw, fun w hw' => by
    unfold execOp
    simp only [ho, hx, Sem.run_bind, Sem.run_pure, Result.andThen_ok, hS w hw']⟩

/-- A struct, or an array, that is built of parts whose values are told. -/
theorem wpList_buildBy {ops : Array Oper} {rest : List Oper} {o : Oper} {a : Act} {w : World} {Q : Exit → Act → World → Prop} (hg : o.guard = none) (t : TypeId) (parts : Array (Nat × Operand)) (ho : o.op = .build t parts)
    (d : Option Tmp) (hd : o.dst = d) (vs : List (Nat × Value)) (hp : (parts.map fun (i, x) => (i, a.eval x)).toList = vs) (cells : Array Value) (hf : Try.prog.built t vs = some cells)
    (h : wpList Try.prog ops Q rest (a.put d (.agg cells)) w) : wpList Try.prog ops Q (o :: rest) a w :=
  wpList_buildTo hg t parts ho d hd cells (by rw [hp]; exact hf) h

theorem wpList_storeP {w : World} {ops : Array Oper} {rest : List Oper} {o : Oper} {a : Act} {Q : Exit → Act → World → Prop} (hg : o.guard = none) (x y : Operand) (ho : o.op = .store 35 x y)
    (g : Nat) (z old : Pt) (hx : a.eval x = .pointer (some ⟨g, 0, none⟩)) (hy : a.eval y = .agg (ptC z)) (hz : z.bytes.length = 32) (hold : old.bytes.length = 32) (hat : PtAt w g old)
    (h : wpList Try.prog ops Q rest (a.put o.dst undef) (w.setRow g (ptC z))) : wpList Try.prog ops Q (o :: rest) a w :=
  wpList_store_row hg 35 x y ho g (ptC z) hx hy 35 (ptC old) hat.row (by rw [ptC_size hz]; exact size_pt) (by rw [ptC_size hz, ptC_size hold]) (one_pt z) h

theorem wpList_storeC {w : World} {ops : Array Oper} {rest : List Oper} {o : Oper} {a : Act} {Q : Exit → Act → World → Prop} (hg : o.guard = none) (x y : Operand) (ho : o.op = .store 33 x y)
    (g : Nat) (z old : List Int) (hx : a.eval x = .pointer (some ⟨g, 0, none⟩)) (hy : a.eval y = .agg (bytesV z)) (hz : z.length = 32) (hold : old.length = 32) (hat : ChAt w g old)
    (h : wpList Try.prog ops Q rest (a.put o.dst undef) (w.setRow g (bytesV z))) : wpList Try.prog ops Q (o :: rest) a w :=
  wpList_store_row hg 33 x y ho g (bytesV z) hx hy 33 (bytesV old) hat.row (by rw [bytesV_size, hz]; exact size_ch) (by rw [bytesV_size, bytesV_size, hz, hold]) (one_bytes z) h

/-! ### What is built, and what is nought -/
theorem built_pt0 : Try.prog.built 35 [] = some (ptC pt0) := by kernel_rfl
theorem built_mask (m : Nat) : Try.prog.built 35 [(1, .int .u32 (m : Int))] = some (ptC ⟨false, m, zeroC⟩) := by kernel_rfl
theorem built_fresh (f : Bool) : Try.prog.built 35 [(0, .bool f)] = some (ptC ⟨f, 0, zeroC⟩) := by kernel_rfl
theorem built_two (f : Bool) (m : Nat) : Try.prog.built 35 [(0, .bool f), (1, .int .u32 (m : Int))] = some (ptC ⟨f, m, zeroC⟩) := by kernel_rfl
theorem built_ch0 : Try.prog.built 33 [] = some (bytesV zeroC) := by kernel_rfl
theorem built_pt (f : Bool) (m : Nat) {b : List Int} (hb : b.length = 32) : Try.prog.built 35 [(0, .bool f), (1, .int .u32 (m : Int)), (2, .agg (bytesV b))] = some (ptC ⟨f, m, b⟩) := by
  have h : ∀ g : Nat → Int, Try.prog.built 35 [(0, .bool f), (1, .int .u32 (m : Int)), (2, .agg (bytesV ((List.range 32).map g)))] = some (ptC ⟨f, m, (List.range 32).map g⟩) := by intro g; kernel_rfl
  rw [ch_eq hb]; exact h _
theorem zeroPt (w : World) : (zeroValue 35).run Try.prog w = .ok (.agg (ptC pt0)) w := by
  have h : (Try.prog.info? 35).map (fun i => (i.zero, i.size)) = some (some (.agg (ptC pt0)), 34) := by kernel_rfl
  exact (zero_of_info h).1 w
theorem zeroCh (w : World) : (zeroValue 33).run Try.prog w = .ok (.agg (bytesV zeroC)) w := by
  have h : (Try.prog.info? 33).map (fun i => (i.zero, i.size)) = some (some (.agg (bytesV zeroC)), 32) := by kernel_rfl
  exact (zero_of_info h).1 w

/-! ### Results that lie in a variable -/
theorem ret_pt {fn : Func} {R : Ending → World → Prop} {a : Act} {w : World} {p : Tmp} (h : fn.results = #[.cell p 35]) (g : Nat) (x : Pt) (hx : x.bytes.length = 32) (hp : a.tmps.getD p undef = .pointer (some ⟨g, 0, none⟩))
    (hg : PtAt w g x) (hd : a.defers = []) (hR : R (.returned (.agg (ptC x))) w) : bodyPost Try.prog fn R .ret a w :=
  bodyPost_ret (results_cell_row h a.tmps w g _ (ptC x) _ _ hp hg.row Try.underlying35 rfl (by rw [ptC_size hx]; exact size_pt)) hd hR
theorem ret_ch {fn : Func} {R : Ending → World → Prop} {a : Act} {w : World} {p : Tmp} (h : fn.results = #[.cell p 33]) (g : Nat) (x : List Int) (hx : x.length = 32) (hp : a.tmps.getD p undef = .pointer (some ⟨g, 0, none⟩))
    (hg : ChAt w g x) (hd : a.defers = []) (hR : R (.returned (.agg (bytesV x))) w) : bodyPost Try.prog fn R .ret a w :=
  bodyPost_ret (results_cell_row h a.tmps w g _ (bytesV x) _ _ hp hg.row Try.underlying33 rfl (by rw [bytesV_size, hx]; exact size_ch)) hd hR
theorem ret_pt2 {fn : Func} {R : Ending → World → Prop} {a : Act} {w : World} {p u : Tmp} (h : fn.results = #[.cell p 35, .tmp u]) (g : Nat) (x : Pt) (hx : x.bytes.length = 32) (hp : a.tmps.getD p undef = .pointer (some ⟨g, 0, none⟩)) (v : Value) (hu : a.tmps.getD u undef = v)
    (hg : PtAt w g x) (hd : a.defers = []) (hR : R (.returned (.tuple #[.agg (ptC x), v])) w) : bodyPost Try.prog fn R .ret a w := by
  refine bodyPost_ret ?_ hd hR
  have hp' : a.tmps[p]?.getD undef = .pointer (some ⟨g, 0, none⟩) := by simpa using hp
  have hu' : a.tmps[u]?.getD undef = v := by simpa using hu
  have hl := run_loadVar_row (P := Try.prog) w g _ 35 (ptC x) _ _ hg.row Try.underlying35 rfl (by rw [ptC_size hx]; exact size_pt)
  simp [results, h, hp', hu', asAddr, hl, Result.andThen]

/-! ### '==' -/
def ptEq (x y : Pt) : Bool := (x.fresh == y.fresh) && (x.mask == y.mask) && decide (x.bytes = y.bytes)
theorem ptEq_iff {x y : Pt} : ptEq x y = true ↔ x = y := by
  obtain ⟨f, m, b⟩ := x
  obtain ⟨f', m', b'⟩ := y
  simp only [ptEq, Bool.and_eq_true, beq_iff_eq, decide_eq_true_iff, Pt.mk.injEq]
  constructor
  · rintro ⟨⟨h1, h2⟩, h3⟩; exact ⟨h1, h2, h3⟩
  · rintro ⟨h1, h2, h3⟩; exact ⟨⟨h1, h2⟩, h3⟩
theorem ptEq_self (x : Pt) : ptEq x x = true := ptEq_iff.2 rfl
theorem pt_part0 (w : World) (x : Pt) : (part 4 (ptC x) 0).run Try.prog w = .ok (.bool x.fresh) w := by
  simp [part, isAgg, run_underlying Try.underlying4, ptC]
theorem pt_part1 (w : World) (x : Pt) : (part 23 (ptC x) 1).run Try.prog w = .ok (.int .u32 (x.mask : Int)) w := by
  simp [part, isAgg, run_underlying Try.underlying23, ptC]
theorem pt_part2 (w : World) (x : Pt) (h : x.bytes.length = 32) : (part 33 (ptC x) 2).run Try.prog w = .ok (.agg (bytesV x.bytes)) w := by
  obtain ⟨i, hi, hs⟩ : ∃ i, Try.prog.info? 33 = some i ∧ i.size = 32 := by
    have h : (Try.prog.info? 33).map (·.size) = some 32 := by kernel_rfl
    cases hq : Try.prog.info? 33 with
    | none => rw [hq] at h; cases h
    | some i => rw [hq] at h; exact ⟨i, rfl, by simpa using h⟩
  have he : (ptC x).extract 2 (2 + 32) = bytesV x.bytes := by
    apply Array.ext'
    simp only [ptC, bytesV, Array.toList_extract, List.extract_eq_take_drop]
    simp only [List.drop_succ_cons, List.drop_zero]
    exact List.take_of_length_le (by simp [h])
  simp [part, isAgg, run_underlying Try.underlying33, sizeOf, typeInfo, hi, hs, he]
theorem equal_pts (w : World) (d : Nat) {x y : Pt} (hx : x.bytes.length = 32) (hy : y.bytes.length = 32) : (Op.equalIn (d + 3) 35 (.agg (ptC x)) (.agg (ptC y))).run Try.prog w = .ok (ptEq x y) w := by
  have hS : Try.prog.underlying 35 = some (.struct (Try.prog.fieldsOf 35)) := by kernel_rfl
  have hp : Try.prog.stoodInHeld 35 = false := by kernel_rfl
  have hF : ((Try.prog.fieldsOf 35).toList.map fun f => (f.type, f.offset, decide (f.name = "_"))) = [(4, 0, false), (23, 1, false), (33, 2, false)] := by kernel_rfl
  have a1 := pt_part0 w x
  have a2 := pt_part1 w x
  have a3 := pt_part2 w x hx
  have b1 := pt_part0 w y
  have b2 := pt_part1 w y
  have b3 := pt_part2 w y hy
  have e1 : (Op.equalIn (d + 2) 4 (.bool x.fresh) (.bool y.fresh)).run Try.prog w = .ok (x.fresh == y.fresh) w := by
    have u4 := Try.underlying4
    go_simp
  have e2 : (Op.equalIn (d + 2) 23 (.int .u32 (x.mask : Int)) (.int .u32 (y.mask : Int))).run Try.prog w = .ok (x.mask == y.mask) w := by
    rw [run_equalIn_int w (d + 1) 23 .u32 .u32 _ _ Try.underlying23]
    congr 1
    rw [Bool.eq_iff_iff]; simp only [beq_iff_eq]; omega
  have e3 := equal_chunks w d hx hy
  rw [run_equalIn_agg w (d + 2) _ _ _ hS hp]
  generalize (Try.prog.fieldsOf 35).toList = L at hF
  have hl : L.length = 3 := by have := congrArg List.length hF; simpa using this
  match L, hl, hF with
  | [f0, f1, f2], _, hF =>
    simp only [List.map_cons, List.map_nil, List.cons.injEq, Prod.mk.injEq, and_true] at hF
    obtain ⟨⟨t0, o0, n0⟩, ⟨t1, o1, n1⟩, t2, o2, n2⟩ := hF
    rw [eqFields_cons w (d + 2) _ _ f0 _ _ _ _ n0 (by rw [t0, o0]; exact a1) (by rw [t0, o0]; exact b1) (by rw [t0]; exact e1)]
    rw [eqFields_cons w (d + 2) _ _ f1 _ _ _ _ n1 (by rw [t1, o1]; exact a2) (by rw [t1, o1]; exact b2) (by rw [t1]; exact e2)]
    rw [eqFields_cons w (d + 2) _ _ f2 _ _ _ _ n2 (by rw [t2, o2]; exact a3) (by rw [t2, o2]; exact b3) (by rw [t2]; exact e3)]
    unfold ptEq
    simp only [Op.eqFields, Sem.run_pure]
    cases (x.fresh == y.fresh) <;> cases (x.mask == y.mask) <;> cases decide (x.bytes = y.bytes) <;> rfl
theorem eq_pts (w : World) {x y : Pt} (hx : x.bytes.length = 32) (hy : y.bytes.length = 32) : (binOp .eql 35 (.agg (ptC x)) (.agg (ptC y))).run Try.prog w = .ok (.bool (ptEq x y)) w := by
  rw [run_eql_struct, equal_pts w 9997 hx hy]
  rfl

/-! ### Bits -/
theorem bit_and {m : Nat} (h : m < 4294967296) (i : Nat) : (bits .and .u32 ((m : Int) / 2 ^ i) 1 == 1) = m.testBit i := by
  have e : ((m : Int) / 2 ^ i) = ((m / 2 ^ i : Nat) : Int) := by first | (rw [Int.natCast_ediv]; done) | (rw [Int.natCast_ediv]; congr 1; done) | (rw [Int.natCast_ediv]; congr 1; simp)
  have hl : m / 2 ^ i < 4294967296 := Nat.lt_of_le_of_lt (Nat.div_le_self _ _) h
  rw [e, show (1 : Int) = ((1 : Nat) : Int) from rfl, u32_and_nat _ 1 hl (by decide), Nat.and_one_is_mod, Nat.testBit_eq_decide_div_mod_eq, Bool.eq_iff_iff]
  simp only [beq_iff_eq, decide_eq_true_eq]
  omega
theorem bit_mod (m i : Nat) : (((m : Int) / 2 ^ i) % 2 == 1) = m.testBit i := by
  have e : ((m : Int) / 2 ^ i) = ((m / 2 ^ i : Nat) : Int) := by first | (rw [Int.natCast_ediv]; done) | (rw [Int.natCast_ediv]; congr 1; done) | (rw [Int.natCast_ediv]; congr 1; simp)
  rw [e, Nat.testBit_eq_decide_div_mod_eq, Bool.eq_iff_iff]
  simp only [beq_iff_eq, decide_eq_true_eq]
  omega

end Go.Proofs.Ytmifpeocgikbeab
