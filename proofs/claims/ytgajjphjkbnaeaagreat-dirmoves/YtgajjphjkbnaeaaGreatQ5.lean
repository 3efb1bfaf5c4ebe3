/- PtMath, PtState, PtRuns, PtRound: in one text. -/
import Derived.Test.YtgajjphjkbnaeaaGreatQ4
import Derived.Laws.BitsAllLaws
import Derived.Laws.CopyOwn
import Derived.Lib.BufferWrite
import Derived.RangeFuncNested
import Derived.RangeFuncBound
import Derived.RangeFuncCalls
import Derived.RangeFuncLeaves
import Derived.Shelf.Abstract
import Derived.OwnWalkIn
import Derived.TacticsInMore
import Derived.LoopNIn
import Derived.LoopIn
namespace Go.Proofs.YtgajjphjkbnaeaaGreat
open Go.RowKit
set_option linter.unusedVariables false
set_option maxHeartbeats 32000000
set_option maxRecDepth 100000
set_option linter.unusedSimpArgs false
structure Pt where
 fresh : Bool
 mask : Nat
 bytes : List Int
structure PtOk (p : Pt) : Prop where
 lt : p.mask < 4294967296
 ch : Ch p.bytes
def pt0 : Pt:=⟨false,0,zeroC⟩
theorem pt0_ok : PtOk pt0:=⟨by decide,ch_zero⟩
def layAt (b : List Int) (p : Pt) (i : Nat) : Int:=if p.mask.testBit i then p.bytes.getD i 0 else if p.fresh then 0 else b.getD i 0
def layB (b : List Int) (p : Pt) : List Int:=(List.range 32).map (layAt b p)
def trimP (p : Pt) : Pt:=⟨p.fresh,p.mask,layB zeroC p⟩
def joinP (a b : Pt) : Pt:=if b.fresh then trimP b else ⟨a.fresh,a.mask ||| b.mask,layB (trimP a).bytes b⟩
theorem layB_len (b : List Int) (p : Pt) : (layB b p).length = 32:=by simp [layB]
theorem layB_get (b : List Int) (p : Pt) {i : Nat} (h : i < 32) : (layB b p).getD i 0 = layAt b p i:=by
 unfold layB
 rw [List.getD_eq_getElem?_getD,List.getElem?_map,List.getElem?_range h]; rfl
theorem layAt_byt {b : List Int} (hb : Ch b) {p : Pt} (hp : PtOk p) (i : Nat) : 0 ≤ layAt b p i ∧ layAt b p i ≤ 255:=by
 unfold layAt
 split
 ·exact hp.ch.2.getD i
 ·split
  ·omega
  ·exact hb.2.getD i
theorem layB_ch {b : List Int} (hb : Ch b) {p : Pt} (hp : PtOk p) : Ch (layB b p):=by
 refine ⟨layB_len b p,fun x hx => ?_⟩
 unfold layB at hx
 obtain ⟨i,_,rfl⟩:=List.mem_map.1 hx
 exact layAt_byt hb hp i
theorem zeroC_get (i : Nat) : zeroC.getD i 0 = 0:=by
 unfold zeroC
 rw [List.getD_eq_getElem?_getD,List.getElem?_replicate]
 split <;> rfl
theorem ch_ext {a b : List Int} (ha : a.length = 32) (hb : b.length = 32) (h : ∀ i,i < 32 → a.getD i 0 = b.getD i 0) : a = b:=by
 rw [ch_eq ha,ch_eq hb]
 exact List.map_congr_left fun i hi => h i (List.mem_range.1 hi)
theorem trimP_ok {p : Pt} (h : PtOk p) : PtOk (trimP p):=⟨h.lt,layB_ch ch_zero h⟩
theorem or_lt32 {a b : Nat} (ha : a < 4294967296) (hb : b < 4294967296) : a ||| b < 4294967296:=Nat.or_lt_two_pow (n:=32) ha hb
theorem joinP_ok {a b : Pt} (ha : PtOk a) (hb : PtOk b) : PtOk (joinP a b):=by
 unfold joinP
 split
 ·exact trimP_ok hb
 ·exact ⟨or_lt32 ha.lt hb.lt,layB_ch (trimP_ok ha).ch hb⟩
theorem trimP_get (p : Pt) {i : Nat} (h : i < 32) : (trimP p).bytes.getD i 0 = if p.mask.testBit i then p.bytes.getD i 0 else 0:=by
 show (layB zeroC p).getD i 0 = _
 rw [layB_get _ _ h]
 unfold layAt
 rw [zeroC_get]
 split
 ·rfl
 ·split <;> rfl
theorem lay_join (x : List Int) (a b : Pt) : layB x (joinP a b) = layB (layB x a) b:=by
 apply ch_ext (layB_len _ _) (layB_len _ _)
 intro i hi
 rw [layB_get _ _ hi,layB_get _ _ hi]
 unfold joinP
 cases hf : b.fresh
 ·rw [if_neg (by decide)]
  unfold layAt
  simp only [hf,Bool.false_eq_true,if_false,Nat.testBit_or]
  rw [layB_get _ _ hi,layB_get _ _ hi]
  unfold layAt
  simp only [hf,Bool.false_eq_true,if_false]
  rw [trimP_get a hi]
  cases ha : a.mask.testBit i <;> cases hb : b.mask.testBit i <;> simp [trimP]
 ·rw [if_pos rfl]
  have e : (trimP b).fresh = b.fresh:=rfl
  have m : (trimP b).mask = b.mask:=rfl
  unfold layAt
  rw [e,m,hf,trimP_get b hi]
  cases hb : b.mask.testBit i <;> simp
def ptC (p : Pt) : Array Value:=(Value.bool p.fresh :: Value.int .u32 (p.mask : Int) :: p.bytes.map (Value.int .u8)).toArray
theorem ptC_size {p : Pt} (h : p.bytes.length = 32) : (ptC p).size = 34:=by simp [ptC,h]
theorem one_pt (p : Pt) : (ptC p).all (·.oneCell') = true:=by
 refine Array.all_eq_true_iff_forall_mem.2 (fun u hu => ?_)
 have hu' : u = Value.bool p.fresh ∨ u = Value.int .u32 (p.mask : Int) ∨ u ∈ p.bytes.map (Value.int .u8):=by
  simpa only [ptC,List.mem_toArray,List.mem_cons] using hu
 rcases hu' with rfl | rfl | hu'
 ·rfl
 ·rfl
 ·exact ints_oneCell .u8 p.bytes u hu'
theorem size_pt : (Tryz.prog.info? 112).map (·.size) = some 34:=by kernel_rfl
theorem size_ch : (Tryz.prog.info? 90).map (·.size) = some 32:=by kernel_rfl
structure PtAt (w : World) (g : Nat) (p : Pt) : Prop where
 row : w.heap[g]? = some (.cells (ptC p) 112 (0,0))
theorem PtAt.lt {w : World} {g : Nat} {p : Pt} (h : PtAt w g p) : g < w.heap.size:=(Array.getElem?_eq_some_iff.1 h.row).1
theorem PtAt.below {w w' : World} {g : Nat} {p : Pt} (h : PtAt w g p) (hb : Below w.heap.size w w') : PtAt w' g p:=⟨(hb.block g h.lt).trans h.row⟩
theorem PtAt.laid (w : World) (p : Pt) : PtAt (w.alloc (.cells (ptC p) 112)) w.heap.size p:=⟨heap_alloc_new w _⟩
theorem PtAt.setRow {w : World} {g : Nat} {p : Pt} (h : PtAt w g p) (y : Pt) : PtAt (w.setRow g (ptC y)) g y:=⟨setRow_heap w g _ _ _ _ h.row⟩
theorem PtAt.cell {w : World} {g : Nat} {p : Pt} (h : PtAt w g p) (j : Nat) (v : Value) (hv : (ptC p)[j]? = some v) : w.cell? ⟨g,j,none⟩ = some v:=by
 rw [cell_of_row w g j _ _ (0,0) h.row]; exact hv
theorem PtAt.c0 {w : World} {g : Nat} {p : Pt} (h : PtAt w g p) : w.cell? ⟨g,0,none⟩ = some (.bool p.fresh):=h.cell 0 _ rfl
theorem PtAt.c1 {w : World} {g : Nat} {p : Pt} (h : PtAt w g p) : w.cell? ⟨g,1,none⟩ = some (.int .u32 (p.mask : Int)):=h.cell 1 _ rfl
theorem PtAt.byte {w : World} {g : Nat} {p : Pt} (h : PtAt w g p) (hl : p.bytes.length = 32) {i : Nat} (hi : i < 32) : w.cell? ⟨g,2 + i,none⟩ = some (.int .u8 (p.bytes.getD i 0)):=by
 refine h.cell (2 + i) _ ?_
 rw [Nat.add_comm]
 simp [ptC,List.getElem?_eq_getElem (show i < p.bytes.length by omega)]
theorem PtAt.frozen {w : World} {g : Nat} {p : Pt} (h : PtAt w g p) (j : Nat) : w.frozen? ⟨g,j,none⟩ = false:=by
 simp [World.frozen?,h.row]
theorem PtAt.load {w : World} {g : Nat} {p : Pt} (h : PtAt w g p) (hl : p.bytes.length = 32) : (Instr.loadAt 112 (.pointer (some ⟨g,0,none⟩))).run Tryz.prog w = .ok (.agg (ptC p)) w:=by
 have hl:=run_loadVar_row (P:=Tryz.prog) w g _ 112 (ptC p) _ _ h.row Tryz.underlying112 rfl (by rw [ptC_size hl]; exact size_pt)
 simp only [Instr.loadAt,Instr.sureAddr,Sem.run_bind,Sem.run_pure,Result.andThen_ok,hl]
structure ChAt (w : World) (g : Nat) (b : List Int) : Prop where
 row : w.heap[g]? = some (.cells (bytesV b) 90 (0,0))
theorem ChAt.lt {w : World} {g : Nat} {b : List Int} (h : ChAt w g b) : g < w.heap.size:=(Array.getElem?_eq_some_iff.1 h.row).1
theorem ChAt.below {w w' : World} {g : Nat} {b : List Int} (h : ChAt w g b) (hb : Below w.heap.size w w') : ChAt w' g b:=⟨(hb.block g h.lt).trans h.row⟩
theorem ChAt.laid (w : World) (b : List Int) : ChAt (w.alloc (.cells (bytesV b) 90)) w.heap.size b:=⟨heap_alloc_new w _⟩
theorem ChAt.setRow {w : World} {g : Nat} {b : List Int} (h : ChAt w g b) (y : List Int) : ChAt (w.setRow g (bytesV y)) g y:=⟨setRow_heap w g _ _ _ _ h.row⟩
theorem ChAt.byte {w : World} {g : Nat} {b : List Int} (h : ChAt w g b) (hl : b.length = 32) {i : Nat} (hi : i < 32) : w.cell? ⟨g,i,none⟩ = some (.int .u8 (b.getD i 0)):=by
 rw [cell_of_row w g i _ _ (0,0) h.row]
 simp [bytesV,List.getElem?_eq_getElem (show i < b.length by omega)]
theorem ChAt.frozen {w : World} {g : Nat} {b : List Int} (h : ChAt w g b) (j : Nat) : w.frozen? ⟨g,j,none⟩ = false:=by
 simp [World.frozen?,h.row]
theorem ChAt.load {w : World} {g : Nat} {b : List Int} (h : ChAt w g b) (hb : b.length = 32) : (Instr.loadAt 90 (.pointer (some ⟨g,0,none⟩))).run Tryz.prog w = .ok (.agg (bytesV b)) w:=by
 have hl:=run_loadVar_row (P:=Tryz.prog) w g _ 90 (bytesV b) _ _ h.row Tryz.underlying90 rfl (by rw [bytesV_size,hb]; exact size_ch)
 simp only [Instr.loadAt,Instr.sureAddr,Sem.run_bind,Sem.run_pure,Result.andThen_ok,hl]
theorem wpList_loadG {ops : Array Oper} {rest : List Oper} {o : Oper} {a : Act} {w : World} {Q : Exit → Act → World → Prop} (hw : Region.wanted o (yielded ops a.tmps) = true) (ty : TypeId) (x : Operand) (ho : o.op = .load ty x)
  (q : Addr) (hx : a.eval x = .pointer (some q)) (v : Value) (hl : (Instr.loadAt ty (.pointer (some q))).run Tryz.prog w = .ok v w)
  (h : wpList Tryz.prog ops Q rest (a.put o.dst v) w) : wpList Tryz.prog ops Q (o :: rest) a w :=
 BigFrame.wpList_want hw fun K hK => by
  unfold Oper.wp execOp
  simp only [ho,hx,hl,Sem.run_bind,Sem.run_pure,Result.andThen_ok]
  exact hK _ _ h
theorem yields_load {ops : Array Oper} {S : World → Prop} {op : Oper} {a : Act} (hw : Region.wanted op (yielded ops a.tmps) = true) (ty : TypeId) (x : Operand) (ho : op.op = .load ty x)
  (q : Addr) (hx : a.eval x = .pointer (some q)) (v : Value) (hS : ∀ w,S w → (Instr.loadAt ty (.pointer (some q))).run Tryz.prog w = .ok v w) : YieldsIf Tryz.prog ops S op v a :=
 .inl ⟨hw,fun w hw' => by
  unfold execOp
  simp only [ho,hx,Sem.run_bind,Sem.run_pure,Result.andThen_ok,hS w hw']⟩
theorem wpList_buildBy {ops : Array Oper} {rest : List Oper} {o : Oper} {a : Act} {w : World} {Q : Exit → Act → World → Prop} (hg : o.guard = none) (t : TypeId) (parts : Array (Nat × Operand)) (ho : o.op = .build t parts)
  (d : Option Tmp) (hd : o.dst = d) (vs : List (Nat × Value)) (hp : (parts.map fun (i,x) => (i,a.eval x)).toList = vs) (cells : Array Value) (hf : Tryz.prog.built t vs = some cells)
  (h : wpList Tryz.prog ops Q rest (a.put d (.agg cells)) w) : wpList Tryz.prog ops Q (o :: rest) a w :=
 wpList_buildTo hg t parts ho d hd cells (by rw [hp]; exact hf) h
theorem wpList_storeP {w : World} {ops : Array Oper} {rest : List Oper} {o : Oper} {a : Act} {Q : Exit → Act → World → Prop} (hg : o.guard = none) (x y : Operand) (ho : o.op = .store 112 x y)
  (g : Nat) (z old : Pt) (hx : a.eval x = .pointer (some ⟨g,0,none⟩)) (hy : a.eval y = .agg (ptC z)) (hz : z.bytes.length = 32) (hold : old.bytes.length = 32) (hat : PtAt w g old)
  (h : wpList Tryz.prog ops Q rest (a.put o.dst undef) (w.setRow g (ptC z))) : wpList Tryz.prog ops Q (o :: rest) a w :=
 wpList_store_row hg 112 x y ho g (ptC z) hx hy 112 (ptC old) hat.row (by rw [ptC_size hz]; exact size_pt) (by rw [ptC_size hz,ptC_size hold]) (one_pt z) h
theorem wpList_storeC {w : World} {ops : Array Oper} {rest : List Oper} {o : Oper} {a : Act} {Q : Exit → Act → World → Prop} (hg : o.guard = none) (x y : Operand) (ho : o.op = .store 90 x y)
  (g : Nat) (z old : List Int) (hx : a.eval x = .pointer (some ⟨g,0,none⟩)) (hy : a.eval y = .agg (bytesV z)) (hz : z.length = 32) (hold : old.length = 32) (hat : ChAt w g old)
  (h : wpList Tryz.prog ops Q rest (a.put o.dst undef) (w.setRow g (bytesV z))) : wpList Tryz.prog ops Q (o :: rest) a w :=
 wpList_store_row hg 90 x y ho g (bytesV z) hx hy 90 (bytesV old) hat.row (by rw [bytesV_size,hz]; exact size_ch) (by rw [bytesV_size,bytesV_size,hz,hold]) (one_bytes z) h
theorem built_ch0 : Tryz.prog.built 90 [] = some (bytesV zeroC):=by kernel_rfl
theorem built_pt (f : Bool) (m : Nat) {b : List Int} (hb : b.length = 32) : Tryz.prog.built 112 [(0,.bool f),(1,.int .u32 (m : Int)),(2,.agg (bytesV b))] = some (ptC ⟨f,m,b⟩):=by
 have h : ∀ g : Nat → Int,Tryz.prog.built 112 [(0,.bool f),(1,.int .u32 (m : Int)),(2,.agg (bytesV ((List.range 32).map g)))] = some (ptC ⟨f,m,(List.range 32).map g⟩):=by intro g; kernel_rfl
 rw [ch_eq hb]; exact h _
theorem zeroPt (w : World) : (zeroValue 112).run Tryz.prog w = .ok (.agg (ptC pt0)) w:=by
 have h : (Tryz.prog.info? 112).map (fun i => (i.zero,i.size)) = some (some (.agg (ptC pt0)),34):=by kernel_rfl
 exact (zero_of_info h).1 w
theorem zeroCh (w : World) : (zeroValue 90).run Tryz.prog w = .ok (.agg (bytesV zeroC)) w:=by
 have h : (Tryz.prog.info? 90).map (fun i => (i.zero,i.size)) = some (some (.agg (bytesV zeroC)),32):=by kernel_rfl
 exact (zero_of_info h).1 w
theorem ret_pt {fn : Func} {R : Ending → World → Prop} {a : Act} {w : World} {p : Tmp} (h : fn.results = #[.cell p 112]) (g : Nat) (x : Pt) (hx : x.bytes.length = 32) (hp : a.tmps.getD p undef = .pointer (some ⟨g,0,none⟩))
  (hg : PtAt w g x) (hd : a.defers = []) (hR : R (.returned (.agg (ptC x))) w) : bodyPost Tryz.prog fn R .ret a w :=
 bodyPost_ret (results_cell_row h a.tmps w g _ (ptC x) _ _ hp hg.row Tryz.underlying112 rfl (by rw [ptC_size hx]; exact size_pt)) hd hR
def ptEq (x y : Pt) : Bool:=(x.fresh == y.fresh) && (x.mask == y.mask) && decide (x.bytes = y.bytes)
theorem ptEq_iff {x y : Pt} : ptEq x y = true ↔ x = y:=by
 obtain ⟨f,m,b⟩:=x
 obtain ⟨f',m',b'⟩:=y
 simp only [ptEq,Bool.and_eq_true,beq_iff_eq,decide_eq_true_iff,Pt.mk.injEq]
 constructor
 ·rintro ⟨⟨h1,h2⟩,h3⟩; exact ⟨h1,h2,h3⟩
 ·rintro ⟨h1,h2,h3⟩; exact ⟨⟨h1,h2⟩,h3⟩
theorem pt_part0 (w : World) (x : Pt) : (part 4 (ptC x) 0).run Tryz.prog w = .ok (.bool x.fresh) w:=by
 simp [part,isAgg,run_underlying Tryz.underlying4,ptC]
theorem pt_part1 (w : World) (x : Pt) : (part 30 (ptC x) 1).run Tryz.prog w = .ok (.int .u32 (x.mask : Int)) w:=by
 simp [part,isAgg,run_underlying Tryz.underlying30,ptC]
theorem pt_part2 (w : World) (x : Pt) (h : x.bytes.length = 32) : (part 90 (ptC x) 2).run Tryz.prog w = .ok (.agg (bytesV x.bytes)) w:=by
 obtain ⟨i,hi,hs⟩ : ∃ i,Tryz.prog.info? 90 = some i ∧ i.size = 32:=by
  have h : (Tryz.prog.info? 90).map (·.size) = some 32:=by kernel_rfl
  cases hq : Tryz.prog.info? 90 with
  | none => rw [hq] at h; cases h
  | some i => rw [hq] at h; exact ⟨i,rfl,by simpa using h⟩
 have he : (ptC x).extract 2 (2 + 32) = bytesV x.bytes:=by
  apply Array.ext'
  simp only [ptC,bytesV,Array.toList_extract,List.extract_eq_take_drop]
  simp only [List.drop_succ_cons,List.drop_zero]
  exact List.take_of_length_le (by simp [h])
 simp [part,isAgg,run_underlying Tryz.underlying90,sizeOf,typeInfo,hi,hs,he]
theorem equal_pts (w : World) (d : Nat) {x y : Pt} (hx : x.bytes.length = 32) (hy : y.bytes.length = 32) : (Op.equalIn (d + 3) 112 (.agg (ptC x)) (.agg (ptC y))).run Tryz.prog w = .ok (ptEq x y) w:=by
 have hS : Tryz.prog.underlying 112 = some (.struct (Tryz.prog.fieldsOf 112)):=by kernel_rfl
 have hp : Tryz.prog.stoodInHeld 112 = false:=by kernel_rfl
 have hF : ((Tryz.prog.fieldsOf 112).toList.map fun f => (f.type,f.offset,decide (f.name = "_"))) = [(4,0,false),(30,1,false),(90,2,false)]:=by kernel_rfl
 have a1:=pt_part0 w x
 have a2:=pt_part1 w x
 have a3:=pt_part2 w x hx
 have b1:=pt_part0 w y
 have b2:=pt_part1 w y
 have b3:=pt_part2 w y hy
 have e1 : (Op.equalIn (d + 2) 4 (.bool x.fresh) (.bool y.fresh)).run Tryz.prog w = .ok (x.fresh == y.fresh) w:=by
  have u4:=Tryz.underlying4
  go_simp
 have e2 : (Op.equalIn (d + 2) 30 (.int .u32 (x.mask : Int)) (.int .u32 (y.mask : Int))).run Tryz.prog w = .ok (x.mask == y.mask) w:=by
  rw [run_equalIn_int w (d + 1) 30 .u32 .u32 _ _ Tryz.underlying30]
  congr 1
  rw [Bool.eq_iff_iff]; simp only [beq_iff_eq]; omega
 have e3:=equal_chunks w d hx hy
 rw [run_equalIn_agg w (d + 2) _ _ _ hS hp]
 generalize (Tryz.prog.fieldsOf 112).toList = L at hF
 have hl : L.length = 3:=by have:=congrArg List.length hF; simpa using this
 match L,hl,hF with
 | [f0,f1,f2],_,hF =>
  simp only [List.map_cons,List.map_nil,List.cons.injEq,Prod.mk.injEq,and_true] at hF
  obtain ⟨⟨t0,o0,n0⟩,⟨t1,o1,n1⟩,t2,o2,n2⟩:=hF
  rw [eqFields_cons w (d + 2) _ _ f0 _ _ _ _ n0 (by rw [t0,o0]; exact a1) (by rw [t0,o0]; exact b1) (by rw [t0]; exact e1)]
  rw [eqFields_cons w (d + 2) _ _ f1 _ _ _ _ n1 (by rw [t1,o1]; exact a2) (by rw [t1,o1]; exact b2) (by rw [t1]; exact e2)]
  rw [eqFields_cons w (d + 2) _ _ f2 _ _ _ _ n2 (by rw [t2,o2]; exact a3) (by rw [t2,o2]; exact b3) (by rw [t2]; exact e3)]
  unfold ptEq
  simp only [Op.eqFields,Sem.run_pure]
  cases (x.fresh == y.fresh) <;> cases (x.mask == y.mask) <;> cases decide (x.bytes = y.bytes) <;> rfl
theorem bit_and {m : Nat} (h : m < 4294967296) (i : Nat) : (bits .and .u32 ((m : Int) / 2 ^ i) 1 == 1) = m.testBit i:=by
 have e : ((m : Int) / 2 ^ i) = ((m / 2 ^ i : Nat) : Int):=by first | (rw [Int.natCast_ediv]; done) | (rw [Int.natCast_ediv]; congr 1; done) | (rw [Int.natCast_ediv]; congr 1; simp)
 have hl : m / 2 ^ i < 4294967296:=Nat.lt_of_le_of_lt (Nat.div_le_self _ _) h
 rw [e,show (1 : Int) = ((1 : Nat) : Int) from rfl,u32_and_nat _ 1 hl (by decide),Nat.and_one_is_mod,Nat.testBit_eq_decide_div_mod_eq,Bool.eq_iff_iff]
 simp only [beq_iff_eq,decide_eq_true_eq]
 omega
open Go.RowKit Go.Shelf
attribute [local go_sem] Oper.semAt_some
theorem runEnd_any (w : World) (m o : Nat) (hm : m < 4294967296) (h : o ≤ 32) : Calls Tryz.prog 148 #[.int .u32 (m : Int),.int .i64 (o : Int)] w fun e w' => ∃ j : Nat,e = .returned (.int .i64 (j : Int)) ∧ o ≤ j ∧ j ≤ 32 ∧ (∀ i,o ≤ i → i < j → m.testBit i = true) ∧ (j < 32 → m.testBit j = false) ∧ w = w':=by
 have hbit:=bit_and hm
 go_enter Tryz.func148,Tryz.ntmps148
 go_wp2
 go_loop [1] (fun t => ∃ j : Nat,o ≤ j ∧ j ≤ 32 ∧ t = .int .i64 (j : Int) ∧ ∀ i,o ≤ i → i < j → m.testBit i = true) (fun t => 32 - (intOf t).toNat)
 case atStart => exact ⟨o,Nat.le_refl _,h,rfl,fun i h1 h2 => absurd h1 (by omega)⟩
 case round =>
  obtain ⟨j,h1,h2,rfl,h3⟩:=hrel
  by_cases hlt : j < 32
  ·have hb:=hbit j
   clear hbit
   cases hq : m.testBit j
   ·rw [hq] at hb
    go_wp2
    go_ret
    exact ⟨j,rfl,h1,h2,h3,fun _ => hq,rfl⟩
   ·rw [hq] at hb
    go_wp2
    go_round
    case rel => exact ⟨j + 1,by omega,by omega,by go_num,fun i hi hj => by rcases Nat.lt_or_ge i j with hl | hg; exact h3 i hi hl; rw [show i = j from by omega]; exact hq⟩
    case measure => simp [intOf]; omega
  ·obtain rfl : j = 32:=by omega
   clear hbit
   go_wp2
   go_ret
   exact ⟨32,rfl,h1,h2,h3,fun h => absurd h (by omega),rfl⟩
theorem runs_any (w : World) (m : Nat) : Calls Tryz.prog 128 #[.int .u32 (m : Int)] w fun e w' => e = .returned (.func (.func 147) #[] #[.pointer (some ⟨w.heap.size,0,none⟩)]) ∧ w' = w.alloc (.cells #[.int .u32 (m : Int)] 30):=by
 go_enter Tryz.func128,Tryz.ntmps128
 go_wp2
 go_ret
 exact ⟨rfl,rfl⟩
abbrev Run:={ r : Nat × Nat // r.1 < r.2 ∧ r.2 ≤ 32 }
def runV (r : Run) : Array Value:=#[.int .i64 (r.1.1 : Int),.int .i64 (r.1.2 : Int)]
def inRun (i : Nat) (r : Run) : Bool:=decide (r.1.1 ≤ i) && decide (i < r.1.2)
def inRuns (i : Nat) (l : List Run) : Bool:=l.any (inRun i)
theorem inRuns_snoc (i : Nat) (l : List Run) (r : Run) : inRuns i (l ++ [r]) = (inRuns i l || inRun i r):=by simp [inRuns]
def SameBlock (g : Nat) (A B : World) : Prop:=B.heap[g]? = A.heap[g]?
theorem runs_stops (n : Nat) (hn : 1 ≤ n) (g m : Nat) (hm : m < 4294967296) (w : World) (hg : w.heap[g]? = some (.cells #[.int .u32 (m : Int)] 30 (0,0))) :
  SeqStopsK Fence.wide n Tryz.prog 147 #[.pointer (some ⟨g,0,none⟩)] runV (SameBlock g) (fun ys => ∀ i,i < 32 → inRuns i ys = m.testBit i) (fun _ => True) 32 w:=fun l J Jx W hW hJ hJx hY h0 => by
 have hgl : g < w.heap.size:=(Array.getElem?_eq_some_iff.1 hg).1
 have hgW : W.heap[g]? = some (.cells #[.int .u32 (m : Int)] 30 (0,0)):=(hW.block g hgl).trans hg
 refine callsIn_of_wp Tryz.func147 rfl trivial ?_ rfl
 simp only [Tryz.ntmps147,List.size_toArray,List.length_cons,List.length_nil,Nat.reduceAdd,Nat.reduceSub,Array.replicate_succ,Array.replicate_zero,List.push_toArray,List.append_toArray,List.nil_append,List.cons_append]
 gi_wp2
 gi_loopw [3,4] (fun p u wr => ∃ (k : Nat) (pre : List Run),k ≤ 33 ∧ pre.length ≤ k ∧ p = .int .i64 (k : Int) ∧ (∀ i,i < 32 → inRuns i pre = (decide (i < k) && m.testBit i)) ∧ J pre wr ∧ wr.heap[g]? = some (.cells #[.int .u32 (m : Int)] 30 (0,0)))
  (fun p _ _ => 33 - (intOf p).toNat)
 case atStart => exact ⟨0,[],by omega,Nat.le_refl _,rfl,fun i _ => by simp [inRuns],h0,hgW⟩
 case round =>
  obtain ⟨k,pre,hk,hpl,rfl,hin,hJs,hgr⟩:=hrel
  by_cases hlt : k < 32
  ·have hcm : wr.cell? ⟨g,0,none⟩ = some (.int .u32 (m : Int)):=by rw [cell_of_row wr g 0 _ _ (0,0) hgr]; rfl
   have hre:=runEnd_any wr m k hm (by omega)
   gi_wp2
   refine ⟨trivial,?_⟩
   refine (callsIn_wide.2 hre).mono ?_
   rintro e w5 ⟨j,rfl,h1,h2,h3,h4,rfl⟩
   by_cases hkj : k < j
   ·obtain ⟨fn,tmps,assign,body,hyi,hR⟩:=hY pre ⟨(k,j),hkj,h2⟩ wr hJs (by omega)
    unfold runV at hyi
    dsimp only at hyi
    have HP : Hid (∀ i,i < 32 → inRuns i (pre ++ [⟨(k,j),hkj,h2⟩]) = (decide (i < j + 1) && m.testBit i)):=fun i hi => by
     rw [inRuns_snoc,hin i hi]
     unfold inRun
     dsimp only
     by_cases c1 : i < k
     ·simp [c1,show i < j + 1 by omega,show ¬ k ≤ i by omega]
     ·by_cases c2 : i < j
      ·rw [h3 i (by omega) c2]; simp [c2,show k ≤ i by omega,show i < j + 1 by omega]
      ·by_cases c3 : i = j
       ·subst c3; rw [h4 hi]; simp
       ·simp [c1,c2,show ¬ i < j + 1 by omega]
    have hkj' : (k : Int) < (j : Int):=by omega
    clear hin h3 h4
    gi_wp2
    refine hR.mono ?_
    rintro e W3 (⟨rfl,hJ3,hk3⟩ | ⟨rfl,hJx3⟩)
    ·gi_wp2
     go_roundw
     case rel => exact ⟨j + 1,_,by omega,by rw [List.length_append]; simp; omega,by go_num,HP.out,hJ3,hk3.trans hgr⟩
     case measure => simp [intOf]; omega
    ·gi_wp2
     refine bodyPost_ret (results_none rfl _ _ _) rfl ?_
     exact ⟨⟨_,rfl⟩,.inr ⟨_,trivial,hJx3⟩⟩
   ·obtain rfl : k = j:=by omega
    have HP : Hid (∀ i,i < 32 → inRuns i pre = (decide (i < k + 1) && m.testBit i)):=fun i hi => by
     rw [hin i hi]
     by_cases c1 : i < k
     ·simp [c1,show i < k + 1 by omega]
     ·by_cases c3 : i = k
      ·subst c3; rw [h4 hi]; simp
      ·simp [c1,show ¬ i < k + 1 by omega]
    clear hin h3 h4
    gi_wp2
    refine ⟨fun _ h => (by cases h),?_⟩
    gi_wp2
    go_roundw
    case rel => exact ⟨k + 1,pre,by omega,by omega,by go_num,HP.out,hJs,hgr⟩
    case measure => simp [intOf]; omega
  ·have hlt' : ¬ (k : Int) < 32:=by omega
   gi_wp2
   go_end0
   exact ⟨⟨_,rfl⟩,.inl ⟨_,fun i hi => by rw [hin i hi]; simp [show i < k by omega],hJs⟩⟩
theorem upon_inRound {F : Fence} {n : Nat} {P : Program} {l : Nat} {o : Oper} {a : Act} {next : Act → World → Prop} {Q : Exit → Act → World → Prop} {r : Result Next} (h : o.uponIn F n P a next Q r) : o.uponIn (F.inRound l) n P a next Q r:=by
 cases r with
 | ok x w => cases x <;> first | exact h | exact ⟨h.1,CallsIn.inRound l h.2⟩ | exact ⟨h.1,h.2⟩
 | halt s w => cases s <;> exact h
def plainOp (o : Oper) : Bool:=match o.op with | .defer _ => false | _ => true
theorem plainOp_ne {o : Oper} (h : plainOp o = true) (c : Call) : o.op ≠ .defer c:=fun e => by unfold plainOp at h; rw [e] at h; cases h
theorem wpOp_inRound {F : Fence} {n : Nat} {P : Program} {l : Nat} {ops : Array Oper} {Q : Exit → Act → World → Prop} {K : Act → World → Prop} {i : Nat} {a : Act} {w : World} (hF : F.round = none) (hd : ops.all plainOp = true) (h : wpOpIn F n P ops Q i K a w) : wpOpIn (F.inRound l) n P ops Q i K a w:=by
 unfold wpOpIn at h ⊢
 cases ho : ops[i]? with
 | none => rw [ho] at h; exact h
 | some o =>
  have hp : ∀ c,o.op ≠ .defer c:=plainOp_ne (Array.all_eq_true_iff_forall_mem.1 hd o (Array.mem_of_getElem? ho))
  rw [ho] at h
  dsimp only at h ⊢
  split at h
  ·rename_i hw
   rw [if_pos hw]
   refine ⟨h.1,?_⟩
   have h2:=h.2
   rw [hF,Oper.semAt_eq none _ _ hp] at h2
   rw [Oper.semAt_eq _ _ _ hp]
   exact upon_inRound h2
  ·rename_i hw
   rw [if_neg hw]
   exact h
theorem wpAny_inRound {F : Fence} {n : Nat} {P : Program} {l : Nat} {md : Region.Mode} {ops : Array Oper} {Q : Exit → Act → World → Prop} (hF : F.round = none) (hd : ops.all plainOp = true) : ∀ (fuel : Nat) (listed : Array Bool) (a : Act) (w : World),wpAnyIn F n P md ops Q fuel listed a w → wpAnyIn (F.inRound l) n P md ops Q fuel listed a w:=by
 intro fuel
 induction fuel with
 | zero => intro listed a w h; exact h
 | succ fuel ih =>
  intro listed a w h
  exact ⟨h.1,fun i hi => wpOpIn_mono (fun a w k => ih _ a w k) (wpOp_inRound hF hd (h.2 i hi))⟩
end Go.Proofs.YtgajjphjkbnaeaaGreat
