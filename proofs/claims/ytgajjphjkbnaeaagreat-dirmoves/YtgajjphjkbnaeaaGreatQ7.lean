/- CgState: in one text. -/
import Derived.Test.YtgajjphjkbnaeaaGreatQ6
import Derived.Test.YtgajjphjkbnaeaaGreatQ3
import Derived.Test.YtgajjphjkbnaeaaGreatQ4
import Derived.Deep.MidRow
namespace Go.Proofs.YtgajjphjkbnaeaaGreat
open Go.RowKit
set_option linter.unusedVariables false
set_option maxHeartbeats 32000000
set_option maxRecDepth 100000
set_option linter.unusedSimpArgs false
structure Cg where
 pl : Pl
 gone : Bool
 fresh : Bool
 fields : Int
 kind : Int
 mode : Int
 links : Int
 size : Int
 to : Int
 pt : Pt
structure CgOk (c : Cg) : Prop where
 pl : PlOk c.pl
 f0 : -9223372036854775808 ≤ c.fields
 f1 : c.fields ≤ 9223372036854775807
 ino : InoOk c.kind c.mode c.links c.size
 t0 : 0 ≤ c.to
 t1 : c.to ≤ 4294967295
 pt : PtOk c.pt
def cg0 : Cg:=⟨pl0,false,false,0,0,0,0,0,0,pt0⟩
theorem pl0_ok : PlOk pl0:=⟨by decide,by decide,by decide,by decide,by decide,by decide,by decide⟩
theorem cg0_ok : CgOk cg0:=⟨pl0_ok,by decide,by decide,⟨by decide,by decide,by decide,by decide,by decide,by decide,by decide,by decide⟩,by decide,by decide,pt0_ok⟩
def cgL (c : Cg) : List Value:=.int .u32 c.pl.ino :: .int .i64 c.pl.part :: .string c.pl.name :: .int .u32 c.pl.chunk :: .bool c.gone :: .bool c.fresh :: .int .i64 c.fields :: .int .i64 c.kind :: .int .i64 c.mode :: .int .i64 c.links :: .int .i64 c.size ::
 .int .u32 c.to :: .bool c.pt.fresh :: .int .u32 (c.pt.mask : Int) :: c.pt.bytes.map (Value.int .u8)
def cgC (c : Cg) : Array Value:=(cgL c).toArray
theorem cgL_len {c : Cg} (h : c.pt.bytes.length = 32) : (cgL c).length = 46:=by simp [cgL,h]
theorem cgC_size {c : Cg} (h : c.pt.bytes.length = 32) : (cgC c).size = 46:=by simp [cgC,cgL,h]
theorem one_cgL (c : Cg) : ∀ u ∈ cgL c,u.oneCell' = true:=by
 intro u hu
 simp only [cgL,List.mem_cons] at hu
 rcases hu with rfl | rfl | rfl | rfl | rfl | rfl | rfl | rfl | rfl | rfl | rfl | rfl | rfl | rfl | hu
 all_goals first | rfl | exact ints_oneCell .u8 _ u hu
theorem one_cg (c : Cg) : (cgC c).all (·.oneCell') = true:=Array.all_eq_true_iff_forall_mem.2 fun u hu => one_cgL c u (by simpa [cgC] using hu)
theorem size_cg : (Tryz.prog.info? 114).map (·.size) = some 46:=by kernel_rfl
structure CgAt (w : World) (g : Nat) (c : Cg) : Prop where
 row : w.heap[g]? = some (.cells (cgC c) 114 (0,0))
theorem CgAt.lt {w : World} {g : Nat} {c : Cg} (h : CgAt w g c) : g < w.heap.size:=(Array.getElem?_eq_some_iff.1 h.row).1
theorem CgAt.below {w w' : World} {g : Nat} {c : Cg} (h : CgAt w g c) (hb : Below w.heap.size w w') : CgAt w' g c:=⟨(hb.block g h.lt).trans h.row⟩
theorem CgAt.laid (w : World) (c : Cg) : CgAt (w.alloc (.cells (cgC c) 114)) w.heap.size c:=⟨heap_alloc_new w _⟩
theorem CgAt.drew {w : World} {g : Nat} {c : Cg} (h : CgAt w g c) : CgAt w.drew g c:=⟨h.row⟩
theorem CgAt.setRow {w : World} {g : Nat} {c : Cg} (h : CgAt w g c) (y : Cg) : CgAt (w.setRow g (cgC y)) g y:=⟨setRow_heap w g _ _ _ _ h.row⟩
theorem CgAt.apartR {w : World} {g : Nat} {c : Cg} (h : CgAt w g c) (k : Nat) (cs : Array Value) (hk : g ≠ k) : CgAt (w.setRow k cs) g c:=⟨(setRow_other _ _ _ _ hk).trans h.row⟩
theorem CgAt.apart {w : World} {g : Nat} {c : Cg} (h : CgAt w g c) (k i : Nat) (v : Value) (hk : g ≠ k) : CgAt (w.setCell ⟨k,i,none⟩ v) g c:=⟨(heap_setCell_other w ⟨k,i,none⟩ g v hk).trans h.row⟩
theorem CgAt.set {w : World} {g : Nat} {c : Cg} (h : CgAt w g c) (i : Nat) (v : Value) (y : Cg) (hy : (cgL c).set i v = cgL y) : CgAt (w.setCell ⟨g,i,none⟩ v) g y:=by
 refine ⟨?_⟩
 rw [heap_setCell_same w g i _ _ v h.row]
 congr 2
 unfold cgC
 rw [List.setIfInBounds_toArray,hy]
theorem CgAt.cell {w : World} {g : Nat} {c : Cg} (h : CgAt w g c) (j : Nat) (v : Value) (hv : (cgC c)[j]? = some v) : w.cell? ⟨g,j,none⟩ = some v:=by
 rw [cell_of_row w g j _ _ (0,0) h.row]; exact hv
theorem CgAt.frozen {w : World} {g : Nat} {c : Cg} (h : CgAt w g c) (j : Nat) : w.frozen? ⟨g,j,none⟩ = false:=by
 simp [World.frozen?,h.row]
theorem CgAt.c0 {w : World} {g : Nat} {c : Cg} (h : CgAt w g c) : w.cell? ⟨g,0,none⟩ = some (.int .u32 c.pl.ino):=h.cell 0 _ rfl
theorem CgAt.c1 {w : World} {g : Nat} {c : Cg} (h : CgAt w g c) : w.cell? ⟨g,1,none⟩ = some (.int .i64 c.pl.part):=h.cell 1 _ rfl
theorem CgAt.c2 {w : World} {g : Nat} {c : Cg} (h : CgAt w g c) : w.cell? ⟨g,2,none⟩ = some (.string c.pl.name):=h.cell 2 _ rfl
theorem CgAt.c3 {w : World} {g : Nat} {c : Cg} (h : CgAt w g c) : w.cell? ⟨g,3,none⟩ = some (.int .u32 c.pl.chunk):=h.cell 3 _ rfl
theorem CgAt.c4 {w : World} {g : Nat} {c : Cg} (h : CgAt w g c) : w.cell? ⟨g,4,none⟩ = some (.bool c.gone):=h.cell 4 _ rfl
theorem CgAt.c5 {w : World} {g : Nat} {c : Cg} (h : CgAt w g c) : w.cell? ⟨g,5,none⟩ = some (.bool c.fresh):=h.cell 5 _ rfl
theorem CgAt.c6 {w : World} {g : Nat} {c : Cg} (h : CgAt w g c) : w.cell? ⟨g,6,none⟩ = some (.int .i64 c.fields):=h.cell 6 _ rfl
theorem CgAt.c7 {w : World} {g : Nat} {c : Cg} (h : CgAt w g c) : w.cell? ⟨g,7,none⟩ = some (.int .i64 c.kind):=h.cell 7 _ rfl
theorem CgAt.c8 {w : World} {g : Nat} {c : Cg} (h : CgAt w g c) : w.cell? ⟨g,8,none⟩ = some (.int .i64 c.mode):=h.cell 8 _ rfl
theorem CgAt.c9 {w : World} {g : Nat} {c : Cg} (h : CgAt w g c) : w.cell? ⟨g,9,none⟩ = some (.int .i64 c.links):=h.cell 9 _ rfl
theorem CgAt.c10 {w : World} {g : Nat} {c : Cg} (h : CgAt w g c) : w.cell? ⟨g,10,none⟩ = some (.int .i64 c.size):=h.cell 10 _ rfl
theorem CgAt.c11 {w : World} {g : Nat} {c : Cg} (h : CgAt w g c) : w.cell? ⟨g,11,none⟩ = some (.int .u32 c.to):=h.cell 11 _ rfl
theorem CgAt.c12 {w : World} {g : Nat} {c : Cg} (h : CgAt w g c) : w.cell? ⟨g,12,none⟩ = some (.bool c.pt.fresh):=h.cell 12 _ rfl
theorem CgAt.load {w : World} {g : Nat} {c : Cg} (h : CgAt w g c) (hl : c.pt.bytes.length = 32) : (Instr.loadAt 114 (.pointer (some ⟨g,0,none⟩))).run Tryz.prog w = .ok (.agg (cgC c)) w:=by
 have hl:=run_loadVar_row (P:=Tryz.prog) w g _ 114 (cgC c) _ _ h.row Tryz.underlying114 rfl (by rw [cgC_size hl]; exact size_cg)
 simp only [Instr.loadAt,Instr.sureAddr,Sem.run_bind,Sem.run_pure,Result.andThen_ok,hl]
theorem CgAt.loadP {w : World} {g : Nat} {c : Cg} (h : CgAt w g c) : (Instr.loadAt 110 (.pointer (some ⟨g,0,none⟩))).run Tryz.prog w = .ok (plV c.pl) w:=by
 have hr : w.rangeAt g 0 (plCells c.pl).toList:=by
  have:=World.rangeAt_of_block h.row 0 4
  exact this
 exact run_loadAt_mid w g 0 110 (plCells c.pl).toList _ hr Tryz.underlying110 rfl (by kernel_rfl)
theorem CgAt.loadI {w : World} {g : Nat} {c : Cg} (h : CgAt w g c) : (Instr.loadAt 41 (.pointer (some ⟨g,7,none⟩))).run Tryz.prog w = .ok (.agg #[.int .i64 c.kind,.int .i64 c.mode,.int .i64 c.links,.int .i64 c.size]) w:=by
 have hr : w.rangeAt g 7 [.int .i64 c.kind,.int .i64 c.mode,.int .i64 c.links,.int .i64 c.size]:=by
  have:=World.rangeAt_of_block h.row 7 4
  exact this
 exact run_loadAt_mid w g 7 41 _ _ hr Tryz.underlying41 rfl (by kernel_rfl)
theorem cgC_mid (c : Cg) (h : c.pt.bytes.length = 32) : ((cgC c).extract 12 (12 + 34)).toList = (ptC c.pt).toList:=by
 simp only [cgC,cgL,ptC,Array.toList_extract,List.extract_eq_take_drop]
 simp only [List.drop_succ_cons,List.drop_zero]
 exact List.take_of_length_le (by simp [h])
theorem CgAt.loadT {w : World} {g : Nat} {c : Cg} (h : CgAt w g c) (hl : c.pt.bytes.length = 32) : (Instr.loadAt 112 (.pointer (some ⟨g,12,none⟩))).run Tryz.prog w = .ok (.agg (ptC c.pt)) w:=by
 have hr : w.rangeAt g 12 (ptC c.pt).toList:=by
  have:=World.rangeAt_of_block h.row 12 34
  rwa [cgC_mid c hl] at this
 have:=run_loadAt_mid (P:=Tryz.prog) w g 12 112 _ _ hr Tryz.underlying112 rfl (by rw [Array.length_toList,ptC_size hl]; exact size_pt)
 simpa using this
theorem wpList_storeG {w : World} {ops : Array Oper} {rest : List Oper} {o : Oper} {a : Act} {Q : Exit → Act → World → Prop} (hg : o.guard = none) (x y : Operand) (ho : o.op = .store 114 x y)
  (g : Nat) (z old : Cg) (hx : a.eval x = .pointer (some ⟨g,0,none⟩)) (hy : a.eval y = .agg (cgC z)) (hz : z.pt.bytes.length = 32) (hold : old.pt.bytes.length = 32) (hat : CgAt w g old)
  (h : wpList Tryz.prog ops Q rest (a.put o.dst undef) (w.setRow g (cgC z))) : wpList Tryz.prog ops Q (o :: rest) a w :=
 wpList_store_row hg 114 x y ho g (cgC z) hx hy 114 (cgC old) hat.row (by rw [cgC_size hz]; exact size_cg) (by rw [cgC_size hz,cgC_size hold]) (one_cg z) h
theorem wpList_storeAt {w : World} {ops : Array Oper} {rest : List Oper} {o : Oper} {a : Act} {Q : Exit → Act → World → Prop} (hg : o.guard = none) (ty : TypeId) (x y : Operand) (ho : o.op = .store ty x y)
  (g k n : Nat) (cells : Array Value) (z old : Cg) (hx : a.eval x = .pointer (some ⟨g,k,none⟩)) (hy : a.eval y = .agg cells) (hn : cells.size = n) (hi : (Tryz.prog.info? ty).map (·.size) = some n) (hk : k + n ≤ 46) (h1 : cells.all (·.oneCell') = true) (hold : old.pt.bytes.length = 32) (hat : CgAt w g old)
  (hz : (cgL old).take k ++ cells.toList ++ (cgL old).drop (k + n) = cgL z)
  (h : wpList Tryz.prog ops Q rest (a.put o.dst undef) (w.setRow g (cgC z))) : wpList Tryz.prog ops Q (o :: rest) a w:=by
 refine wpList_store_mid hg ty x y ho g k cells hx hy (fun j hj => ?_) (by rw [hn]; exact hi) h1 ?_
 ·refine ⟨?_,hat.frozen _⟩
  rw [cell_of_row _ _ _ _ _ (0,0) hat.row,Array.getElem?_eq_getElem (by rw [cgC_size hold]; omega)]; rfl
 ·have e : w.setCells g k cells.toList = w.setRow g (cgC z):=by
   rw [setCells_row Tryz.prog w g k 114 cells.toList (cgC old) hat.row (by rw [cgC_size hold,Array.length_toList,hn]; exact hk) (fun u hu => (Array.all_eq_true_iff_forall_mem.1 h1) u (by simpa using hu))]
   rw [Array.length_toList,hn]
   exact congrArg (fun l => w.setRow g l.toArray) hz
  rw [e]; exact h
theorem ret_cg2 {fn : Func} {R : Ending → World → Prop} {a : Act} {w : World} {p u : Tmp} (h : fn.results = #[.cell p 114,.tmp u]) (g : Nat) (x : Cg) (hx : x.pt.bytes.length = 32) (hp : a.tmps.getD p undef = .pointer (some ⟨g,0,none⟩)) (v : Value) (hu : a.tmps.getD u undef = v)
  (hg : CgAt w g x) (hd : a.defers = []) (hR : R (.returned (.tuple #[.agg (cgC x),v])) w) : bodyPost Tryz.prog fn R .ret a w:=by
 refine bodyPost_ret ?_ hd hR
 have hp' : a.tmps[p]?.getD undef = .pointer (some ⟨g,0,none⟩):=by simpa using hp
 have hu' : a.tmps[u]?.getD undef = v:=by simpa using hu
 have hl:=run_loadVar_row (P:=Tryz.prog) w g _ 114 (cgC x) _ _ hg.row Tryz.underlying114 rfl (by rw [cgC_size hx]; exact size_cg)
 simp [results,h,hp',hu',asAddr,hl,Result.andThen]
theorem zeroCg (w : World) : (zeroValue 114).run Tryz.prog w = .ok (.agg (cgC cg0)) w:=by
 have h : (Tryz.prog.info? 114).map (fun i => (i.zero,i.size)) = some (some (.agg (cgC cg0)),46):=by kernel_rfl
 exact (zero_of_info h).1 w
def cgEq (x y : Cg) : Bool:=plEq x.pl y.pl && ((x.gone == y.gone) && ((x.fresh == y.fresh) && ((x.fields == y.fields) && (inoEq x.kind x.mode x.links x.size y.kind y.mode y.links y.size && ((x.to == y.to) && ptEq x.pt y.pt)))))
theorem inoEq_iff {k m l s k' m' l' s' : Int} : inoEq k m l s k' m' l' s' = true ↔ k = k' ∧ m = m' ∧ l = l' ∧ s = s':=by
 simp only [inoEq,Bool.and_eq_true,beq_iff_eq,and_assoc]
theorem cgEq_iff {x y : Cg} : cgEq x y = true ↔ x = y:=by
 obtain ⟨p,g,f,n,k,m,l,s,t,q⟩:=x
 obtain ⟨p',g',f',n',k',m',l',s',t',q'⟩:=y
 simp only [cgEq,Bool.and_eq_true,beq_iff_eq,plEq_iff,ptEq_iff,inoEq_iff,Cg.mk.injEq]
 constructor
 ·rintro ⟨h1,h2,h3,h4,⟨h5,h6,h7,h8⟩,h9,h10⟩; exact ⟨h1,h2,h3,h4,h5,h6,h7,h8,h9,h10⟩
 ·rintro ⟨h1,h2,h3,h4,h5,h6,h7,h8,h9,h10⟩; exact ⟨h1,h2,h3,h4,⟨h5,h6,h7,h8⟩,h9,h10⟩
theorem part_sub {w : World} {t : TypeId} {d : TypeDesc} {n o : Nat} {cs : Array Value} {vs : Array Value} (hu : Tryz.prog.underlying t = some d) (hd : d.isRow = true) (hs : (Tryz.prog.info? t).map (·.size) = some n) (he : cs.extract o (o + n) = vs) : (part t cs o).run Tryz.prog w = .ok (.agg vs) w:=by
 obtain ⟨i,hi,hs⟩ : ∃ i,Tryz.prog.info? t = some i ∧ i.size = n:=by
  cases hq : Tryz.prog.info? t with
  | none => rw [hq] at hs; cases hs
  | some i => rw [hq] at hs; exact ⟨i,rfl,by simpa using hs⟩
 cases d <;> first | (simp [part,isAgg,run_underlying hu,sizeOf,typeInfo,hi,hs,he]; done) | (simp [TypeDesc.isRow] at hd; done)
theorem equal_pl (w : World) (d : Nat) (i k c i' k' c' : Int) (s s' : ByteArray) : (Op.equalIn (d + 2) 110 (.agg #[.int .u32 i,.int .i64 k,.string s,.int .u32 c]) (.agg #[.int .u32 i',.int .i64 k',.string s',.int .u32 c'])).run Tryz.prog w = .ok (plEq ⟨i,k,s,c⟩ ⟨i',k',s',c'⟩) w:=by
 have u3:=Tryz.underlying3
 have u9:=Tryz.underlying9
 have u22:=Tryz.underlying30
 have hS : Tryz.prog.underlying 110 = some (.struct (Tryz.prog.fieldsOf 110)):=by kernel_rfl
 have hp : Tryz.prog.stoodInHeld 110 = false:=by kernel_rfl
 rw [run_equalIn_agg w (d + 1) _ _ _ hS hp]
 simp only [Program.fieldsOf,Tryz.underlying110]
 go_simp
 unfold plEq
 by_cases h1 : i = i' <;> by_cases h2 : k = k' <;> by_cases h3 : s.toList = s'.toList <;> by_cases h4 : c = c' <;> simp [h1,h2,h3,h4]
theorem equal_cgs (w : World) (d : Nat) {x y : Cg} (hx : x.pt.bytes.length = 32) (hy : y.pt.bytes.length = 32) : (Op.equalIn (d + 4) 114 (.agg (cgC x)) (.agg (cgC y))).run Tryz.prog w = .ok (cgEq x y) w:=by
 have hS : Tryz.prog.underlying 114 = some (.struct (Tryz.prog.fieldsOf 114)):=by kernel_rfl
 have hp : Tryz.prog.stoodInHeld 114 = false:=by kernel_rfl
 have hF : ((Tryz.prog.fieldsOf 114).toList.map fun f => (f.type,f.offset,decide (f.name = "_"))) = [(110,0,false),(4,4,false),(4,5,false),(3,6,false),(41,7,false),(30,11,false),(112,12,false)]:=by kernel_rfl
 have P1 : ∀ c : Cg,(part 110 (cgC c) 0).run Tryz.prog w = .ok (.agg #[.int .u32 c.pl.ino,.int .i64 c.pl.part,.string c.pl.name,.int .u32 c.pl.chunk]) w:=fun c => part_sub Tryz.underlying110 rfl (n:=4) (by kernel_rfl) (by simp [cgC,cgL])
 have P2 : ∀ c : Cg,(part 4 (cgC c) 4).run Tryz.prog w = .ok (.bool c.gone) w:=fun c => by simp [part,isAgg,run_underlying Tryz.underlying4,cgC,cgL]
 have P3 : ∀ c : Cg,(part 4 (cgC c) 5).run Tryz.prog w = .ok (.bool c.fresh) w:=fun c => by simp [part,isAgg,run_underlying Tryz.underlying4,cgC,cgL]
 have P4 : ∀ c : Cg,(part 3 (cgC c) 6).run Tryz.prog w = .ok (.int .i64 c.fields) w:=fun c => by simp [part,isAgg,run_underlying Tryz.underlying3,cgC,cgL]
 have P5 : ∀ c : Cg,(part 41 (cgC c) 7).run Tryz.prog w = .ok (.agg #[.int .i64 c.kind,.int .i64 c.mode,.int .i64 c.links,.int .i64 c.size]) w:=fun c => part_sub Tryz.underlying41 rfl (n:=4) (by kernel_rfl) (by simp [cgC,cgL])
 have P6 : ∀ c : Cg,(part 30 (cgC c) 11).run Tryz.prog w = .ok (.int .u32 c.to) w:=fun c => by simp [part,isAgg,run_underlying Tryz.underlying30,cgC,cgL]
 have P7 : ∀ c : Cg,c.pt.bytes.length = 32 → (part 112 (cgC c) 12).run Tryz.prog w = .ok (.agg (ptC c.pt)) w:=fun c hc => part_sub Tryz.underlying112 rfl (n:=34) size_pt (Array.ext' (cgC_mid c hc))
 have e1 : (Op.equalIn (d + 3) 110 (.agg #[.int .u32 x.pl.ino,.int .i64 x.pl.part,.string x.pl.name,.int .u32 x.pl.chunk]) (.agg #[.int .u32 y.pl.ino,.int .i64 y.pl.part,.string y.pl.name,.int .u32 y.pl.chunk])).run Tryz.prog w = .ok (plEq x.pl y.pl) w:=equal_pl w (d + 1) _ _ _ _ _ _ _ _
 have eb : ∀ a b : Bool,(Op.equalIn (d + 3) 4 (.bool a) (.bool b)).run Tryz.prog w = .ok (a == b) w:=by
  intro a b
  have u4:=Tryz.underlying4
  go_simp
 have e4 : (Op.equalIn (d + 3) 3 (.int .i64 x.fields) (.int .i64 y.fields)).run Tryz.prog w = .ok (x.fields == y.fields) w:=run_equalIn_int w (d + 2) 3 .i64 .i64 _ _ Tryz.underlying3
 have e5:=equal_inodes w (d + 1) x.kind x.mode x.links x.size y.kind y.mode y.links y.size
 have e6 : (Op.equalIn (d + 3) 30 (.int .u32 x.to) (.int .u32 y.to)).run Tryz.prog w = .ok (x.to == y.to) w:=run_equalIn_int w (d + 2) 30 .u32 .u32 _ _ Tryz.underlying30
 have e7:=equal_pts w d hx hy
 rw [run_equalIn_agg w (d + 3) _ _ _ hS hp]
 generalize (Tryz.prog.fieldsOf 114).toList = L at hF
 have hl : L.length = 7:=by have:=congrArg List.length hF; simpa using this
 match L,hl,hF with
 | [f0,f1,f2,f3,f4,f5,f6],_,hF =>
  simp only [List.map_cons,List.map_nil,List.cons.injEq,Prod.mk.injEq,and_true] at hF
  obtain ⟨⟨t0,o0,n0⟩,⟨t1,o1,n1⟩,⟨t2,o2,n2⟩,⟨t3,o3,n3⟩,⟨t4,o4,n4⟩,⟨t5,o5,n5⟩,t6,o6,n6⟩:=hF
  rw [eqFields_cons w (d + 3) _ _ f0 _ _ _ _ n0 (by rw [t0,o0]; exact P1 x) (by rw [t0,o0]; exact P1 y) (by rw [t0]; exact e1)]
  rw [eqFields_cons w (d + 3) _ _ f1 _ _ _ _ n1 (by rw [t1,o1]; exact P2 x) (by rw [t1,o1]; exact P2 y) (by rw [t1]; exact eb _ _)]
  rw [eqFields_cons w (d + 3) _ _ f2 _ _ _ _ n2 (by rw [t2,o2]; exact P3 x) (by rw [t2,o2]; exact P3 y) (by rw [t2]; exact eb _ _)]
  rw [eqFields_cons w (d + 3) _ _ f3 _ _ _ _ n3 (by rw [t3,o3]; exact P4 x) (by rw [t3,o3]; exact P4 y) (by rw [t3]; exact e4)]
  rw [eqFields_cons w (d + 3) _ _ f4 _ _ _ _ n4 (by rw [t4,o4]; exact P5 x) (by rw [t4,o4]; exact P5 y) (by rw [t4]; exact e5)]
  rw [eqFields_cons w (d + 3) _ _ f5 _ _ _ _ n5 (by rw [t5,o5]; exact P6 x) (by rw [t5,o5]; exact P6 y) (by rw [t5]; exact e6)]
  rw [eqFields_cons w (d + 3) _ _ f6 _ _ _ _ n6 (by rw [t6,o6]; exact P7 x hx) (by rw [t6,o6]; exact P7 y hy) (by rw [t6]; exact e7)]
  unfold cgEq
  simp only [Op.eqFields,Sem.run_pure]
  cases plEq x.pl y.pl <;> cases (x.gone == y.gone) <;> cases (x.fresh == y.fresh) <;> cases (x.fields == y.fields) <;> cases inoEq x.kind x.mode x.links x.size y.kind y.mode y.links y.size <;> cases (x.to == y.to) <;> cases ptEq x.pt y.pt <;> rfl
theorem eq_cgs (w : World) {x y : Cg} (hx : x.pt.bytes.length = 32) (hy : y.pt.bytes.length = 32) : (binOp .eql 114 (.agg (cgC x)) (.agg (cgC y))).run Tryz.prog w = .ok (.bool (cgEq x y)) w:=by
 rw [run_eql_struct,equal_cgs w 9996 hx hy]
 rfl
theorem pt_eq {p : Pt} (h : p.bytes.length = 32) : p = ⟨p.fresh,p.mask,(List.range 32).map fun i => p.bytes.getD i 0⟩:=by
 rw [← ch_eq h]
theorem built_cg0 : Tryz.prog.built 114 [] = some (cgC cg0):=by kernel_rfl
theorem built_gone (p : Pl) : Tryz.prog.built 114 [(0,plV p),(1,.bool true)] = some (cgC ⟨p,true,false,0,0,0,0,0,0,pt0⟩):=by kernel_rfl
theorem built_fresh_ (p : Pl) (k m l s : Int) : Tryz.prog.built 114 [(0,plV p),(2,.bool true),(4,.agg #[.int .i64 k,.int .i64 m,.int .i64 l,.int .i64 s])] = some (cgC ⟨p,false,true,0,k,m,l,s,0,pt0⟩):=by kernel_rfl
theorem built_fields (p : Pl) (f k m l s : Int) : Tryz.prog.built 114 [(0,plV p),(3,.int .i64 f),(4,.agg #[.int .i64 k,.int .i64 m,.int .i64 l,.int .i64 s])] = some (cgC ⟨p,false,false,f,k,m,l,s,0,pt0⟩):=by kernel_rfl
theorem built_ent (p : Pl) (t : Int) : Tryz.prog.built 114 [(0,plV p),(5,.int .u32 t)] = some (cgC ⟨p,false,false,0,0,0,0,0,t,pt0⟩):=by kernel_rfl
theorem built_data (p : Pl) {q : Pt} (hq : q.bytes.length = 32) : Tryz.prog.built 114 [(0,plV p),(6,.agg (ptC q))] = some (cgC ⟨p,false,false,0,0,0,0,0,0,q⟩):=by
 have h : ∀ (f : Bool) (m : Nat) (g : Nat → Int),Tryz.prog.built 114 [(0,plV p),(6,.agg (ptC ⟨f,m,(List.range 32).map g⟩))] = some (cgC ⟨p,false,false,0,0,0,0,0,0,⟨f,m,(List.range 32).map g⟩⟩):=by intro f m g; kernel_rfl
 rw [pt_eq hq]; exact h _ _ _
end Go.Proofs.YtgajjphjkbnaeaaGreat
