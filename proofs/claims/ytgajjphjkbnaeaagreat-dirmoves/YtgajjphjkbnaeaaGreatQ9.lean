/- CgWith, CgPart, CgMay: in one text. -/
import Derived.Test.YtgajjphjkbnaeaaGreatQ7
import Derived.Test.YtgajjphjkbnaeaaGreatQ8
namespace Go.Proofs.YtgajjphjkbnaeaaGreat
open Go.RowKit
set_option linter.unusedVariables false
set_option maxHeartbeats 32000000
set_option maxRecDepth 100000
set_option linter.unusedSimpArgs false
def bF (f m : Int) : Bool:=bits .and .i64 f m != 0
def wM (c : Cg) (m : Int) : Int:=if bF c.fields 1 then c.mode else m
def wL (c : Cg) (l : Int) : Int:=if bF c.fields 2 then c.links else l
def wS (c : Cg) (s : Int) : Int:=if bF c.fields 4 then c.size else s
structure InRow (w : World) (g : Nat) (k m l s : Int) : Prop where
 row : w.heap[g]? = some (.cells #[.int .i64 k,.int .i64 m,.int .i64 l,.int .i64 s] 41 (0,0))
theorem InRow.lt {w : World} {g : Nat} {k m l s : Int} (h : InRow w g k m l s) : g < w.heap.size:=(Array.getElem?_eq_some_iff.1 h.row).1
theorem InRow.below {w w' : World} {g : Nat} {k m l s : Int} (h : InRow w g k m l s) (hb : Below w.heap.size w w') : InRow w' g k m l s:=⟨(hb.block g h.lt).trans h.row⟩
theorem InRow.cell {w : World} {g : Nat} {k m l s : Int} (h : InRow w g k m l s) (j : Nat) (v : Value) (hv : (#[.int .i64 k,.int .i64 m,.int .i64 l,.int .i64 s] : Array Value)[j]? = some v) : w.cell? ⟨g,j,none⟩ = some v:=by
 rw [cell_of_row w g j _ _ (0,0) h.row]; exact hv
theorem InRow.fr {w : World} {g : Nat} {k m l s : Int} (h : InRow w g k m l s) (j : Nat) : w.frozen? ⟨g,j,none⟩ = false:=by simp [World.frozen?,h.row]
theorem InRow.apart {w : World} {g : Nat} {k m l s : Int} (h : InRow w g k m l s) (b i : Nat) (v : Value) (hk : g ≠ b) : InRow (w.setCell ⟨b,i,none⟩ v) g k m l s:=⟨(heap_setCell_other w ⟨b,i,none⟩ g v hk).trans h.row⟩
theorem InRow.put {w : World} {g : Nat} {k m l s : Int} (h : InRow w g k m l s) (k' m' l' s' : Int) : InRow ((((w.setCell ⟨g,0,none⟩ (.int .i64 k')).setCell ⟨g,1,none⟩ (.int .i64 m')).setCell ⟨g,2,none⟩ (.int .i64 l')).setCell ⟨g,3,none⟩ (.int .i64 s')) g k' m' l' s':=by
 have h1:=heap_setCell_same w g 0 _ _ (.int .i64 k') h.row
 have h2:=heap_setCell_same _ g 1 _ _ (.int .i64 m') h1
 have h3:=heap_setCell_same _ g 2 _ _ (.int .i64 l') h2
 have h4:=heap_setCell_same _ g 3 _ _ (.int .i64 s') h3
 exact ⟨h4⟩
theorem InRow.load {w : World} {g : Nat} {k m l s : Int} (h : InRow w g k m l s) : (Instr.loadAt 41 (.pointer (some ⟨g,0,none⟩))).run Tryz.prog w = .ok (.agg #[.int .i64 k,.int .i64 m,.int .i64 l,.int .i64 s]) w:=by
 have hl:=run_loadVar_row (P:=Tryz.prog) w g _ 41 _ _ _ h.row Tryz.underlying41 rfl (by kernel_rfl)
 simp only [Instr.loadAt,Instr.sureAddr,Sem.run_bind,Sem.run_pure,Result.andThen_ok,hl]
theorem ret_in {fn : Func} {R : Ending → World → Prop} {a : Act} {w : World} {p : Tmp} (h : fn.results = #[.cell p 41]) (g : Nat) (k m l s : Int) (hp : a.tmps.getD p undef = .pointer (some ⟨g,0,none⟩))
  (hg : InRow w g k m l s) (hd : a.defers = []) (hR : R (.returned (.agg #[.int .i64 k,.int .i64 m,.int .i64 l,.int .i64 s])) w) : bodyPost Tryz.prog fn R .ret a w :=
 bodyPost_ret (results_cell_row h a.tmps w g _ _ _ _ hp hg.row Tryz.underlying41 rfl (by kernel_rfl)) hd hR
structure WithS (w W : World) (k m l s : Int) (c : Cg) : Prop where
 i : InRow W w.heap.size k m l s
 c : CgAt W (w.heap.size + 1) c
 r : InRow W (w.heap.size + 1 + 1) 0 0 0 0
 bel : Below w.heap.size w W
theorem with_laid (w : World) (k m l s : Int) (c : Cg) : WithS w (((w.alloc (.cells #[.int .i64 k,.int .i64 m,.int .i64 l,.int .i64 s] 41)).alloc (.cells (cgC c) 114)).alloc (.cells #[.int .i64 0,.int .i64 0,.int .i64 0,.int .i64 0] 41)) k m l s c:=by
 have al : ∀ (A : World) (o : Obj),Below A.heap.size A (A.alloc o):=fun A o => (Below.refl _ A).alloc (Nat.le_refl _) o
 refine ⟨⟨?_⟩,?_,⟨?_⟩,(((Below.refl _ w).alloc (Nat.le_refl _) _).alloc (by simp) _).alloc (by simp; omega) _⟩
 ·have h : InRow (w.alloc (.cells #[.int .i64 k,.int .i64 m,.int .i64 l,.int .i64 s] 41)) w.heap.size k m l s:=⟨heap_alloc_new w _⟩
  exact ((h.below (al _ _)).below (al _ _)).row
 ·have h:=(CgAt.laid (w.alloc (.cells #[.int .i64 k,.int .i64 m,.int .i64 l,.int .i64 s] 41)) c).below (al _ (.cells #[.int .i64 0,.int .i64 0,.int .i64 0,.int .i64 0] 41))
  rwa [World.size_alloc] at h
 ·have h:=heap_alloc_new ((w.alloc (.cells #[.int .i64 k,.int .i64 m,.int .i64 l,.int .i64 s] 41)).alloc (.cells (cgC c) 114)) (.cells #[.int .i64 0,.int .i64 0,.int .i64 0,.int .i64 0] 41)
  rwa [World.size_alloc,World.size_alloc] at h
theorem with_any (w : World) (k m l s : Int) (c : Cg) : Calls Tryz.prog 166 #[.agg #[.int .i64 k,.int .i64 m,.int .i64 l,.int .i64 s],.agg (cgC c)] w fun e w' => e = .returned (.agg #[.int .i64 k,.int .i64 (wM c m),.int .i64 (wL c l),.int .i64 (wS c s)]) ∧ Below w.heap.size w w':=by
 have hS:=with_laid w k m l s c
 obtain ⟨w1,hw1⟩ : ∃ w1,(((w.alloc (.cells #[.int .i64 k,.int .i64 m,.int .i64 l,.int .i64 s] 41)).alloc (.cells (cgC c) 114)).alloc (.cells #[.int .i64 0,.int .i64 0,.int .i64 0,.int .i64 0] 41)) = w1:=⟨_,rfl⟩
 rw [hw1] at hS
 have c6:=hS.c.c6
 have c8:=hS.c.c8
 have c9:=hS.c.c9
 have c10:=hS.c.c10
 have i0:=hS.i.cell 0 _ rfl
 have i1:=hS.i.cell 1 _ rfl
 have i2:=hS.i.cell 2 _ rfl
 have i3:=hS.i.cell 3 _ rfl
 have f1:=hS.i.fr 1
 have f2:=hS.i.fr 2
 have f3:=hS.i.fr 3
 have r0:=hS.r.cell 0 _ rfl
 have r1:=hS.r.cell 1 _ rfl
 have r2:=hS.r.cell 2 _ rfl
 have r3:=hS.r.cell 3 _ rfl
 have q0:=hS.r.fr 0
 have q1:=hS.r.fr 1
 have q2:=hS.r.fr 2
 have q3:=hS.r.fr 3
 have hr:=hS.r
 have hB:=hS.bel
 clear hS
 cases h1 : (bits .and .i64 c.fields 1 != 0) <;> cases h2 : (bits .and .i64 c.fields 2 != 0) <;> cases h4 : (bits .and .i64 c.fields 4 != 0)
 all_goals
  simp only [wM,wL,wS,bF,h1,h2,h4,if_true,if_false,Bool.false_eq_true]
  go_enter Tryz.func166,Tryz.ntmps166
  go_wp2
  refine ret_in rfl (w.heap.size + 1 + 1) _ _ _ _ rfl (InRow.put (k:=0) (m:=0) (l:=0) (s:=0) ?_ _ _ _ _) rfl ⟨rfl,?_⟩
  ·repeat (first | with_reducible exact hr | with_reducible refine InRow.apart ?_ _ _ _ (by omega))
  ·repeat (first | with_reducible exact hB | with_reducible refine Below.setCell ?_ (by dsimp only; omega) _)
theorem ret_part {fn : Func} {R : Ending → World → Prop} {a : Act} {w : World} {p : Tmp} (h : fn.results = #[.cell p 243]) (g : Nat) (x y : Value) (hp : a.tmps.getD p undef = .pointer (some ⟨g,0,none⟩))
  (hg : w.heap[g]? = some (.cells #[x,y] 243 (0,0))) (hd : a.defers = []) (hR : R (.returned (.agg #[x,y])) w) : bodyPost Tryz.prog fn R .ret a w :=
 bodyPost_ret (results_cell_row h a.tmps w g _ _ _ _ hp hg Tryz.underlying243 rfl (by kernel_rfl)) hd hR
theorem partOf_1 (w : World) (i c : Int) (n : ByteArray) : Calls Tryz.prog 133 #[plV ⟨i,1,n,c⟩] w fun e w' => e = .returned (.agg #[.func (.func 151) #[] #[],.func (.func 152) #[] #[]]) ∧ Below w.heap.size w w':=by
 have hix : ∀ W,(Instr.index 259 (.agg #[.nilFunc,.nilFunc,.func (.func 151) #[] #[],.func (.func 152) #[] #[],.func (.func 153) #[] #[],.func (.func 154) #[] #[],.func (.func 155) #[] #[],.func (.func 156) #[] #[]]) (.int .i64 1)).run Tryz.prog W = .ok (.agg #[.func (.func 151) #[] #[],.func (.func 152) #[] #[]]) W:=fun W => by kernel_rfl
 obtain ⟨w1,hw1⟩ : ∃ w1,(w.alloc (.cells #[.int .u32 i,.int .i64 1,.string n,.int .u32 c] 110)).alloc (.cells #[.nilFunc,.nilFunc] 243) = w1:=⟨_,rfl⟩
 have hr1 : w1.heap[w.heap.size + 1]? = some (.cells #[.nilFunc,.nilFunc] 243 (0,0)):=by
  have h:=heap_alloc_new (w.alloc (.cells #[.int .u32 i,.int .i64 1,.string n,.int .u32 c] 110)) (.cells #[.nilFunc,.nilFunc] 243)
  rw [World.size_alloc] at h
  rw [← hw1]; exact h
 have hB1 : Below w.heap.size w w1:=by rw [← hw1]; exact ((Below.refl _ w).alloc (Nat.le_refl _) _).alloc (by simp) _
 have c1 : w1.cell? ⟨w.heap.size,1,none⟩ = some (.int .i64 1):=by
  have h : PlAt w1 w.heap.size ⟨i,1,n,c⟩:=by rw [← hw1]; exact (PlAt.laid w ⟨i,1,n,c⟩).below ((Below.refl _ _).alloc (Nat.le_refl _) _)
  exact h.c1
 unfold plV
 go_enter Tryz.func133,Tryz.ntmps133
 go_wp2_with (refine wpList_store_row rfl 243 _ _ rfl (w.heap.size + 1) #[.func (.func 151) #[] #[],.func (.func 152) #[] #[]] rfl rfl 243 #[.nilFunc,.nilFunc] hr1 (by kernel_rfl) rfl (by kernel_rfl) ?_)
 refine ret_part rfl (w.heap.size + 1) _ _ rfl (setRow_heap w1 _ _ _ _ _ hr1) rfl ⟨rfl,below_setRow hB1 (by omega) _⟩
theorem partOf_2 (w : World) (i c : Int) (n : ByteArray) : Calls Tryz.prog 133 #[plV ⟨i,2,n,c⟩] w fun e w' => e = .returned (.agg #[.func (.func 153) #[] #[],.func (.func 154) #[] #[]]) ∧ Below w.heap.size w w':=by
 have hix : ∀ W,(Instr.index 259 (.agg #[.nilFunc,.nilFunc,.func (.func 151) #[] #[],.func (.func 152) #[] #[],.func (.func 153) #[] #[],.func (.func 154) #[] #[],.func (.func 155) #[] #[],.func (.func 156) #[] #[]]) (.int .i64 2)).run Tryz.prog W = .ok (.agg #[.func (.func 153) #[] #[],.func (.func 154) #[] #[]]) W:=fun W => by kernel_rfl
 obtain ⟨w1,hw1⟩ : ∃ w1,(w.alloc (.cells #[.int .u32 i,.int .i64 2,.string n,.int .u32 c] 110)).alloc (.cells #[.nilFunc,.nilFunc] 243) = w1:=⟨_,rfl⟩
 have hr1 : w1.heap[w.heap.size + 1]? = some (.cells #[.nilFunc,.nilFunc] 243 (0,0)):=by
  have h:=heap_alloc_new (w.alloc (.cells #[.int .u32 i,.int .i64 2,.string n,.int .u32 c] 110)) (.cells #[.nilFunc,.nilFunc] 243)
  rw [World.size_alloc] at h
  rw [← hw1]; exact h
 have hB1 : Below w.heap.size w w1:=by rw [← hw1]; exact ((Below.refl _ w).alloc (Nat.le_refl _) _).alloc (by simp) _
 have c1 : w1.cell? ⟨w.heap.size,1,none⟩ = some (.int .i64 2):=by
  have h : PlAt w1 w.heap.size ⟨i,2,n,c⟩:=by rw [← hw1]; exact (PlAt.laid w ⟨i,2,n,c⟩).below ((Below.refl _ _).alloc (Nat.le_refl _) _)
  exact h.c1
 unfold plV
 go_enter Tryz.func133,Tryz.ntmps133
 go_wp2_with (refine wpList_store_row rfl 243 _ _ rfl (w.heap.size + 1) #[.func (.func 153) #[] #[],.func (.func 154) #[] #[]] rfl rfl 243 #[.nilFunc,.nilFunc] hr1 (by kernel_rfl) rfl (by kernel_rfl) ?_)
 refine ret_part rfl (w.heap.size + 1) _ _ rfl (setRow_heap w1 _ _ _ _ _ hr1) rfl ⟨rfl,below_setRow hB1 (by omega) _⟩
theorem partOf_3 (w : World) (i c : Int) (n : ByteArray) : Calls Tryz.prog 133 #[plV ⟨i,3,n,c⟩] w fun e w' => e = .returned (.agg #[.func (.func 155) #[] #[],.func (.func 156) #[] #[]]) ∧ Below w.heap.size w w':=by
 have hix : ∀ W,(Instr.index 259 (.agg #[.nilFunc,.nilFunc,.func (.func 151) #[] #[],.func (.func 152) #[] #[],.func (.func 153) #[] #[],.func (.func 154) #[] #[],.func (.func 155) #[] #[],.func (.func 156) #[] #[]]) (.int .i64 3)).run Tryz.prog W = .ok (.agg #[.func (.func 155) #[] #[],.func (.func 156) #[] #[]]) W:=fun W => by kernel_rfl
 obtain ⟨w1,hw1⟩ : ∃ w1,(w.alloc (.cells #[.int .u32 i,.int .i64 3,.string n,.int .u32 c] 110)).alloc (.cells #[.nilFunc,.nilFunc] 243) = w1:=⟨_,rfl⟩
 have hr1 : w1.heap[w.heap.size + 1]? = some (.cells #[.nilFunc,.nilFunc] 243 (0,0)):=by
  have h:=heap_alloc_new (w.alloc (.cells #[.int .u32 i,.int .i64 3,.string n,.int .u32 c] 110)) (.cells #[.nilFunc,.nilFunc] 243)
  rw [World.size_alloc] at h
  rw [← hw1]; exact h
 have hB1 : Below w.heap.size w w1:=by rw [← hw1]; exact ((Below.refl _ w).alloc (Nat.le_refl _) _).alloc (by simp) _
 have c1 : w1.cell? ⟨w.heap.size,1,none⟩ = some (.int .i64 3):=by
  have h : PlAt w1 w.heap.size ⟨i,3,n,c⟩:=by rw [← hw1]; exact (PlAt.laid w ⟨i,3,n,c⟩).below ((Below.refl _ _).alloc (Nat.le_refl _) _)
  exact h.c1
 unfold plV
 go_enter Tryz.func133,Tryz.ntmps133
 go_wp2_with (refine wpList_store_row rfl 243 _ _ rfl (w.heap.size + 1) #[.func (.func 155) #[] #[],.func (.func 156) #[] #[]] rfl rfl 243 #[.nilFunc,.nilFunc] hr1 (by kernel_rfl) rfl (by kernel_rfl) ?_)
 refine ret_part rfl (w.heap.size + 1) _ _ rfl (setRow_heap w1 _ _ _ _ _ hr1) rfl ⟨rfl,below_setRow hB1 (by omega) _⟩
def goneC (p : Pl) : Cg:=⟨p,true,false,0,0,0,0,0,0,pt0⟩
def freshC (p : Pl) (k m l s : Int) : Cg:=⟨p,false,true,0,k,m,l,s,0,pt0⟩
def fieldsC (p : Pl) (f k m l s : Int) : Cg:=⟨p,false,false,f,k,m,l,s,0,pt0⟩
def entC (p : Pl) (t : Int) : Cg:=⟨p,false,false,0,0,0,0,0,t,pt0⟩
def dataC (p : Pl) (q : Pt) : Cg:=⟨p,false,false,0,0,0,0,0,0,q⟩
theorem bt_gone (p : Pl) : Tryz.prog.built 114 [(0,plV p),(1,.bool true)] = some (cgC (goneC p)):=built_gone p
theorem bt_fresh (p : Pl) (k m l s : Int) : Tryz.prog.built 114 [(0,plV p),(2,.bool true),(4,.agg #[.int .i64 k,.int .i64 m,.int .i64 l,.int .i64 s])] = some (cgC (freshC p k m l s)):=built_fresh_ p k m l s
theorem bt_fields (p : Pl) (f k m l s : Int) : Tryz.prog.built 114 [(0,plV p),(3,.int .i64 f),(4,.agg #[.int .i64 k,.int .i64 m,.int .i64 l,.int .i64 s])] = some (cgC (fieldsC p f k m l s)):=built_fields p f k m l s
theorem bt_ent (p : Pl) (t : Int) : Tryz.prog.built 114 [(0,plV p),(5,.int .u32 t)] = some (cgC (entC p t)):=built_ent p t
theorem bt_data (p : Pl) {q : Pt} (hq : q.bytes.length = 32) : Tryz.prog.built 114 [(0,plV p),(6,.agg (ptC q))] = some (cgC (dataC p q)):=built_data p hq
theorem len0 : pt0.bytes.length = 32:=ch_zero.1
def fieldsOk (c : Cg) : Bool:=if c.fields < 1 then false else if c.fields > 7 then false else cgEq c (fieldsC c.pl c.fields 0 (wM c 0) (wL c 0) (wS c 0)) && inoOk 1 (wM c 0) (wL c 1) (wS c 0)
def recOk (c : Cg) : Bool:=if c.fresh then cgEq c (freshC c.pl c.kind c.mode c.links c.size) && inoOk c.kind c.mode c.links c.size else fieldsOk c
def entOk (c : Cg) : Bool:=cgEq c (entC c.pl c.to) && c.to != 0
def datOk (c : Cg) : Bool:=cgEq c (dataC c.pl (trimP c.pt))
structure OneS (w W : World) (c : Cg) : Prop where
 c : CgAt W w.heap.size c
 bel : Below w.heap.size w W
theorem one_laid (w : World) (c : Cg) : OneS w (w.alloc (.cells (cgC c) 114)) c:=⟨CgAt.laid w c,(Below.refl _ w).alloc (Nat.le_refl _) _⟩
theorem fieldsMayBe_any (w : World) (c : Cg) (h : CgOk c) : Calls Tryz.prog 165 #[.agg (cgC c)] w fun e w' => e = .returned (.bool (fieldsOk c)) ∧ Below w.heap.size w w':=by
 have HL : Hid (c.pt.bytes.length = 32):=h.pt.ch.1
 have hS:=one_laid w c
 obtain ⟨w1,hw1⟩ : ∃ w1,w.alloc (.cells (cgC c) 114) = w1:=⟨_,rfl⟩
 rw [hw1] at hS
 have c6:=hS.c.c6
 have hl1 : Hid _:=hS.c.load HL.out
 unfold fieldsOk
 by_cases h1 : c.fields < 1
 ·rw [if_pos h1]
  go_enter Tryz.func165,Tryz.ntmps165
  go_wp2
  go_ret
  exact ⟨rfl,hS.bel⟩
 rw [if_neg h1]
 by_cases h7 : c.fields > 7
 ·rw [if_pos h7]
  go_enter Tryz.func165,Tryz.ntmps165
  go_wp2
  go_ret
  exact ⟨rfl,hS.bel⟩
 rw [if_neg h7]
 go_enter Tryz.func165,Tryz.ntmps165
 go_wp2_with (refine wpList_loadG rfl 114 _ rfl _ rfl _ hl1.out ?_)
 refine (with_any _ 0 0 0 0 c).mono ?_
 rintro e w2 ⟨rfl,hb2⟩
 have hc2:=hS.c.below hb2
 have hB2 : Below w.heap.size w w2:=hS.bel.trans (hb2.mono hS.bel.size)
 have HX : Hid (w1.heap.size ≤ w2.heap.size):=hb2.size
 have hlt : w.heap.size < w2.heap.size:=hc2.lt
 obtain ⟨w3,hw3⟩ : ∃ w3,w2.alloc (.cells #[.int .i64 0,.int .i64 (wM c 0),.int .i64 (wL c 0),.int .i64 (wS c 0)] 41) = w3:=⟨_,rfl⟩
 have hc3 : CgAt w3 w.heap.size c:=by rw [← hw3]; exact hc2.below ((Below.refl _ _).alloc (Nat.le_refl _) _)
 have hi3 : InRow w3 w2.heap.size 0 (wM c 0) (wL c 0) (wS c 0):=by rw [← hw3]; exact ⟨heap_alloc_new _ _⟩
 have hB3 : Below w.heap.size w w3:=by rw [← hw3]; exact hB2.alloc (Nat.le_of_lt hlt) _
 have hl3 : Hid _:=hc3.load HL.out
 go_wp2_with (refine wpList_loadG rfl 114 _ rfl _ rfl _ hl3.out ?_)
 refine (with_any _ 1 0 1 0 c).mono ?_
 rintro e w4 ⟨rfl,hb4⟩
 have hc4:=hc3.below hb4
 have hi4:=hi3.below hb4
 have hB4 : Below w.heap.size w w4:=hB3.trans (hb4.mono hB3.size)
 have hlt4 : w.heap.size < w4.heap.size:=hc4.lt
 have al4 : ∀ o,Below w4.heap.size w4 (w4.alloc o):=fun o => (Below.refl _ _).alloc (Nat.le_refl _) o
 obtain ⟨w5,hw5⟩ : ∃ w5,w4.alloc (.cells #[.int .i64 1,.int .i64 (wM c 0),.int .i64 (wL c 1),.int .i64 (wS c 0)] 41) = w5:=⟨_,rfl⟩
 have hc5 : CgAt w5 w.heap.size c:=by rw [← hw5]; exact hc4.below (al4 _)
 have hi5 : InRow w5 w2.heap.size 0 (wM c 0) (wL c 0) (wS c 0):=by rw [← hw5]; exact hi4.below (al4 _)
 have hj5 : InRow w5 w4.heap.size 1 (wM c 0) (wL c 1) (wS c 0):=by rw [← hw5]; exact ⟨heap_alloc_new _ _⟩
 have hB5 : Below w.heap.size w w5:=by rw [← hw5]; exact hB4.alloc (Nat.le_of_lt hlt4) _
 have hl5 : Hid _:=hc5.load HL.out
 have hp5 : Hid _:=hc5.loadP
 have hi5' : Hid _:=hi5.load
 have hj5' : Hid _:=hj5.load
 have d6:=hc5.c6
 have heq:=fun W => eq_cgs W (x:=c) (y:=fieldsC c.pl c.fields 0 (wM c 0) (wL c 0) (wS c 0)) HL.out len0
 cases hq : cgEq c (fieldsC c.pl c.fields 0 (wM c 0) (wL c 0) (wS c 0))
 ·rw [hq] at heq
  go_wp2_with (first
   | (refine wpList_loadG rfl 114 _ rfl _ rfl _ hl5.out ?_)
   | (refine wpList_loadG rfl 110 _ rfl _ rfl _ hp5.out ?_)
   | (refine wpList_loadG rfl 41 _ rfl _ rfl _ hi5'.out ?_)
   | (refine wpList_buildBy rfl 114 _ rfl _ rfl [(0,plV c.pl),(3,.int .i64 c.fields),(4,.agg #[.int .i64 0,.int .i64 (wM c 0),.int .i64 (wL c 0),.int .i64 (wS c 0)])] (by kernel_rfl) _ (bt_fields c.pl c.fields 0 (wM c 0) (wL c 0) (wS c 0)) ?_))
  go_ret
  exact ⟨by rw [hq]; rfl,hB5⟩
 ·rw [hq] at heq
  go_wp2_with (first
   | (refine wpList_loadG rfl 114 _ rfl _ rfl _ hl5.out ?_)
   | (refine wpList_loadG rfl 110 _ rfl _ rfl _ hp5.out ?_)
   | (refine wpList_loadG rfl 41 _ rfl _ rfl _ hi5'.out ?_)
   | (refine wpList_loadG rfl 41 _ rfl _ rfl _ hj5'.out ?_)
   | (refine wpList_buildBy rfl 114 _ rfl _ rfl [(0,plV c.pl),(3,.int .i64 c.fields),(4,.agg #[.int .i64 0,.int .i64 (wM c 0),.int .i64 (wL c 0),.int .i64 (wS c 0)])] (by kernel_rfl) _ (bt_fields c.pl c.fields 0 (wM c 0) (wL c 0) (wS c 0)) ?_))
  refine (checkInode_any _ 1 (wM c 0) (wL c 1) (wS c 0)).mono ?_
  rintro e w6 ⟨rfl,hb6⟩
  have hB6 : Below w.heap.size w w6:=hB5.trans (hb6.mono hB5.size)
  cases hi : inoOk 1 (wM c 0) (wL c 1) (wS c 0)
  ·rw [inoE_11 hi]
   go_wp2
   go_ret
   exact ⟨by rw [hq,hi]; rfl,hB6⟩
  ·rw [inoE_0 hi]
   go_wp2
   go_ret
   exact ⟨by rw [hq,hi]; rfl,hB6⟩
end Go.Proofs.YtgajjphjkbnaeaaGreat
