/- DgUndo, DgApp, DlSort, DlAll: in one text. -/
import Derived.Test.YtgajjphjkbnaeaaGreatQ14
import Derived.Laws.AppendOwnNone
import Derived.Test.YtgajjphjkbnaeaaGreatQ13
import Derived.Shelf.SlSortCmp.NoneTotal
import Derived.Ground.SlsfProg
import Derived.RangeFuncBox
import Derived.RangeFuncNested
import Derived.Sort.MapsRangeIn
import Derived.Shelf.AbstractIn
import Derived.RangeFuncMany
import Derived.RangeFuncLeaves
import Derived.OwnWalkIn
import Derived.TacticsInMore
import Derived.RegionIn
import Derived.LoopNIn
import Derived.LoopIn
namespace Go.Proofs.YtgajjphjkbnaeaaGreat
open Go.RowKit
set_option linter.unusedVariables false
set_option maxHeartbeats 32000000
set_option maxRecDepth 100000
set_option linter.unusedSimpArgs false
theorem flatX_take {xs : List Cg} (h : ∀ c ∈ xs,CgOk c) (j : Nat) : (xs.flatMap cgL).take (j * 46) = (xs.take j).flatMap cgL:=by
 induction xs generalizing j with
 | nil => simp
 | cons x xs ih =>
  cases j with
  | zero => simp
  | succ j =>
   have hl:=cgL_len (h x (by simp)).pt.ch.1
   rw [List.take_succ_cons,List.flatMap_cons,List.flatMap_cons,List.take_append,hl,List.take_of_length_le (by rw [hl]; omega),show (j + 1) * 46 - 46 = j * 46 by omega,ih (fun c hc => h c (by simp [hc]))]
def RdC (w : World) (u : Value) (B : List Cg) : Prop:=∃ a c,u = .slice a B.length c ∧ (a = none → c = 0) ∧ (0 < B.length → ∃ g off,a = some ⟨g,off,none⟩ ∧ g < w.heap.size ∧ ∀ j x,(B.flatMap cgL)[j]? = some x → w.cell? ⟨g,off + j,none⟩ = some x)
theorem RdC.below {w w' : World} {u : Value} {B : List Cg} (h : RdC w u B) (hb : Below w.heap.size w w') : RdC w' u B:=by
 obtain ⟨a,c,rfl,h1,h2⟩:=h
 refine ⟨a,c,rfl,h1,fun hp => ?_⟩
 obtain ⟨g,off,e,h3,h4⟩:=h2 hp
 exact ⟨g,off,e,Nat.lt_of_lt_of_le h3 hb.size,fun j x hj => (hb.cell (p:=⟨g,off + j,none⟩) h3).trans (h4 j x hj)⟩
theorem rdC_own {w : World} {base : Nat} {u : Value} {B : List Cg} (h : w.ownsRow base 114 46 u B.length (B.flatMap cgL)) : RdC w u B:=by
 obtain ⟨h1,⟨rfl,h2⟩ | ⟨g,cap,cur,rfl,h3,h4,h5,h6,h7,h8⟩⟩:=h
 ·exact ⟨none,0,by rw [h2],fun _ => rfl,fun h => by omega⟩
 ·refine ⟨_,_,rfl,fun e => (by cases e),fun hp => ⟨g,0,rfl,(Array.getElem?_eq_some_iff.1 h4).1,fun j x hj => ?_⟩⟩
  rw [cell_of_row _ _ _ _ _ (0,0) h4,Nat.zero_add,← Array.getElem?_toList]
  rw [← h8] at hj
  rw [List.getElem?_take] at hj
  split at hj
  ·exact hj
  ·cases hj
theorem flatC_drop {xs : List Cg} (h : ∀ c ∈ xs,CgOk c) (t : Nat) : (xs.flatMap cgL).drop (t * 46) = (xs.drop t).flatMap cgL:=by
 induction xs generalizing t with
 | nil => simp
 | cons x xs ih =>
  cases t with
  | zero => simp
  | succ t =>
   have hl:=cgL_len (h x (by simp)).pt.ch.1
   rw [List.drop_succ_cons,List.flatMap_cons,List.drop_append,hl,List.drop_of_length_le (by rw [hl]; omega),List.nil_append,show (t + 1) * 46 - 46 = t * 46 by omega,ih (fun c hc => h c (by simp [hc]))]
def cutC (a : Option Addr) (c t : Nat) : Option Addr:=if c = t then a else a.map (·.add (t * 46))
theorem rdC_to {w : World} {a : Option Addr} {n c : Nat} {B : List Cg} (hB : ∀ c ∈ B,CgOk c) (h : RdC w (.slice a n c) B) (f : Nat) (hf : f ≤ n) : RdC w (.slice a f c) (B.take f):=by
 obtain ⟨a',c',e,h1,h2⟩:=h
 simp only [Value.slice.injEq] at e
 obtain ⟨rfl,rfl,rfl⟩:=e
 refine ⟨a,c,by rw [List.length_take,Nat.min_eq_left hf],h1,fun hp => ?_⟩
 rw [List.length_take,Nat.min_eq_left hf] at hp
 obtain ⟨g,off,e,h3,h4⟩:=h2 (by omega)
 refine ⟨g,off,e,h3,fun j x hj => h4 j x ?_⟩
 rw [← flatX_take hB,List.getElem?_take] at hj
 split at hj
 ·exact hj
 ·cases hj
theorem rdC_cut {w : World} {a : Option Addr} {n c : Nat} {B : List Cg} (hB : ∀ c ∈ B,CgOk c) (h : RdC w (.slice a n c) B) (t : Nat) (ht : t ≤ n) (hc : n ≤ c) : RdC w (.slice (cutC a c t) (n - t) (c - t)) (B.drop t):=by
 obtain ⟨a',c',e,h1,h2⟩:=h
 simp only [Value.slice.injEq] at e
 obtain ⟨rfl,rfl,rfl⟩:=e
 refine ⟨_,_,by rw [List.length_drop],fun hn => ?_,fun hp => ?_⟩
 ·unfold cutC at hn
  split at hn
  ·have:=h1 hn; omega
  ·have:=h1 (by cases a with | none => rfl | some _ => cases hn); omega
 ·rw [List.length_drop] at hp
  obtain ⟨g,off,e,h3,h4⟩:=h2 (by omega)
  refine ⟨g,off + t * 46,?_,h3,fun j x hj => ?_⟩
  ·unfold cutC
   rw [if_neg (by omega),e]
   simp [Addr.add]
  ·rw [Nat.add_assoc]
   refine h4 (t * 46 + j) x ?_
   rw [← flatC_drop hB,List.getElem?_drop] at hj
   exact hj
theorem info_cg : (Tryz.prog.info? 114).map (fun i => (i.zero,i.size,i.bytes)) = some (some (.agg (cgC cg0)),46,136):=by kernel_rfl
theorem cut_run (w : World) (ua : Option Addr) (n uc i : Nat) (hi : i ≤ n) (hc : n ≤ uc) (hn : ua = none → uc = 0) : (Instr.sliceAt 173 (.slice ua n uc) (some (.int .i64 i)) none none).run Tryz.prog w = .ok (.slice (cutC ua uc i) (n - i) (uc - i)) w:=by
 have u:=Tryz.underlying173
 have h1 : (i : Int) ≤ (n : Int):=by omega
 have h2 : (n : Int) ≤ (uc : Int):=by omega
 have h3 : (i : Int) ≤ (uc : Int):=by omega
 unfold cutC
 go_simp
open Go.Proofs
open Go.RowKit Go.Sort Go.Shelf
def Tryz.sortG_ren : Go.Shelf.Ren:=⟨fun | 6 => 141 | 15 => 161 | 14 => 160 | 28 => 182 | 29 => 183 | 20 => 174 | 21 => 175 | 22 => 176 | 23 => 177 | 24 => 178 | 25 => 179 | 26 => 180 | 27 => 181 | 46 => 186 | 47 => 187 | 48 => 188 | 49 => 189 | 50 => 190 | 57 => 191 | n => n,fun | 22 => 173 | 24 => 114 | 25 => 233 | 3 => 3 | 39 => 224 | 0 => 0 | 53 => 30 | 55 => 178 | 4 => 4 | 46 => 272 | 45 => 271 | 50 => 206 | 5 => 5 | 9 => 9 | 66 => 281 | 70 => 285 | 76 => 287 | 77 => 288 | n => n,fun | n => n⟩
theorem Tryz.sortG : Go.Proofs.SlLaysF0.n6 Tryz.prog Tryz.sortG_ren:={
  mixed:=by kernel_rfl
  f6:=⟨Tryz.f141.name,by decide,Tryz.func141.trans (congrArg some (by kernel_rfl))⟩
  f14:=⟨Tryz.f160.name,by decide,Tryz.func160.trans (congrArg some (by kernel_rfl))⟩
  f15:=Tryz.func161.trans (congrArg some (by kernel_rfl))
  f20:=⟨Tryz.f174.name,by decide,Tryz.func174.trans (congrArg some (by kernel_rfl))⟩
  f21:=⟨Tryz.f175.name,by decide,Tryz.func175.trans (congrArg some (by kernel_rfl))⟩
  f22:=⟨Tryz.f176.name,by decide,Tryz.func176.trans (congrArg some (by kernel_rfl))⟩
  f23:=⟨Tryz.f177.name,by decide,Tryz.func177.trans (congrArg some (by kernel_rfl))⟩
  f24:=⟨Tryz.f178.name,by decide,Tryz.func178.trans (congrArg some (by kernel_rfl))⟩
  f25:=⟨Tryz.f179.name,by decide,Tryz.func179.trans (congrArg some (by kernel_rfl))⟩
  f26:=⟨Tryz.f180.name,by decide,Tryz.func180.trans (congrArg some (by kernel_rfl))⟩
  f27:=⟨Tryz.f181.name,by decide,Tryz.func181.trans (congrArg some (by kernel_rfl))⟩
  f28:=Tryz.func182.trans (congrArg some (by kernel_rfl))
  f29:=Tryz.func183.trans (congrArg some (by kernel_rfl))
  f46:=⟨Tryz.f186.name,by decide,Tryz.func186.trans (congrArg some (by kernel_rfl))⟩
  f47:=Tryz.func187.trans (congrArg some (by kernel_rfl))
  f48:=Tryz.func188.trans (congrArg some (by kernel_rfl))
  f49:=⟨Tryz.f189.name,by decide,Tryz.func189.trans (congrArg some (by kernel_rfl))⟩
  f50:=⟨Tryz.f190.name,by decide,Tryz.func190.trans (congrArg some (by kernel_rfl))⟩
  f57:=⟨Tryz.f191.name,by decide,Tryz.func191.trans (congrArg some (by kernel_rfl))⟩
  t0:=Tryz.underlying0
  a0:=Tryz.isAgg0
  z0:=Tryz.sizeOf0
  v0:=Tryz.zeroValue0
  t3:=Tryz.underlying3
  a3:=Tryz.isAgg3
  z3:=Tryz.sizeOf3
  v3:=Tryz.zeroValue3
  t4:=Tryz.underlying4
  a4:=Tryz.isAgg4
  z4:=Tryz.sizeOf4
  v4:=Tryz.zeroValue4
  t5:=Tryz.underlying5
  a5:=Tryz.isAgg5
  z5:=Tryz.sizeOf5
  v5:=Tryz.zeroValue5
  t9:=Tryz.underlying9
  a9:=Tryz.isAgg9
  z9:=Tryz.sizeOf9
  v9:=Tryz.zeroValue9
  t22:=Tryz.underlying173
  a22:=Tryz.isAgg173
  z22:=Tryz.sizeOf173
  v22:=Tryz.zeroValue173
  t25:=Tryz.underlying233
  a25:=Tryz.isAgg233
  z25:=Tryz.sizeOf233
  v25:=Tryz.zeroValue233
  t39:=Tryz.underlying224
  a39:=Tryz.isAgg224
  z39:=Tryz.sizeOf224
  v39:=Tryz.zeroValue224
  t45:=Tryz.underlying271
  a45:=Tryz.isAgg271
  z45:=Tryz.sizeOf271
  v45:=Tryz.zeroValue271
  t46:=Tryz.underlying272
  a46:=Tryz.isAgg272
  z46:=Tryz.sizeOf272
  v46:=Tryz.zeroValue272
  t50:=Tryz.underlying206
  a50:=Tryz.isAgg206
  z50:=Tryz.sizeOf206
  v50:=Tryz.zeroValue206
  t53:=Tryz.underlying30
  a53:=Tryz.isAgg30
  z53:=Tryz.sizeOf30
  v53:=Tryz.zeroValue30
  t55:=Tryz.underlying178
  a55:=Tryz.isAgg178
  z55:=Tryz.sizeOf178
  v55:=Tryz.zeroValue178
  t66:=Tryz.underlying281
  a66:=Tryz.isAgg281
  z66:=Tryz.sizeOf281
  v66:=Tryz.zeroValue281
  t70:=Tryz.underlying285
  a70:=Tryz.isAgg285
  z70:=Tryz.sizeOf285
  v70:=Tryz.zeroValue285
  t76:=Tryz.underlying287
  a76:=Tryz.isAgg287
  z76:=Tryz.sizeOf287
  v76:=Tryz.zeroValue287
  t77:=Tryz.underlying288
  a77:=Tryz.isAgg288
  z77:=Tryz.sizeOf288
  v77:=Tryz.zeroValue288 }
theorem compareG_any (w : World) (a b : Pl) : Calls Tryz.prog 126 #[plV a,plV b] w fun e w' => e = .returned (.int .i64 (cmpP a b)) ∧ ∃ q os,w' = grow (w.drewN q) os:=by
 obtain ⟨w1,hw1⟩ : ∃ w1,w1 = (w.alloc (.cells #[.int .u32 a.ino,.int .i64 a.part,.string a.name,.int .u32 a.chunk] 110)).alloc (.cells #[.int .u32 b.ino,.int .i64 b.part,.string b.name,.int .u32 b.chunk] 110):=⟨_,rfl⟩
 have hb1 : Below w.heap.size w w1:=by rw [hw1]; exact ((Below.refl _ _).alloc (Nat.le_refl _) _).alloc (by simp) _
 have ha1 : PlAt w1 w.heap.size a:=by
  rw [hw1]
  exact (PlAt.laid w a).below ((Below.refl _ _).alloc (Nat.le_refl _) _)
 have hb1' : PlAt w1 (w.heap.size + 1) b:=by
  rw [hw1]
  have:=PlAt.laid (w.alloc (.cells (plCells a) 110)) b
  have hs : (w.alloc (.cells (plCells a) 110)).heap.size = w.heap.size + 1:=by simp
  rw [hs] at this
  exact this
 have HW : Hid (w1 = grow w #[.cells #[.int .u32 a.ino,.int .i64 a.part,.string a.name,.int .u32 a.chunk] 110,.cells #[.int .u32 b.ino,.int .i64 b.part,.string b.name,.int .u32 b.chunk] 110]):=by
  unfold Hid; rw [hw1,alloc_eq_grow,alloc_eq_grow,grow_grow]; rfl
 unfold plV cmpP
 have hOr : ∀ (x0 x1 x2 x3 : Int),Calls Tryz.prog 143 #[.slice (some ⟨w1.heap.size,0,none⟩) 4 4] (w1.alloc (.cells #[.int .i64 x0,.int .i64 x1,.int .i64 x2,.int .i64 x3] 3)).drew fun e w' => e = .returned (.int .i64 (orL [x0,x1,x2,x3])) ∧ (w1.alloc (.cells #[.int .i64 x0,.int .i64 x1,.int .i64 x2,.int .i64 x3] 3)).drew = w':=by
  intro x0 x1 x2 x3
  have hg : (w1.alloc (.cells #[.int .i64 x0,.int .i64 x1,.int .i64 x2,.int .i64 x3] 3)).drew.heap[w1.heap.size]? = some (.cells #[.int .i64 x0,.int .i64 x1,.int .i64 x2,.int .i64 x3] 3 (0,0)):=heap_alloc_new w1 _
  refine or_any _ w1.heap.size 4 [x0,x1,x2,x3] (by simp) ?_
  intro j hj
  rw [cell_of_row _ _ j _ _ (0,0) hg]
  match j,hj with
  | 0,_ => rfl
  | 1,_ => rfl
  | 2,_ => rfl
  | 3,_ => rfl
 have q0 : ∀ W,Below w1.heap.size w1 W → W.cell? ⟨w.heap.size,0,none⟩ = some (.int .u32 a.ino):=fun W hW => (ha1.below hW).c0
 have q1 : ∀ W,Below w1.heap.size w1 W → W.cell? ⟨w.heap.size,1,none⟩ = some (.int .i64 a.part):=fun W hW => (ha1.below hW).c1
 have q2 : ∀ W,Below w1.heap.size w1 W → W.cell? ⟨w.heap.size,2,none⟩ = some (.string a.name):=fun W hW => (ha1.below hW).c2
 have q3 : ∀ W,Below w1.heap.size w1 W → W.cell? ⟨w.heap.size,3,none⟩ = some (.int .u32 a.chunk):=fun W hW => (ha1.below hW).c3
 have r0 : ∀ W,Below w1.heap.size w1 W → W.cell? ⟨w.heap.size + 1,0,none⟩ = some (.int .u32 b.ino):=fun W hW => (hb1'.below hW).c0
 have r1 : ∀ W,Below w1.heap.size w1 W → W.cell? ⟨w.heap.size + 1,1,none⟩ = some (.int .i64 b.part):=fun W hW => (hb1'.below hW).c1
 have r2 : ∀ W,Below w1.heap.size w1 W → W.cell? ⟨w.heap.size + 1,2,none⟩ = some (.string b.name):=fun W hW => (hb1'.below hW).c2
 have r3 : ∀ W,Below w1.heap.size w1 W → W.cell? ⟨w.heap.size + 1,3,none⟩ = some (.int .u32 b.chunk):=fun W hW => (hb1'.below hW).c3
 go_enter Tryz.func126,Tryz.ntmps126
 go_wp2_with fail
 rw [← hw1]
 clear hw1 ha1 hb1'
 refine wp_region_noPanic ?_
 go_region_held (fun W => Below w1.heap.size w1 W) (first | assumption | exact (Below.refl _ _).drew | exact Below.alloc (by assumption) (Below.size (by assumption)) _ | exact keep2 (by assumption) (by assumption))
  (first
   | (go_at_call 144; refine (cmpU_any _ _ _).mono ?_; rintro e w2 ⟨rfl,rfl⟩)
   | (go_at_call 145; refine (cmpI_any _ _ _).mono ?_; rintro e w2 ⟨rfl,rfl⟩)
   | (go_at_call 146; refine (cmpS_any _ _ _).mono ?_; rintro e w2 ⟨rfl,rfl⟩)
   | (go_at_call 143; refine (hOr _ _ _ _).mono ?_; rintro e w3 ⟨rfl,rfl⟩))
 refine NoPanic.normal ?_
 clear q0 q1 q2 q3 r0 r1 r2 r3 hOr
 go_wp2
 go_ret
 refine ⟨rfl,1,#[.cells #[.int .u32 a.ino,.int .i64 a.part,.string a.name,.int .u32 a.chunk] 110,.cells #[.int .u32 b.ino,.int .i64 b.part,.string b.name,.int .u32 b.chunk] 110] ++ #[.cells #[.int .i64 (cmpI a.ino b.ino),.int .i64 (cmpI a.part b.part),.int .i64 (cmpS a.name b.name),.int .i64 (cmpI a.chunk b.chunk)] 3],?_⟩
 rw [HW.out,alloc_eq_grow,grow_grow]
 rfl
structure CgK where
 c : Cg
 ok : CgOk c
def ckL (x : CgK) : List Value:=cgL x.1
theorem ckL_len (x : CgK) : (ckL x).length = 46:=cgL_len x.2.pt.ch.1
def cmpK (x y : CgK) : Int:=cmpP x.1.pl y.1.pl
theorem all1_any (w : World) (x y : CgK) : Calls Tryz.prog 125 #[.agg (ckL x).toArray,.agg (ckL y).toArray] w fun e w' => e = .returned (.int .i64 (cmpK x y)) ∧ ∃ q os,w' = grow (w.drewN q) os:=by
 have hx1:=(CgAt.laid w x.1).below ((Below.refl _ _).alloc (Nat.le_refl _) (.cells (cgC y.1) 114))
 have hy1:=CgAt.laid (w.alloc (.cells (cgC x.1) 114)) y.1
 rw [World.size_alloc] at hy1
 obtain ⟨w1,hw1⟩ : ∃ w1,(w.alloc (.cells (cgC x.1) 114)).alloc (.cells (cgC y.1) 114) = w1:=⟨_,rfl⟩
 rw [hw1] at hx1 hy1
 have HW : Hid (w1 = grow w #[.cells (cgC x.1) 114,.cells (cgC y.1) 114]):=by
  unfold Hid; rw [← hw1,alloc_eq_grow,alloc_eq_grow,grow_grow]; rfl
 have hp1 : Hid _:=hx1.loadP
 have hp2 : Hid _:=hy1.loadP
 have cc:=compareG_any w1 x.1.pl y.1.pl
 unfold cmpK
 show Calls Tryz.prog _ #[.agg (cgC x.1),.agg (cgC y.1)] w _
 go_enter Tryz.func125,Tryz.ntmps125
 go_wp2_with (first
  | (refine wpList_loadG rfl 110 _ rfl _ rfl _ hp1.out ?_)
  | (refine wpList_loadG rfl 110 _ rfl _ rfl _ hp2.out ?_))
 refine cc.mono ?_
 rintro e w2 ⟨rfl,q,os,rfl⟩
 go_wp2
 go_ret
 exact ⟨rfl,q,_,by rw [HW.out]; exact grow_grow (w.drewN q) _ os⟩
theorem ltK (x y : CgK) : ltOf cmpK x y = decide (cmpP x.1.pl y.1.pl = -1):=by
 unfold ltOf cmpK
 congr 1
 apply propext
 rcases cmpP_ord.three x.1.pl y.1.pl with e | e | e <;> rw [e] <;> decide
theorem swoK : SWO (ltOf cmpK):=by
 refine ⟨fun x => ?_,fun x y z h1 h2 => ?_,fun x y z h1 h2 => ?_⟩
 ·rw [ltK]; simpa using cmp_irr x.1.pl
 ·rw [ltK] at *; simp only [decide_eq_true_eq] at *; exact cmp_tr h1 h2
 ·rw [ltK] at *; simp only [decide_eq_false_iff_not] at *
  intro h
  by_cases e : x.1.pl = y.1.pl
  ·rw [e] at h; exact h2 h
  ·exact h2 (cmp_tr (cmp_other h1 e) h)
theorem flat_get {α : Type} [Inhabited α] {k : Nat} (hk0 : 0 < k) {enc : α → List Value} (hk : ∀ x,(enc x).length = k) : ∀ (L : List α) (t : Nat),t < L.length * k → (L.flatMap enc)[t]? = some ((enc (L[t / k]!))[t % k]!)
 | [],t,h => by simp at h
 | x :: L,t,h => by
  rw [List.flatMap_cons]
  by_cases ht : t < k
  ·have hx:=hk x
   rw [List.getElem?_append_left (by omega),Nat.div_eq_of_lt ht,Nat.mod_eq_of_lt ht]
   show (enc x)[t]? = some ((enc x)[t]!)
   rw [getElem!_pos (enc x) t (by omega),List.getElem?_eq_getElem (by omega)]
  ·have hx:=hk x
   have h2 : t - k < L.length * k:=by rw [List.length_cons,Nat.succ_mul] at h; omega
   rw [List.getElem?_append_right (by omega),hx,flat_get hk0 hk L (t - k) h2]
   have e1 : t / k = (t - k) / k + 1:=by
    rw [Nat.div_eq_sub_div hk0 (by omega)]
   have e2 : t % k = (t - k) % k:=Nat.mod_eq_sub_mod (by omega)
   rw [e1,e2]
   rfl
theorem flatK_list {α : Type} [Inhabited α] {k : Nat} (hk0 : 0 < k) {enc : α → List Value} (hk : ∀ x,(enc x).length = k) (L : List α) : (flatK enc k L.toArray).toList = L.flatMap enc:=by
 have hlen : (L.flatMap enc).length = L.length * k:=by
  induction L with
  | nil => simp
  | cons x L ih => rw [List.flatMap_cons,List.length_append,hk,ih,List.length_cons,Nat.succ_mul]; omega
 apply List.ext_getElem?
 intro t
 by_cases ht : t < L.length * k
 ·rw [flat_get hk0 hk L t ht,Array.getElem?_toList]
  have h1 : t < (flatK enc k L.toArray).size:=by simpa using ht
  have h2:=get_flatK enc k L.toArray t (by simpa using ht)
  rw [getElem!_pos _ t h1] at h2
  rw [Array.getElem?_eq_getElem h1,h2]
  simp
 ·rw [List.getElem?_eq_none (by simp; omega),List.getElem?_eq_none (by omega)]
theorem heap_sortedV {w : World} {g n : Nat} {os : Array Obj} {cur : Array Value} {e : TypeId} {fr : Nat × Nat} (d : Array Value) (hb : w.heap[g]? = some (.cells cur e fr)) :
  (grow (putRow id (Sort.ahead w n) g 0 d) os).heap[g]? = some (.cells (putCells id 0 d cur) e fr):=by
 have hg : g < w.heap.size:=(Array.getElem?_eq_some_iff.1 hb).1
 rw [heap_grow_old _ _ (by simpa using hg)]
 simp [putRow,mapBlock,Sort.ahead,Array.getElem?_modify,hb,onCells]
theorem grownBy_sortedV {w : World} {g n : Nat} {os : Array Obj} (d : Array Value) : w.grownBy (grow (putRow id (Sort.ahead w n) g 0 d) os) (some g):=by
 refine ⟨rfl,rfl,rfl,by simp,fun k hk hne => ?_⟩
 rw [heap_grow_old _ _ (by simpa using hk)]
 have : g ≠ k:=fun e => hne (by rw [e])
 simp [putRow,mapBlock,Sort.ahead,Array.getElem?_modify,this]
theorem take_putCellsV (cur d : Array Value) (h : d.size ≤ cur.size) : (putCells id 0 d cur).toList.take d.size = d.toList:=by
 apply List.ext_getElem?
 intro j
 by_cases hj : j < d.size
 ·rw [List.getElem?_take_of_lt hj,Array.getElem?_toList,Array.getElem?_toList]
  simp [putCells,hj,show j < cur.size by omega]
 ·rw [List.getElem?_take_eq_none (by omega),List.getElem?_eq_none (by simp; omega)]
theorem isAggCg (w : World) : (isAgg 114).run Tryz.prog w = .ok true w:=by
 simp [isAgg,run_underlying Tryz.underlying114]
theorem sizeOfCg (w : World) : (sizeOf 114).run Tryz.prog w = .ok 46 w:=by
 obtain ⟨i,hi,hs⟩ : ∃ i,Tryz.prog.info? 114 = some i ∧ i.size = 46:=by
  have h:=size_cg
  cases hq : Tryz.prog.info? 114 with
  | none => rw [hq] at h; cases h
  | some i => rw [hq] at h; exact ⟨i,rfl,by simpa using h⟩
 simp [sizeOf,typeInfo,hi,hs]
theorem sortG_any {base : Nat} {w : World} {v : Value} {L : List CgK} (h : w.ownsRow base 114 46 v L.length (L.flatMap ckL)) (hl : L.length ≤ 100000) :
  Calls Tryz.prog 141 #[v,.func (Fn.func 125) #[] #[]] w fun e w' =>
   e = .returned (.tuple #[]) ∧ ∃ L' : List CgK,L'.Perm L ∧ L'.Pairwise (fun x y => ¬ cmpP y.1.pl x.1.pl = -1) ∧ w'.ownsRow base 114 46 v L'.length (L'.flatMap ckL) ∧ w.grownBy w' v.ownBlock:=by
 obtain ⟨hlen,⟨rfl,h0⟩ | ⟨g,cap,cur,rfl,hb,hg,hn,hm,hs,ht⟩⟩:=id h
 ·have hL : L = []:=List.eq_nil_of_length_eq_zero h0
  subst hL
  have hc:=AnyF.slices_SortFunc_none Tryz.sortG none 0 (.func (Fn.func 125) #[] #[]) w
  change Calls Tryz.prog 141 _ _ _ at hc
  refine hc.mono ?_
  rintro e w' ⟨rfl,rfl⟩
  exact ⟨rfl,[],.refl _,List.Pairwise.nil,h,⟨rfl,rfl,rfl,Nat.le_refl _,fun _ _ _ => rfl⟩⟩
 ·letI : Inhabited CgK:=⟨⟨cg0,cg0_ok⟩⟩
  have hfl:=flatK_list (k:=46) (by decide) ckL_len L
  have hgl : g < w.heap.size:=(Array.getElem?_eq_some_iff.1 hg).1
  have hH : HoldsK ckL 46 w g 0 L.toArray:=by
   intro j hj
   have hj' : j < L.length * 46:=by simpa using hj
   refine ⟨?_,by simp [World.frozen?,hg]⟩
   rw [Nat.zero_add,cell_of_row w g j cur _ (0,0) hg,← Array.getElem?_toList]
   have e1 : (cur.toList.take (L.length * 46))[j]? = (flatK ckL 46 L.toArray).toList[j]?:=by rw [ht,hfl]
   rw [List.getElem?_take_of_lt hj'] at e1
   rw [e1,Array.getElem?_toList,getElem!_pos _ j hj,Array.getElem?_eq_getElem hj]
   rfl
  have eg : ∀ args w,(callFunc 125 args).run Tryz.prog w = .ok (.enter 125 args) w:=enters_of Tryz.func125 (by kernel_rfl) rfl
  have hc:=AnyQ.slices_SortFunc Tryz.sortG 46 isAggCg sizeOfCg ckL ckL_len (fun x v hv => one_cgL _ v hv) cmpK swoK 125 #[] g 0 cap L.toArray w eg
   (fun _ _ _ _ x y => all1_any _ x y) hH hgl (by simp; omega)
  change Calls Tryz.prog 141 _ _ _ at hc
  rw [List.size_toArray] at hc
  refine hc.mono ?_
  rintro e w' ⟨rfl,d',n,os,hp,hso,rfl⟩
  have hds : d'.size = L.length:=by have:=hp.1; simpa using this
  have hpm : d'.toList.Perm L:=by
   have:=hp.2.2
   simp [← hds] at this
   rw [hds,List.take_length] at this
   exact this
  have hfl2:=flatK_list (k:=46) (by decide) ckL_len d'.toList
  rw [Array.toArray_toList] at hfl2
  have hgr : w.grownBy (sortWorldK ckL 46 w g 0 n d' os) (some g):=grownBy_sortedV _
  have hhp : (sortWorldK ckL 46 w g 0 n d' os).heap[g]? = some (.cells (putCells id 0 (flatK ckL 46 d') cur) 114 (0,0)):=heap_sortedV _ hg
  refine ⟨rfl,d'.toList,hpm,?_,?_,hgr⟩
  ·rw [List.pairwise_iff_getElem]
   intro i j hi hj hij
   have:=hso i j (Nat.zero_le _) hij (by simpa [hds] using hj)
   rw [ltK] at this
   simp only [decide_eq_false_iff_not] at this
   have e1 : d'[i]! = d'.toList[i]:=by rw [getElem!_pos d' i (by simpa using hi)]; simp
   have e2 : d'[j]! = d'.toList[j]:=by rw [getElem!_pos d' j (by simpa using hj)]; simp
   rw [e1,e2] at this
   exact this
  ·have hl2 : d'.toList.length = L.length:=by simpa using hds
   rw [hl2]
   refine ⟨by rw [← hfl2]; simp [hds],.inr ⟨g,cap,_,rfl,hb,hhp,hn,hm,by simp [putCells,hs],?_⟩⟩
   have:=take_putCellsV cur (flatK ckL 46 d') (by rw [size_flatK,hds,hs]; exact Nat.mul_le_mul_right 46 hn)
   rw [size_flatK,hds,hfl2] at this
   exact this
open Go.Proofs
open Go.RowKit Go.Sort Go.Shelf Go.Maps
attribute [local go_sem] Oper.semAt_some
section
variable {F : Fence} {n : Nat} {ops : Array Oper} {rest : List Oper} {o : Oper} {a : Act} {w : World} {Q : Exit → Act → World → Prop}
theorem wpListIn_loadS (hg : o.guard = none) (ty : TypeId) (x : Operand) (ho : o.op = .load ty x) (q : Addr) (hx : a.eval x = .pointer (some q)) (v : Value) (hl : (Instr.loadAt ty (.pointer (some q))).run Tryz.prog w = .ok v w)
  (h : wpListIn F n Tryz.prog ops Q rest (a.put o.dst v) w) : wpListIn F n Tryz.prog ops Q (o :: rest) a w:=by
 refine wpListIn_plain hg fun K' hK' => ?_
 unfold Oper.wpIn
 refine ⟨by simp [Oper.about,ho],?_⟩
 rw [Oper.semAt_plain F _ _ (by rw [ho]; intro c hc; cases hc)]
 simp [execOp,ho,hx,hl,Result.andThen]
 exact hK' _ _ h
theorem wpListIn_storeS (hgd : o.guard = none) (ty : TypeId) (x y : Operand) (ho : o.op = .store ty x y)
  (g : Nat) (cells : Array Value) (hx : a.eval x = .pointer (some ⟨g,0,none⟩)) (hy : a.eval y = .agg cells)
  (t : TypeId) (old : Array Value) (hg : w.heap[g]? = some (.cells old t (0,0))) (hi : (Tryz.prog.info? ty).map (·.size) = some cells.size) (hold : old.size = cells.size) (h1 : cells.all (·.oneCell') = true)
  (h : wpListIn F n Tryz.prog ops Q rest (a.put o.dst undef) (w.setRow g cells)) : wpListIn F n Tryz.prog ops Q (o :: rest) a w:=by
 refine wpListIn_plain hgd fun K' hK' => ?_
 unfold Oper.wpIn
 refine ⟨by simp [Oper.about,ho],?_⟩
 rw [Oper.semAt_plain F _ _ (by rw [ho]; intro c hc; cases hc)]
 simp [execOp,ho,hx,hy,Instr.storeAt,Instr.sureAddr,run_storeVar_row w g t ty old cells hg hi hold h1,Result.andThen]
 exact hK' _ _ h
theorem wpListIn_buildS {w' : World} {v : Value} (hgd : o.guard = none) (t : TypeId) (m : Nat) (parts : Array (Nat × Operand)) (ho : o.op = .buildSlice t m parts) (vs : Array (Nat × Value)) (hp : (parts.map fun (i,x) => (i,a.eval x)) = vs) (hr : (Instr.buildSlice t m vs).run Tryz.prog w = .ok v w')
  (h : wpListIn F n Tryz.prog ops Q rest (a.put o.dst v) w') : wpListIn F n Tryz.prog ops Q (o :: rest) a w:=by
 refine wpListIn_plain hgd fun K' hK' => ?_
 unfold Oper.wpIn
 refine ⟨by simp [Oper.about,ho],?_⟩
 rw [Oper.semAt_plain F _ _ (by rw [ho]; intro c hc; cases hc)]
 simp only [execOp,ho,hp,Sem.run_bind,hr,Result.andThen_ok,Sem.run_pure]
 exact hK' _ _ h
end
theorem slice_cg (c : Cg) (hc : c.pt.bytes.length = 32) (w : World) : (Instr.buildSlice 173 1 #[(0,.agg (cgC c))]).run Tryz.prog w = .ok (.slice (some ⟨w.heap.size,0,none⟩) 1 1) (w.alloc (.cells (cgC c) 114)):=by
 have h : ∀ (p : Pl) (g f : Bool) (n k m l s t : Int) (pf : Bool) (pm : Nat) (d : Nat → Int),(Instr.buildSlice 173 1 #[(0,.agg (cgC ⟨p,g,f,n,k,m,l,s,t,⟨pf,pm,(List.range 32).map d⟩⟩))]).run Tryz.prog w = .ok (.slice (some ⟨w.heap.size,0,none⟩) 1 1) (w.alloc (.cells (cgC ⟨p,g,f,n,k,m,l,s,t,⟨pf,pm,(List.range 32).map d⟩⟩) 114)):=by intros; kernel_rfl
 obtain ⟨p,g,f,n,k,m,l,s,t,pt⟩:=c
 dsimp only at hc
 rw [pt_eq hc]; exact h _ _ _ _ _ _ _ _ _ _ _ _
theorem values_any (w : World) (b : Nat) : Calls Tryz.prog 124 #[.map (some b)] w fun e w' => e = .returned (.func (.func 142) #[] #[.pointer (some ⟨w.heap.size,0,none⟩)]) ∧ w' = w.alloc (.cells #[.map (some b)] 98):=by
 go_enter Tryz.func124,Tryz.ntmps124
 go_wp2
 go_ret
 exact ⟨rfl,rfl⟩
theorem rise_nodup {L : List Cg} (h : Rise L) : L.Nodup:=List.Pairwise.imp (R:=fun x y : Cg => cmpP x.pl y.pl = -1) (fun {x y} hxy (e : x = y) => cmp_ne hxy (by rw [e])) h
structure Came (L : List Cg) (left : Lit → Bool) (ps : List CgK) : Prop where
 rest : ∃ R : List Cg,(ps.map (·.1) ++ R).Perm L ∧ ∀ c ∈ L,left (kyL c.pl) = true ↔ c ∈ R
theorem Came.start {es : List (Lit × DataW Value)} {L : List Cg} (hp : es.Perm (L.map entG)) : Came L (Maps.has (.map es : DataW Value)) [] :=
 ⟨L,List.Perm.refl _,fun c hc => ⟨fun _ => hc,fun _ => by
  rw [has_eq]
  exact List.any_eq_true.2 ⟨entG c,hp.mem_iff.2 (List.mem_map.2 ⟨c,hc,rfl⟩),(same_key (kyL_str c.pl)).2 rfl⟩⟩⟩
theorem Came.step {L : List Cg} (hL : LOk L) {left : Lit → Bool} {ps : List CgK} (h : Came L left ps) {c : Cg} (hc : c ∈ L) (hl : left (kyL c.pl) = true) : Came L (fun z => left z && !z.sameKey (kyL c.pl)) (ps ++ [⟨c,hL.ok c hc⟩]):=by
 obtain ⟨R,h1,h2⟩:=h.rest
 have hcR:=(h2 c hc).1 hl
 obtain ⟨R1,R2,rfl⟩:=List.append_of_mem hcR
 have hnd : (ps.map (·.1) ++ (R1 ++ c :: R2)).Nodup:=h1.nodup_iff.2 (rise_nodup hL.rise)
 refine ⟨R1 ++ R2,?_,fun d hd => ?_⟩
 ·rw [List.map_append,List.map_cons,List.map_nil,List.append_assoc]
  refine List.Perm.trans (List.Perm.append_left _ ?_) h1
  show (c :: (R1 ++ R2)).Perm _
  exact List.perm_middle.symm
 ·rw [Bool.and_eq_true,h2 d hd]
  have hnd2 : (R1 ++ c :: R2).Nodup:=(List.nodup_append.1 hnd).2.1
  have hcn : c ∉ R1 ++ R2:=by
   have:=(List.perm_middle.nodup_iff.1 hnd2)
   exact (List.nodup_cons.1 this).1
  constructor
  ·rintro ⟨hd1,hd2⟩
   have hne : d ≠ c:=fun e => by
    rw [e,(same_key (kyL_str c.pl)).2 rfl] at hd2; cases hd2
   rcases List.mem_append.1 hd1 with hx | hx
   ·exact List.mem_append_left _ hx
   ·rcases List.mem_cons.1 hx with hx | hx
    ·exact absurd hx hne
    ·exact List.mem_append_right _ hx
  ·intro hd1
   have hne : d ≠ c:=fun e => hcn (by rw [← e]; exact hd1)
   refine ⟨?_,?_⟩
   ·rcases List.mem_append.1 hd1 with hx | hx
    ·exact List.mem_append_left _ hx
    ·exact List.mem_append_right _ (List.mem_cons_of_mem _ hx)
   ·cases hs : (kyL d.pl).sameKey (kyL c.pl)
    ·rfl
    ·exact absurd (rise_one hL.rise hd hc (kyL_inj (hL.ok d hd).pl (hL.ok c hc).pl ((same_key (kyL_str c.pl)).1 hs))) hne
theorem Came.all {L : List Cg} {left : Lit → Bool} {ps : List CgK} (h : Came L left ps) (hl : ∀ k,left k = false) : (ps.map (·.1)).Perm L:=by
 obtain ⟨R,h1,h2⟩:=h.rest
 have hR : R = []:=by
  cases R with
  | nil => rfl
  | cons c R =>
   have hc : c ∈ L:=h1.mem_iff.1 (by simp)
   have:=(h2 c hc).2 (by simp)
   rw [hl] at this; cases this
 rw [hR,List.append_nil] at h1
 exact h1
theorem Came.len {L : List Cg} {left : Lit → Bool} {ps : List CgK} (h : Came L left ps) : ps.length ≤ L.length:=by
 obtain ⟨R,h1,_⟩:=h.rest
 have:=h1.length_eq
 simp at this
 omega
theorem came_at {es : List (Lit × DataW Value)} {L : List Cg} (hp : es.Perm (L.map entG)) {kl : Lit} (hk : WideAt.IsKeyLit kl) {v : Value} (h : ∀ zd,DataW.atKey (.map es : DataW Value) kl zd = .held v) : ∃ c ∈ L,kl = kyL c.pl ∧ v = .agg (cgC c):=by
 have h1:=h .nil
 unfold DataW.atKey at h1
 dsimp only at h1
 cases hf : es.find? (fun p => p.1.sameKey kl) with
 | none => rw [hf] at h1; cases h1
 | some p =>
  rw [hf] at h1
  dsimp only at h1
  obtain ⟨c,hc,e⟩:=List.mem_map.1 (hp.mem_iff.1 (List.mem_of_find?_eq_some hf))
  have hs:=(same_key hk).1 (List.find?_some (p:=fun p : Lit × DataW Value => p.1.sameKey kl) hf)
  refine ⟨c,hc,?_,?_⟩
  ·rw [← hs,← e]; rfl
  ·rw [← e] at h1
   simp only [entG,DataW.held.injEq] at h1
   exact h1.symm
theorem values_stops (n : Nat) (hn : 1 ≤ n) (Bm b : Nat) (L : List Cg) (hL : LOk L) (w : World) (hBm : Bm < w.heap.size) (hm : w.cell? ⟨Bm,0,none⟩ = some (.map (some b))) (hmp : MpAt w b L) :
  SeqStopsK Fence.wide n Tryz.prog 142 #[.pointer (some ⟨Bm,0,none⟩)] (fun x : CgK => #[.agg (cgC x.1)]) KeepsWalks (fun ys => (ys.map (·.1)).Perm L) (fun _ => True) L.length w:=fun l J Jx W hW hJ hJx hY h0 => by
 have hm':=(hW.cell (p:=⟨Bm,0,none⟩) hBm).trans hm
 have hmpW:=hmp.keep (hW.block b hmp.lt)
 obtain ⟨es,hown,hp⟩:=hmpW
 have hz:=zeroCg
 refine callsIn_of_wp Tryz.func142 rfl trivial ?_ rfl
 simp only [Tryz.ntmps142,List.size_toArray,List.length_cons,List.length_nil,Nat.reduceAdd,Nat.reduceSub,Array.replicate_succ,Array.replicate_zero,List.push_toArray,List.append_toArray,List.nil_append,List.cons_append]
 gi_wp2_with (first
  | (gi_at_range; refine wpListIn_range_own _ rfl _ 98 rfl 110 114 keyedP Tryz.underlying98 _ b _ _ rfl hown ?_; intro w0 hrg0 hg0 hs0)
  | gi_in)
 try go_frame
 gi_loopw [4] (fun _ wr => ∃ (left : Lit → Bool) (cnt : Nat) (ps : List CgK),wr.ranges Tryz.prog 110 hR b W.heap.size L.length (.map es) left cnt ∧ Came L left ps ∧ J ps wr)
  (fun _ wr => wr.rangeLeft b W.heap.size)
 case atStart =>
  exact ⟨_,_,[],hrg0,Came.start hp,hJ [] W w0 none h0 hg0 (fun r e => by cases e)⟩
 case round =>
  obtain ⟨left,cnt,ps,hrg,hC,hJs⟩:=hrel
  gi_wp2_with (first
   | (gi_at_next; refine wpListIn_next_ranges _ rfl _ rfl 110 keyedP hR (fun v : Value => v) (fun v : Value => v) (fun key kl hk => ⟨key,rfl⟩) (fun v y hv => ⟨v,rfl⟩) b W.heap.size L.length _ _ _ rfl hrg ?_ ?_)
   | gi_in)
  ·intro hc0 hl0
   gi_wp2
   go_end0
   exact ⟨⟨_,rfl⟩,.inl ⟨ps,hC.all hl0,hJs⟩⟩
  ·intro x c kl yd yp w2 cnt2 hkey hlk hv hat hrg2 hlt hg2 hs2 hen
   obtain rfl : yd = DataW.held c:=by
    simp only [hR,Option.some.injEq,Prod.mk.injEq] at hv
    exact hv.1.symm
   obtain ⟨cg,hcg,rfl,rfl⟩:=came_at hp (keyedP.key hkey) hat
   have hck:=hL.ok cg hcg
   have HL : Hid (cg.pt.bytes.length = 32):=hck.pt.ch.1
   have hC2:=hC.step hL hcg hlk
   have hlen : ps.length < L.length:=by have:=hC2.len; simp at this; omega
   have hJ2 : J ps w2:=hJ ps wr w2 (some W.heap.size) hJs hg2 (fun r e => by cases e; exact ⟨Nat.le_refl _,hrg.iter_walk⟩)
   have hn2:=CgAt.laid w2 cg0
   have hb3:=alloc_row (A:=w2) (.cells (cgC cg0) 114) (cgC cg)
   have hx3:=hn2.setRow cg
   obtain ⟨w3,hw3⟩ : ∃ w3,(w2.alloc (.cells (cgC cg0) 114)).setRow w2.heap.size (cgC cg) = w3:=⟨_,rfl⟩
   rw [hw3] at hb3 hx3
   have hg3 : w2.grownBy w3 none:=⟨hb3.os,hb3.tape,hb3.output,hb3.size,fun k hk _ => hb3.block k hk⟩
   have hk3 : KeepsWalks w2 w3:=⟨hb3.size,fun k o hk _ => (hb3.block k (Array.getElem?_eq_some_iff.1 hk).1).trans hk⟩
   have hJ3 : J ps w3:=hJ ps w2 w3 none hJ2 hg3 (fun r e => by cases e)
   have hrg3:=hrg2.of_walks hk3
   obtain ⟨fn,tmps,assign,body,hyi,hRR⟩:=hY ps ⟨cg,hck⟩ w3 hJ3 hlen
   dsimp only at hyi
   have hl3 : Hid _:=hx3.load HL.out
   clear hs2 hrg2 hJ2 hv hat hkey
   gi_wp2_with (first
    | (refine wpListIn_storeS rfl 114 _ _ rfl w2.heap.size (cgC cg) rfl rfl 114 (cgC cg0) hn2.row (by rw [cgC_size HL.out]; exact size_cg) (by rw [cgC_size HL.out,cgC_size len0]) (one_cg _) ?_; rw [hw3])
    | (refine wpListIn_loadS rfl 114 _ rfl _ rfl _ hl3.out ?_))
   refine hRR.mono ?_
   rintro e W3 (⟨rfl,hJ4,hk4⟩ | ⟨rfl,hJx4⟩)
   ·gi_wp2
    have hrg4:=hrg3.of_walks hk4
    go_roundw
    case rel => exact ⟨_,cnt2,ps ++ [⟨cg,hck⟩],hrg4,hC2,hJ4⟩
    case measure => rw [hrg4.left_eq,hrg.left_eq]; exact hlt
   ·gi_wp2
    refine bodyPost_ret (results_none rfl _ _ _) rfl ?_
    exact ⟨⟨_,rfl⟩,.inr ⟨_,trivial,hJx4⟩⟩
theorem appendSeq_any (g : Nat) (lb : Array Value) (eg : ∀ args w,(callFunc g args).run Tryz.prog w = .ok (.enter g args) w) (L : List Cg) (N : Nat) (hN : N ≤ 2000) (w : World)
  (hseq : SeqStopsK Fence.wide 2 Tryz.prog g lb (fun x : CgK => #[.agg (cgC x.1)]) KeepsWalks (fun ys => (ys.map (·.1)).Perm L) (fun _ => True) N w) :
  Calls Tryz.prog 159 #[.slice none 0 0,.func (.func g) #[] lb] w fun e w' => ∃ (v : Value) (ps : List CgK),e = .returned v ∧ (ps.map CgK.c).Perm L ∧ w'.ownsRow w.heap.size 114 46 v ps.length (ps.flatMap ckL) ∧ Below w.heap.size w w':=by
 obtain ⟨i0,hi,hz0,hz1,hz2⟩:=info3 info_cg
 have hz:=zeroCg
 refine (callsIn_wide (n:=3)).1 ?_
 refine callsIn_of_wp_marks Tryz.func159 rfl trivial ?_ rfl
 refine wpIn_wide.2 ?_
 simp only [Tryz.ntmps159,List.size_toArray,List.length_cons,List.length_nil,Nat.reduceAdd,Nat.reduceSub,Array.replicate_succ,Array.replicate_zero,List.push_toArray,List.append_toArray,List.nil_append,List.cons_append]
 go_wp2
 refine (wpIn_wide (n:=3)).1 ?_
 have bB:=Boxed.new w 173 (.slice none 0 0)
 have hB0 : Below w.heap.size w (w.alloc (.cells #[.slice none 0 0] 173)):=(Below.refl _ w).alloc (Nat.le_refl _) _
 have hs0 : (w.alloc (.cells #[.slice none 0 0] 173)).heap.size = w.heap.size + 1:=by simp
 generalize w.alloc (.cells #[.slice none 0 0] 173) = W0 at *
 refine wpIn_rangeFunc_ownH rfl (by decide) (gf:=g) (lb:=lb) rfl trivial eg hseq walksK_t walksK_b hB0 (fun _ => rfl)
  (fun pre W => ((∃ v,Boxed W w.heap.size 173 v ∧ W.ownsRow w.heap.size 114 46 v pre.length (pre.flatMap ckL) ∧ ∃ a c,v = .slice a pre.length c)) ∧ Below w.heap.size w W)
  (fun _ _ _ => False)
  (OwnFrom.and (Own.from (holdsRow_own w.heap.size w.heap.size 173 114 46 (fun pre : List CgK => pre.length) (fun pre => pre.flatMap ckL) (fun pre v => ∃ a c,v = .slice a pre.length c)) _) (ownFrom_below (Nat.le_refl _) (by omega)))
  (fun _ _ _ _ _ hs _ _ => hs)
  ⟨⟨_,bB,World.ownsRow_nil _ _ _ _,_,_,rfl⟩,hB0⟩
  (fun x a' W => ∃ Bx,CgAt W Bx x.1 ∧ a' = { tmps:=#[.slice none 0 0,.func (.func g) #[] lb,.pointer (some ⟨w.heap.size,0,none⟩),undef,.slice none 0 0,.pointer (some ⟨Bx,0,none⟩),.func (.func g) #[] lb,.agg (cgC x.1),undef,undef,undef,undef,undef],defers:=[] })
  (fun x a' => Own.from (fun s A B row hs hg hr => by
   obtain ⟨Bx,hs,e⟩:=hs
   exact ⟨Bx,⟨(hg.block Bx hs.lt (fun e' => by obtain ⟨o,ho,hc⟩:=hr Bx e'.symm; rw [hs.row] at ho; cases ho; cases hc)).trans hs.row⟩,e⟩) _) ?assign ?body ?done ?stop
 case assign =>
  rintro l pre x W K ⟨⟨v,hv,hr,hsv⟩,hB⟩ hK
  have HL : Hid (x.1.pt.bytes.length = 32):=x.2.pt.ch.1
  have hn:=CgAt.laid W cg0
  have hb:=alloc_row (A:=W) (.cells (cgC cg0) 114) (cgC x.1)
  have hx:=hn.setRow x.1
  obtain ⟨W1,hW1⟩ : ∃ W1,(W.alloc (.cells (cgC cg0) 114)).setRow W.heap.size (cgC x.1) = W1:=⟨_,rfl⟩
  rw [hW1] at hb hx
  have hg : W.grownBy W1 none:=⟨hb.os,hb.tape,hb.output,hb.size,fun k hk _ => hb.block k hk⟩
  have hko : KeepsOthers W W1:=KeepsOthers.of_grownBy hg (fun j o ej => by cases ej)
  gi_wp2_with (refine wpListIn_storeS rfl 114 _ _ rfl W.heap.size (cgC x.1) rfl rfl 114 (cgC cg0) hn.row (by rw [cgC_size HL.out]; exact size_cg) (by rw [cgC_size HL.out,cgC_size len0]) (one_cg _) ?_; rw [hW1])
  exact hK _ _ (hko.from _) hko.walks ⟨⟨v,hv.kept hg (by simp),World.ownsRow.kept hr hg (by cases hq : v.ownBlock <;> simp),hsv⟩,hB.trans (hb.mono hB.size)⟩ ⟨W.heap.size,hx,rfl⟩
 case body =>
  rintro l pre x a' W hl0 hrec ⟨⟨v,hv,hr,a4,c4,rfl⟩,hB⟩ ⟨Bx,hx,rfl⟩ hlen
  have HL : Hid (x.1.pt.bytes.length = 32):=x.2.pt.ch.1
  have hvc:=hv.cell
  have hvf:=hv.frozen
  have hbs:=hB.size
  have hlx : Hid _:=hx.load HL.out
  have hbsl:=slice_cg x.1 HL.out W
  have hnw : ∀ j u,(ckL x)[j]? = some u → (W.alloc (.cells (cgC x.1) 114)).cell? ((⟨W.heap.size,0,none⟩ : Addr).add j) = some u:=by
   intro j u hj
   have hadd : (⟨W.heap.size,0,none⟩ : Addr).add j = ⟨W.heap.size,j,none⟩:=by unfold Addr.add; split <;> simp_all
   rw [hadd,cell_of_row _ _ j _ _ _ (heap_alloc_new W _)]
   rw [← hj]
   exact List.getElem?_toArray
  gi_wp2_with (first
   | (refine wpListIn_loadS rfl 114 _ rfl _ rfl _ hlx.out ?_)
   | (refine wpListIn_buildS rfl 173 1 _ rfl #[(0,.agg (cgC x.1))] (by kernel_rfl) hbsl ?_)
   | (gi_at_builtin; refine wpListIn_append_own _ rfl _ _ 173 rfl w.heap.size 114 i0 _ 46 136 Tryz.underlying173 hi hz0 hz1 hz2 (by kernel_rfl) (by decide) _ _ _ rfl (hr.alloc _) ⟨W.heap.size,0,none⟩ 1 1 (ckL x) rfl (by rw [ckL_len]) hnw (one_cgL _) (by unfold maxLen; omega) (by omega) (by simp; omega) ?_; intro v' w1 hown' hgrow _; obtain ⟨g',cap',rfl⟩:=ownsRow_succ hown'; obtain ⟨hv1,hv2,hr2,hk2,hb2⟩:=hv.appended (by decide) hr hbs (Nat.le_refl _) hown' hgrow; have hvc1:=hv1.cell; have hvf1:=hv1.frozen))
  exact ⟨hk2.from _,hk2.walks,⟨_,hv2,by rw [List.length_append,List.flatMap_append,List.flatMap_singleton]; exact hr2,_,_,by rw [List.length_append]; rfl⟩,hB.trans hb2⟩
 case done =>
  rintro D ys W hD hperm ⟨⟨v,hv,hr,a4,c4,rfl⟩,hB⟩ hK
  have hvc:=hv.cell
  go_wp2
  refine ⟨by simp,.inl ⟨_,_,rfl,run_takeDeferred hK,?_⟩⟩
  refine ⟨_,results_tmp rfl _ _ _,_,ys,rfl,hperm,?_,hB.trans (belowK_b (w:=w) (Nat.le_refl _) W D _ _ (by omega) hK rfl rfl)⟩
  exact ownsRow_putObj hr _ hK rfl
 case stop =>
  rintro D c pre W _ _ h _
  exact h.elim
end Go.Proofs.YtgajjphjkbnaeaaGreat
