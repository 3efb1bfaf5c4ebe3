/- VwSeq, VwFrom, VwRng, VwNms: in one text. -/
import Derived.Test.YtgajjphjkbnaeaaGreatQ1
import Derived.RangeFuncNested
import Derived.RangeFuncBound
import Derived.RangeFuncCalls
import Derived.RangeFuncLeaves
import Derived.Shelf.Abstract
import Derived.OwnWalkIn
import Derived.TacticsInMore
import Derived.LoopNIn
import Derived.LoopIn
import Derived.Test.YtgajjphjkbnaeaaGreatQ24
import Derived.Deep.RegionHeld3
namespace Go.Proofs.YtgajjphjkbnaeaaGreat
open Go.RowKit
set_option linter.unusedVariables false
set_option maxHeartbeats 32000000
set_option maxRecDepth 100000
set_option linter.unusedSimpArgs false
open Go.RowKit Go.Shelf
theorem below_put {n₀ l : Nat} (W : World) (o : Obj) (h : n₀ ≤ l) : Below n₀ W (W.putObj l o) :=
 ⟨rfl,rfl,rfl,by simp [World.putObj],fun k hk => World.putObj_heap_other (by omega)⟩
theorem from_put {n₁ l : Nat} (W : World) (o : Obj) (h : l < n₁) : KeepsFrom n₁ W (W.putObj l o) :=
 ⟨by simp [World.putObj],fun k o' hk e _ => (World.putObj_heap_other (by omega)).trans e⟩
theorem from_up {B B' : Nat} {W W' : World} (h : KeepsFrom B W W') (hB : B ≤ B') : KeepsFrom B' W W':=⟨h.size,fun k o hk e ho => h.same k o (by omega) e ho⟩
structure BelX (xs : List Nat) (n₀ : Nat) (W W' : World) : Prop where
 os : W'.os = W.os
 tape : W'.tape = W.tape
 output : W'.output = W.output
 size : W.heap.size ≤ W'.heap.size
 block : ∀ k,k < n₀ → k ∉ xs → W'.heap[k]? = W.heap[k]?
theorem BelX.of {xs : List Nat} {n₀ : Nat} {W W' : World} (h : Below n₀ W W') : BelX xs n₀ W W':=⟨h.os,h.tape,h.output,h.size,fun k hk _ => h.block k hk⟩
theorem BelX.refl (xs : List Nat) (n₀ : Nat) (W : World) : BelX xs n₀ W W:=.of (Below.refl _ _)
theorem BelX.trans {xs : List Nat} {n₀ : Nat} {A B C : World} (h : BelX xs n₀ A B) (k : BelX xs n₀ B C) : BelX xs n₀ A C:=⟨k.os.trans h.os,k.tape.trans h.tape,k.output.trans h.output,Nat.le_trans h.size k.size,fun i hi hx => (k.block i hi hx).trans (h.block i hi hx)⟩
theorem BelX.cell {xs : List Nat} {n₀ : Nat} {W W' : World} (h : BelX xs n₀ W W') {p : Addr} (hp : p.block < n₀) (hx : p.block ∉ xs) : W'.cell? p = W.cell? p:=by
 unfold World.cell?
 rw [h.block _ hp hx]
theorem BelX.setCell {xs : List Nat} {n₀ : Nat} {W W' : World} (h : BelX xs n₀ W W') {p : Addr} (hp : n₀ ≤ p.block) (v : Value) : BelX xs n₀ W (W'.setCell p v):=h.trans (.of ((Below.refl _ _).setCell hp v))
theorem BelX.setX {xs : List Nat} {n₀ b i : Nat} (W : World) (hb : b ∈ xs) (v : Value) : BelX xs n₀ W (W.setCell ⟨b,i,none⟩ v) :=
 have h:=(Below.refl b W).setCell (p:=⟨b,i,none⟩) (Nat.le_refl _) v
 ⟨h.os,h.tape,h.output,h.size,fun k _ hx => heap_setCell_other W ⟨b,i,none⟩ k v (fun e => hx (e ▸ hb))⟩
structure Keep where
 ts : List TypeId
 xs : List Nat
def KeepsT (TT : List TypeId) (n₁ : Nat) (W W' : World) : Prop:=∀ k cs t fr,n₁ ≤ k → t ∈ TT → W.heap[k]? = some (.cells cs t fr) → W'.heap[k]? = some (.cells cs t fr)
structure KpN (TT : Keep) (n₀ n₁ : Nat) (W W' : World) : Prop where
 bel : BelX TT.xs n₀ W W'
 non : KeepsFrom n₁ W W'
 typ : KeepsT TT.ts n₁ W W'
theorem KpN.trans {TT : Keep} {n₀ n₁ : Nat} {A B C : World} (h : KpN TT n₀ n₁ A B) (k : KpN TT n₀ n₁ B C) : KpN TT n₀ n₁ A C:=⟨h.bel.trans k.bel,h.non.trans k.non,fun i cs t fr hi ht e => k.typ i cs t fr hi ht (h.typ i cs t fr hi ht e)⟩
theorem KpN.up {TT : Keep} {n₀ n₁ n₂ : Nat} {A B : World} (h : KpN TT n₀ n₁ A B) (hn : n₁ ≤ n₂) : KpN TT n₀ n₂ A B:=⟨h.bel,from_up h.non hn,fun i cs t fr hi => h.typ i cs t fr (by omega)⟩
theorem KpN.put {TT : Keep} {n₀ n₁ l : Nat} (W : World) (o : Obj) (h0 : n₀ ≤ l) (h1 : l < n₁) : KpN TT n₀ n₁ W (W.putObj l o):=⟨.of (below_put _ _ h0),from_put _ _ h1,fun k cs t fr hk _ e => (World.putObj_heap_other (by omega)).trans e⟩
theorem KpN.of_below {TT : Keep} {n₀ n₁ : Nat} {A B : World} (h : Below A.heap.size A B) (hn : n₀ ≤ A.heap.size) : KpN TT n₀ n₁ A B :=
 ⟨.of (h.mono hn),⟨h.size,fun k o _ e _ => (h.block k (Array.getElem?_eq_some_iff.1 e).1).trans e⟩,fun k cs t fr _ _ e => (h.block k (Array.getElem?_eq_some_iff.1 e).1).trans e⟩
theorem KpN.refl {TT : Keep} (n₀ n₁ : Nat) (A : World) : KpN TT n₀ n₁ A A:=⟨BelX.refl _ _ _,KeepsFrom.refl _ _,fun _ _ _ _ _ _ e => e⟩
theorem KpN.setCell {TT : Keep} {n₀ n₁ b i : Nat} (W : World) (v : Value) (h0 : n₀ ≤ b) (h1 : b < n₁) : KpN TT n₀ n₁ W (W.setCell ⟨b,i,none⟩ v) :=
 ⟨(BelX.refl _ n₀ W).setCell (p:=⟨b,i,none⟩) h0 v,(KeepsOthers.setCell W ⟨b,i,none⟩ v).from _,fun k cs t fr hk _ e => (heap_setCell_other W ⟨b,i,none⟩ k v (by show k ≠ b; omega)).trans e⟩
theorem KpN.setX {TT : Keep} {n₀ n₁ b i : Nat} (W : World) (v : Value) (h0 : b ∈ TT.xs) (h1 : b < n₁) : KpN TT n₀ n₁ W (W.setCell ⟨b,i,none⟩ v) :=
 ⟨BelX.setX W h0 v,(KeepsOthers.setCell W ⟨b,i,none⟩ v).from _,fun k cs t fr hk _ e => (heap_setCell_other W ⟨b,i,none⟩ k v (by show k ≠ b; omega)).trans e⟩
theorem own_belX {β : Type} {xs : List Nat} {n₀ B : Nat} {w₀ : World} (h : n₀ ≤ B) (hB : n₀ ≤ w₀.heap.size) : OwnFrom B (fun (_ : β) W => BelX xs n₀ w₀ W):=fun s W W' row hs hg hr =>
 ⟨hg.os.trans hs.os,hg.tape.trans hs.tape,hg.output.trans hs.output,Nat.le_trans hs.size hg.size,fun k hk hx => (hg.block k (by have:=hs.size; omega) (fun e => by have:=(hr k e.symm).1; omega)).trans (hs.block k hk hx)⟩
def AbT {β : Type} (TT : Keep) (B : Nat) (J : β → World → Prop) : Prop:=∀ s X b cs t v,J s X → B ≤ b → t ∈ TT.ts → X.heap[b]? = some (.cells cs t (0,0)) → J s (X.setCell ⟨b,0,none⟩ v)
def okE (e : Array Value) : Prop:=∀ s,e[0]? = some (.string s) → s.size ≤ 8
def SeqOwn {α : Type} (n : Nat) (P : Program) (g : Nat) (lb : Array Value) (encs : α → Array Value) (TT : Keep) (n₀ : Nat) (S Sp : List α → Prop) (N : Nat) (w : World) : Prop :=
 ∀ (l : Nat) (J Jx : List α → World → Prop) (W : World) (n₁ : Nat),Below w.heap.size w W → n₁ ≤ W.heap.size → OwnFrom W.heap.size J → OwnFrom W.heap.size Jx → AbT TT W.heap.size J → AbT TT W.heap.size Jx →
  (∀ pre x W1,okE (encs x) → J pre W1 → pre.length < N → YieldAt Fence.wide (n - 1) P l (encs x) W1 fun e W' =>
   (e = .returned (.bool true) ∧ J (pre ++ [x]) W' ∧ KpN TT n₀ n₁ W1 W') ∨ (e = .returned (.bool false) ∧ Jx (pre ++ [x]) W' ∧ KpN TT n₀ n₁ W1 W')) →
  J [] W →
  CallsIn Fence.wide n P g (#[.func (.yield l) #[] #[]] ++ lb) W fun e W' => (∃ v,e = .returned v) ∧ ((∃ xs,S xs ∧ J xs W') ∨ (∃ pre,Sp pre ∧ Jx pre W'))
theorem abides_own {β : Type} {B : Nat} {J : β → World → Prop} (h : OwnFrom B J) : AbidesFrom B J:=fun s W W' row hs hg hr =>
 h s W W' row hs hg fun r e => by obtain ⟨h1,o,h2,h3⟩:=hr r e; exact ⟨h1,o,h2,Obj.not_cells_of_walk h3⟩
theorem seqOwn_of {α : Type} {n : Nat} {P : Program} {g : Nat} {lb : Array Value} {encs : α → Array Value} {TT : Keep} {n₀ : Nat} {S Sp : List α → Prop} {N : Nat} {w : World} (hok : ∀ x,okE (encs x)) (h : SeqStopsK Fence.wide n P g lb encs (BelX TT.xs n₀) S Sp N w) : SeqOwn n P g lb encs TT n₀ S Sp N w :=
 fun l J Jx W n₁ hW _ hJ hJx _ _ hY h0 => h l J Jx W hW (abides_own hJ) (abides_own hJx) (fun pre x W1 hj hl => (hY pre x W1 (hok x) hj hl).mono fun e W' he => by
  rcases he with ⟨h1,h2,h3⟩ | ⟨h1,h2,_⟩
  ·exact .inl ⟨h1,h2,h3.bel⟩
  ·exact .inr ⟨h1,h2⟩) h0
theorem round_any {m m' : Nat} {P : Program} {l l' : Nat} {f : FuncId} {tmps : Array Value} {assign body : Code} {w : World} {R : Ending → World → Prop} (h : RoundIn Fence.wide m P l f tmps assign body w R) : RoundIn (Fence.wide.inRound l') m' P l f tmps assign body w R:=⟨trivial,fun c cs _ => h.2 c cs (fun _ e => by cases e)⟩
theorem round_wide {m m' : Nat} {P : Program} {l : Nat} {f : FuncId} {tmps : Array Value} {assign body : Code} {w : World} {R : Ending → World → Prop} (h : RoundIn Fence.wide m P l f tmps assign body w R) : RoundIn Fence.wide m' P l f tmps assign body w R:=⟨trivial,fun c cs _ => h.2 c cs (fun _ e => by cases e)⟩
theorem own_up {β : Type} {B B' : Nat} {J : β → World → Prop} (h : OwnFrom B J) (hB : B ≤ B') : OwnFrom B' J:=fun s W W' row hs hg hr => h s W W' row hs hg fun r e => ⟨by have:=(hr r e).1; omega,(hr r e).2⟩
theorem own_box {β : Type} (B b : Nat) (t : TypeId) (v : Value) : OwnFrom B (fun (_ : β) W => Boxed W b t v):=fun s W W' row hs hg hr => hs.kept hg fun e => by
 obtain ⟨_,o,h1,h2⟩:=hr b e.symm
 rw [show W.heap[b]? = _ from hs] at h1
 cases h1
 cases h2
theorem own_cells {β : Type} (B b : Nat) (t : TypeId) (cs : Array Value) : OwnFrom B (fun (_ : β) W => W.heap[b]? = some (.cells cs t (0,0))):=fun s W W' row hs hg hr => (hg.block b (Array.getElem?_eq_some_iff.1 hs).1 fun e => by
 obtain ⟨_,o,h1,h2⟩:=hr b e.symm
 rw [hs] at h1
 cases h1
 cases h2).trans hs
theorem own_pure {β : Type} (B : Nat) (q : β → Prop) : OwnFrom B (fun s (_ : World) => q s):=fun _ _ _ _ hs _ _ => hs
theorem own_next {β : Type} {B : Nat} {J : β → World → Prop} (h : OwnFrom B J) {s : β} {W W' : World} (hs : J s W) (hb : Below W.heap.size W W') : J s W':=h s W W' none hs ⟨hb.os,hb.tape,hb.output,hb.size,fun k hk _ => hb.block k hk⟩ (fun r e => by cases e)
structure LpAt (W : World) (B : Nat) (r : Loop) : Prop where
 df : W.heap[B]? = some (.deferred (some []))
 lp : W.heap[B + 1]? = some (.loop r)
theorem LpAt.lt {W : World} {B : Nat} {r : Loop} (h : LpAt W B r) : B + 1 < W.heap.size:=(Array.getElem?_eq_some_iff.1 h.lp).1
theorem LpAt.from {W W' : World} {B : Nat} {r : Loop} (h : LpAt W B r) (k : KeepsFrom B W W') : LpAt W' B r:=⟨k.same _ _ (Nat.le_refl _) h.df rfl,k.same _ _ (by omega) h.lp rfl⟩
theorem LpAt.put {W : World} {B : Nat} {r : Loop} (h : LpAt W B r) (r' : Loop) : LpAt (W.putObj (B + 1) (.loop r')) B r':=⟨(World.putObj_heap_other (by omega)).trans h.df,World.putObj_heap_same h.lt⟩
theorem LpAt.grown {W W' : World} {B : Nat} {r : Loop} {row : Option Nat} (h : LpAt W B r) (hg : W.grownBy W' row) (hr : ∀ j,row = some j → B + 2 ≤ j) : LpAt W' B r :=
 ⟨(hg.block _ (by have:=h.lt; omega) (fun e => by have:=hr _ e.symm; omega)).trans h.df,(hg.block _ h.lt (fun e => by have:=hr _ e.symm; omega)).trans h.lp⟩
theorem LpAt.set {W : World} {B b : Nat} {r : Loop} (h : LpAt W B r) (v : Value) (hb : B + 2 ≤ b) : LpAt (W.setCell ⟨b,0,none⟩ v) B r :=
 ⟨(heap_setCell_other W ⟨b,0,none⟩ B v (by show B ≠ b; omega)).trans h.df,(heap_setCell_other W ⟨b,0,none⟩ (B + 1) v (by show B + 1 ≠ b; omega)).trans h.lp⟩
def wayOut {α : Type} (B : Nat) (Kp : World → World → Prop) (I : List α → World → Prop) (Ix : Code → List α → World → Prop) (xs : List α) (W : World) : Exit → Act → World → Prop
 | .normal,_,W' => KeepsFrom B W W' ∧ Kp W W' ∧ I xs W'
 | .ret,_,W' => KeepsFrom B W W' ∧ Kp W W' ∧ Ix .ret xs W'
 | .exit id,_,W' => KeepsFrom B W W' ∧ Kp W W' ∧ Ix (.exit id) xs W'
 | .goto t,_,W' => KeepsFrom B W W' ∧ Kp W W' ∧ Ix (.goto t) xs W'
 | .panic _,_,_ => False
 | .outgrown,_,_ => False
theorem range_own {α : Type} {P : Program} {n : Nat} {g : Operand} {ps : Array Tmp} {assign body : Code} {Q : Exit → Act → World → Prop} {a : Act} {w : World}
  {gf : Nat} {lb : Array Value} (hg : a.eval g = .func (.func gf) #[] lb) (eg : ∀ args w,(callFunc gf args).run P w = .ok (.enter gf args) w)
  {encs : α → Array Value} {TT : Keep} {n₀ : Nat} {S Sp : List α → Prop} {N : Nat} {w0 : World} (hseq : SeqOwn (n - 1) P gf lb encs TT n₀ S Sp N w0) (hb0 : Below w0.heap.size w0 w) (hn₀ : n₀ ≤ w.heap.size) (hps : ∀ x,(encs x).size = ps.size)
  (I : List α → World → Prop) (Ix : Code → List α → World → Prop) (hI : OwnFrom w.heap.size I) (hIx : ∀ c,OwnFrom w.heap.size (Ix c)) (hIt : AbT TT w.heap.size I) (hIxt : ∀ c,AbT TT w.heap.size (Ix c)) (h0 : I [] w) (Ax : α → Act → World → Prop) (hAx : ∀ x a',OwnFrom w.heap.size (fun (_ : Unit) W => Ax x a' W))
  (hassign : ∀ (l : Nat) (pre : List α) (x : α) (W : World) (K : Act → World → Prop),I pre W → (∀ a' W',KeepsFrom w.heap.size W W' → KpN TT n₀ (w.heap.size + 2) W W' → I pre W' → Ax x a' W' → K a' W') →
   assign.wpIn (Fence.wide.inRound l) (n - 1 - 1) P (Exit.then K (fun _ _ _ => False)) { tmps:=(ps.zip (encs x)).foldl (fun t (p,v) => t.setIfInBounds p v) a.tmps,defers:=[] } W)
  (hbody : ∀ (l : Nat) (pre : List α) (x : α) (a' : Act) (W : World),okE (encs x) → w.heap.size ≤ l → I pre W → Ax x a' W → pre.length < N → body.wpIn (Fence.wide.inRound l) (n - 1 - 1) P (wayOut w.heap.size (KpN TT n₀ (w.heap.size + 2)) I Ix (pre ++ [x]) W) a' W)
  (hdone : ∀ (D : Nat) (xs : List α) (W : World),w.heap.size ≤ D → S xs → I xs W → W.heap[D]? = some (.deferred (some [])) → Q .normal { a with defers:={ target:=.collected D,args:=#[] } :: a.defers } W)
  (hstop : ∀ (D : Nat) (c : Code) (pre : List α) (W : World),w.heap.size ≤ D → Sp pre → Ix c pre W → W.heap[D]? = some (.deferred (some [])) → c.wpIn Fence.wide n P Q { a with defers:={ target:=.collected D,args:=#[] } :: a.defers } W) :
  (Code.rangeFunc g ps assign body).wpIn Fence.wide n P Q a w:=by
 refine wpIn_rangeFunc fun fn hfn => ?_
 obtain ⟨B,hB⟩ : ∃ B,w.heap.size = B:=⟨_,rfl⟩
 let mk : LoopState → Option Code → Loop:=fun st pe => { state:=st,pending:=pe,fn,tmps:=a.tmps,params:=ps,assign,body,defers:=B }
 obtain ⟨W1,hW1⟩ : ∃ W1,(w.alloc (.deferred (some []))).alloc (.loop (mk .ready none)) = W1:=⟨_,rfl⟩
 have hsz : W1.heap.size = B + 2:=by rw [← hW1,World.size_alloc,World.size_alloc,hB]
 have hL1 : LpAt W1 B (mk .ready none):=by
  rw [← hW1,← hB]
  refine ⟨(Below.heap_alloc _ _ _ (by simp)).trans (World.alloc_heap_new w _),?_⟩
  have:=World.alloc_heap_new (w.alloc (.deferred (some []))) (.loop (mk .ready none))
  rwa [World.size_alloc] at this
 rw [hB] at hI hIx hIt hIxt hAx hassign hbody hdone hstop hn₀
 have hI1 : I [] W1:=by rw [← hW1]; exact hI.alloc _ (hI.alloc _ h0)
 have hb1 : Below w0.heap.size w0 W1:=by
  rw [← hW1]; exact hb0.trans ((((Below.refl _ w).alloc (Nat.le_refl _) _).alloc (by simp) _).mono hb0.size)
 refine ⟨B + 1,[{ target:=.collected B,args:=#[] }],W1,{ target:=.fn (.func gf) lb,args:=#[.func (.yield (B + 1)) #[] #[]] },W1,gf,#[.func (.yield (B + 1)) #[] #[]] ++ lb,W1,?_,?_,(fun f' _ => trivial),?_,(fun h => by cases h),?_⟩
 ·have:=run_enterLoop_outer (P:=P) (w:=w) fn a.tmps ps assign body
  rw [hB] at this
  rw [← hW1]
  exact this
 ·simp only [resolve,hg]
  simp [go_sem]
 ·simp [invoke,go_sem,eg]
 have own2 : ∀ (r : Loop) {A A' : World} {row : Option Nat},LpAt A B r → A.grownBy A' row → (∀ j,row = some j → W1.heap.size ≤ j ∧ ∃ o : Obj,A.heap[j]? = some o ∧ o.isCells = false) → LpAt A' B r :=
  fun r A A' row h hg' hr => h.grown hg' fun j e => by have:=(hr j e).1; omega
 have low : ∀ {A : World} {row : Option Nat},(∀ j,row = some j → W1.heap.size ≤ j ∧ ∃ o : Obj,A.heap[j]? = some o ∧ o.isCells = false) → ∀ j,row = some j → B ≤ j ∧ ∃ o : Obj,A.heap[j]? = some o ∧ o.isCells = false :=
  fun hr j e => ⟨by have:=(hr j e).1; omega,(hr j e).2⟩
 refine (hseq (B + 1) (fun pre W => I pre W ∧ LpAt W B (mk .ready none)) (fun pre W => ∃ c,Ix c pre W ∧ LpAt W B (mk .done (some c))) W1 (B + 2) hb1 (by omega)
  (fun s A A' row hs hg' hr => ⟨hI s A A' row hs.1 hg' (low hr),own2 _ hs.2 hg' hr⟩)
  (fun s A A' row hs hg' hr => by obtain ⟨c,h1,h2⟩:=hs; exact ⟨c,hIx c s A A' row h1 hg' (low hr),own2 _ h2 hg' hr⟩)
  (fun s A b cs t v hs hb ht e => ⟨hIt s A b cs t v hs.1 (by omega) ht e,hs.2.set v (by omega)⟩)
  (fun s A b cs t v hs hb ht e => by obtain ⟨c,h1,h2⟩:=hs; exact ⟨c,hIxt c s A b cs t v h1 (by omega) ht e,h2.set v (by omega)⟩) ?_ ⟨hI1,hL1⟩).mono ?_
 ·-- a round
  rintro pre x W hV ⟨hi,hl⟩ hlen
  have hy:=run_yield (P:=P) (args:=encs x) hl.lp (hps x)
  refine ⟨fn,_,assign,body,hy,roundIn_of_wpIn hfn (hassign _ pre x W _ hi ?_)⟩
  intro a' Wa k1 k2 hia hax
  have hla:=hl.from k1
  refine ⟨_,run_beginRound hla.lp rfl,?_⟩
  have hlb:=hla.put { mk .ready none with state:=.busy }
  have hib : I pre (Wa.putObj (B + 1) (.loop { mk .ready none with state:=.busy })):=hI.putObj _ hia (by omega) hla.lp rfl
  have hab:=(hAx x a').putObj (s:=()) (.loop { mk .ready none with state:=.busy }) hax (by omega) hla.lp rfl
  refine wpIn_mono (hbody _ pre x a' _ hV (by omega) hib hab hlen) ?_
  have kb : KpN TT n₀ (B + 2) W (Wa.putObj (B + 1) (.loop { mk .ready none with state:=.busy })):=k2.trans (KpN.put _ _ (by omega) (by omega))
  have fin : ∀ (jump : Option Code) (W3 : World),KeepsFrom B (Wa.putObj (B + 1) (.loop { mk .ready none with state:=.busy })) W3 →
    (Instr.endRound (B + 1) jump).run P W3 = .ok (.bool jump.isNone) (W3.putObj (B + 1) (.loop (mk (if jump.isNone then .ready else .done) jump))) ∧ W3.heap[B + 1]? = some (.loop { mk .ready none with state:=.busy }) ∧ LpAt (W3.putObj (B + 1) (.loop (mk (if jump.isNone then .ready else .done) jump))) B (mk (if jump.isNone then .ready else .done) jump):=fun jump W3 k3 => by
   have h3:=hlb.from k3
   exact ⟨run_endRound (P:=P) jump h3.lp,h3.lp,h3.put _⟩
  rintro e a3 W3 hp
  cases e with
  | normal =>
   obtain ⟨k3,b3,i3⟩:=hp
   obtain ⟨hr,e3,hl4⟩:=fin none W3 k3
   exact ⟨_,_,hr,.inl ⟨rfl,⟨hI.putObj _ i3 (by omega) e3 rfl,hl4⟩,kb.trans (b3.trans (KpN.put _ _ (by omega) (by omega)))⟩⟩
  | ret =>
   obtain ⟨k3,b3,i3⟩:=hp
   obtain ⟨hr,e3,hl4⟩:=fin (some .ret) W3 k3
   exact ⟨_,_,hr,.inr ⟨rfl,⟨.ret,(hIx _).putObj _ i3 (by omega) e3 rfl,hl4⟩,kb.trans (b3.trans (KpN.put _ _ (by omega) (by omega)))⟩⟩
  | exit id =>
   obtain ⟨k3,b3,i3⟩:=hp
   obtain ⟨hr,e3,hl4⟩:=fin (some (.exit id)) W3 k3
   exact ⟨_,_,hr,.inr ⟨rfl,⟨.exit id,(hIx _).putObj _ i3 (by omega) e3 rfl,hl4⟩,kb.trans (b3.trans (KpN.put _ _ (by omega) (by omega)))⟩⟩
  | goto t =>
   obtain ⟨k3,b3,i3⟩:=hp
   obtain ⟨hr,e3,hl4⟩:=fin (some (.goto t)) W3 k3
   exact ⟨_,_,hr,.inr ⟨rfl,⟨.goto t,(hIx _).putObj _ i3 (by omega) e3 rfl,hl4⟩,kb.trans (b3.trans (KpN.put _ _ (by omega) (by omega)))⟩⟩
  | panic ch => exact hp.elim
  | outgrown => exact hp.elim
 ·-- behind it
  rintro e W2 ⟨⟨v,rfl⟩,(⟨xs,hS,hi,hl⟩ | ⟨pre,hSp,c,hi,hl⟩)⟩
  ·exact ⟨none,_,run_endLoop (P:=P) hl.lp (by simp [mk]),hdone B xs _ (Nat.le_refl _) hS (hI.putObj _ hi (by omega) hl.lp rfl) (hl.put _).df⟩
  ·exact ⟨some c,_,run_endLoop (P:=P) hl.lp (by simp [mk]),hstop B c pre _ (Nat.le_refl _) hSp ((hIx c).putObj _ hi (by omega) hl.lp rfl) (hl.put _).df⟩
open Go.RowKit Go.Shelf
attribute [local go_sem] Oper.semAt_some
def kvE (p : ByteArray × ByteArray) : Array Value:=#[.agg #[.string p.1,.string p.2],.int .i64 0]
theorem drop_next {α : Type} {l : List α} {i j : Nat} {p : α} (h : l[i + j]? = some p) : (l.drop i).take (j + 1) = (l.drop i).take j ++ [p]:=by
 rw [List.take_add_one,List.getElem?_drop,h]; rfl
theorem grown_below {W W' : World} (h : Below W.heap.size W W') : W.grownBy W' none:=⟨h.os,h.tape,h.output,h.size,fun k hk _ => h.block k hk⟩
theorem SoAt.belX {xs : List Nat} {w w' : World} {g : Nat} {a : Option Addr} {n cap : Nat} {l : List (ByteArray × ByteArray)} (h : SoAt w g a n cap l) (hb : BelX xs w.heap.size w w') (hg : g ∉ xs) (ha : ∀ ad,0 < n → a = some ad → ad.block ∉ xs) : SoAt w' g a n cap l:=by
 obtain ⟨h0,h1,h2,h3,h4⟩:=h
 refine ⟨(hb.block g (Array.getElem?_eq_some_iff.1 h0).1 hg).trans h0,h1,h2,h3,fun hp => ?_⟩
 obtain ⟨b,off,e,hb',hc⟩:=h4 hp
 have hx:=ha _ hp e
 exact ⟨b,off,e,Nat.lt_of_lt_of_le hb' hb.size,fun i p hi => ⟨(hb.cell (p:=⟨b,off + i * 2,none⟩) hb' hx).trans (hc i p hi).1,(hb.cell (p:=⟨b,off + i * 2 + 1,none⟩) hb' hx).trans (hc i p hi).2⟩⟩
theorem from_stops (xv : List Nat) (n : Nat) (B1 B2 g : Nat) (k : ByteArray) (a : Option Addr) (len cap : Nat) (l : List (ByteArray × ByteArray)) (w : World) (hB1 : B1 < w.heap.size) (hB2 : B2 < w.heap.size)
  (hc1 : w.cell? ⟨B1,0,none⟩ = some (.pointer (some ⟨g,0,none⟩))) (hc2 : w.cell? ⟨B2,0,none⟩ = some (.string k)) (hS : SoAt w g a len cap l) (hx1 : B1 ∉ xv) (hxg : g ∉ xv) (hxa : ∀ ad,0 < len → a = some ad → ad.block ∉ xv) :
  SeqStopsK Fence.wide n Tryz.prog 212 #[.pointer (some ⟨B1,0,none⟩),.pointer (some ⟨B2,0,none⟩)] kvE (BelX xv w.heap.size) (fun ys => ys = l.drop (fdN l k)) (fun pre => ∃ j,pre = (l.drop (fdN l k)).take j) l.length w:=fun L J Jx W hW hJ hJx hY h0 => by
 have q1 : ∀ X,Below W.heap.size W X → X.cell? ⟨B1,0,none⟩ = some (.pointer (some ⟨g,0,none⟩)):=fun X hX => ((hW.trans (hX.mono hW.size)).cell (p:=⟨B1,0,none⟩) hB1).trans hc1
 have q2 : ∀ X,Below W.heap.size W X → X.cell? ⟨B2,0,none⟩ = some (.string k):=fun X hX => ((hW.trans (hX.mono hW.size)).cell (p:=⟨B2,0,none⟩) hB2).trans hc2
 have hSW:=hS.below hW
 have q3 : ∀ X,Below W.heap.size W X → X.cell? ⟨g,0,none⟩ = some (.slice a len cap):=fun X hX => (hSW.below hX).c0
 have ci:=find_any W.drew a len cap l (hSW.below (Below.refl _ W).drew).at_ k
 have hle:=fdN_le l k
 obtain ⟨hl,hnc,hcm,hI⟩:=hS.at_
 unfold maxLen at hcm
 obtain ⟨i,hi⟩ : ∃ i,fdN l k = i:=⟨_,rfl⟩
 rw [hi] at ci hle
 rw [hi]
 clear hi
 have HSW : Hid (SoAt W g a len cap l):=hSW
 have HW : Hid (Below w.heap.size w W):=hW
 refine callsIn_of_wp Tryz.func212 rfl trivial ?_ rfl
 simp only [Tryz.ntmps212,List.size_toArray,List.length_cons,List.length_nil,Nat.reduceAdd,Nat.reduceSub,Array.replicate_succ,Array.replicate_zero,List.push_toArray,List.append_toArray,List.nil_append,List.cons_append]
 gi_wp2
 refine wpIn_wide.2 ?_
 refine wp_region_noPanic ?_
 refine wp_region_held_drew (S:=fun X => Below W.heap.size W X) (by kernel_rfl) (Below.refl _ _).drew (fun hHeld => ?_)
 refine tk 0 (.pointer (some ⟨g,0,none⟩)) rfl ?_ (fun W hSw => by (try dsimp only at hSw); (have z:=q1 W hSw; go_simp))
 try simp only [nz]
 refine tk 1 (.pointer (some ⟨g,0,none⟩)) rfl ?_
 try simp only [nz]
 refine tk 2 (.pointer (some ⟨g,0,none⟩)) rfl ?_
 try simp only [nz]
 refine tk 3 (.slice a len cap) rfl ?_ (fun W hSw => by (try dsimp only at hSw); (have z:=q3 W hSw; go_simp))
 try simp only [nz]
 refine tk 4 (.string k) rfl ?_ (fun W hSw => by (try dsimp only at hSw); (have z:=q2 W hSw; go_simp))
 try simp only [nz]
 refine rd 5 rfl (fun K hK => ?_)
 go_simp
 go_wp2_with (go_at_call 213; refine ci.mono ?_; rintro e w5 ⟨rfl,hb5⟩)
 refine hK.out _ _ (thenB (by assumption) hb5) (fun hHeld2 => ?_)
 clear hK K ci
 try simp only [nz]
 refine tk 6 (.tuple #[.int .i64 i,.bool (fdB l k)]) rfl ?_
 try simp only [nz]
 refine tk 7 (.int .i64 i) rfl ?_
 try simp only [nz]
 refine tk 8 (.bool (fdB l k)) rfl ?_
 try simp only [nz]
 refine tk 9 (.int .i64 i) rfl ?_
 try simp only [nz]
 refine tk 10 (.bool (fdB l k)) rfl ?_
 try simp only [nz]
 refine wpAnyH_done (by kernel_rfl) ?_ _
 refine NoPanic.normal ?_
 have c1:=q1 w5 hHeld2
 have c3:=q3 w5 hHeld2
 have HJ5 : Hid (J [] w5):=hJ _ _ _ Option.none h0 (grown_below hHeld2) (fun r e => by cases e)
 have HB5 : Hid (Below W.heap.size W w5):=hHeld2
 clear hHeld hHeld2
 have hiI : (i : Int) ≤ len:=by omega
 have hncI : (len : Int) ≤ cap:=by omega
 by_cases hem : i = len
 ·have hcut : l.drop i = []:=List.drop_eq_nil_of_le (by omega)
  subst hem
  by_cases hq : i = cap
  ·subst hq
   gi_wp2
   gi_loopw [7,24] (fun _ t wr => t = .int .i64 0 ∧ wr = w5) (fun _ _ _ => 0)
   case atStart => exact ⟨rfl,rfl⟩
   case round =>
    obtain ⟨rfl,rfl⟩:=hrel
    gi_wp2
    go_end0
    exact ⟨⟨_,rfl⟩,.inl ⟨_,hcut.symm,HJ5.out⟩⟩
  ·have hqI : ¬ (cap : Int) = i:=by omega
   gi_wp2
   gi_loopw [7,24] (fun _ t wr => t = .int .i64 0 ∧ wr = w5) (fun _ _ _ => 0)
   case atStart => exact ⟨rfl,rfl⟩
   case round =>
    obtain ⟨rfl,rfl⟩:=hrel
    gi_wp2
    go_end0
    exact ⟨⟨_,rfl⟩,.inl ⟨_,hcut.symm,HJ5.out⟩⟩
 ·have him : i < len:=by omega
  obtain ⟨b,off,rfl,hb,hcs⟩:=hI (by omega)
  have hqI : ¬ cap = i:=by omega
  gi_wp2
  gi_loopw [7,24] (fun _ t wr => ∃ j : Nat,j ≤ len - i ∧ t = .int .i64 j ∧ J ((l.drop i).take j) wr ∧ BelX xv w.heap.size W wr) (fun _ t _ => (len - i) - (intOf t).toNat)
  case atStart => exact ⟨0,Nat.zero_le _,rfl,by rw [List.take_zero]; exact HJ5.out,BelX.of (HB5.out.mono HW.out.size)⟩
  case round =>
   obtain ⟨j,hj,rfl,hJs,hnx⟩:=hrel
   by_cases hlt : j < len - i
   ·have hltI : (j : Int) < ((len - i : Nat) : Int):=by omega
    have hbw : BelX xv w.heap.size w wr:=(BelX.of HW.out).trans hnx
    have hbx:=hxa _ (by omega) rfl
    obtain ⟨p,hp⟩ : ∃ p,l[i + j]? = some p:=⟨_,List.getElem?_eq_getElem (by omega)⟩
    obtain ⟨x0,x1⟩:=hcs (i + j) p hp
    have hcx0 : wr.cell? ⟨b,off + i * 2 + j * 2,none⟩ = some (.string p.1):=by
     rw [show off + i * 2 + j * 2 = off + (i + j) * 2 by omega]; exact (hbw.cell (p:=⟨b,off + (i + j) * 2,none⟩) hb hbx).trans x0
    have hcx1 : wr.cell? ⟨b,off + i * 2 + j * 2 + 1,none⟩ = some (.string p.2):=by
     rw [show off + i * 2 + j * 2 + 1 = off + (i + j) * 2 + 1 by omega]; exact (hbw.cell (p:=⟨b,off + (i + j) * 2 + 1,none⟩) hb hbx).trans x1
    have hT:=drop_next hp
    have hba : Below wr.heap.size wr (wr.alloc (.cells #[.string p.1,.string p.2] 94)):=(Below.refl _ wr).alloc (Nat.le_refl _) _
    have d1 : (wr.alloc (.cells #[.string p.1,.string p.2] 94)).cell? ⟨B1,0,none⟩ = some (.pointer (some ⟨g,0,none⟩)):=((hbw.trans (BelX.of (hba.mono hbw.size))).cell (p:=⟨B1,0,none⟩) hB1 hx1).trans hc1
    have cf:=fails_any ((hS.belX hbw hxg hxa).below hba)
    obtain ⟨fn,tmps,assign,body,hy,hR⟩:=hY _ p (wr.alloc (.cells #[.string p.1,.string p.2] 94)) (hJ _ _ _ Option.none hJs (World.grownBy_alloc wr _ Option.none) (fun r e => by cases e)) (by rw [List.length_take,List.length_drop]; omega)
    unfold kvE at hy
    clear hcs hI q1 q2 q3
    gi_wp2
    refine ⟨trivial,(fun h => by cases h),?_⟩
    refine (callsIn_wide.2 cf).mono ?_
    rintro e w7 ⟨rfl,rfl⟩
    clear cf
    gi_wp2
    refine ⟨(fun h => by cases h),hR.mono ?_⟩
    rintro e W3 (⟨rfl,hJ3,hk3⟩ | ⟨rfl,hJx3⟩)
    ·gi_wp2
     go_roundw
     case rel => exact ⟨j + 1,by omega,by simp,by rw [hT]; exact hJ3,hnx.trans ((BelX.of (hba.mono hbw.size)).trans hk3)⟩
     case measure => simp [intOf]; omega
    ·gi_wp2
     refine bodyPost_ret (results_none rfl _ _ _) rfl ?_
     exact ⟨⟨_,rfl⟩,.inr ⟨_,⟨j + 1,hT.symm⟩,hJx3⟩⟩
   ·obtain rfl : j = len - i:=by omega
    rw [List.take_of_length_le (by rw [List.length_drop]; omega)] at hJs
    have hltI : ¬ ((len - i : Nat) : Int) < ((len - i : Nat) : Int):=by omega
    gi_wp2
    go_end0
    first | exact ⟨⟨_,rfl⟩,.inl hJs⟩ | exact ⟨⟨_,rfl⟩,.inl ⟨_,rfl,hJs⟩⟩
open Go.RowKit Go.Shelf
def actOf (ps : Array Tmp) (e : Array Value) (upd : Array Value → Array Value) (tmps : Array Value) : Act:={ tmps:=upd ((ps.zip e).foldl (fun t (p,v) => t.setIfInBounds p v) tmps),defers:=[] }
theorem range_own2 {α : Type} {P : Program} {n : Nat} {g : Operand} {ps : Array Tmp} {assign body : Code} {Q : Exit → Act → World → Prop} {a : Act} {w : World}
  {gf : Nat} {lb : Array Value} (hg : a.eval g = .func (.func gf) #[] lb) (eg : ∀ args w,(callFunc gf args).run P w = .ok (.enter gf args) w)
  {encs : α → Array Value} {TT : Keep} {n₀ : Nat} {S Sp : List α → Prop} {N : Nat} {w0 : World} (hseq : SeqOwn (n - 1) P gf lb encs TT n₀ S Sp N w0) (hb0 : Below w0.heap.size w0 w) (hn₀ : n₀ ≤ w.heap.size) (hps : ∀ x,(encs x).size = ps.size)
  (I : List α → World → Prop) (Ix : Code → List α → World → Prop) (hI : OwnFrom w.heap.size I) (hIx : ∀ c,OwnFrom w.heap.size (Ix c)) (hIt : AbT TT w.heap.size I) (hIxt : ∀ c,AbT TT w.heap.size (Ix c)) (h0 : I [] w) (upd : α → Array Value → Array Value)
  (hassign : ∀ (l : Nat) (x : α) (W : World) (K : Act → World → Prop),K (actOf ps (encs x) (upd x) a.tmps) W →
   assign.wpIn (Fence.wide.inRound l) (n - 1 - 1) P (Exit.then K (fun _ _ _ => False)) (actOf ps (encs x) id a.tmps) W)
  (hbody : ∀ (l : Nat) (pre : List α) (x : α) (W : World),okE (encs x) → w.heap.size ≤ l → I pre W → pre.length < N → body.wpIn (Fence.wide.inRound l) (n - 1 - 1) P (wayOut w.heap.size (KpN TT n₀ (w.heap.size + 2)) I Ix (pre ++ [x]) W) (actOf ps (encs x) (upd x) a.tmps) W)
  (hdone : ∀ (D : Nat) (xs : List α) (W : World),w.heap.size ≤ D → S xs → I xs W → W.heap[D]? = some (.deferred (some [])) → Q .normal { a with defers:={ target:=.collected D,args:=#[] } :: a.defers } W)
  (hstop : ∀ (D : Nat) (c : Code) (pre : List α) (W : World),w.heap.size ≤ D → Sp pre → Ix c pre W → W.heap[D]? = some (.deferred (some [])) → c.wpIn Fence.wide n P Q { a with defers:={ target:=.collected D,args:=#[] } :: a.defers } W) :
  (Code.rangeFunc g ps assign body).wpIn Fence.wide n P Q a w :=
 range_own hg eg hseq hb0 hn₀ hps I Ix hI hIx hIt hIxt h0 (fun x a' _ => a' = actOf ps (encs x) (upd x) a.tmps) (fun x a' => own_pure _ _)
  (fun l pre x W K hi hK => hassign l x W K (hK _ _ (KeepsFrom.refl _ _) (KpN.refl _ _ _) hi rfl))
  (fun l pre x a' W hV hl hi ha hlen => by subst ha; exact hbody l pre x W hV hl hi hlen) hdone hstop
open Go.RowKit Go.Shelf
attribute [local go_sem] Oper.semAt_some
theorem read_all (w : World) (s : ByteArray) : Calls Tryz.prog 105 #[.string s] w fun e w' => e = .returned (.tuple #[plV (rdP s),.int .i64 (rdE s)]) ∧ Below w.heap.size w w':=by
 by_cases h : s.size = 14
 ·exact read_in w s h
 ·obtain ⟨e1,e2⟩:=rd_no (s:=s) (by unfold rdOk; simp [h])
  rw [e1,e2]
  exact read_size w s (by omega)
def nmE (s : ByteArray) : Array Value:=#[.string s,.int .i64 0]
theorem okE_nm {s : ByteArray} (h : s.size ≤ 8) : okE (nmE s):=fun t e => by
 unfold nmE at e
 simp only [List.getElem?_toArray,List.getElem?_cons_zero,Option.some.injEq,Value.string.injEq] at e
 rw [← e]; exact h
theorem rd_size {s : ByteArray} (h : rdOk s = true) : (rdP s).name.size ≤ 8:=by
 obtain ⟨e,_⟩:=rd_yes h
 unfold rdOk at h
 simp only [Bool.and_eq_true,decide_eq_true_iff,beq_iff_eq] at h
 rw [e]; exact plOk_size h.1.2
def nmOf (p : ByteArray × ByteArray) : List ByteArray:=if rdOk p.1 then [(rdP p.1).name] else []
def nmS (l : List (ByteArray × ByteArray)) : List ByteArray:=l.flatMap nmOf
def TV (xv : List Nat) : Keep:=⟨[182,173],xv⟩
theorem namesOf_any (w : World) (gf : Nat) (lb : Array Value) (t : ByteArray) : Calls Tryz.prog 89 #[.func (.func gf) #[] lb,.string t] w fun e w' =>
  e = .returned (.func (.func 104) #[] #[.pointer (some ⟨w.heap.size,0,none⟩),.pointer (some ⟨w.heap.size + 1,0,none⟩)]) ∧ w' = (w.alloc (.cells #[.func (.func gf) #[] lb] 186)).alloc (.cells #[.string t] 9):=by
 go_enter Tryz.func89,Tryz.ntmps89
 go_wp2
 go_ret
 exact ⟨rfl,rfl⟩
theorem take_stop {t : ByteArray} {l pre : List (ByteArray × ByteArray)} {x : ByteArray × ByteArray} {j : Nat} (h : pre ++ [x] = l.take j) (h1 : ∀ p ∈ pre,ltS p.1 t = true) (h2 : ltS x.1 t = false) : (l.takeWhile fun p => ltS p.1 t) = pre:=by
 rw [← List.take_append_drop j l,← h,List.append_assoc,List.takeWhile_append_of_pos h1]
 simp [h2]
theorem take_all {t : ByteArray} {l : List (ByteArray × ByteArray)} (h1 : ∀ p ∈ l,ltS p.1 t = true) : (l.takeWhile fun p => ltS p.1 t) = l:=by
 have:=List.takeWhile_append_of_pos (l₂:=[]) h1
 simpa using this
theorem nmS_snoc (l : List (ByteArray × ByteArray)) (x : ByteArray × ByteArray) : nmS (l ++ [x]) = nmS l ++ nmOf x:=by simp [nmS]
theorem nmS_pre {A B : List (ByteArray × ByteArray)} (h : A <+: B) : nmS A <+: nmS B:=by
 obtain ⟨t,rfl⟩:=h
 exact ⟨nmS t,by simp [nmS]⟩
theorem tw_pre {t : ByteArray} : ∀ {l : List (ByteArray × ByteArray)} {j : Nat},(∀ p ∈ l.take j,ltS p.1 t = true) → l.take j <+: l.takeWhile fun p => ltS p.1 t
 | [],j,_ => by simp
 | x :: l,0,_ => by simp
 | x :: l,j + 1,h => by
  rw [List.take_succ_cons] at h ⊢
  have hx:=h x (by simp)
  simp only [List.takeWhile_cons,hx,if_true]
  exact (List.prefix_cons_inj x).2 (tw_pre fun p hp => h p (List.mem_cons_of_mem _ hp))
theorem nmS_len (l : List (ByteArray × ByteArray)) : (nmS l).length ≤ l.length:=by
 induction l with
 | nil => simp [nmS]
 | cons x l ih =>
  have e : nmS (x :: l) = nmOf x ++ nmS l:=by simp [nmS]
  have h1 : (nmOf x).length ≤ 1:=by unfold nmOf; split <;> simp
  rw [e,List.length_append,List.length_cons]
  omega
theorem names_own (xv : List Nat) (n : Nat) (gf : Nat) (lb : Array Value) (eg : ∀ args w,(callFunc gf args).run Tryz.prog w = .ok (.enter gf args) w) (B1 B2 : Nat) (t : ByteArray) (l : List (ByteArray × ByteArray)) (N : Nat) (n₀ : Nat) (w : World) (hB1 : B1 < n₀) (hB2 : B2 < n₀) (hx2 : B2 ∉ xv) (hn₀ : n₀ ≤ w.heap.size)
  (hc1 : w.cell? ⟨B1,0,none⟩ = some (.func (.func gf) #[] lb)) (hc2 : w.cell? ⟨B2,0,none⟩ = some (.string t))
  (hseq : ∀ m,SeqOwn m Tryz.prog gf lb kvE (TV xv) n₀ (fun ys => ys = l) (fun pre => ∃ j,pre = l.take j) N w) (M : Nat) (hM : N ≤ M) :
  SeqOwn n Tryz.prog 104 #[.pointer (some ⟨B1,0,none⟩),.pointer (some ⟨B2,0,none⟩)] nmE (TV xv) n₀ (fun ys => ys = nmS (l.takeWhile fun p => ltS p.1 t)) (fun pre => pre <+: nmS (l.takeWhile fun p => ltS p.1 t)) M w:=fun L J Jx W n₁ hW hn₁ hJ hJx hJt hJxt hY h0 => by
 have hbA : Below W.heap.size W (W.alloc (.cells #[.func (.yield L) #[] #[]] 182)):=(Below.refl _ W).alloc (Nat.le_refl _) _
 have bX : Boxed (W.alloc (.cells #[.func (.yield L) #[] #[]] 182)) W.heap.size 182 (.func (.yield L) #[] #[]):=Boxed.new W _ _
 have hbw : Below w.heap.size w (W.alloc (.cells #[.func (.yield L) #[] #[]] 182)):=hW.trans (hbA.mono hW.size)
 have hsz : (W.alloc (.cells #[.func (.yield L) #[] #[]] 182)).heap.size = W.heap.size + 1:=by simp
 have hJ2:=own_next hJ h0 hbA
 obtain ⟨W2,hW2⟩ : ∃ W2,W.alloc (.cells #[.func (.yield L) #[] #[]] 182) = W2:=⟨_,rfl⟩
 rw [hW2] at hbA bX hbw hsz hJ2
 have d1:=(hbw.cell (p:=⟨B1,0,none⟩) (by show B1 < _; omega)).trans hc1
 have d2:=(hbw.cell (p:=⟨B2,0,none⟩) (by show B2 < _; omega)).trans hc2
 have hws:=hW.size
 refine callsIn_of_wp_marks Tryz.func104 rfl trivial ?_ rfl
 simp only [Tryz.ntmps104,List.size_toArray,List.length_cons,List.length_nil,Nat.reduceAdd,Nat.reduceSub,Array.replicate_succ,Array.replicate_zero,List.push_toArray,List.append_toArray,List.nil_append,List.cons_append]
 gi_wp2
 refine range_own (gf:=gf) (lb:=lb) rfl eg (hseq _) hbw (by omega) (fun _ => rfl)
  (fun pre X => (∀ p ∈ pre,ltS p.1 t = true) ∧ J (nmS pre) X ∧ Boxed X W.heap.size 182 (.func (.yield L) #[] #[]) ∧ BelX xv n₀ W2 X)
  (fun c pre X => c = .ret ∧ ((∃ pre' x,pre = pre' ++ [x] ∧ (∀ p ∈ pre',ltS p.1 t = true) ∧ ltS x.1 t = false ∧ J (nmS pre') X) ∨ ∃ pre' x,pre = pre' ++ [x] ∧ (∀ p ∈ pre' ++ [x],ltS p.1 t = true) ∧ Jx (nmS (pre' ++ [x])) X))
  ?ownI ?ownX ?abI ?abX ⟨by simp,hJ2,bX,BelX.refl _ _ _⟩
  (fun x a' X => ∃ Bx,X.heap[Bx]? = some (.cells #[.string x.1,.string x.2] 94 (0,0)) ∧ a' = { tmps:=#[.func (.yield L) #[] #[],.pointer (some ⟨B1,0,none⟩),.pointer (some ⟨B2,0,none⟩),.pointer (some ⟨W.heap.size,0,none⟩),.pointer (some ⟨Bx,0,none⟩),.int .i64 0,undef,undef,.func (.func gf) #[] lb,.agg #[.string x.1,.string x.2],.int .i64 0,undef,undef,undef,undef,undef,undef,undef,undef,undef,undef,undef,undef,undef,undef,undef,undef,undef,undef,undef,undef,undef,undef,undef,undef],defers:=[] })
  ?ownA ?assign ?body ?done ?stop
 case ownI => exact (own_pure _ _).and ((fun s => own_up hJ (by omega) (nmS s)) |> fun h => OwnFrom.and (fun s X X' row hs hg hr => h s X X' row hs hg hr) ((own_box _ _ _ _).and (own_belX (by omega) (by omega))))
 case ownX =>
  intro c s X X' row hs hg hr
  obtain ⟨h1,⟨pre',x,h2,h3,h4,h5⟩ | ⟨pre',x,h2,h3,h5⟩⟩:=hs
  ·exact ⟨h1,.inl ⟨pre',x,h2,h3,h4,own_up hJ (by omega) (nmS pre') X X' row h5 hg hr⟩⟩
  ·exact ⟨h1,.inr ⟨pre',x,h2,h3,own_up hJx (by omega) _ X X' row h5 hg hr⟩⟩
 case abI =>
  rintro s X b cs ty v ⟨h1,h2,h3,h4⟩ hb ht e
  exact ⟨h1,hJt _ X b cs ty v h2 (by omega) ht e,(heap_setCell_other X ⟨b,0,none⟩ _ v (by show W.heap.size ≠ b; omega)).trans h3,h4.setCell (p:=⟨b,0,none⟩) (by show n₀ ≤ b; omega) v⟩
 case abX =>
  rintro c s X b cs ty v ⟨h1,⟨pre',x,h2,h3,h4,h5⟩ | ⟨pre',x,h2,h3,h5⟩⟩ hb ht e
  ·exact ⟨h1,.inl ⟨pre',x,h2,h3,h4,hJt _ X b cs ty v h5 (by omega) ht e⟩⟩
  ·exact ⟨h1,.inr ⟨pre',x,h2,h3,hJxt _ X b cs ty v h5 (by omega) ht e⟩⟩
 case ownA =>
  intro x a' s X X' row hs hg hr
  obtain ⟨Bx,h1,h2⟩:=hs
  exact ⟨Bx,own_cells (β:=Unit) _ Bx _ _ () X X' row h1 hg hr,h2⟩
 case assign =>
  rintro l' pre x X K ⟨h1,h2,h3,h4⟩ hK
  have hb : Below X.heap.size X (X.alloc (.cells #[.string x.1,.string x.2] 94)):=(Below.refl _ X).alloc (Nat.le_refl _) _
  have hxs:=h4.size
  unfold kvE
  gi_wp2
  refine hK _ _ ⟨hb.size,fun k o _ e _ => (hb.block k (Array.getElem?_eq_some_iff.1 e).1).trans e⟩ (KpN.of_below hb (by omega)) ⟨h1,own_next hJ h2 hb,h3.alloc _,h4.trans (BelX.of (hb.mono (by omega)))⟩ ⟨X.heap.size,heap_alloc_new X _,rfl⟩
 case body =>
  rintro l' pre x a' X hV hl ⟨h1,h2,h3,h4⟩ ⟨Bx,hBx,rfl⟩ hlen
  have hxs:=h4.size
  have x0 : X.cell? ⟨Bx,0,none⟩ = some (.string x.1):=by rw [cell_of_row _ _ _ _ _ (0,0) hBx]; rfl
  have e2:=(h4.cell (p:=⟨B2,0,none⟩) (by show B2 < _; omega) hx2).trans d2
  have e3:=h3.cell
  cases hx : Op.bytesLess x.1.toList t.toList
  ·gi_wp2
   exact ⟨KeepsFrom.refl _ _,KpN.refl _ _ _,rfl,.inl ⟨pre,x,rfl,h1,hx,h2⟩⟩
  ·have hall : ∀ p ∈ pre ++ [x],ltS p.1 t = true:=fun p hp => by
    rcases List.mem_append.1 hp with hp | hp
    ·exact h1 p hp
    ·rw [List.mem_singleton] at hp; rw [hp]; exact hx
   have cr:=read_all X x.1
   unfold plV at cr
   have hnl : (nmS pre).length ≤ pre.length:=nmS_len pre
   gi_wp2
   refine ⟨trivial,(fun h => by cases h),?_⟩
   refine (CallsIn.inRound l' (callsIn_wide.2 cr)).mono ?_
   rintro e w5 ⟨rfl,hb5⟩
   clear cr
   have hbP : Below w5.heap.size w5 (w5.alloc (.cells #[.int .u32 (rdP x.1).ino,.int .i64 (rdP x.1).part,.string (rdP x.1).name,.int .u32 (rdP x.1).chunk] 110)):=(Below.refl _ w5).alloc (Nat.le_refl _) _
   have hP : PlAt (w5.alloc (.cells #[.int .u32 (rdP x.1).ino,.int .i64 (rdP x.1).part,.string (rdP x.1).name,.int .u32 (rdP x.1).chunk] 110)) w5.heap.size (rdP x.1):=⟨heap_alloc_new w5 _⟩
   have hb6:=thenB hb5 hbP
   have hJ6:=own_next hJ h2 hb6
   have h36 : Boxed (w5.alloc (.cells #[.int .u32 (rdP x.1).ino,.int .i64 (rdP x.1).part,.string (rdP x.1).name,.int .u32 (rdP x.1).chunk] 110)) W.heap.size 182 (.func (.yield L) #[] #[]):=(hb6.block _ h3.lt).trans h3
   have h46:=h4.trans (BelX.of (hb6.mono (show n₀ ≤ X.heap.size by omega)))
   obtain ⟨w6,hw6⟩ : ∃ w6,w5.alloc (.cells #[.int .u32 (rdP x.1).ino,.int .i64 (rdP x.1).part,.string (rdP x.1).name,.int .u32 (rdP x.1).chunk] 110) = w6:=⟨_,rfl⟩
   rw [hw6] at hP hb6 hJ6 h36 h46
   have p2:=hP.c2
   have e36:=h36.cell
   have k6 : KpN (TV xv) n₀ n₁ X w6:=KpN.of_below hb6 (by omega)
   clear hbP hb5
   cases hr : rdOk x.1
   ·have er:=(rd_no hr).2
    have hnn : nmS (pre ++ [x]) = nmS pre:=by rw [nmS_snoc]; unfold nmOf; rw [hr]; simp
    rw [er]
    gi_wp2
    refine ⟨fun _ h => (by cases h),?_⟩
    gi_wp2
    exact ⟨from_up k6.non (by omega),k6.up (by omega),hall,by rw [hnn]; exact hJ6,h36,h46⟩
   ·have er:=(rd_yes hr).2
    have hnn : nmS (pre ++ [x]) = nmS pre ++ [(rdP x.1).name]:=by rw [nmS_snoc]; unfold nmOf; rw [hr]; simp
    obtain ⟨fn,tmps,assign,body,hy,hR⟩:=hY (nmS pre) (rdP x.1).name w6 (okE_nm (rd_size hr)) hJ6 (by omega)
    unfold nmE at hy
    rw [er]
    gi_wp2
    refine ⟨(fun h => by cases h),(round_any hR).mono ?_⟩
    rintro e W3 (⟨rfl,hJ3,hk3⟩ | ⟨rfl,hJx3,hk3⟩)
    ·have k7:=k6.trans hk3
     have h37 : Boxed W3 W.heap.size 182 (.func (.yield L) #[] #[]):=hk3.typ _ _ _ _ hn₁ (by unfold TV; simp) h36
     gi_wp2
     exact ⟨from_up k7.non (by omega),k7.up (by omega),hall,by rw [hnn]; exact hJ3,h37,h46.trans hk3.bel⟩
    ·have k7:=k6.trans hk3
     gi_wp2
     exact ⟨from_up k7.non (by omega),k7.up (by omega),rfl,.inr ⟨pre,x,rfl,hall,by rw [hnn]; exact hJx3⟩⟩
 case done =>
  rintro D ys X hD rfl ⟨h1,h2,h3,h4⟩ hK
  gi_wp2
  refine ⟨by simp,.inl ⟨_,_,rfl,run_takeDeferred hK,?_⟩⟩
  refine ⟨_,results_none rfl _ _ _,⟨_,rfl⟩,.inl ⟨_,rfl,?_⟩⟩
  rw [take_all h1]
  exact hJ.putObj _ h2 (by omega) hK rfl
 case stop =>
  rintro D c pre X hD ⟨j,hj⟩ ⟨rfl,hor⟩ hK
  gi_wp2
  refine ⟨by simp,.inl ⟨_,_,rfl,run_takeDeferred hK,?_⟩⟩
  refine ⟨_,results_none rfl _ _ _,⟨_,rfl⟩,?_⟩
  rcases hor with ⟨pre',x,rfl,h3,h4,h5⟩ | ⟨pre',x,rfl,h3,h5⟩
  ·refine .inl ⟨_,rfl,?_⟩
   rw [take_stop hj h3 h4]
   exact hJ.putObj _ h5 (by omega) hK rfl
  ·refine .inr ⟨_,?_,hJx.putObj _ h5 (by omega) hK rfl⟩
   rw [hj] at h3 ⊢
   exact nmS_pre (tw_pre h3)
end Go.Proofs.YtgajjphjkbnaeaaGreat
