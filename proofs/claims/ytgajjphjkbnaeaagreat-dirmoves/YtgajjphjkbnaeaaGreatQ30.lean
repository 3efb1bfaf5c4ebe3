/- InSt, InA, InB: in one text. -/
import Derived.Test.YtgajjphjkbnaeaaGreatQ1
import Derived.Test.YtgajjphjkbnaeaaGreatQ29
import Derived.Test.YtgajjphjkbnaeaaGreatQ18
import Derived.Test.YtgajjphjkbnaeaaGreatQ9
import Derived.Deep.LoopGhost
namespace Go.Proofs.YtgajjphjkbnaeaaGreat
open Go.RowKit
set_option linter.unusedVariables false
set_option maxHeartbeats 32000000
set_option maxRecDepth 100000
set_option linter.unusedSimpArgs false
open Go.RowKit Go.Maps
structure Sa where
 s : Nat
 v : Nat
 g : Nat
 p : Nat
 b : Nat
 r : Nat
 rb : Nat
 u : Nat
 ub : Nat
 x : Nat
structure Sg where
 l : List (ByteArray × ByteArray)
 d : Dl
 R : List Tc
 U : List Tc
 n : Int
def alV (x : Nat) : Value:=.func (.func 42) #[] #[.pointer (some ⟨x,0,none⟩)]
def mine (a : Sa) (vd vr vu : Value) : List Nat:=[a.p,a.b,a.r,a.rb,a.u,a.ub,a.x] ++ vd.ownBlock.toList ++ vr.ownBlock.toList ++ vu.ownBlock.toList
theorem mine_iff {a : Sa} {vd vr vu : Value} {k : Nat} : k ∈ mine a vd vr vu ↔ k = a.p ∨ k = a.b ∨ k = a.r ∨ k = a.rb ∨ k = a.u ∨ k = a.ub ∨ k = a.x ∨ vd.ownBlock = some k ∨ vr.ownBlock = some k ∨ vu.ownBlock = some k:=by
 simp [mine,Option.mem_toList,Option.mem_def,or_assoc]
structure SgAt (B : Nat) (w : World) (a : Sa) (vd vr vu : Value) (s : Sg) : Prop where
 sr : w.heap[a.s]? = some (.cells #[.pointer (some ⟨a.v,0,none⟩),.pointer (some ⟨a.r,0,none⟩),.pointer (some ⟨a.u,0,none⟩),alV a.x] 62 (0,0))
 vw : VwAt w a.v a.g a.p
 so : ∃ ad n cap,SoAt w a.g ad n cap s.l ∧ (∀ q,0 < n → ad = some q → q.block < B)
 d : DlAt w a.p a.b vd s.d
 r : SetAt w a.r a.rb vr s.R
 u : SetAt w a.u a.ub vu s.U
 x : w.heap[a.x]? = some (.cells #[.int .u32 s.n] 30 (0,0))
 n0 : 0 ≤ s.n
 n1 : s.n ≤ 4294967295
 ru : a.r ≠ a.u
 rub : a.rb ≠ a.ub
 brb : a.b ≠ a.rb
 bub : a.b ≠ a.ub
 vv : ∀ k,vr.ownBlock = some k → vu.ownBlock ≠ some k
 ge : ∀ k ∈ mine a vd vr vu,B ≤ k
 le : B ≤ w.heap.size
theorem RdK.keep {w w' : World} {a : Option Addr} {n cap B : Nat} {l : List (ByteArray × ByteArray)} (h : RdK w a n cap l) (hB : ∀ q,0 < n → a = some q → q.block < B) (hs : w.heap.size ≤ w'.heap.size) (hk : ∀ k,k < w.heap.size → k < B → w'.heap[k]? = w.heap[k]?) : RdK w' a n cap l:=by
 obtain ⟨h1,h2,h3,h4⟩:=h
 refine ⟨h1,h2,h3,fun hp => ?_⟩
 obtain ⟨b,off,e,hb',hc⟩:=h4 hp
 have hb:=hk b hb' (hB _ hp e)
 refine ⟨b,off,e,Nat.lt_of_lt_of_le hb' hs,fun i p hi => ?_⟩
 obtain ⟨c1,c2⟩:=hc i p hi
 have cc : ∀ j,w'.cell? ⟨b,j,none⟩ = w.cell? ⟨b,j,none⟩:=fun j => by simp [World.cell?,hb]
 exact ⟨(cc _).trans c1,(cc _).trans c2⟩
theorem lt_of_row {w : World} {k : Nat} {o : Obj} (h : w.heap[k]? = some o) : k < w.heap.size:=(Array.getElem?_eq_some_iff.1 h).1
theorem SgAt.keep {B : Nat} {w w' : World} {a : Sa} {vd vr vu : Value} {s : Sg} (h : SgAt B w a vd vr vu s) (hs : w.heap.size ≤ w'.heap.size) (hk : ∀ k,k < w.heap.size → (k < B ∨ k ∈ mine a vd vr vu ∨ k = a.s ∨ k = a.v ∨ k = a.g) → w'.heap[k]? = w.heap[k]?) : SgAt B w' a vd vr vu s:=by
 obtain ⟨ad,n,cap,hS,hq⟩:=h.so
 have m : ∀ k,(k = a.p ∨ k = a.b ∨ k = a.r ∨ k = a.rb ∨ k = a.u ∨ k = a.ub ∨ k = a.x ∨ vd.ownBlock = some k ∨ vr.ownBlock = some k ∨ vu.ownBlock = some k) → k < w.heap.size → w'.heap[k]? = w.heap[k]?:=fun k e hl => hk k hl (.inr (.inl (mine_iff.2 e)))
 refine ⟨(hk _ (lt_of_row h.sr) (by simp)).trans h.sr,⟨(hk _ h.vw.lt (by simp)).trans h.vw.row⟩,⟨ad,n,cap,⟨(hk _ hS.lt (by simp)).trans hS.row,hS.at_.keep hq hs (fun k h1 h2 => hk k h1 (.inl h2))⟩,hq⟩,
  ⟨(m _ (by simp) h.d.lt).trans h.d.row,h.d.mp.keep (m _ (by simp) h.d.mp.lt),own_keep h.d.pus hs (fun q hq hl => m q (by simp [hq]) hl),h.d.ok⟩,
  h.r.keep hs (fun k hl e => m k (by rcases e with e | e | e <;> simp [e]) hl),h.u.keep hs (fun k hl e => m k (by rcases e with e | e | e <;> simp [e]) hl),
  (m _ (by simp) (lt_of_row h.x)).trans h.x,h.n0,h.n1,h.ru,h.rub,h.brb,h.bub,h.vv,h.ge,Nat.le_trans h.le hs⟩
theorem SgAt.below {B : Nat} {w w' : World} {a : Sa} {vd vr vu : Value} {s : Sg} (h : SgAt B w a vd vr vu s) (hb : Below w.heap.size w w') : SgAt B w' a vd vr vu s:=h.keep hb.size (fun k hl _ => hb.block k hl)
theorem own_lt {base n k : Nat} {w : World} {v : Value} {e : TypeId} {xs : List Value} (h : w.ownsRow base e k v n xs) {q : Nat} (hq : v.ownBlock = some q) : q < w.heap.size:=by
 obtain ⟨cs,e⟩:=own_row h hq
 exact lt_of_row e
theorem SgAt.lt {B : Nat} {w : World} {a : Sa} {vd vr vu : Value} {s : Sg} (h : SgAt B w a vd vr vu s) : ∀ k ∈ mine a vd vr vu,k < w.heap.size:=fun k hk => by
 rcases mine_iff.1 hk with rfl | rfl | rfl | rfl | rfl | rfl | rfl | e | e | e
 ·exact h.d.lt
 ·exact h.d.mp.lt
 ·exact h.r.lt
 ·exact h.r.sp.lt
 ·exact h.u.lt
 ·exact h.u.sp.lt
 ·exact lt_of_row h.x
 ·exact own_lt h.d.pus e
 ·exact own_lt h.r.own e
 ·exact own_lt h.u.own e
theorem SgAt.other {B : Nat} {w : World} {a : Sa} {vd vr vu : Value} {s : Sg} (h : SgAt B w a vd vr vu s) {k : Nat} {cs : Array Value} {T : TypeId} {fr : Nat × Nat} (hk : w.heap[k]? = some (.cells cs T fr)) (h1 : T ≠ 101) (h2 : T ≠ 116) (h3 : T ≠ 105) (h4 : T ≠ 120) (h5 : T ≠ 30) : k ∉ mine a vd vr vu:=fun hm => by
 have tt : ∀ {cs' : Array Value} {T' : TypeId} {fr' : Nat × Nat},w.heap[k]? = some (.cells cs' T' fr') → T = T':=fun e => by rw [e] at hk; simp only [Option.some.injEq,Obj.cells.injEq] at hk; exact hk.2.1.symm
 rcases mine_iff.1 hm with rfl | rfl | rfl | rfl | rfl | rfl | rfl | e | e | e
 ·exact h1 (tt h.d.row)
 ·obtain ⟨x,cl,e⟩:=h.d.mp.isMap; rw [e] at hk; cases hk
 ·exact h3 (tt h.r.row)
 ·obtain ⟨x,cl,e⟩:=h.r.sp.isMap; rw [e] at hk; cases hk
 ·exact h3 (tt h.u.row)
 ·obtain ⟨x,cl,e⟩:=h.u.sp.isMap; rw [e] at hk; cases hk
 ·exact h5 (tt h.x)
 ·obtain ⟨cs',e'⟩:=own_row h.d.pus e; exact h2 (tt e')
 ·obtain ⟨cs',e'⟩:=own_row h.r.own e; exact h4 (tt e')
 ·obtain ⟨cs',e'⟩:=own_row h.u.own e; exact h4 (tt e')
def SgIn (B : Nat) (w : World) (a : Sa) (X : List Nat) (s : Sg) : Prop:=∃ vd vr vu,SgAt B w a vd vr vu s ∧ X = mine a vd vr vu
def SgOut (B : Nat) (w : World) (a : Sa) (X : List Nat) (s : Sg) (w' : World) : Prop:=∃ X',SgIn B w' a X' s ∧ Sole X w w' ∧ ∀ k ∈ X',k ∈ X ∨ w.heap.size ≤ k
theorem SgIn.below {B : Nat} {w w' : World} {a : Sa} {X : List Nat} {s : Sg} (h : SgIn B w a X s) (hb : Below w.heap.size w w') : SgIn B w' a X s:=by
 obtain ⟨vd,vr,vu,h,rfl⟩:=h
 exact ⟨vd,vr,vu,h.below hb,rfl⟩
theorem SgIn.drew {B : Nat} {w : World} {a : Sa} {X : List Nat} {s : Sg} (h : SgIn B w a X s) : SgIn B w.drew a X s:=h.below (Below.refl _ _).drew
theorem SgIn.lt {B : Nat} {w : World} {a : Sa} {X : List Nat} {s : Sg} (h : SgIn B w a X s) : ∀ k ∈ X,k < w.heap.size:=by
 obtain ⟨vd,vr,vu,h,rfl⟩:=h
 exact h.lt
theorem SgIn.out {B : Nat} {w w' : World} {a : Sa} {X : List Nat} {s : Sg} (h : SgIn B w a X s) (hb : Below w.heap.size w w') : SgOut B w a X s w':=⟨X,h.below hb,Sole.of_below hb X,fun k hk => .inl hk⟩
theorem SgOut.pre {B : Nat} {w w1 w2 : World} {a : Sa} {X : List Nat} {s : Sg} (hb : Below w.heap.size w w1) (h : SgOut B w1 a X s w2) : SgOut B w a X s w2:=by
 obtain ⟨X',h1,h2,h3⟩:=h
 exact ⟨X',h1,(Sole.of_below hb X).trans h2,fun k hk => (h3 k hk).imp id (Nat.le_trans hb.size)⟩
theorem SgOut.post {B : Nat} {w w1 w2 : World} {a : Sa} {X : List Nat} {s : Sg} (h : SgOut B w a X s w1) (hb : Below w1.heap.size w1 w2) : SgOut B w a X s w2:=by
 obtain ⟨X',h1,h2,h3⟩:=h
 exact ⟨X',h1.below hb,h2.trans (Sole.of_below hb X),h3⟩
theorem SgOut.then {B : Nat} {w w1 w2 : World} {a : Sa} {X X1 : List Nat} {s : Sg} (hs : Sole X w w1) (hx : ∀ k ∈ X1,k ∈ X ∨ w.heap.size ≤ k) (h : SgOut B w1 a X1 s w2) : SgOut B w a X s w2:=by
 obtain ⟨X',h1,h2,h3⟩:=h
 exact ⟨X',h1,hs.after h2 hx,fun k hk => by
  rcases h3 k hk with e | e
  ·exact hx k e
  ·exact .inr (Nat.le_trans hs.size e)⟩
theorem Sole.row {X : List Nat} {w w' : World} (h : Sole X w w') {k : Nat} {o : Obj} (hk : w.heap[k]? = some o) (hn : k ∉ X) : w'.heap[k]? = some o:=(h.block k (lt_of_row hk) hn).trans hk
theorem SgIn.keep {B : Nat} {w w' : World} {a : Sa} {X : List Nat} {s : Sg} (h : SgIn B w a X s) (hs : w.heap.size ≤ w'.heap.size) (hk : ∀ k,k < w.heap.size → (k < B ∨ k ∈ X ∨ k = a.s ∨ k = a.v ∨ k = a.g) → w'.heap[k]? = w.heap[k]?) : SgIn B w' a X s:=by
 obtain ⟨vd,vr,vu,h,rfl⟩:=h
 exact ⟨vd,vr,vu,h.keep hs hk,rfl⟩
theorem SgIn.lts {B : Nat} {w : World} {a : Sa} {X : List Nat} {s : Sg} (h : SgIn B w a X s) : a.s < w.heap.size ∧ a.v < w.heap.size ∧ a.g < w.heap.size ∧ B ≤ w.heap.size:=by
 obtain ⟨vd,vr,vu,h,rfl⟩:=h
 obtain ⟨ad,n,cap,hS,_⟩:=h.so
 exact ⟨lt_of_row h.sr,h.vw.lt,hS.lt,h.le⟩
theorem SgOut.fin {B : Nat} {w w4 w5 w6 : World} {a : Sa} {X : List Nat} {s s' : Sg} (h : SgIn B w a X s) (hb : Below w.heap.size w w4) (ho : SgOut B w4 a X s' w5) {g : Nat} (hg : w.heap.size ≤ g) (hg4 : g < w4.heap.size) (hs : Sole [g] w5 w6) : SgOut B w a X s' w6:=by
 obtain ⟨X',h1,h2,h3⟩:=ho
 obtain ⟨l1,l2,l3,l4⟩:=h.lts
 have lX:=h.lt
 refine ⟨X',h1.keep hs.size (fun k hk hc => hs.block k hk (fun e => ?_)),((Sole.of_below hb X).trans h2).after hs (fun k hk => .inr (by rw [List.mem_singleton] at hk; omega)),fun k hk => (h3 k hk).imp id (Nat.le_trans hb.size)⟩
 rw [List.mem_singleton] at e
 subst e
 rcases hc with hc | hc | hc | hc | hc
 ·omega
 ·rcases h3 k hc with e | e
  ·have:=lX k e; omega
  ·omega
 ·omega
 ·omega
 ·omega
theorem kq_sole {p b : Nat} {v v' : Value} {w w' : World} (k : KeepQ p b v w w' v') {X : List Nat} (hp : p ∈ X) (hb : b ∈ X) (hv : ∀ q,v.ownBlock = some q → q ∈ X) : Sole X w w' :=
 ⟨k.os,k.tape,k.output,k.size,fun i hi hn => k.block i hi (fun e => hn (e ▸ hp)) (fun e => hn (e ▸ hb)) (fun e => hn (hv i e))⟩
theorem SgAt.put {B : Nat} {w w' : World} {a : Sa} {vd vr vu vd' : Value} {s : Sg} (h : SgAt B w a vd vr vu s) {d : Dl} (hd : DlAt w' a.p a.b vd' d) (k : KeepQ a.p a.b vd w w' vd') : SgOut B w a (mine a vd vr vu) { s with d:=d } w':=by
 obtain ⟨ad,n,cap,hS,hq⟩:=h.so
 have B1 : ∀ k,k < w.heap.size → k < B → w'.heap[k]? = w.heap[k]?:=fun i hi hl => k.block i hi (fun e => by have:=h.ge a.p (mine_iff.2 (by simp)); omega) (fun e => by have:=h.ge a.b (mine_iff.2 (by simp)); omega) (fun e => by have:=h.ge i (mine_iff.2 (by simp [e])); omega)
 have row : ∀ {i : Nat} {cs : Array Value} {T : TypeId} {fr : Nat × Nat},w.heap[i]? = some (.cells cs T fr) → T ≠ 101 → T ≠ 116 → w'.heap[i]? = some (.cells cs T fr):=fun hi h1 h2 => k.row h.d hi h1 h2
 have eqr : ∀ {i : Nat} {cs : Array Value} {T : TypeId} {fr : Nat × Nat},w.heap[i]? = some (.cells cs T fr) → T ≠ 101 → T ≠ 116 → w'.heap[i]? = w.heap[i]?:=fun hi h1 h2 => (row hi h1 h2).trans hi.symm
 have mp : ∀ {i : Nat} {es : Array MapEntry} {cl : Nat},w.heap[i]? = some (.map es cl) → a.b ≠ i → w'.heap[i]? = w.heap[i]?:=fun {i es cl} hi hne => k.block i (lt_of_row hi) (fun e => by rw [e,h.d.row] at hi; cases hi) (fun e => hne e.symm) (fun e => by obtain ⟨cs,e'⟩:=own_row h.d.pus e; rw [e'] at hi; cases hi)
 have keepS : ∀ {p b : Nat} {v : Value} {L : List Tc},SetAt w p b v L → a.b ≠ b → SetAt w' p b v L:=fun {p b v L} hs hne => hs.keep k.size (fun i hi e => by
  rcases e with rfl | rfl | e
  ·exact eqr hs.row (by decide) (by decide)
  ·obtain ⟨x,cl,e⟩:=hs.sp.isMap; exact mp e hne
  ·obtain ⟨cs,e'⟩:=own_row hs.own e; exact eqr e' (by decide) (by decide))
 have hge : ∀ q ∈ mine a vd' vr vu,q ∈ mine a vd vr vu ∨ w.heap.size ≤ q:=fun q hq => by
  rcases mine_iff.1 hq with e | e | e | e | e | e | e | e | e | e
  all_goals first | exact .inl (mine_iff.2 (by simp [e]; done)) | (rcases k.own q e with e' | e'; exact .inl (mine_iff.2 (by simp [e'])); exact .inr e')
 refine ⟨mine a vd' vr vu,⟨vd',vr,vu,⟨row h.sr (by decide) (by decide),⟨row h.vw.row (by decide) (by decide)⟩,⟨ad,n,cap,⟨row hS.row (by decide) (by decide),hS.at_.keep hq k.size B1⟩,hq⟩,hd,keepS h.r h.brb,keepS h.u h.bub,row h.x (by decide) (by decide),h.n0,h.n1,h.ru,h.rub,h.brb,h.bub,h.vv,?_,Nat.le_trans h.le k.size⟩,rfl⟩,kq_sole k (mine_iff.2 (by simp)) (mine_iff.2 (by simp)) (fun q e => mine_iff.2 (by simp [e])),hge⟩
 intro q hq
 rcases hge q hq with e | e
 ·exact h.ge q e
 ·exact Nat.le_trans h.le e
theorem SgAt.set_ {B : Nat} {w w' : World} {a : Sa} {vd vr vu : Value} {s : Sg} (h : SgAt B w a vd vr vu s) {p b p2 b2 : Nat} {v v' v2 : Value} {L L2 : List Tc} (hs : SetAt w p b v L) (hs2 : SetAt w p2 b2 v2 L2) (k : KeepQ p b v w w' v') (hbb : a.b ≠ b) (hpp : p ≠ p2) (hb2 : b ≠ b2) (hvv : ∀ q,v.ownBlock = some q → v2.ownBlock ≠ some q)
  (hm : ∀ q,q = p ∨ q = b ∨ v.ownBlock = some q → q ∈ mine a vd vr vu) : Sole (mine a vd vr vu) w w' ∧ SetAt w' p2 b2 v2 L2 ∧ DlAt w' a.p a.b vd s.d ∧ VwAt w' a.v a.g a.p ∧ (∃ ad n cap,SoAt w' a.g ad n cap s.l ∧ (∀ q,0 < n → ad = some q → q.block < B)) ∧
  w'.heap[a.s]? = some (.cells #[.pointer (some ⟨a.v,0,none⟩),.pointer (some ⟨a.r,0,none⟩),.pointer (some ⟨a.u,0,none⟩),alV a.x] 62 (0,0)) ∧ w'.heap[a.x]? = some (.cells #[.int .u32 s.n] 30 (0,0)):=by
 obtain ⟨ad,n,cap,hS,hq⟩:=h.so
 have eqr : ∀ {i : Nat} {cs : Array Value} {T : TypeId} {fr : Nat × Nat},w.heap[i]? = some (.cells cs T fr) → T ≠ 105 → T ≠ 120 → w'.heap[i]? = w.heap[i]?:=fun {i cs T fr} hi h1 h2 => k.block i (lt_of_row hi) (fun e => by rw [e,hs.row] at hi; simp only [Option.some.injEq,Obj.cells.injEq] at hi; exact h1 hi.2.1.symm) (fun e => by obtain ⟨x,cl,e'⟩:=hs.sp.isMap; rw [e,e'] at hi; cases hi) (fun e => by obtain ⟨cs',e'⟩:=own_row hs.own e; rw [e'] at hi; simp only [Option.some.injEq,Obj.cells.injEq] at hi; exact h2 hi.2.1.symm)
 have mp : ∀ {i : Nat} {es : Array MapEntry} {cl : Nat},w.heap[i]? = some (.map es cl) → b ≠ i → w'.heap[i]? = w.heap[i]?:=fun {i es cl} hi hne => k.block i (lt_of_row hi) (fun e => by rw [e,hs.row] at hi; cases hi) (fun e => hne e.symm) (fun e => by obtain ⟨cs,e'⟩:=own_row hs.own e; rw [e'] at hi; cases hi)
 refine ⟨kq_sole k (hm _ (.inl rfl)) (hm _ (.inr (.inl rfl))) (fun q e => hm q (.inr (.inr e))),hs2.keep k.size (fun i hi e => ?_),?_,⟨(eqr h.vw.row (by decide) (by decide)).trans h.vw.row⟩,⟨ad,n,cap,⟨(eqr hS.row (by decide) (by decide)).trans hS.row,hS.at_.keep hq k.size ?_⟩,hq⟩,(eqr h.sr (by decide) (by decide)).trans h.sr,(eqr h.x (by decide) (by decide)).trans h.x⟩
 ·rcases e with rfl | rfl | e
  ·exact k.block _ hi hpp.symm (fun e => by obtain ⟨x,cl,e'⟩:=hs.sp.isMap; rw [← e,hs2.row] at e'; cases e') (fun e => by obtain ⟨cs,e'⟩:=own_row hs.own e; exact absurd rfl (ne_of_type e' hs2.row (by decide)))
  ·obtain ⟨x,cl,e⟩:=hs2.sp.isMap; exact mp e hb2
  ·obtain ⟨cs,e'⟩:=own_row hs2.own e
   exact k.block i hi (ne_of_type e' hs.row (by decide)) (fun e2 => by obtain ⟨x,cl,e3⟩:=hs.sp.isMap; rw [← e2,e'] at e3; cases e3) (fun e2 => hvv i e2 e)
 ·exact ⟨(eqr h.d.row (by decide) (by decide)).trans h.d.row,h.d.mp.keep (by obtain ⟨x,cl,e⟩:=h.d.mp.isMap; exact mp e (Ne.symm hbb)),own_keep h.d.pus k.size (fun q hq hl => by obtain ⟨cs,e⟩:=own_row h.d.pus hq; exact eqr e (by decide) (by decide)),h.d.ok⟩
 ·exact fun i hi hl => k.block i hi (fun e => by have:=h.ge _ (hm i (.inl e)); omega) (fun e => by have:=h.ge _ (hm i (.inr (.inl e))); omega) (fun e => by have:=h.ge _ (hm i (.inr (.inr e))); omega)
theorem SgAt.read {B : Nat} {w w' : World} {a : Sa} {vd vr vu vr' : Value} {s : Sg} (h : SgAt B w a vd vr vu s) {R : List Tc} (hr : SetAt w' a.r a.rb vr' R) (k : KeepQ a.r a.rb vr w w' vr') : SgOut B w a (mine a vd vr vu) { s with R:=R } w':=by
 obtain ⟨h1,h2,h3,h4,h5,h6,h7⟩:=h.set_ h.r h.u k h.brb h.ru h.rub h.vv (fun q e => mine_iff.2 (by rcases e with e | e | e <;> simp [e]))
 have hge : ∀ q ∈ mine a vd vr' vu,q ∈ mine a vd vr vu ∨ w.heap.size ≤ q:=fun q hq => by
  rcases mine_iff.1 hq with e | e | e | e | e | e | e | e | e | e
  all_goals first | exact .inl (mine_iff.2 (by simp [e]; done)) | (rcases k.own q e with e' | e'; exact .inl (mine_iff.2 (by simp [e'])); exact .inr e')
 refine ⟨mine a vd vr' vu,⟨vd,vr',vu,⟨h6,h4,h5,h3,hr,h2,h7,h.n0,h.n1,h.ru,h.rub,h.brb,h.bub,fun q hq hq' => ?_,fun q hq => ?_,Nat.le_trans h.le k.size⟩,rfl⟩,h1,hge⟩
 ·rcases k.own q hq with e | e
  ·exact h.vv q e hq'
  ·have:=own_lt h.u.own hq'; omega
 ·rcases hge q hq with e | e
  ·exact h.ge q e
  ·exact Nat.le_trans h.le e
theorem SgAt.wrote {B : Nat} {w w' : World} {a : Sa} {vd vr vu vu' : Value} {s : Sg} (h : SgAt B w a vd vr vu s) {U : List Tc} (hu : SetAt w' a.u a.ub vu' U) (k : KeepQ a.u a.ub vu w w' vu') : SgOut B w a (mine a vd vr vu) { s with U:=U } w':=by
 obtain ⟨h1,h2,h3,h4,h5,h6,h7⟩:=h.set_ h.u h.r k h.bub h.ru.symm h.rub.symm (fun q e e' => h.vv q e' e) (fun q e => mine_iff.2 (by rcases e with e | e | e <;> simp [e]))
 have hge : ∀ q ∈ mine a vd vr vu',q ∈ mine a vd vr vu ∨ w.heap.size ≤ q:=fun q hq => by
  rcases mine_iff.1 hq with e | e | e | e | e | e | e | e | e | e
  all_goals first | exact .inl (mine_iff.2 (by simp [e]; done)) | (rcases k.own q e with e' | e'; exact .inl (mine_iff.2 (by simp [e'])); exact .inr e')
 refine ⟨mine a vd vr vu',⟨vd,vr,vu',⟨h6,h4,h5,h3,h2,hu,h7,h.n0,h.n1,h.ru,h.rub,h.brb,h.bub,fun q hq hq' => ?_,fun q hq => ?_,Nat.le_trans h.le k.size⟩,rfl⟩,h1,hge⟩
 ·rcases k.own q hq' with e | e
  ·exact h.vv q hq e
  ·have:=own_lt h.r.own hq; omega
 ·rcases hge q hq with e | e
  ·exact h.ge q e
  ·exact Nat.le_trans h.le e
open Go.RowKit Go.Maps
theorem irec_any (w : World) (i : Int) : Calls Tryz.prog 58 #[.int .u32 i] w fun e w' => e = .returned (plV (recP i)) ∧ Below w.heap.size w w':=by
 go_enter Tryz.func58,Tryz.ntmps58
 go_wp2
 exact ret_place rfl w.heap.size (recP i) rfl (heap_alloc_new w _) rfl ⟨rfl,(Below.refl _ _).alloc (Nat.le_refl _) _⟩
def tcK (ino k : Int) : Tc:=⟨k,ino,⟨#[]⟩,0,0⟩
theorem tcK_ok {ino k : Int} (h0 : 0 ≤ ino) (h1 : ino ≤ 4294967295) (hk : 0 ≤ k ∧ k ≤ 1000) : TcOk (tcK ino k):=⟨by simp only [tcK]; omega,by simp only [tcK]; omega,h0,h1,Nat.zero_le _,by simp [tcK],by simp [tcK],by simp [tcK],by simp [tcK]⟩
def addK (L : List Tc) (ino : Int) (ks : List Int) : List Tc:=ks.foldl (fun L k => addL L (tcK ino k)) L
theorem addK_take {L : List Tc} {ino : Int} {ks : List Int} {i : Nat} {k : Int} (h : ks[i]? = some k) : addK L ino (ks.take (i + 1)) = addL (addK L ino (ks.take i)) (tcK ino k):=by
 rw [take_next h]; unfold addK; rw [List.foldl_append]; rfl
theorem addL_len (L : List Tc) (t : Tc) : (addL L t).length ≤ L.length + 1:=by
 unfold addL
 repeat' split
 all_goals simp
theorem addK_len (L : List Tc) (ino : Int) (ks : List Int) : (addK L ino ks).length ≤ L.length + ks.length:=by
 induction ks generalizing L with
 | nil => simp [addK]
 | cons k ks ih =>
  have h1:=ih (addL L (tcK ino k))
  have h2:=addL_len L (tcK ino k)
  have h3 : addK L ino (k :: ks) = addK (addL L (tcK ino k)) ino ks:=rfl
  rw [h3,List.length_cons]; omega
def RdKs (w : World) (v : Value) (ks : List Int) : Prop :=
 ∃ a c,v = .slice a ks.length c ∧ ks.length ≤ c ∧ (ks ≠ [] → ∃ b off cs fr,a = some ⟨b,off,none⟩ ∧ w.heap[b]? = some (.cells cs 3 fr) ∧ ∀ i k,ks[i]? = some k → cs[off + i]? = some (.int .i64 k))
theorem RdKs.keep {w w' : World} {v : Value} {ks : List Int} (h : RdKs w v ks) (hk : ∀ (b : Nat) (cs : Array Value) (fr : Nat × Nat),w.heap[b]? = some (Obj.cells cs 3 fr) → w'.heap[b]? = some (Obj.cells cs 3 fr)) : RdKs w' v ks:=by
 obtain ⟨a,c,rfl,h1,h2⟩:=h
 refine ⟨a,c,rfl,h1,fun hn => ?_⟩
 obtain ⟨b,off,cs,fr,rfl,h3,h4⟩:=h2 hn
 exact ⟨b,off,cs,fr,rfl,hk _ _ _ h3,h4⟩
theorem RdKs.below {w w' : World} {v : Value} {ks : List Int} (h : RdKs w v ks) (hb : Below w.heap.size w w') : RdKs w' v ks:=h.keep fun b cs fr e => (hb.block b (Array.getElem?_eq_some_iff.1 e).1).trans e
theorem KeepQ.ints {w w' : World} {p b : Nat} {v v' : Value} {L : List Tc} (h : SetAt w p b v L) (k : KeepQ p b v w w' v') {i : Nat} {cs : Array Value} {fr : Nat × Nat} (hi : w.heap[i]? = some (.cells cs 3 fr)) : w'.heap[i]? = some (.cells cs 3 fr) :=
 (k.block i (Array.getElem?_eq_some_iff.1 hi).1 (ne_of_type hi h.row (by decide)) (fun e => by obtain ⟨x,cl,e'⟩:=h.sp.isMap; rw [e,e'] at hi; cases hi) (fun e => by obtain ⟨cs',e'⟩:=own_row h.own e; exact absurd rfl (ne_of_type hi e' (by decide)))).trans hi
theorem RdKs.cell {w : World} {a : Option Addr} {n c : Nat} {ks : List Int} (h : RdKs w (.slice a n c) ks) {i : Nat} {k : Int} (hk : ks[i]? = some k) : ∃ b off,a = some ⟨b,off,none⟩ ∧ w.cell? ⟨b,off + i,none⟩ = some (.int .i64 k):=by
 obtain ⟨a',c',e,h1,h2⟩:=h
 simp only [Value.slice.injEq] at e
 obtain ⟨rfl,_,_⟩:=e
 obtain ⟨b,off,cs,fr,rfl,h3,h4⟩:=h2 (by intro e; subst e; simp at hk)
 exact ⟨b,off,rfl,by rw [cell_of_row _ _ _ _ _ _ h3]; exact h4 i k hk⟩
theorem touch_any {w : World} {p b : Nat} {v : Value} {L : List Tc} (h : SetAt w p b v L) (ino : Int) (h0 : 0 ≤ ino) (h1 : ino ≤ 4294967295) (a : Option Addr) (n c : Nat) (ks : List Int) (hr : RdKs w (.slice a n c) ks) (hks : ∀ k ∈ ks,0 ≤ k ∧ k ≤ 1000) (hn : n ≤ 100) (hL : L.length ≤ 18000) :
  Calls Tryz.prog 29 #[.pointer (some ⟨p,0,none⟩),.int .u32 ino,.slice a n c] w fun e w' => e = .returned (.tuple #[]) ∧ AddOut w p b v (addK L ino ks) w':=by
 have hl : ks.length = n:=by obtain ⟨a',c',e,_⟩:=hr; simp only [Value.slice.injEq] at e; exact e.2.1.symm
 have HL : Hid (ks.length = n):=hl
 have H0 : Hid (SetAt w p b v L):=h
 have HR : Hid (RdKs w (.slice a n c) ks):=hr
 have HK : Hid (∀ k ∈ ks,0 ≤ k ∧ k ≤ 1000):=hks
 have HLn : Hid (L.length ≤ 18000):=hL
 obtain ⟨R,hR⟩ : ∃ R,addK L ino ks = R:=⟨_,rfl⟩
 rw [hR]
 have HF : Hid (addK L ino ks = R):=hR
 clear hr hl h hks hR hL
 go_enter Tryz.func29,Tryz.ntmps29
 go_wp2
 go_loopg [7,10] n (fun kx s7 s10 wr => ∃ i : Nat,s10 = .int .i64 i ∧ i ≤ n ∧ n - i ≤ kx ∧ Hid (AddOut w p b v (addK L ino (ks.take i)) wr ∧ RdKs wr (.slice a n c) ks))
 case atStart => exact ⟨0,rfl,Nat.zero_le _,by omega,⟨v,H0.out,KeepQ.of_below (Below.refl _ _)⟩,HR.out⟩
 case round =>
  obtain ⟨i,rfl,hin,hkx,HW⟩:=hrel
  by_cases hlt : i < n
  ·obtain ⟨y,hy⟩ : ∃ y,ks[i]? = some y:=⟨_,List.getElem?_eq_getElem (by have:=HL.out; omega)⟩
   have HY : Hid (ks[i]? = some y):=hy
   obtain ⟨b0,o0,rfl,hcell⟩:=HW.out.2.cell hy
   have hiI : (i : Int) < (n : Int):=by omega
   have hib : (i : Int) + 1 ≤ 1000001:=by omega
   obtain ⟨⟨v1,hs1,hk1⟩,hr1⟩:=HW.out
   have hln : (addK L ino (ks.take i)).length ≤ 20000:=by have h1:=addK_len L ino (ks.take i); have h2:=HLn.out; have h3 : (ks.take i).length ≤ i:=List.length_take_le _ _; omega
   have ca:=add_any hs1 (tcK ino y) (tcK_ok h0 h1 (HK.out y (List.mem_of_getElem? hy))) hln
   have HS1 : Hid (SetAt wr p b v1 (addK L ino (ks.take i))):=hs1
   have HK1 : Hid (KeepQ p b v w wr v1):=hk1
   have HR1 : Hid (RdKs wr (.slice (some ⟨b0,o0,none⟩) n c) ks):=hr1
   unfold ptr tcK tcC at ca
   dsimp only at ca
   clear hy hs1 hk1 hr1 hln HW
   go_wp2_with fail
   refine ca.mono ?_
   rintro e w2 ⟨rfl,v2,hs2,hk2⟩
   have HS2 : Hid (SetAt w2 p b v2 (addL (addK L ino (ks.take i)) (tcK ino y))):=hs2
   have HK2 : Hid (KeepQ p b v1 wr w2 v2):=hk2
   clear ca hs2 hk2
   go_wp2
   go_roundg (n - (i + 1))
   case measure => omega
   case rel =>
    refine ⟨i + 1,by rw [show ((i : Int) + 1) = ((i + 1 : Nat) : Int) by omega],by omega,by omega,⟨v2,by rw [addK_take HY.out]; exact HS2.out,HK1.out.trans HK2.out⟩,HR1.out.keep fun k cs fr e => HK2.out.ints HS1.out e⟩
  ·obtain rfl : n = i:=by omega
   go_wp2
   go_end0
   refine ⟨rfl,?_⟩
   have:=HW.out.1
   rw [List.take_of_length_le (by have:=HL.out; omega),HF.out] at this
   exact this
def intE (k : Int) : List Value:=[.int .i64 k]
theorem int_len (k : Int) : (intE k).length = 1:=rfl
theorem int_one (k : Int) : ∀ u ∈ intE k,u.oneCell' = true:=fun u hu => by simp [intE] at hu; rw [hu]; rfl
theorem info_int : (Tryz.prog.info? 3).map (fun i => (i.zero,i.size,i.bytes)) = some (some (.int .i64 0),1,8):=by kernel_rfl
theorem rdKs_own {w : World} {base : Nat} {v : Value} {ks : List Int} (h : OwnL base 3 1 intE w v ks) : RdKs w v ks:=by
 obtain ⟨h1,h2⟩:=h
 rcases h2 with ⟨rfl,hn⟩ | ⟨g,cap,cur,rfl,hb,hg,hn,hm,hs,ht⟩
 ·have : ks = []:=List.eq_nil_of_length_eq_zero hn
  subst this
  exact ⟨none,0,rfl,Nat.le_refl _,fun h => absurd rfl h⟩
 ·refine ⟨_,cap,rfl,hn,fun _ => ⟨g,0,cur,_,rfl,hg,fun i k hi => ?_⟩⟩
  have e:=flat_atR 1 intE int_len ks i k 0 (.int .i64 k) hi rfl
  rw [← ht,List.getElem?_take] at e
  split at e
  ·rw [Nat.zero_add,← Array.getElem?_toList]
   rw [Nat.mul_one,Nat.add_zero] at e; exact e
  ·cases e
def kindsL (f : Int) : List Int:=(if bF f 1 then [1] else []) ++ (if bF f 2 then [2] else []) ++ (if bF f 4 then [3] else [])
def kindsT (f : Int) (i : Nat) : List Int:=(if 0 < i then (if bF f 1 then [1] else []) else []) ++ (if 1 < i then (if bF f 2 then [2] else []) else []) ++ (if 2 < i then (if bF f 4 then [3] else []) else [])
theorem kindsT_len (f : Int) (i : Nat) : (kindsT f i).length ≤ 3:=by
 unfold kindsT
 repeat' split
 all_goals simp
theorem kindsL_len (f : Int) : (kindsL f).length ≤ 3:=by
 unfold kindsL
 repeat' split
 all_goals simp
theorem kindsL_ok (f : Int) : ∀ k ∈ kindsL f,0 ≤ k ∧ k ≤ 1000:=by
 unfold kindsL
 repeat' split
 all_goals (intro k hk; simp at hk; try omega)
theorem rd_one (w : World) (x : Int) : RdZ 1 intE (w.alloc (.cells #[.int .i64 x] 3)) (.slice (some ⟨w.heap.size,0,none⟩) 1 1) [x] :=
 rdZ_own int_len (base:=w.heap.size) (e:=3) ⟨rfl,.inr ⟨w.heap.size,1,#[.int .i64 x],rfl,Nat.le_refl _,heap_alloc_new _ _,Nat.le_refl _,by decide,rfl,rfl⟩⟩
theorem kindsOf_any (w : World) (f : Int) : Calls Tryz.prog 82 #[.int .i64 f] w fun e w' => ∃ a c,e = .returned (.slice a (kindsL f).length c) ∧ OwnL w.heap.size 3 1 intE w' (.slice a (kindsL f).length c) (kindsL f) ∧ Below w.heap.size w w':=by
 obtain ⟨iE,hiE,hz0,hz1,hz2⟩:=info_parts info_int
 obtain ⟨R,hR⟩ : ∃ R,kindsL f = R:=⟨_,rfl⟩
 rw [hR]
 have HF : Hid (kindsL f = R):=hR
 clear hR
 have ix0 : ∀ W : World,(Instr.index 201 (.agg #[.int .i64 1,.int .i64 1,.int .i64 2,.int .i64 2,.int .i64 4,.int .i64 3]) (.int .i64 0)).run Tryz.prog W = .ok (.agg #[.int .i64 1,.int .i64 1]) W:=fun W => by kernel_rfl
 have ix1 : ∀ W : World,(Instr.index 201 (.agg #[.int .i64 1,.int .i64 1,.int .i64 2,.int .i64 2,.int .i64 4,.int .i64 3]) (.int .i64 1)).run Tryz.prog W = .ok (.agg #[.int .i64 2,.int .i64 2]) W:=fun W => by kernel_rfl
 have ix2 : ∀ W : World,(Instr.index 201 (.agg #[.int .i64 1,.int .i64 1,.int .i64 2,.int .i64 2,.int .i64 4,.int .i64 3]) (.int .i64 2)).run Tryz.prog W = .ok (.agg #[.int .i64 4,.int .i64 3]) W:=fun W => by kernel_rfl
 go_enter Tryz.func82,Tryz.ntmps82
 go_wp2
 go_loopg [3,10] 3 (fun kx s3 s10 wr => ∃ (i : Nat) (a : Option Addr) (n c : Nat),s10 = .int .i64 i ∧ s3 = .slice a n c ∧ i ≤ 3 ∧ 3 - i ≤ kx ∧ Hid (Below w.heap.size w wr ∧ OwnL w.heap.size 3 1 intE wr (.slice a n c) (kindsT f i)))
 case atStart => exact ⟨0,none,0,0,rfl,rfl,by omega,by omega,Below.refl _ _,OwnL.nil _ _ _ _ _⟩
 case round =>
  obtain ⟨i,a,n,c,rfl,rfl,hin,hkx,HW⟩:=hrel
  by_cases hlt : i < 3
  ·obtain rfl | rfl | rfl : i = 0 ∨ i = 1 ∨ i = 2:=by omega
   ·cases hb : (bits .and .i64 f 1 != 0) with
    | false =>
     have e1 : kindsT f 1 = kindsT f 0:=by unfold kindsT bF; simp [hb]
     go_wp2
     go_roundg 2
     case measure => omega
     case rel => exact ⟨1,a,n,c,rfl,rfl,by omega,by omega,HW.out.1.trans ((bel1 _ _).mono HW.out.1.size),by rw [e1]; exact HW.out.2.below (bel1 _ _)⟩
    | true =>
     have e1 : kindsT f 1 = kindsT f 0 ++ [1]:=by unfold kindsT bF; simp [hb]
     have E1 : Hid (kindsT f 1 = kindsT f 0 ++ [1]):=e1
     have b1:=bel2 wr (.cells #[.int .i64 1,.int .i64 1] 200) (.cells #[.int .i64 1] 3)
     have r1:=rd_one (wr.alloc (.cells #[.int .i64 1,.int .i64 1] 200)) 1
     rw [World.size_alloc] at r1
     have o1:=HW.out.2.below b1
     have B1 : Hid _:=HW.out.1.trans (b1.mono HW.out.1.size)
     have KL:=kindsT_len f 0
     have HKL : Hid ((kindsT f 0).length ≤ 3):=KL
     clear e1 KL
     go_wp2_with (refine wpList_append_E int_len int_one Tryz.underlying132 hiE hz0 hz1 hz2 rfl (by decide) (by decide) rfl _ _ rfl w.heap.size _ _ rfl o1 _ [1] rfl r1 (by have:=HKL.out; simp; omega) B1.out.size ?_; rintro v2 w2 ho2 hg2)
     obtain ⟨a2,c2,rfl⟩:=row_slice ho2
     have HO2 : Hid _:=ho2
     have HG2 : Hid _:=hg2
     clear ho2 hg2 o1 r1 b1
     go_roundg 2
     case measure => omega
     case rel =>
      have hl : (.slice a2 ((kindsT f 0 ++ [1]).length) c2 : Value) = .slice a2 (kindsT f 0 ++ [1]).length c2:=rfl
      refine ⟨1,a2,_,c2,rfl,rfl,by omega,by omega,tgrown_below B1.out HG2.out ?_ B1.out.size,by rw [E1.out]; exact HO2.out⟩
      intro g hg
      rcases HW.out.2.2 with ⟨e,_⟩ | ⟨g',cap,cur,e,hb',_⟩
      ·rw [e] at hg; cases hg
      ·rw [e] at hg; cases hg; exact hb'
   ·cases hb : (bits .and .i64 f 2 != 0) with
    | false =>
     have e1 : kindsT f 2 = kindsT f 1:=by unfold kindsT bF; simp [hb]
     go_wp2
     go_roundg 1
     case measure => omega
     case rel => exact ⟨2,a,n,c,rfl,rfl,by omega,by omega,HW.out.1.trans ((bel1 _ _).mono HW.out.1.size),by rw [e1]; exact HW.out.2.below (bel1 _ _)⟩
    | true =>
     have e1 : kindsT f 2 = kindsT f 1 ++ [2]:=by unfold kindsT bF; simp [hb]
     have E1 : Hid (kindsT f 2 = kindsT f 1 ++ [2]):=e1
     have b1:=bel2 wr (.cells #[.int .i64 2,.int .i64 2] 200) (.cells #[.int .i64 2] 3)
     have r1:=rd_one (wr.alloc (.cells #[.int .i64 2,.int .i64 2] 200)) 2
     rw [World.size_alloc] at r1
     have o1:=HW.out.2.below b1
     have B1 : Hid _:=HW.out.1.trans (b1.mono HW.out.1.size)
     have KL:=kindsT_len f 1
     have HKL : Hid ((kindsT f 1).length ≤ 3):=KL
     clear e1 KL
     go_wp2_with (refine wpList_append_E int_len int_one Tryz.underlying132 hiE hz0 hz1 hz2 rfl (by decide) (by decide) rfl _ _ rfl w.heap.size _ _ rfl o1 _ [2] rfl r1 (by have:=HKL.out; simp; omega) B1.out.size ?_; rintro v2 w2 ho2 hg2)
     obtain ⟨a2,c2,rfl⟩:=row_slice ho2
     have HO2 : Hid _:=ho2
     have HG2 : Hid _:=hg2
     clear ho2 hg2 o1 r1 b1
     go_roundg 1
     case measure => omega
     case rel =>
      have hl : (.slice a2 ((kindsT f 1 ++ [2]).length) c2 : Value) = .slice a2 (kindsT f 1 ++ [2]).length c2:=rfl
      refine ⟨2,a2,_,c2,rfl,rfl,by omega,by omega,tgrown_below B1.out HG2.out ?_ B1.out.size,by rw [E1.out]; exact HO2.out⟩
      intro g hg
      rcases HW.out.2.2 with ⟨e,_⟩ | ⟨g',cap,cur,e,hb',_⟩
      ·rw [e] at hg; cases hg
      ·rw [e] at hg; cases hg; exact hb'
   ·cases hb : (bits .and .i64 f 4 != 0) with
    | false =>
     have e1 : kindsT f 3 = kindsT f 2:=by unfold kindsT bF; simp [hb]
     go_wp2
     go_roundg 0
     case measure => omega
     case rel => exact ⟨3,a,n,c,rfl,rfl,by omega,by omega,HW.out.1.trans ((bel1 _ _).mono HW.out.1.size),by rw [e1]; exact HW.out.2.below (bel1 _ _)⟩
    | true =>
     have e1 : kindsT f 3 = kindsT f 2 ++ [3]:=by unfold kindsT bF; simp [hb]
     have E1 : Hid (kindsT f 3 = kindsT f 2 ++ [3]):=e1
     have b1:=bel2 wr (.cells #[.int .i64 4,.int .i64 3] 200) (.cells #[.int .i64 3] 3)
     have r1:=rd_one (wr.alloc (.cells #[.int .i64 4,.int .i64 3] 200)) 3
     rw [World.size_alloc] at r1
     have o1:=HW.out.2.below b1
     have B1 : Hid _:=HW.out.1.trans (b1.mono HW.out.1.size)
     have KL:=kindsT_len f 2
     have HKL : Hid ((kindsT f 2).length ≤ 3):=KL
     clear e1 KL
     go_wp2_with (refine wpList_append_E int_len int_one Tryz.underlying132 hiE hz0 hz1 hz2 rfl (by decide) (by decide) rfl _ _ rfl w.heap.size _ _ rfl o1 _ [3] rfl r1 (by have:=HKL.out; simp; omega) B1.out.size ?_; rintro v2 w2 ho2 hg2)
     obtain ⟨a2,c2,rfl⟩:=row_slice ho2
     have HO2 : Hid _:=ho2
     have HG2 : Hid _:=hg2
     clear ho2 hg2 o1 r1 b1
     go_roundg 0
     case measure => omega
     case rel =>
      have hl : (.slice a2 ((kindsT f 2 ++ [3]).length) c2 : Value) = .slice a2 (kindsT f 2 ++ [3]).length c2:=rfl
      refine ⟨3,a2,_,c2,rfl,rfl,by omega,by omega,tgrown_below B1.out HG2.out ?_ B1.out.size,by rw [E1.out]; exact HO2.out⟩
      intro g hg
      rcases HW.out.2.2 with ⟨e,_⟩ | ⟨g',cap,cur,e,hb',_⟩
      ·rw [e] at hg; cases hg
      ·rw [e] at hg; cases hg; exact hb'
  ·obtain rfl : i = 3:=by omega
   have e1 : kindsT f 3 = R:=by rw [← HF.out]; unfold kindsT kindsL; simp
   have hl:=HW.out.2.1
   rw [e1] at hl
   obtain ⟨hB,hO⟩:=HW.out
   rw [e1] at hO
   have hnn : n = R.length:=by
    obtain ⟨a',c',e⟩:=row_slice hO
    simp only [Value.slice.injEq] at e
    exact e.2.1
   subst hnn
   have HO : Hid _:=hO
   have HB : Hid _:=hB
   clear hO hB HW hl
   go_wp2
   go_ret
   exact ⟨a,c,rfl,HO.out,HB.out⟩
structure In4 where
 k : Int
 m : Int
 l : Int
 s : Int
def in0 : In4:=⟨0,0,0,0⟩
def inV (i : In4) : Value:=.agg #[.int .i64 i.k,.int .i64 i.m,.int .i64 i.l,.int .i64 i.s]
def fiE (f : Int × Int) : List Value:=[.int .i64 f.1,.int .i64 f.2]
theorem fi_len (f : Int × Int) : (fiE f).length = 2:=rfl
def wf1 (st : Option (In4 × Int)) (f : Int × Int) : Option (In4 × Int) :=
 match st with
 | none => none
 | some (i,sum) => if bits .and .i64 sum f.1 != 0 then none else if f.1 = 1 then some (⟨i.k,f.2,i.l,i.s⟩,bits .or .i64 sum 1) else if f.1 = 2 then some (⟨i.k,i.m,f.2,i.s⟩,bits .or .i64 sum 2) else if f.1 = 4 then some (⟨i.k,i.m,i.l,f.2⟩,bits .or .i64 sum 4) else none
def wfL (i : In4) (fs : List (Int × Int)) : Option (In4 × Int):=fs.foldl wf1 (some (i,0))
def wfR (i : In4) (fs : List (Int × Int)) : In4 × Int × Bool:=match wfL i fs with | none => (in0,0,false) | some (j,sum) => (j,sum,true)
theorem wf_none (fs : List (Int × Int)) : fs.foldl wf1 none = none:=by
 induction fs with
 | nil => rfl
 | cons f fs ih => exact ih
theorem wfL_stop {i : In4} {fs : List (Int × Int)} {k : Nat} {f : Int × Int} (h : fs[k]? = some f) (hn : wf1 (wfL i (fs.take k)) f = none) : wfL i fs = none:=by
 have e : fs = fs.take k ++ f :: fs.drop (k + 1):=by
  rw [List.getElem?_eq_some_iff] at h
  obtain ⟨hl,rfl⟩:=h
  simp
 rw [e]; unfold wfL at hn ⊢; rw [List.foldl_append,List.foldl_cons,hn,wf_none]
theorem wfL_next {i : In4} {fs : List (Int × Int)} {k : Nat} {f : Int × Int} (h : fs[k]? = some f) : wfL i (fs.take (k + 1)) = wf1 (wfL i (fs.take k)) f:=by
 rw [take_next h]; unfold wfL; rw [List.foldl_append]; rfl
theorem ret_in2 {fn : Func} {R : Ending → World → Prop} {a : Act} {w : World} {p u : Tmp} (h : fn.results = #[.cell p 41,.tmp u]) (g : Nat) (k m l s : Int) (hp : a.tmps.getD p undef = .pointer (some ⟨g,0,none⟩)) (v : Value) (hu : a.tmps.getD u undef = v)
  (hg : InRow w g k m l s) (hd : a.defers = []) (hR : R (.returned (.tuple #[.agg #[.int .i64 k,.int .i64 m,.int .i64 l,.int .i64 s],v])) w) : bodyPost Tryz.prog fn R .ret a w:=by
 refine bodyPost_ret ?_ hd hR
 have hp' : a.tmps[p]?.getD undef = .pointer (some ⟨g,0,none⟩):=by simpa using hp
 have hu' : a.tmps[u]?.getD undef = v:=by simpa using hu
 have hl:=run_loadVar_row (P:=Tryz.prog) w g _ 41 _ _ _ hg.row Tryz.underlying41 rfl (by kernel_rfl)
 simp [results,h,hp',hu',asAddr,hl,Result.andThen]
theorem ret_in3 {fn : Func} {R : Ending → World → Prop} {a : Act} {w : World} {p u x : Tmp} (h : fn.results = #[.cell p 41,.tmp u,.tmp x]) (g : Nat) (k m l s : Int) (hp : a.tmps.getD p undef = .pointer (some ⟨g,0,none⟩)) (v : Value) (hu : a.tmps.getD u undef = v) (v' : Value) (hx : a.tmps.getD x undef = v')
  (hg : InRow w g k m l s) (hd : a.defers = []) (hR : R (.returned (.tuple #[.agg #[.int .i64 k,.int .i64 m,.int .i64 l,.int .i64 s],v,v'])) w) : bodyPost Tryz.prog fn R .ret a w:=by
 refine bodyPost_ret ?_ hd hR
 have hp' : a.tmps[p]?.getD undef = .pointer (some ⟨g,0,none⟩):=by simpa using hp
 have hu' : a.tmps[u]?.getD undef = v:=by simpa using hu
 have hx' : a.tmps[x]?.getD undef = v':=by simpa using hx
 have hl:=run_loadVar_row (P:=Tryz.prog) w g _ 41 _ _ _ hg.row Tryz.underlying41 rfl (by kernel_rfl)
 simp [results,h,hp',hu',hx',asAddr,hl,Result.andThen]
structure WfS (w W : World) (i : In4) : Prop where
 i : InRow W w.heap.size i.k i.m i.l i.s
 r : InRow W (w.heap.size + 1) 0 0 0 0
 bel : Below w.heap.size w W
 lt : w.heap.size + 1 < W.heap.size
theorem WfS.below {w W W' : World} {i : In4} (h : WfS w W i) (hb : Below W.heap.size W W') : WfS w W' i:=⟨h.i.below hb,h.r.below hb,h.bel.trans (hb.mono h.bel.size),Nat.lt_of_lt_of_le h.lt hb.size⟩
theorem WfS.set {w W : World} {i : In4} (h : WfS w W i) {j : In4} {o : Nat} {v : Value} (hr : InRow (W.setCell ⟨w.heap.size,o,none⟩ v) w.heap.size j.k j.m j.l j.s) : WfS w (W.setCell ⟨w.heap.size,o,none⟩ v) j :=
 ⟨hr,h.r.apart _ _ _ (by omega),h.bel.setCell (Nat.le_refl _) _,by simpa [World.setCell] using h.lt⟩
theorem InRow.set1 {w : World} {g : Nat} {k m l s : Int} (h : InRow w g k m l s) (x : Int) : InRow (w.setCell ⟨g,1,none⟩ (.int .i64 x)) g k x l s:=⟨heap_setCell_same w g 1 _ _ (.int .i64 x) h.row⟩
theorem InRow.set2 {w : World} {g : Nat} {k m l s : Int} (h : InRow w g k m l s) (x : Int) : InRow (w.setCell ⟨g,2,none⟩ (.int .i64 x)) g k m x s:=⟨heap_setCell_same w g 2 _ _ (.int .i64 x) h.row⟩
theorem InRow.set3 {w : World} {g : Nat} {k m l s : Int} (h : InRow w g k m l s) (x : Int) : InRow (w.setCell ⟨g,3,none⟩ (.int .i64 x)) g k m l x:=⟨heap_setCell_same w g 3 _ _ (.int .i64 x) h.row⟩
theorem fi_cells {w : World} {a : Option Addr} {n c : Nat} {l : List (Int × Int)} (h : RdZ 2 fiE w (.slice a n c) l) {i : Nat} {f : Int × Int} (hx : l[i]? = some f) :
  ∃ b off,a = some ⟨b,off,none⟩ ∧ b < w.heap.size ∧ w.cell? ⟨b,off + i * 2,none⟩ = some (.int .i64 f.1) ∧ w.cell? ⟨b,off + i * 2 + 1,none⟩ = some (.int .i64 f.2):=by
 obtain ⟨⟨a',c',e,h1,h2,h3⟩,_⟩:=h
 simp only [Value.slice.injEq] at e
 obtain ⟨rfl,rfl,rfl⟩:=e
 obtain ⟨b,off,rfl,hlt,hc⟩:=h3 (by intro e; subst e; simp at hx)
 exact ⟨b,off,rfl,hlt,hc i f 0 _ hx rfl,hc i f 1 _ hx rfl⟩
theorem wf_any (w : World) (i : In4) (a : Option Addr) (n c : Nat) (fs : List (Int × Int)) (hr : RdZ 2 fiE w (.slice a n c) fs) (hn : n ≤ 1000) : Calls Tryz.prog 81 #[inV i,.slice a n c] w fun e w' =>
  e = .returned (.tuple #[inV (wfR i fs).1,.int .i64 (wfR i fs).2.1,.bool (wfR i fs).2.2]) ∧ Below w.heap.size w w':=by
 obtain ⟨hl,hnc,hcm⟩:=hr.len
 have HL : Hid (fs.length = n):=hl
 have HR : Hid (RdZ 2 fiE w (.slice a n c) fs):=hr
 have hS : WfS w ((w.alloc (.cells #[.int .i64 i.k,.int .i64 i.m,.int .i64 i.l,.int .i64 i.s] 41)).alloc (.cells #[.int .i64 0,.int .i64 0,.int .i64 0,.int .i64 0] 41)) i:=by
  have h1 : InRow (w.alloc (.cells #[.int .i64 i.k,.int .i64 i.m,.int .i64 i.l,.int .i64 i.s] 41)) w.heap.size i.k i.m i.l i.s:=⟨heap_alloc_new w _⟩
  have h2:=heap_alloc_new (w.alloc (.cells #[.int .i64 i.k,.int .i64 i.m,.int .i64 i.l,.int .i64 i.s] 41)) (.cells #[.int .i64 0,.int .i64 0,.int .i64 0,.int .i64 0] 41)
  rw [World.size_alloc] at h2
  exact ⟨h1.below (bel1 _ _),⟨h2⟩,bel2 _ _ _,by simp⟩
 have HS : Hid _:=hS
 obtain ⟨w1,hw1⟩ : ∃ w1,((w.alloc (.cells #[.int .i64 i.k,.int .i64 i.m,.int .i64 i.l,.int .i64 i.s] 41)).alloc (.cells #[.int .i64 0,.int .i64 0,.int .i64 0,.int .i64 0] 41)) = w1:=⟨_,rfl⟩
 rw [hw1] at HS
 obtain ⟨R,hR⟩ : ∃ R,wfR i fs = R:=⟨_,rfl⟩
 rw [hR]
 have HF : Hid (wfR i fs = R):=hR
 unfold inV
 clear hr hl hnc hcm hS hR
 go_enter Tryz.func81,Tryz.ntmps81
 go_wp2
 try rw [hw1]
 clear hw1
 go_loopg [7,12] n (fun kx s7 s12 wr => ∃ (t : Nat) (j : In4) (sum : Int),s12 = .int .i64 t ∧ s7 = .int .i64 sum ∧ t ≤ n ∧ n - t ≤ kx ∧ Hid (WfS w wr j ∧ wfL i (fs.take t) = some (j,sum)))
 case atStart => exact ⟨0,i,0,rfl,rfl,Nat.zero_le _,by omega,HS.out,rfl⟩
 case round =>
  obtain ⟨t,j,sum,rfl,rfl,hin,hkx,HW⟩:=hrel
  obtain ⟨jk,jm,jl,js⟩:=j
  by_cases hlt : t < n
  ·obtain ⟨⟨fb,fv⟩,hy⟩ : ∃ y,fs[t]? = some y:=⟨_,List.getElem?_eq_getElem (by have:=HL.out; omega)⟩
   have HY : Hid (fs[t]? = some (fb,fv)):=hy
   have hrd:=HR.out.below (HW.out.1.bel)
   obtain ⟨b0,o0,rfl,hb0,c0,c1⟩:=fi_cells hrd hy
   have hiI : (t : Int) < (n : Int):=by omega
   have hib : (t : Int) + 1 ≤ 1000001:=by omega
   have hS2:=HW.out.1.below (bel1 wr (.cells #[.int .i64 fb,.int .i64 fv] 139))
   have v0 : (wr.alloc (.cells #[.int .i64 fb,.int .i64 fv] 139)).cell? ⟨wr.heap.size,0,none⟩ = some (.int .i64 fb):=by rw [cell_of_row _ _ _ _ _ (0,0) (heap_alloc_new wr _)]; rfl
   have v1 : (wr.alloc (.cells #[.int .i64 fb,.int .i64 fv] 139)).cell? ⟨wr.heap.size,1,none⟩ = some (.int .i64 fv):=by rw [cell_of_row _ _ _ _ _ (0,0) (heap_alloc_new wr _)]; rfl
   have HLT : Hid (w.heap.size + 1 < wr.heap.size):=HW.out.1.lt
   have hne : ¬ wr.heap.size = w.heap.size:=by have:=HLT.out; omega
   obtain ⟨w2,hw2⟩ : ∃ w2,wr.alloc (.cells #[.int .i64 fb,.int .i64 fv] 139) = w2:=⟨_,rfl⟩
   rw [hw2] at hS2 v0 v1
   have HS2 : Hid (WfS w w2 ⟨jk,jm,jl,js⟩):=hS2
   have r0:=hS2.r.cell 0 _ rfl
   have r1:=hS2.r.cell 1 _ rfl
   have r2:=hS2.r.cell 2 _ rfl
   have r3:=hS2.r.cell 3 _ rfl
   have q0:=hS2.r.fr 0
   have q1:=hS2.r.fr 1
   have q2:=hS2.r.fr 2
   have q3:=hS2.r.fr 3
   have i1:=hS2.i.cell 1 _ rfl
   have i2:=hS2.i.cell 2 _ rfl
   have i3:=hS2.i.cell 3 _ rfl
   have f1:=hS2.i.fr 1
   have f2:=hS2.i.fr 2
   have f3:=hS2.i.fr 3
   dsimp only at i1 i2 i3
   have HN : Hid (wfL i (fs.take t) = some (⟨jk,jm,jl,js⟩,sum)):=HW.out.2
   clear hy hrd hS2
   cases ha : (bits .and .i64 sum fb != 0) with
   | true =>
    have HE : Hid (R = (in0,0,false)):=by
     unfold Hid; rw [← HF.out]; unfold wfR; rw [wfL_stop HY.out (by rw [HN.out]; unfold wf1; simp [ha])]
    go_wp2_with (fail)
    try go_wp2
    refine ret_in3 rfl (w.heap.size + 1) 0 0 0 0 rfl _ rfl _ rfl (InRow.put HS2.out.r _ _ _ _) rfl ⟨by rw [HE.out]; rfl,?_⟩
    exact (((HS2.out.bel.setCell (by dsimp only; omega) _).setCell (by dsimp only; omega) _).setCell (by dsimp only; omega) _).setCell (by dsimp only; omega) _
   | false =>
    by_cases h1 : fb = 1
    ·subst h1
     have HE : Hid (wfL i (fs.take (t + 1)) = some (⟨jk,fv,jl,js⟩,bits .or .i64 sum 1)):=by
      unfold Hid; rw [wfL_next HY.out,HN.out]; unfold wf1; simp [ha]
     have HP : Hid (WfS w (w2.setCell ⟨w.heap.size,1,none⟩ (.int .i64 fv)) ⟨jk,fv,jl,js⟩):=HS2.out.set (HS2.out.i.set1 fv)
     clear HN HF
     go_wp2
     go_roundg (n - (t + 1))
     case measure => omega
     case rel => exact ⟨t + 1,⟨jk,fv,jl,js⟩,_,by rw [show ((t : Int) + 1) = ((t + 1 : Nat) : Int) by omega],rfl,by omega,by omega,HP.out,HE.out⟩
    have h1b : (fb == 1) = false:=by simpa using h1
    by_cases h2 : fb = 2
    ·subst h2
     have HE : Hid (wfL i (fs.take (t + 1)) = some (⟨jk,jm,fv,js⟩,bits .or .i64 sum 2)):=by
      unfold Hid; rw [wfL_next HY.out,HN.out]; unfold wf1; simp [ha]
     have HP : Hid (WfS w (w2.setCell ⟨w.heap.size,2,none⟩ (.int .i64 fv)) ⟨jk,jm,fv,js⟩):=HS2.out.set (HS2.out.i.set2 fv)
     clear HN HF
     go_wp2
     go_roundg (n - (t + 1))
     case measure => omega
     case rel => exact ⟨t + 1,⟨jk,jm,fv,js⟩,_,by rw [show ((t : Int) + 1) = ((t + 1 : Nat) : Int) by omega],rfl,by omega,by omega,HP.out,HE.out⟩
    have h2b : (fb == 2) = false:=by simpa using h2
    by_cases h4 : fb = 4
    ·subst h4
     have HE : Hid (wfL i (fs.take (t + 1)) = some (⟨jk,jm,jl,fv⟩,bits .or .i64 sum 4)):=by
      unfold Hid; rw [wfL_next HY.out,HN.out]; unfold wf1; simp [ha]
     have HP : Hid (WfS w (w2.setCell ⟨w.heap.size,3,none⟩ (.int .i64 fv)) ⟨jk,jm,jl,fv⟩):=HS2.out.set (HS2.out.i.set3 fv)
     clear HN HF
     go_wp2
     go_roundg (n - (t + 1))
     case measure => omega
     case rel => exact ⟨t + 1,⟨jk,jm,jl,fv⟩,_,by rw [show ((t : Int) + 1) = ((t + 1 : Nat) : Int) by omega],rfl,by omega,by omega,HP.out,HE.out⟩
    have h4b : (fb == 4) = false:=by simpa using h4
    have HE : Hid (R = (in0,0,false)):=by
     unfold Hid; rw [← HF.out]; unfold wfR; rw [wfL_stop HY.out (by rw [HN.out]; unfold wf1; simp [ha,h1,h2,h4])]
    clear HN HF
    go_wp2
    refine ret_in3 rfl (w.heap.size + 1) 0 0 0 0 rfl _ rfl _ rfl (InRow.put HS2.out.r _ _ _ _) rfl ⟨by rw [HE.out]; rfl,?_⟩
    exact (((HS2.out.bel.setCell (by dsimp only; omega) _).setCell (by dsimp only; omega) _).setCell (by dsimp only; omega) _).setCell (by dsimp only; omega) _
  ·obtain rfl : n = t:=by omega
   have HE : Hid (R = (⟨jk,jm,jl,js⟩,sum,true)):=by
    unfold Hid; rw [← HF.out]; unfold wfR; have:=HW.out.2; rw [List.take_of_length_le (by have:=HL.out; omega)] at this; rw [this]
   have HS2 : Hid (WfS w wr ⟨jk,jm,jl,js⟩):=HW.out.1
   have hS2:=HS2.out
   have r0:=hS2.r.cell 0 _ rfl
   have r1:=hS2.r.cell 1 _ rfl
   have r2:=hS2.r.cell 2 _ rfl
   have r3:=hS2.r.cell 3 _ rfl
   have q0:=hS2.r.fr 0
   have q1:=hS2.r.fr 1
   have q2:=hS2.r.fr 2
   have q3:=hS2.r.fr 3
   have i0:=hS2.i.cell 0 _ rfl
   have i1:=hS2.i.cell 1 _ rfl
   have i2:=hS2.i.cell 2 _ rfl
   have i3:=hS2.i.cell 3 _ rfl
   dsimp only at i0 i1 i2 i3
   clear hS2 HF HW
   go_wp2
   refine ret_in3 rfl (w.heap.size + 1) jk jm jl js rfl _ rfl _ rfl (InRow.put HS2.out.r _ _ _ _) rfl ⟨by rw [HE.out]; rfl,?_⟩
   exact (((HS2.out.bel.setCell (by dsimp only; omega) _).setCell (by dsimp only; omega) _).setCell (by dsimp only; omega) _).setCell (by dsimp only; omega) _
def plE4 (p : Pl) : List Value:=[.int .u32 p.ino,.int .i64 p.part,.string p.name,.int .u32 p.chunk]
theorem plE4_len (p : Pl) : (plE4 p).length = 4:=rfl
theorem plE4_one (p : Pl) : ∀ u ∈ plE4 p,u.oneCell' = true:=fun u hu => by
 simp [plE4] at hu
 rcases hu with rfl | rfl | rfl | rfl <;> rfl
theorem info_pl : (Tryz.prog.info? 110).map (fun i => (i.zero,i.size,i.bytes)) = some (some (plV pl0),4,40):=by kernel_rfl
def chunksL (ino : Int) (n : Nat) : List Pl:=recP ino :: (List.range n).map fun (k : Nat) => datP ino (k : Int)
def placesL (ino : Int) (i : In4) : List Pl:=chunksL ino (if i.k = 1 then (i.s.toNat + 31) / 32 else 0)
theorem chunksL_next (ino : Int) (n : Nat) : chunksL ino (n + 1) = chunksL ino n ++ [datP ino n]:=by simp [chunksL,List.range_succ]
theorem chunksL_len (ino : Int) (n : Nat) : (chunksL ino n).length = n + 1:=by simp [chunksL]
theorem rd_pl (w : World) (p : Pl) : RdZ 4 plE4 (w.alloc (.cells (plCells p) 110)) (.slice (some ⟨w.heap.size,0,none⟩) 1 1) [p] :=
 rdZ_own plE4_len (base:=w.heap.size) (e:=110) ⟨rfl,.inr ⟨w.heap.size,1,plCells p,rfl,Nat.le_refl _,heap_alloc_new _ _,Nat.le_refl _,by decide,rfl,rfl⟩⟩
theorem own_pl (w : World) (p : Pl) : OwnL w.heap.size 110 4 plE4 (w.alloc (.cells (plCells p) 110)) (.slice (some ⟨w.heap.size,0,none⟩) 1 1) [p] :=
 ⟨rfl,.inr ⟨w.heap.size,1,plCells p,rfl,Nat.le_refl _,heap_alloc_new _ _,Nat.le_refl _,by decide,rfl,rfl⟩⟩
theorem placesOf_any (w : World) (ino : Int) (h0 : 0 ≤ ino) (h1 : ino ≤ 4294967295) (i : In4) (hs0 : 0 ≤ i.s) (hs1 : i.s ≤ 512) : Calls Tryz.prog 71 #[.int .u32 ino,inV i] w fun e w' =>
  ∃ a c,e = .returned (.slice a (placesL ino i).length c) ∧ OwnL w.heap.size 110 4 plE4 w' (.slice a (placesL ino i).length c) (placesL ino i) ∧ Below w.heap.size w w':=by
 obtain ⟨iE,hiE,hz0,hz1,hz2⟩:=info_parts info_pl
 obtain ⟨ik,im,il,is⟩:=i
 obtain ⟨z,rfl⟩ : ∃ z : Nat,is = (z : Int):=⟨is.toNat,by dsimp only at hs0; omega⟩
 dsimp only at hs1
 have hz : z ≤ 512:=by omega
 have hq : ((z : Int) + 32 - 1) / 32 = ((z + 31) / 32 : Nat):=by omega
 have hN : (z + 31) / 32 ≤ 16:=by omega
 have b1:=bel1 w (.cells #[.int .i64 ik,.int .i64 im,.int .i64 il,.int .i64 (z : Int)] 41)
 have hI : InRow (w.alloc (.cells #[.int .i64 ik,.int .i64 im,.int .i64 il,.int .i64 (z : Int)] 41)) w.heap.size ik im il z:=⟨heap_alloc_new w _⟩
 obtain ⟨w1,hw1⟩ : ∃ w1,w.alloc (.cells #[.int .i64 ik,.int .i64 im,.int .i64 il,.int .i64 (z : Int)] 41) = w1:=⟨_,rfl⟩
 rw [hw1] at b1 hI
 have cr:=irec_any w1 ino
 obtain ⟨R,hR⟩ : ∃ R,placesL ino ⟨ik,im,il,z⟩ = R:=⟨_,rfl⟩
 rw [hR]
 have HF : Hid (placesL ino ⟨ik,im,il,z⟩ = R):=hR
 clear hR
 unfold inV
 dsimp only
 unfold plV recP at cr
 dsimp only at cr
 go_enter Tryz.func71,Tryz.ntmps71
 go_wp2_with fail
 refine cr.mono ?_
 rintro e w2 ⟨rfl,hb2⟩
 have b3:=bel1 w2 (.cells (plCells (recP ino)) 110)
 have hI3:=(hI.below hb2).below b3
 have o3:=own_pl w2 (recP ino)
 have B3:=thenB b1 (thenB hb2 b3)
 have HL2 : Hid (w.heap.size ≤ w2.heap.size):=(thenB b1 hb2).size
 clear cr hI hw1
 obtain ⟨w3,hw3⟩ : ∃ w3,w2.alloc (.cells (plCells (recP ino)) 110) = w3:=⟨_,rfl⟩
 rw [hw3] at b3 hI3 o3 B3
 unfold plCells recP at hw3
 dsimp only at hw3
 have c0:=hI3.cell 0 _ rfl
 have c3:=hI3.cell 3 _ rfl
 have HO3 : Hid _:=OwnL.mono o3 HL2.out
 have HB3 : Hid _:=B3
 by_cases hk : ik = 1
 ·subst hk
  have HR : Hid (R = chunksL ino ((z + 31) / 32)):=by unfold Hid; rw [← HF.out]; simp [placesL]
  clear HF b3 hI3 o3 B3 hb2 b1
  obtain ⟨N,hN'⟩ : ∃ N,(z + 31) / 32 = N:=⟨_,rfl⟩
  rw [hN'] at HR hN hq
  have HN : Hid (N ≤ 16):=hN
  clear hN'
  go_wp2
  rw [hq]
  clear hq c0 c3 hw3
  go_loopg [5,19] N (fun kx s5 s19 wr => ∃ (t : Nat) (a : Option Addr) (n c : Nat),s19 = .int .i64 t ∧ s5 = .slice a n c ∧ t ≤ N ∧ N - t ≤ kx ∧ Hid (Below w.heap.size w wr ∧ OwnL w.heap.size 110 4 plE4 wr (.slice a n c) (chunksL ino t)))
  case atStart => exact ⟨0,_,1,1,rfl,rfl,Nat.zero_le _,by omega,HB3.out,HO3.out⟩
  case round =>
   obtain ⟨t,a,n,c,rfl,rfl,hin,hkx,HW⟩:=hrel
   by_cases hlt : t < N
   ·have hiI : (t : Int) < (N : Int):=by omega
    have hib : (t : Int) + 1 ≤ 1001:=by omega
    have r1:=rd_pl wr (datP ino t)
    have b1:=bel1 wr (.cells (plCells (datP ino t)) 110)
    have o1:=OwnL.below HW.out.2 b1
    have B1 : Hid _:=HW.out.1.trans (b1.mono HW.out.1.size)
    unfold plCells at r1 o1 B1
    unfold datP at r1 o1 B1
    dsimp only at r1 o1 B1
    have hlen : (chunksL ino t).length = t + 1:=chunksL_len _ _
    have HLn : Hid ((chunksL ino t).length = t + 1):=hlen
    clear hlen b1
    go_wp2_with (refine wpList_append_E plE4_len plE4_one Tryz.underlying158 hiE hz0 hz1 hz2 rfl (by decide) (by decide) rfl _ _ rfl w.heap.size _ _ rfl o1 _ [⟨ino,3,⟨#[]⟩,(t : Int)⟩] rfl r1 (by have:=HLn.out; have:=HN.out; simp; omega) B1.out.size ?_; rintro v2 w5 ho2 hg2)
    obtain ⟨a2,c2,rfl⟩:=row_slice ho2
    have HO2 : Hid _:=ho2
    have HG2 : Hid _:=hg2
    clear ho2 hg2 o1 r1
    go_roundg (N - (t + 1))
    case measure => omega
    case rel =>
     refine ⟨t + 1,a2,_,c2,by rw [show ((t : Int) + 1) = ((t + 1 : Nat) : Int) by omega],rfl,by omega,by omega,tgrown_below B1.out HG2.out ?_ B1.out.size,by rw [chunksL_next]; exact HO2.out⟩
     intro g hg
     rcases HW.out.2.2 with ⟨e,_⟩ | ⟨g',cap,cur,e,hb',_⟩
     ·rw [e] at hg; cases hg
     ·rw [e] at hg; cases hg; exact hb'
   ·obtain rfl : N = t:=by omega
    obtain ⟨hB,hO⟩:=HW.out
    have hnn : n = R.length:=by
     obtain ⟨a',c',e⟩:=row_slice hO
     simp only [Value.slice.injEq] at e
     rw [HR.out]
     exact e.2.1
    have hRR:=HR.out
    subst hnn
    rw [← hRR] at hO
    have HO : Hid _:=hO
    have HB : Hid _:=hB
    clear hO hB HW hRR HR
    go_wp2
    go_ret
    exact ⟨a,c,rfl,HO.out,HB.out⟩
 ·have HR : R = [recP ino]:=by rw [← HF.out]; simp [placesL,hk,chunksL]
  subst HR
  have hkb : (ik == 1) = false:=by simpa using hk
  clear b3 hI3 o3 B3 hb2 b1
  go_wp2
  go_ret
  exact ⟨_,_,rfl,HO3.out,HB3.out⟩
open Go.RowKit Go.Maps
def fdF (ino : Int) (r : It × Bool × Int) : In4 × Int:=if ino = 0 then (in0,220) else if r.2.2 ≠ 0 then (in0,r.2.2) else if r.2.1 then (⟨r.1.kind,r.1.mode,r.1.links,r.1.size⟩,0) else (in0,220)
def fdR (s : Sg) (ino : Int) : In4 × Int:=fdF ino (vgR s.l s.d (recP ino))
theorem recP_ok {ino : Int} (h0 : 0 ≤ ino) (h1 : ino ≤ 4294967295) : PlOk (recP ino):=⟨h0,h1,by simp [recP],by simp [recP],Nat.zero_le _,by simp [recP],by simp [recP]⟩
theorem vgR_len (l : List (ByteArray × ByteArray)) (s : Dl) (q : Pl) : (vgR l s q).1.bytes.length = 32:=by
 unfold vgR
 split
 ·exact chR_len _ (stI_ok l _).ch.1 _ _ _
 ·exact (stI_ok l q).ch.1
theorem SgAt.get {B : Nat} {w : World} {a : Sa} {vd vr vu : Value} {s : Sg} (h : SgAt B w a vd vr vu s) (q : Pl) (hq : PlOk q) : Calls Tryz.prog 57 #[.pointer (some ⟨a.v,0,none⟩),plV q] w fun e w' =>
  e = .returned (.tuple #[.agg (itC (vgR s.l s.d q).1),.bool (vgR s.l s.d q).2.1,.int .i64 (vgR s.l s.d q).2.2]) ∧ Below w.heap.size w w':=by
 obtain ⟨ad,n,cap,hS,_⟩:=h.so
 exact vget_any (B:=0) (w0:=w) h.vw ⟨Below.refl _ _,Nat.zero_le _,⟨vd,h.d,fun _ _ => Nat.zero_le _⟩,Nat.zero_le _,Nat.zero_le _⟩ hS q hq
theorem SgIn.get {B : Nat} {w : World} {a : Sa} {X : List Nat} {s : Sg} (h : SgIn B w a X s) (q : Pl) (hq : PlOk q) : Calls Tryz.prog 57 #[.pointer (some ⟨a.v,0,none⟩),plV q] w fun e w' =>
  e = .returned (.tuple #[.agg (itC (vgR s.l s.d q).1),.bool (vgR s.l s.d q).2.1,.int .i64 (vgR s.l s.d q).2.2]) ∧ Below w.heap.size w w':=by
 obtain ⟨vd,vr,vu,h,rfl⟩:=h
 exact h.get q hq
theorem SgIn.row {B : Nat} {w : World} {a : Sa} {X : List Nat} {s : Sg} (h : SgIn B w a X s) : w.heap[a.s]? = some (.cells #[.pointer (some ⟨a.v,0,none⟩),.pointer (some ⟨a.r,0,none⟩),.pointer (some ⟨a.u,0,none⟩),alV a.x] 62 (0,0)):=by
 obtain ⟨vd,vr,vu,h,rfl⟩:=h
 exact h.sr
theorem SgIn.c0 {B : Nat} {w : World} {a : Sa} {X : List Nat} {s : Sg} (h : SgIn B w a X s) : w.cell? ⟨a.s,0,none⟩ = some (.pointer (some ⟨a.v,0,none⟩)):=by rw [cell_of_row _ _ _ _ _ (0,0) h.row]; rfl
theorem SgIn.c1 {B : Nat} {w : World} {a : Sa} {X : List Nat} {s : Sg} (h : SgIn B w a X s) : w.cell? ⟨a.s,1,none⟩ = some (.pointer (some ⟨a.r,0,none⟩)):=by rw [cell_of_row _ _ _ _ _ (0,0) h.row]; rfl
theorem SgIn.c2 {B : Nat} {w : World} {a : Sa} {X : List Nat} {s : Sg} (h : SgIn B w a X s) : w.cell? ⟨a.s,2,none⟩ = some (.pointer (some ⟨a.u,0,none⟩)):=by rw [cell_of_row _ _ _ _ _ (0,0) h.row]; rfl
theorem SgIn.c3 {B : Nat} {w : World} {a : Sa} {X : List Nat} {s : Sg} (h : SgIn B w a X s) : w.cell? ⟨a.s,3,none⟩ = some (alV a.x):=by rw [cell_of_row _ _ _ _ _ (0,0) h.row]; rfl
theorem find_in {B : Nat} {w : World} {a : Sa} {X : List Nat} {s : Sg} (h : SgIn B w a X s) (ino : Int) (h0 : 0 ≤ ino) (h1 : ino ≤ 4294967295) : Calls Tryz.prog 28 #[.pointer (some ⟨a.s,0,none⟩),.int .u32 ino] w fun e w' =>
  e = .returned (.tuple #[inV (fdR s ino).1,.int .i64 (fdR s ino).2]) ∧ Below w.heap.size w w':=by
 have hz:=zeroItem
 have len0:=ch_zero.1
 have al : ∀ (A : World) (o : Obj),Below A.heap.size A (A.alloc o):=fun A o => (Below.refl _ A).alloc (Nat.le_refl _) o
 have hb1:=al w (.cells #[.int .i64 0,.int .i64 0,.int .i64 0,.int .i64 0] 41)
 have hr1 : InRow (w.alloc (.cells #[.int .i64 0,.int .i64 0,.int .i64 0,.int .i64 0] 41)) w.heap.size 0 0 0 0:=⟨heap_alloc_new w _⟩
 obtain ⟨w1,hw1⟩ : ∃ w1,w.alloc (.cells #[.int .i64 0,.int .i64 0,.int .i64 0,.int .i64 0] 41) = w1:=⟨_,rfl⟩
 rw [hw1] at hb1 hr1
 have h1':=h.below hb1
 have cr : ∀ W,Below w1.heap.size w1 W → Calls Tryz.prog 58 #[.int .u32 ino] W fun e w' => e = .returned (plV (recP ino)) ∧ Below W.heap.size W w':=fun W _ => irec_any W ino
 have cg : ∀ W,Below w1.heap.size w1 W → Calls Tryz.prog 57 #[.pointer (some ⟨a.v,0,none⟩),plV (recP ino)] W fun e w' =>
  e = .returned (.tuple #[.agg (itC (vgR s.l s.d (recP ino)).1),.bool (vgR s.l s.d (recP ino)).2.1,.int .i64 (vgR s.l s.d (recP ino)).2.2]) ∧ Below W.heap.size W w':=fun W hW => (h1'.below hW).get _ (recP_ok h0 h1)
 have qv : ∀ W,Below w1.heap.size w1 W → W.cell? ⟨a.s,0,none⟩ = some (.pointer (some ⟨a.v,0,none⟩)):=fun W hW => (h1'.below hW).c0
 have hlen:=vgR_len s.l s.d (recP ino)
 have HF : Hid (fdF ino (vgR s.l s.d (recP ino)) = fdR s ino):=rfl
 generalize fdR s ino = F at *
 generalize vgR s.l s.d (recP ino) = V at *
 obtain ⟨x,is,er⟩:=V
 dsimp only at cg hlen
 have HX : Hid (x.bytes.length = 32):=hlen
 clear hlen h h1'
 by_cases hi : ino = 0
 case pos =>
  subst hi
  have HE : Hid (F = (in0,220)):=by unfold Hid; rw [← HF.out]; rfl
  have r0:=hr1.cell 0 _ rfl
  have r1:=hr1.cell 1 _ rfl
  have r2:=hr1.cell 2 _ rfl
  have r3:=hr1.cell 3 _ rfl
  have q0:=hr1.fr 0
  have q1:=hr1.fr 1
  have q2:=hr1.fr 2
  have q3:=hr1.fr 3
  clear cr cg qv HF
  go_enter Tryz.func28,Tryz.ntmps28
  go_wp2
  refine ret_in2 rfl w.heap.size 0 0 0 0 rfl _ rfl (InRow.put hr1 _ _ _ _) rfl ⟨by rw [HE.out]; rfl,?_⟩
  exact (((hb1.setCell (Nat.le_refl _) _).setCell (Nat.le_refl _) _).setCell (Nat.le_refl _) _).setCell (Nat.le_refl _) _
 have hib : (ino == 0) = false:=by simpa using hi
 have HF2 : Hid ((if er ≠ 0 then (in0,er) else if is then ((⟨x.kind,x.mode,x.links,x.size⟩ : In4),0) else (in0,220)) = F):=by
  have:=HF.out; unfold fdF at this; rw [if_neg hi] at this; exact this
 clear HF
 have HF:=HF2
 clear HF2 hi
 go_enter Tryz.func28,Tryz.ntmps28
 go_wp2_with fail
 refine wp_region_noPanic ?_
 refine wp_region_held_drew (S:=fun W => Below w1.heap.size w1 W) (by kernel_rfl) (Below.refl _ _).drew (fun hHeld => ?_)
 refine tk 0 (.pointer (some ⟨a.s,0,none⟩)) rfl ?_
 try simp only [nz]
 refine tk 1 (.pointer (some ⟨a.s,0,none⟩)) rfl ?_
 try simp only [nz]
 refine tk 2 (.pointer (some ⟨a.s,0,none⟩)) rfl ?_
 try simp only [nz]
 refine tk 3 (.pointer (some ⟨a.v,0,none⟩)) rfl ?_ (fun W hSw => by (try dsimp only at hSw); (have z:=qv W hSw; go_simp))
 try simp only [nz]
 refine tk 4 (.int .u32 ino) rfl ?_
 try simp only [nz]
 refine wpAnyH_ready (rs:=[5,11]) (by kernel_rfl) (by simp) ?_
 refine AllReadyH.cons rfl (fun K hK => ?_) (AllReadyH.cons rfl (fun K hK => ?_) AllReadyH.nil)
 ·skip
  go_simp
  go_wp2_with (go_at_call 58; refine (cr _ (by assumption)).mono ?_; rintro e w5 ⟨rfl,hb5⟩)
  refine hK.out _ _ (hHeld.trans (hb5.mono hHeld.size)) (fun hHeldA => ?_)
  clear hK K
  try simp only [nz]
  refine wpAnyH_ready (rs:=[6,11]) (by kernel_rfl) (by simp) ?_
  refine AllReadyH.cons rfl (fun K hK => ?_) (AllReadyH.cons rfl (fun K hK => ?_) AllReadyH.nil)
  ·skip
   go_simp
   go_wp2_with (go_at_call 57; refine (cg _ (by assumption)).mono ?_; rintro e w6 ⟨rfl,hb6⟩)
   refine hK.out _ _ (hHeldA.trans (hb6.mono hHeldA.size)) (fun hHeldB => ?_)
   clear hK K
   try simp only [nz]
   refine tk 7 (.tuple #[.agg (itC x),.bool is,.int .i64 er]) rfl ?_
   try simp only [nz]
   refine tk 8 (.agg (itC x)) rfl ?_
   try simp only [nz]
   refine tk 9 (.bool is) rfl ?_
   try simp only [nz]
   refine tk 10 (.int .i64 er) rfl ?_
   try simp only [nz]
   refine rd 11 rfl (fun K hK => ?_)
   go_simp
   go_wp2
   have hat:=ItAt.laid 128 w6 it0
   have hba:=al w6 (.cells (itC it0) 128)
   have HGE : Hid (w1.heap.size ≤ w6.heap.size):=hHeldB.size
   obtain ⟨G,hG⟩ : ∃ G,w6.heap.size = G:=⟨_,rfl⟩
   refine hK.out _ _ (hHeldB.trans (hba.mono hHeldB.size)) (fun hHeldC => ?_)
   clear hK K
   obtain ⟨w8,hw8⟩ : ∃ w8,w6.alloc (.cells (itC it0) 128) = w8:=⟨_,rfl⟩
   rw [hw8] at hat hHeldC ⊢
   rw [hG] at hat HGE ⊢
   try simp only [nz]
   clear hba hw8 hG
   refine rd 12 rfl (fun K hK => ?_)
   rw [if_pos (by rfl)]
   refine wp_stI _ _ rfl G x it0 rfl rfl HX.out len0 hat ?_
   refine hK.out _ _ (below_setRow hHeldC HGE.out _) (fun hHeldY => ?_)
   clear hK K
   try simp only [nz]
   have hx7:=hat.setRow x
   obtain ⟨w7,hw7⟩ : ∃ w7,w8.setRow G (itC x) = w7:=⟨_,rfl⟩
   rw [hw7] at hx7 hHeldY ⊢
   have hHeldZ:=hHeldY
   refine tk 13 (.bool is) rfl ?_
   try simp only [nz]
   refine tk 14 (.int .i64 er) rfl ?_
   try simp only [nz]
   clear hw7 hat
   refine wpAnyH_done (by kernel_rfl) ?_ _
   refine NoPanic.normal ?_
   have HB7 : Hid (Below w1.heap.size w1 w7):=hHeldZ
   have hres:=hr1.below hHeldZ
   have r0:=hres.cell 0 _ rfl
   have r1:=hres.cell 1 _ rfl
   have r2:=hres.cell 2 _ rfl
   have r3:=hres.cell 3 _ rfl
   have q0:=hres.fr 0
   have q1:=hres.fr 1
   have q2:=hres.fr 2
   have q3:=hres.fr 3
   have HRES : Hid (InRow w7 w.heap.size 0 0 0 0):=hres
   have lJ : Hid _:=hx7.loadJ
   have HFB : Hid (∀ k m l s : Int,Below w.heap.size w ((((w7.setCell ⟨w.heap.size,0,none⟩ (.int .i64 k)).setCell ⟨w.heap.size,1,none⟩ (.int .i64 m)).setCell ⟨w.heap.size,2,none⟩ (.int .i64 l)).setCell ⟨w.heap.size,3,none⟩ (.int .i64 s))):=fun k m l s => ((((hb1.trans (hHeldZ.mono hb1.size)).setCell (Nat.le_refl _) _).setCell (Nat.le_refl _) _).setCell (Nat.le_refl _) _).setCell (Nat.le_refl _) _
   clear cr cg qv hHeldZ hres hx7 hr1
   by_cases he : er = 0
   case neg =>
    have heb : (er != 0) = true:=by simpa using he
    have HE : Hid (F = (in0,er)):=by unfold Hid; rw [← HF.out,if_pos he]
    go_wp2
    refine ret_in2 rfl w.heap.size 0 0 0 0 rfl _ rfl (InRow.put HRES.out _ _ _ _) rfl ⟨by rw [HE.out]; rfl,HFB.out _ _ _ _⟩
   subst he
   cases is with
   | false =>
    have HE : Hid (F = (in0,220)):=by unfold Hid; rw [← HF.out]; rfl
    go_wp2
    refine ret_in2 rfl w.heap.size 0 0 0 0 rfl _ rfl (InRow.put HRES.out _ _ _ _) rfl ⟨by rw [HE.out]; rfl,HFB.out _ _ _ _⟩
   | true =>
    have HE : Hid (F = (⟨x.kind,x.mode,x.links,x.size⟩,0)):=by unfold Hid; rw [← HF.out]; rfl
    go_wp2_with (refine wpList_loadG rfl 41 _ rfl _ rfl _ lJ.out ?_)
    refine ret_in2 rfl w.heap.size x.kind x.mode x.links x.size rfl _ rfl (InRow.put HRES.out _ _ _ _) rfl ⟨by rw [HE.out]; rfl,HFB.out _ _ _ _⟩
  ·skip
   go_simp
   go_wp2
   have hat:=ItAt.laid 128 w5 it0
   have hba:=al w5 (.cells (itC it0) 128)
   have HGE : Hid (w1.heap.size ≤ w5.heap.size):=hHeldA.size
   obtain ⟨G,hG⟩ : ∃ G,w5.heap.size = G:=⟨_,rfl⟩
   refine hK.out _ _ (hHeldA.trans (hba.mono hHeldA.size)) (fun hHeldC => ?_)
   clear hK K
   obtain ⟨w8,hw8⟩ : ∃ w8,w5.alloc (.cells (itC it0) 128) = w8:=⟨_,rfl⟩
   rw [hw8] at hat hHeldC ⊢
   rw [hG] at hat HGE ⊢
   try simp only [nz]
   clear hba hw8 hG
   refine rd 6 rfl (fun K hK => ?_)
   go_simp
   go_wp2_with (go_at_call 57; refine (cg _ (by assumption)).mono ?_; rintro e w9 ⟨rfl,hb6⟩)
   refine hK.out _ _ (hHeldC.trans (hb6.mono hHeldC.size)) (fun hHeldB => ?_)
   clear hK K
   try simp only [nz]
   refine tk 7 (.tuple #[.agg (itC x),.bool is,.int .i64 er]) rfl ?_
   try simp only [nz]
   refine tk 8 (.agg (itC x)) rfl ?_
   try simp only [nz]
   refine tk 9 (.bool is) rfl ?_
   try simp only [nz]
   refine tk 10 (.int .i64 er) rfl ?_
   try simp only [nz]
   have hat2:=hat.below hb6
   clear hat
   have hat:=hat2
   refine rd 12 rfl (fun K hK => ?_)
   rw [if_pos (by rfl)]
   refine wp_stI _ _ rfl G x it0 rfl rfl HX.out len0 hat ?_
   refine hK.out _ _ (below_setRow hHeldB HGE.out _) (fun hHeldY => ?_)
   clear hK K
   try simp only [nz]
   have hx7:=hat.setRow x
   obtain ⟨w7,hw7⟩ : ∃ w7,w9.setRow G (itC x) = w7:=⟨_,rfl⟩
   rw [hw7] at hx7 hHeldY ⊢
   have hHeldZ:=hHeldY
   refine tk 13 (.bool is) rfl ?_
   try simp only [nz]
   refine tk 14 (.int .i64 er) rfl ?_
   try simp only [nz]
   clear hw7 hat
   refine wpAnyH_done (by kernel_rfl) ?_ _
   refine NoPanic.normal ?_
   have HB7 : Hid (Below w1.heap.size w1 w7):=hHeldZ
   have hres:=hr1.below hHeldZ
   have r0:=hres.cell 0 _ rfl
   have r1:=hres.cell 1 _ rfl
   have r2:=hres.cell 2 _ rfl
   have r3:=hres.cell 3 _ rfl
   have q0:=hres.fr 0
   have q1:=hres.fr 1
   have q2:=hres.fr 2
   have q3:=hres.fr 3
   have HRES : Hid (InRow w7 w.heap.size 0 0 0 0):=hres
   have lJ : Hid _:=hx7.loadJ
   have HFB : Hid (∀ k m l s : Int,Below w.heap.size w ((((w7.setCell ⟨w.heap.size,0,none⟩ (.int .i64 k)).setCell ⟨w.heap.size,1,none⟩ (.int .i64 m)).setCell ⟨w.heap.size,2,none⟩ (.int .i64 l)).setCell ⟨w.heap.size,3,none⟩ (.int .i64 s))):=fun k m l s => ((((hb1.trans (hHeldZ.mono hb1.size)).setCell (Nat.le_refl _) _).setCell (Nat.le_refl _) _).setCell (Nat.le_refl _) _).setCell (Nat.le_refl _) _
   clear cr cg qv hHeldZ hres hx7 hr1
   by_cases he : er = 0
   case neg =>
    have heb : (er != 0) = true:=by simpa using he
    have HE : Hid (F = (in0,er)):=by unfold Hid; rw [← HF.out,if_pos he]
    go_wp2
    refine ret_in2 rfl w.heap.size 0 0 0 0 rfl _ rfl (InRow.put HRES.out _ _ _ _) rfl ⟨by rw [HE.out]; rfl,HFB.out _ _ _ _⟩
   subst he
   cases is with
   | false =>
    have HE : Hid (F = (in0,220)):=by unfold Hid; rw [← HF.out]; rfl
    go_wp2
    refine ret_in2 rfl w.heap.size 0 0 0 0 rfl _ rfl (InRow.put HRES.out _ _ _ _) rfl ⟨by rw [HE.out]; rfl,HFB.out _ _ _ _⟩
   | true =>
    have HE : Hid (F = (⟨x.kind,x.mode,x.links,x.size⟩,0)):=by unfold Hid; rw [← HF.out]; rfl
    go_wp2_with (refine wpList_loadG rfl 41 _ rfl _ rfl _ lJ.out ?_)
    refine ret_in2 rfl w.heap.size x.kind x.mode x.links x.size rfl _ rfl (InRow.put HRES.out _ _ _ _) rfl ⟨by rw [HE.out]; rfl,HFB.out _ _ _ _⟩
 ·skip
  go_simp
  go_wp2
  have hat : ItAt 128 (w1.alloc (.cells (itC it0) 128)).drew w1.heap.size it0:=⟨(ItAt.laid 128 w1 it0).row⟩
  have HGE : Hid (w1.heap.size ≤ w1.heap.size):=Nat.le_refl _
  refine hK.out _ _ (al w1 (.cells (itC it0) 128)).drew (fun hHeldC => ?_)
  clear hK K
  obtain ⟨w8,hw8⟩ : ∃ w8,(w1.alloc (.cells (itC it0) 128)).drew = w8:=⟨_,rfl⟩
  rw [hw8] at hat hHeldC ⊢
  try simp only [nz]
  clear hw8
  refine rd 5 rfl (fun K hK => ?_)
  go_simp
  go_wp2_with (go_at_call 58; refine (cr _ (by assumption)).mono ?_; rintro e w5 ⟨rfl,hb5⟩)
  refine hK.out _ _ (hHeldC.trans (hb5.mono hHeldC.size)) (fun hHeldA => ?_)
  clear hK K
  try simp only [nz]
  have hat2:=hat.below hb5
  clear hat
  have hat:=hat2
  refine rd 6 rfl (fun K hK => ?_)
  go_simp
  go_wp2_with (go_at_call 57; refine (cg _ (by assumption)).mono ?_; rintro e w9 ⟨rfl,hb6⟩)
  refine hK.out _ _ (hHeldA.trans (hb6.mono hHeldA.size)) (fun hHeldB => ?_)
  clear hK K
  try simp only [nz]
  refine tk 7 (.tuple #[.agg (itC x),.bool is,.int .i64 er]) rfl ?_
  try simp only [nz]
  refine tk 8 (.agg (itC x)) rfl ?_
  try simp only [nz]
  refine tk 9 (.bool is) rfl ?_
  try simp only [nz]
  refine tk 10 (.int .i64 er) rfl ?_
  try simp only [nz]
  have hat2:=hat.below hb6
  clear hat
  have hat:=hat2
  refine rd 12 rfl (fun K hK => ?_)
  rw [if_pos (by rfl)]
  refine wp_stI _ _ rfl w1.heap.size x it0 rfl rfl HX.out len0 hat ?_
  refine hK.out _ _ (below_setRow hHeldB HGE.out _) (fun hHeldY => ?_)
  clear hK K
  try simp only [nz]
  have hx7:=hat.setRow x
  obtain ⟨w7,hw7⟩ : ∃ w7,w9.setRow w1.heap.size (itC x) = w7:=⟨_,rfl⟩
  rw [hw7] at hx7 hHeldY ⊢
  have hHeldZ:=hHeldY
  refine tk 13 (.bool is) rfl ?_
  try simp only [nz]
  refine tk 14 (.int .i64 er) rfl ?_
  try simp only [nz]
  clear hw7 hat
  refine wpAnyH_done (by kernel_rfl) ?_ _
  refine NoPanic.normal ?_
  have HB7 : Hid (Below w1.heap.size w1 w7):=hHeldZ
  have hres:=hr1.below hHeldZ
  have r0:=hres.cell 0 _ rfl
  have r1:=hres.cell 1 _ rfl
  have r2:=hres.cell 2 _ rfl
  have r3:=hres.cell 3 _ rfl
  have q0:=hres.fr 0
  have q1:=hres.fr 1
  have q2:=hres.fr 2
  have q3:=hres.fr 3
  have HRES : Hid (InRow w7 w.heap.size 0 0 0 0):=hres
  have lJ : Hid _:=hx7.loadJ
  have HFB : Hid (∀ k m l s : Int,Below w.heap.size w ((((w7.setCell ⟨w.heap.size,0,none⟩ (.int .i64 k)).setCell ⟨w.heap.size,1,none⟩ (.int .i64 m)).setCell ⟨w.heap.size,2,none⟩ (.int .i64 l)).setCell ⟨w.heap.size,3,none⟩ (.int .i64 s))):=fun k m l s => ((((hb1.trans (hHeldZ.mono hb1.size)).setCell (Nat.le_refl _) _).setCell (Nat.le_refl _) _).setCell (Nat.le_refl _) _).setCell (Nat.le_refl _) _
  clear cr cg qv hHeldZ hres hx7 hr1
  by_cases he : er = 0
  case neg =>
   have heb : (er != 0) = true:=by simpa using he
   have HE : Hid (F = (in0,er)):=by unfold Hid; rw [← HF.out,if_pos he]
   go_wp2
   refine ret_in2 rfl w.heap.size 0 0 0 0 rfl _ rfl (InRow.put HRES.out _ _ _ _) rfl ⟨by rw [HE.out]; rfl,HFB.out _ _ _ _⟩
  subst he
  cases is with
  | false =>
   have HE : Hid (F = (in0,220)):=by unfold Hid; rw [← HF.out]; rfl
   go_wp2
   refine ret_in2 rfl w.heap.size 0 0 0 0 rfl _ rfl (InRow.put HRES.out _ _ _ _) rfl ⟨by rw [HE.out]; rfl,HFB.out _ _ _ _⟩
  | true =>
   have HE : Hid (F = (⟨x.kind,x.mode,x.links,x.size⟩,0)):=by unfold Hid; rw [← HF.out]; rfl
   go_wp2_with (refine wpList_loadG rfl 41 _ rfl _ rfl _ lJ.out ?_)
   refine ret_in2 rfl w.heap.size x.kind x.mode x.links x.size rfl _ rfl (InRow.put HRES.out _ _ _ _) rfl ⟨by rw [HE.out]; rfl,HFB.out _ _ _ _⟩
theorem kind_in {B : Nat} {w : World} {a : Sa} {X : List Nat} {s : Sg} (h : SgIn B w a X s) (ino : Int) (h0 : 0 ≤ ino) (h1 : ino ≤ 4294967295) : Calls Tryz.prog 25 #[.pointer (some ⟨a.s,0,none⟩),.int .u32 ino] w fun e w' =>
  e = .returned (.tuple #[.int .i64 (fdR s ino).1.k,.int .i64 (fdR s ino).2]) ∧ Below w.heap.size w w':=by
 have cf:=find_in h ino h0 h1
 generalize fdR s ino = F at *
 obtain ⟨⟨fk,fm,fl,fz⟩,fe⟩:=F
 unfold inV at cf
 dsimp only at cf ⊢
 clear h
 go_enter Tryz.func25,Tryz.ntmps25
 go_wp2_with fail
 refine cf.mono ?_
 rintro e w1 ⟨rfl,hb1⟩
 have hb2:=thenB hb1 (bel1 w1 (.cells #[.int .i64 fk,.int .i64 fm,.int .i64 fl,.int .i64 fz] 41))
 clear cf
 go_wp2
 go_ret2
 exact ⟨rfl,hb2⟩
theorem rdKs_lit (w : World) (ks : List Int) : RdKs (w.alloc (.cells (ks.map (Value.int .i64)).toArray 3)) (.slice (some ⟨w.heap.size,0,none⟩) ks.length ks.length) ks :=
 ⟨_,_,rfl,Nat.le_refl _,fun _ => ⟨w.heap.size,0,_,_,rfl,heap_alloc_new _ _,fun i k hk => by simp [hk]⟩⟩
theorem SgIn.touchR {B : Nat} {w : World} {a : Sa} {X : List Nat} {s : Sg} (h : SgIn B w a X s) (ino : Int) (h0 : 0 ≤ ino) (h1 : ino ≤ 4294967295) (ad : Option Addr) (n c : Nat) (ks : List Int) (hr : RdKs w (.slice ad n c) ks) (hks : ∀ k ∈ ks,0 ≤ k ∧ k ≤ 1000) (hn : n ≤ 100) (hL : s.R.length ≤ 18000) :
  Calls Tryz.prog 29 #[.pointer (some ⟨a.r,0,none⟩),.int .u32 ino,.slice ad n c] w fun e w' => e = .returned (.tuple #[]) ∧ SgOut B w a X { s with R:=addK s.R ino ks } w':=by
 obtain ⟨vd,vr,vu,h,rfl⟩:=h
 refine (touch_any h.r ino h0 h1 ad n c ks hr hks hn hL).mono ?_
 rintro e w' ⟨rfl,v',h2,h3⟩
 exact ⟨rfl,h.read h2 h3⟩
theorem SgIn.touchU {B : Nat} {w : World} {a : Sa} {X : List Nat} {s : Sg} (h : SgIn B w a X s) (ino : Int) (h0 : 0 ≤ ino) (h1 : ino ≤ 4294967295) (ad : Option Addr) (n c : Nat) (ks : List Int) (hr : RdKs w (.slice ad n c) ks) (hks : ∀ k ∈ ks,0 ≤ k ∧ k ≤ 1000) (hn : n ≤ 100) (hL : s.U.length ≤ 18000) :
  Calls Tryz.prog 29 #[.pointer (some ⟨a.u,0,none⟩),.int .u32 ino,.slice ad n c] w fun e w' => e = .returned (.tuple #[]) ∧ SgOut B w a X { s with U:=addK s.U ino ks } w':=by
 obtain ⟨vd,vr,vu,h,rfl⟩:=h
 refine (touch_any h.u ino h0 h1 ad n c ks hr hks hn hL).mono ?_
 rintro e w' ⟨rfl,v',h2,h3⟩
 exact ⟨rfl,h.wrote h2 h3⟩
theorem SgIn.put {B : Nat} {w : World} {a : Sa} {X : List Nat} {s : Sg} (h : SgIn B w a X s) (c : Cg) (hc : CgOk c) (hL : s.d.L.length ≤ 5000) (hP : s.d.pus.length ≤ 5000) :
  Calls Tryz.prog 69 #[.pointer (some ⟨a.v,0,none⟩),.agg (cgC c)] w fun e w' => e = .returned (.int .i64 (putX s.d c).2) ∧ SgOut B w a X { s with d:=putS s.d c } w':=by
 obtain ⟨vd,vr,vu,h,rfl⟩:=h
 refine (vput_q h.vw h.d c hc hL hP).mono ?_
 rintro e w' ⟨rfl,v',h2,h3⟩
 exact ⟨rfl,h.put h2 h3⟩
theorem InRow.sole {w w' : World} {X : List Nat} {g : Nat} {k m l s : Int} (h : InRow w g k m l s) (hs : Sole X w w') (hg : g ∉ X) : InRow w' g k m l s:=⟨hs.row h.row hg⟩
end Go.Proofs.YtgajjphjkbnaeaaGreat
