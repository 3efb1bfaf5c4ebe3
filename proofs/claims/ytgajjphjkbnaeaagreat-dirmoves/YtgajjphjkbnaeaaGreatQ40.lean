/- VwNames2, DrNm: in one text. -/
import Derived.Test.YtgajjphjkbnaeaaGreatQ28
import Derived.Test.YtgajjphjkbnaeaaGreatQ36
import Derived.Test.YtgajjphjkbnaeaaGreatQ39
import Derived.Test.YtgajjphjkbnaeaaGreatQ25
namespace Go.Proofs.YtgajjphjkbnaeaaGreat
open Go.RowKit
set_option linter.unusedVariables false
set_option maxHeartbeats 32000000
set_option maxRecDepth 100000
set_option linter.unusedSimpArgs false
open Go.RowKit Go.Shelf
theorem vnames_any (xv : List Nat) {B : Nat} {w0 w : World} {v g p b : Nat} {s : Dl} {a : Option Addr} {n cap : Nat} {l : List (ByteArray × ByteArray)} (hv : VwAt w v g p) (hd : DlN B w0 w p b s) (hS : SoAt w g a n cap l) (hN : s.L.length ≤ 1000) (h8 : ∀ c ∈ s.L,c.pl.name.size ≤ 8) (ino : Int) (h0 : 0 < ino) (h1 : ino ≤ 4294967295) (hxl : ∀ x ∈ xv,x < w.heap.size) (hxg : g ∉ xv) (hxa : ∀ ad,0 < n → a = some ad → ad.block ∉ xv) :
  Calls Tryz.prog 70 #[.pointer (some ⟨v,0,none⟩),.int .u32 ino] w fun e w' =>
   ∃ lb,e = .returned (.func (.func 100) #[] lb) ∧ (∀ m,SeqOwn m Tryz.prog 100 lb nmE (TV xv) w'.heap.size (fun ys => ys = namesV l s ino) (fun pre => pre <+: namesV l s ino) (l.length + s.L.length) w') ∧ Below w.heap.size w w':=by
 have hsp : spE ino 2 = 0:=by unfold spE; rw [show spOk ino 2 = true by unfold spOk; simp; omega]; rfl
 have cs:=span_any w ino 2 (by omega) h1 (by decide) (by decide)
 rw [hsp] at cs
 have hsok : DlOk s:=by obtain ⟨v,hd,_⟩:=hd.d; exact hd.ok
 go_enter Tryz.func70,Tryz.ntmps70
 go_wp2_with fail
 refine cs.mono ?_
 rintro e w1 ⟨rfl,hb1⟩
 clear cs
 have hbE : Below w1.heap.size w1 (w1.alloc (.cells #[.int .i64 0] 31)):=(Below.refl _ w1).alloc (Nat.le_refl _) _
 have hb2:=thenB hb1 hbE
 have c0:=(hv.below hb2).c0
 unfold baV at c0
 go_wp2_with fail
 obtain ⟨w2,hw2⟩ : ∃ w2,w1.alloc (.cells #[.int .i64 0] 31) = w2:=⟨_,rfl⟩
 rw [hw2] at hbE hb2
 rw [hw2]
 clear hw2 c0
 refine (sfrom_any (w:=w2) (g:=g) (spF ino 2)).mono ?_
 rintro e w3 ⟨rfl,hw3⟩
 have hb3 : Below w2.heap.size w2 w3:=by rw [hw3]; exact ((Below.refl _ w2).alloc (Nat.le_refl _) _).alloc (by simp) _
 have hs3 : Hid (w3.heap.size = w2.heap.size + 2):=by show w3.heap.size = w2.heap.size + 2; rw [hw3]; simp
 have x1 : w3.cell? ⟨w2.heap.size,0,none⟩ = some (.pointer (some ⟨g,0,none⟩)):=by
  rw [hw3]
  exact ((Boxed.new w2 37 (.pointer (some ⟨g,0,none⟩))).alloc _).cell
 have x2 : w3.cell? ⟨w2.heap.size + 1,0,none⟩ = some (.string (spF ino 2)):=by
  rw [hw3]
  have:=(Boxed.new (w2.alloc (.cells #[.pointer (some ⟨g,0,none⟩)] 37)) 9 (.string (spF ino 2))).cell
  rwa [World.size_alloc] at this
 clear hw3
 go_wp2_with fail
 refine (namesOf_any w3 _ _ (spT ino 2)).mono ?_
 rintro e w4 ⟨rfl,hw4⟩
 have hb4 : Below w3.heap.size w3 w4:=by rw [hw4]; exact ((Below.refl _ w3).alloc (Nat.le_refl _) _).alloc (by simp) _
 have hs4 : Hid (w4.heap.size = w3.heap.size + 2):=by show w4.heap.size = w3.heap.size + 2; rw [hw4]; simp
 have y1 : w4.cell? ⟨w3.heap.size,0,none⟩ = some (.func (.func 212) #[] #[.pointer (some ⟨w2.heap.size,0,none⟩),.pointer (some ⟨w2.heap.size + 1,0,none⟩)]):=by
  rw [hw4]
  exact ((Boxed.new w3 186 _).alloc _).cell
 have y2 : w4.cell? ⟨w3.heap.size + 1,0,none⟩ = some (.string (spT ino 2)):=by
  rw [hw4]
  have:=(Boxed.new (w3.alloc (.cells #[.func (.func 212) #[] #[.pointer (some ⟨w2.heap.size,0,none⟩),.pointer (some ⟨w2.heap.size + 1,0,none⟩)]] 186)) 9 (.string (spT ino 2))).cell
  rwa [World.size_alloc] at this
 clear hw4
 have hbw4:=thenB (thenB hb2 hb3) hb4
 have ce:=entries_any (hv.below hbw4) (hd.below hbw4) hN ino
 go_wp2_with fail
 refine ce.mono ?_
 rintro e w5 ⟨ea,ec,rfl,r1,r2,r3,r4,hb5⟩
 clear ce
 go_wp2_with fail
 refine (merged_any w5 _ _ ea _ ec).mono ?_
 rintro e w6 ⟨rfl,hw6⟩
 have hb6 : Below w5.heap.size w5 w6:=by rw [hw6]; exact ((Below.refl _ w5).alloc (Nat.le_refl _) _).alloc (by simp) _
 have hs6 : Hid (w6.heap.size = w5.heap.size + 2):=by show w6.heap.size = w5.heap.size + 2; rw [hw6]; simp
 have z1 : w6.cell? ⟨w5.heap.size,0,none⟩ = some (.func (.func 104) #[] #[.pointer (some ⟨w3.heap.size,0,none⟩),.pointer (some ⟨w3.heap.size + 1,0,none⟩)]):=by
  rw [hw6]
  exact ((Boxed.new w5 156 _).alloc _).cell
 have z2 : w6.cell? ⟨w5.heap.size + 1,0,none⟩ = some (.slice ea (kept ino s.L).length ec):=by
  rw [hw6]
  have:=(Boxed.new (w5.alloc (.cells #[.func (.func 104) #[] #[.pointer (some ⟨w3.heap.size,0,none⟩),.pointer (some ⟨w3.heap.size + 1,0,none⟩)]] 156)) 173 (.slice ea (kept ino s.L).length ec)).cell
  rwa [World.size_alloc] at this
 clear hw6
 have gs3:=hs3.out
 have gs4:=hs4.out
 have gs6:=hs6.out
 have hb36:=thenB (thenB hb4 hb5) hb6
 have hb46:=thenB hb5 hb6
 have hbw6 : Below w.heap.size w w6:=thenB (thenB hbw4 hb5) hb6
 have hS6:=hS.below hbw6
 have k1:=hb36.size
 have k2:=hb46.size
 have hkl : (kept ino s.L).length ≤ s.L.length:=kept_len ino s.L
 have q2:=hb1.size
 have q3:=hbE.size
 have q5:=hb5.size
 have q9 : w4.heap.size ≤ w6.heap.size:=hb46.size
 have hnx : ∀ k,w.heap.size ≤ k → k ∉ xv:=fun k hk hm => by have:=hxl k hm; omega
 have hfrom : ∀ m,SeqOwn m Tryz.prog 212 #[.pointer (some ⟨w2.heap.size,0,none⟩),.pointer (some ⟨w2.heap.size + 1,0,none⟩)] kvE (TV xv) w6.heap.size (fun ys => ys = l.drop (fdN l (spF ino 2))) (fun pre => ∃ j,pre = (l.drop (fdN l (spF ino 2))).take j) l.length w6:=fun m =>
  seqOwn_of (fun x s e => by cases e) (from_stops xv m w2.heap.size (w2.heap.size + 1) g (spF ino 2) a n cap l w6 (by omega) (by omega) ((hb36.cell (p:=⟨w2.heap.size,0,none⟩) (by show w2.heap.size < w3.heap.size; omega)).trans x1) ((hb36.cell (p:=⟨w2.heap.size + 1,0,none⟩) (by show w2.heap.size + 1 < w3.heap.size; omega)).trans x2) hS6 (hnx _ (by omega)) hxg hxa)
 have hnames : ∀ m,SeqOwn m Tryz.prog 104 #[.pointer (some ⟨w3.heap.size,0,none⟩),.pointer (some ⟨w3.heap.size + 1,0,none⟩)] nmE (TV xv) w6.heap.size (fun ys => ys = nmS ((l.drop (fdN l (spF ino 2))).takeWhile fun p => ltS p.1 (spT ino 2))) (fun pre => pre <+: nmS ((l.drop (fdN l (spF ino 2))).takeWhile fun p => ltS p.1 (spT ino 2))) l.length w6:=fun m =>
  names_own xv m _ _ (enters_of Tryz.func212 (by kernel_rfl) rfl) w3.heap.size (w3.heap.size + 1) (spT ino 2) _ l.length w6.heap.size w6 (by omega) (by omega) (hnx _ (by omega)) (Nat.le_refl _) ((hb46.cell (p:=⟨w3.heap.size,0,none⟩) (by show w3.heap.size < w4.heap.size; omega)).trans y1) ((hb46.cell (p:=⟨w3.heap.size + 1,0,none⟩) (by show w3.heap.size + 1 < w4.heap.size; omega)).trans y2) hfrom l.length (Nat.le_refl _)
 have hlen : (nmS ((l.drop (fdN l (spF ino 2))).takeWhile fun p => ltS p.1 (spT ino 2))).length ≤ l.length:=by
  have h1:=nmS_len ((l.drop (fdN l (spF ino 2))).takeWhile fun p => ltS p.1 (spT ino 2))
  have h2:=(List.takeWhile_sublist (fun p : ByteArray × ByteArray => ltS p.1 (spT ino 2)) (l:=l.drop (fdN l (spF ino 2)))).length_le
  rw [List.length_drop] at h2
  omega
 have HM : Hid (∀ m,SeqOwn m Tryz.prog 100 #[.pointer (some ⟨w5.heap.size + 1,0,none⟩),.pointer (some ⟨w5.heap.size,0,none⟩)] nmE (TV xv) w6.heap.size (fun ys => ys = namesV l s ino) (fun pre => pre <+: namesV l s ino) (l.length + s.L.length) w6):=fun m =>
  merged_own xv m _ _ (enters_of Tryz.func104 (by kernel_rfl) rfl) (w5.heap.size + 1) w5.heap.size (kept ino s.L) (fun c hc => hsok.L.ok c (List.mem_filter.1 hc).1) (fun c hc => h8 c (List.mem_filter.1 hc).1) (kept_sort hsok ino) ea _ ec _ l.length w6.heap.size w6 (by omega) (by omega) (Nat.le_refl _) z2 z1 (r1.below hb6) (fun ad e => ⟨Nat.lt_of_lt_of_le (r4 ad e).2 hb6.size,hnx _ (by have:=(r4 ad e).1; have:=hbw4.size; omega)⟩) r2 r3 (by omega) hnames hlen (l.length + s.L.length) (by omega)
 clear hfrom hnames gs3 gs4 gs6 q2 q3 q5 q9
 go_wp2
 go_ret
 exact ⟨_,rfl,HM.out,hbw6⟩
open Go.RowKit Go.Maps Go.Shelf
attribute [local go_sem] Oper.semAt_some
theorem nm_marks {P : Program} {f : FuncId} {fn : Func} {c : Code} {args : Array Value} {w : World} {R : Ending → World → Prop} (hf : P.funcs[f]? = some fn) (hb : fn.body = some c)
  (h : c.wp P (bodyPostM Fence.wide 9 P fn R) { tmps:=args ++ Array.replicate (fn.ntmps - args.size) undef,defers:=[] } w) : Calls P f args w R:=(callsIn_wide (n:=9)).1 (callsIn_of_wp_marks hf hb trivial (wpIn_wide.2 h) rfl)
def nmC (l : List ByteArray) : List Value:=l.map .string
theorem nmC_flat (l : List ByteArray) : nmC l = l.flatMap strE:=by
 induction l with
 | nil => rfl
 | cons x l ih => rw [List.flatMap_cons,← ih]; rfl
theorem nmInfo : ∃ i,Tryz.prog.info? 9 = some i ∧ i.zero = some (.string ⟨#[]⟩) ∧ i.size = 1 ∧ i.bytes = 16:=by
 have h : (Tryz.prog.info? 9).map (fun i => (i.zero,i.size,i.bytes)) = some (some (.string ⟨#[]⟩),1,16):=by kernel_rfl
 cases hi : Tryz.prog.info? 9 with
 | none => rw [hi] at h; cases h
 | some i =>
  rw [hi] at h
  simp only [Option.map_some,Option.some.injEq,Prod.mk.injEq] at h
  exact ⟨i,rfl,h.1,h.2.1,h.2.2⟩
theorem nm_below {w w' : World} {base e k : Nat} {v : Value} {n : Nat} {xs : List Value} (h : w.ownsRow base e k v n xs) (hb : Below w.heap.size w w') : w'.ownsRow base e k v n xs :=
 own_keep h hb.size (fun q _ hl => hb.block q hl)
theorem nm_one {W : World} {u : Value} {e : TypeId} {g : Nat} {fr : Nat × Nat} (h : W.heap[g]? = some (.cells #[u] e fr)) : ∀ j x,[u][j]? = some x → W.cell? ((⟨g,0,none⟩ : Addr).add j) = some x:=by
 intro j x hj
 have hadd : (⟨g,0,none⟩ : Addr).add j = ⟨g,j,none⟩:=by unfold Addr.add; split <;> simp_all
 rw [hadd,cell_of_row _ _ j _ _ _ h,← hj]
 exact List.getElem?_toArray
theorem nm_box {W W' : World} {B : Nat} {t : TypeId} {v : Value} (h : Boxed W B t v) (hb : Below W.heap.size W W') : Boxed W' B t v:=(hb.block _ h.lt).trans h
theorem nm_own {β : Type} (B base : Nat) (v : Value) (n : Nat) (xs : List Value) : OwnFrom B (fun (_ : β) W => W.ownsRow base 9 1 v n xs):=fun s W W' row hs hg hr => by
 refine hs.kept hg ?_
 rcases hs.2 with ⟨rfl,_⟩ | ⟨g,cap,cur,rfl,_,hgb,_⟩
 ·exact .inl rfl
 ·refine .inr fun e' => ?_
  have e2 : row = some g:=e'.symm
  obtain ⟨_,o,ho,hc⟩:=hr g e2
  rw [hgb] at ho
  cases ho
  cases hc
theorem nm_set {base : Nat} {W : World} {v : Value} {n : Nat} {xs : List Value} (h : W.ownsRow base 9 1 v n xs) {b : Nat} {cs : Array Value} {t : TypeId} {fr : Nat × Nat} (hb : W.heap[b]? = some (.cells cs t fr)) (ht : t ≠ 9) (u : Value) : (W.setCell ⟨b,0,none⟩ u).ownsRow base 9 1 v n xs:=by
 refine own_keep h ((Below.refl b W).setCell (p:=⟨b,0,none⟩) (Nat.le_refl _) u).size (fun q hq hl => heap_setCell_other W ⟨b,0,none⟩ q u (fun e => ?_))
 obtain ⟨cs',e'⟩:=own_row h hq
 have e2 : q = b:=e
 rw [e2,hb] at e'
 cases e'
 exact ht rfl
theorem nm_grown {TT : Keep} {n₀ n₁ : Nat} {W W' : World} {v : Value} {n : Nat} {xs : List Value} (h : W.ownsRow n₀ 9 1 v n xs) (hg : W.grownBy W' v.ownBlock) (hT : 9 ∉ TT.ts) (hn : n₀ ≤ W.heap.size) : KpN TT n₀ n₁ W W':=by
 have hne : ∀ (k : Nat) (cs : Array Value) (t : TypeId) (fr : Nat × Nat),W.heap[k]? = some (.cells cs t fr) → t ≠ 9 → W'.heap[k]? = some (.cells cs t fr):=fun k cs t fr hk ht => (hg.block k (Array.getElem?_eq_some_iff.1 hk).1 (fun e => by
  obtain ⟨cs',e'⟩:=own_row h e.symm
  rw [hk] at e'
  cases e'
  exact ht rfl)).trans hk
 refine ⟨⟨hg.os,hg.tape,hg.output,hg.size,fun k hk _ => hg.block k (by omega) (fun e => by have:=(World.ownsRow.lt h k e.symm).1; omega)⟩,⟨hg.size,fun k o _ hk ho => (hg.block k (Array.getElem?_eq_some_iff.1 hk).1 (fun e => by
  obtain ⟨cs',e'⟩:=own_row h e.symm
  rw [hk] at e'
  cases e'
  cases ho)).trans hk⟩,fun k cs t fr _ ht hk => hne k cs t fr hk (fun e => hT (e ▸ ht))⟩
theorem nm_fin {B : Nat} {w w2 w3 w5 W : World} {a : Sa} {X : List Nat} {s0 s3 : Sg} (h0 : SgIn B w a X s0) (hB : Below w.heap.size w w2) (hz : w.heap.size + 2 ≤ w2.heap.size) (ho : SgOut B w2 a X s3 w3) (hb : Below w3.heap.size w3 w5) (e1 : W.os = w5.os) (e2 : W.tape = w5.tape) (e3 : W.output = w5.output) (hs : w5.heap.size ≤ W.heap.size)
  (hk : ∀ k,k < w5.heap.size → k ≠ w3.heap.size → k ≠ w.heap.size → k ≠ w.heap.size + 1 → W.heap[k]? = w5.heap[k]?) : SgOut B w a X s3 W:=by
 obtain ⟨X',h1,h2,h3⟩:=ho
 have hlt:=h0.lt
 obtain ⟨q1,q2,q3,q4⟩:=h0.lts
 have z23:=h2.size
 refine ⟨X',(h1.below hb).keep hs (fun k hk1 hc => ?_),⟨by rw [e1,hb.os,h2.os,hB.os],by rw [e2,hb.tape,h2.tape,hB.tape],by rw [e3,hb.output,h2.output,hB.output],Nat.le_trans hB.size (Nat.le_trans z23 (Nat.le_trans hb.size hs)),fun i hi hn => ?_⟩,fun k hx => (h3 k hx).imp id (by omega)⟩
 ·rcases hc with e | e | e | e | e
  ·exact hk k hk1 (by omega) (by omega) (by omega)
  ·have l3:=h1.lt k e
   refine hk k hk1 (by omega) (fun e' => ?_) (fun e' => ?_)
   ·rcases h3 k e with h | h
    ·have:=hlt k h; omega
    ·omega
   ·rcases h3 k e with h | h
    ·have:=hlt k h; omega
    ·omega
  ·exact hk k hk1 (by omega) (by omega) (by omega)
  ·exact hk k hk1 (by omega) (by omega) (by omega)
  ·exact hk k hk1 (by omega) (by omega) (by omega)
 ·have z5:=hb.size
  rw [hk i (by omega) (by omega) (by omega) (by omega),hb.block i (by omega),h2.block i (by omega) hn,hB.block i hi]
def nmsR (s : Sg) (ino : Int) : Sg × List ByteArray × Int:=({ s with R:=addL s.R (tcA ino) },namesV s.l s.d ino,0)
theorem names_in {B : Nat} {w : World} {a : Sa} {X : List Nat} {s : Sg} {n : Nat} (h : SgIn B w a X s) (ino : Int) (h0 : 0 < ino) (h1 : ino ≤ 4294967295) (hk : Sk s n) (hn : n ≤ 3900) (hl : s.l.length ≤ 1000) (hL : s.d.L.length ≤ 1000) :
  Calls Tryz.prog 45 #[.pointer (some ⟨a.s,0,none⟩),.int .u32 ino] w fun e w' => ∃ v,e = .returned (.tuple #[v,.int .i64 (nmsR s ino).2.2]) ∧ SgOut B w a X (nmsR s ino).1 w' ∧ w'.ownsRow w.heap.size 9 1 v (nmsR s ino).2.1.length ((nmsR s ino).2.1.flatMap strE):=by
 show Calls Tryz.prog 45 #[.pointer (some ⟨a.s,0,none⟩),.int .u32 ino] w fun e w' => ∃ v,e = .returned (.tuple #[v,.int .i64 0]) ∧ SgOut B w a X { s with R:=addL s.R (tcA ino) } w' ∧ w'.ownsRow w.heap.size 9 1 v (namesV s.l s.d ino).length ((namesV s.l s.d ino).flatMap strE)
 have hbA:=bel1 w (.cells #[.slice none 0 0] 26)
 have bA : Boxed (w.alloc (.cells #[.slice none 0 0] 26)) w.heap.size 26 (.slice none 0 0):=heap_alloc_new w _
 obtain ⟨w1,hw1⟩ : ∃ w1,w.alloc (.cells #[.slice none 0 0] 26) = w1:=⟨_,rfl⟩
 have hz1 : w1.heap.size = w.heap.size + 1:=by rw [← hw1]; simp
 rw [hw1] at hbA bA
 have hbB:=bel1 w1 (.cells #[.int .i64 0] 31)
 have bB : Boxed (w1.alloc (.cells #[.int .i64 0] 31)) w1.heap.size 31 (.int .i64 0):=heap_alloc_new w1 _
 obtain ⟨w2,hw2⟩ : ∃ w2,w1.alloc (.cells #[.int .i64 0] 31) = w2:=⟨_,rfl⟩
 have hz2 : w2.heap.size = w1.heap.size + 1:=by rw [← hw2]; simp
 rw [hw2] at hbB bB
 have hb2 : Below w.heap.size w w2:=thenB hbA hbB
 have hi2:=h.below hb2
 have hR : s.R.length ≤ 20000:=Nat.le_trans hk.R (by omega)
 have ca:=hi2.addR (tcA ino) (tcA_ok (by omega) h1) hR
 have q1 : w2.cell? ⟨a.s,1,none⟩ = some (.pointer (some ⟨a.r,0,none⟩)):=hi2.c1
 have HB2 : Hid (Below w.heap.size w w2 ∧ w.heap.size + 2 ≤ w2.heap.size ∧ w1.heap.size = w.heap.size + 1):=⟨hb2,by omega,hz1⟩
 have HH : Hid (SgIn B w a X s):=h
 have HBA : Hid (Boxed w2 w.heap.size 26 (.slice none 0 0)):=nm_box bA hbB
 have HBB : Hid (Boxed w2 w1.heap.size 31 (.int .i64 0)):=bB
 have HLL : Hid (s.l.length ≤ 1000 ∧ s.d.L.length ≤ 1000):=⟨hl,hL⟩
 have HCK : Hid (CksOk s.d):=hk.ck
 generalize tckE (tcA ino) = TE at *
 obtain ⟨TC,hTC⟩ : ∃ T,tcC (tcA ino) = T:=⟨_,rfl⟩
 rw [hTC] at ca
 unfold tcC tcA at hTC
 dsimp only at hTC
 clear h hk hbA hbB bA bB hi2 hb2 hz1 hz2 hR hl hL hn
 refine nm_marks Tryz.func45 rfl ?_
 simp only [Tryz.ntmps45,List.size_toArray,List.length_cons,List.length_nil,Nat.reduceAdd,Nat.reduceSub,Array.replicate_succ,Array.replicate_zero,List.push_toArray,List.append_toArray,List.nil_append,List.cons_append]
 go_wp2_with fail
 try rw [hw1]
 try rw [hw2]
 try rw [hTC]
 refine ca.mono ?_
 rintro e w3 ⟨rfl,ho3⟩
 have HO3 : Hid (SgOut B w2 a X { s with R:=addL s.R (tcA ino) } w3):=ho3
 obtain ⟨X3,hy1,hy2,hy3⟩:=ho3
 have HBX : Hid (w.heap.size ∉ X3 ∧ w1.heap.size ∉ X3):=by
  have hlt:=HH.out.lt
  constructor
  ·intro e
   rcases hy3 _ e with h | h
   ·have:=hlt _ h; omega
   ·have:=HB2.out.2.1; omega
  ·intro e
   rcases hy3 _ e with h | h
   ·have:=hlt _ h; have:=HB2.out; omega
   ·have:=HB2.out; omega
 have hXb : w.heap.size ∉ X ∧ w1.heap.size ∉ X:=by
  have hlt:=HH.out.lt
  exact ⟨fun e => by have:=hlt _ e; omega,fun e => by have:=hlt _ e; have:=HB2.out.2.2; omega⟩
 have bA3 : Boxed w3 w.heap.size 26 (.slice none 0 0):=hy2.row HBA.out hXb.1
 have bB3 : Boxed w3 w1.heap.size 31 (.int .i64 0):=hy2.row HBB.out hXb.2
 have hb4:=bel1 w3 (.cells #[.slice none 0 0] 26)
 have bG : Boxed (w3.alloc (.cells #[.slice none 0 0] 26)) w3.heap.size 26 (.slice none 0 0):=heap_alloc_new w3 _
 obtain ⟨w4,hw4⟩ : ∃ w4,w3.alloc (.cells #[.slice none 0 0] 26) = w4:=⟨_,rfl⟩
 rw [hw4] at hb4 bG
 have hi4:=hy1.below hb4
 have q0 : w4.cell? ⟨a.s,0,none⟩ = some (.pointer (some ⟨a.v,0,none⟩)):=hi4.c0
 obtain ⟨vd,vr,vu,hg,rfl⟩:=hi4
 obtain ⟨ad,nl,cap,hS,hq⟩:=hg.so
 have hBw : B ≤ w3.heap.size:=by obtain ⟨_,_,_,h4⟩:=hy1.lts; exact h4
 have cn:=vnames_any [w3.heap.size] (B:=0) (w0:=w4) hg.vw ⟨Below.refl _ _,Nat.zero_le _,⟨vd,hg.d,fun _ _ => Nat.zero_le _⟩,Nat.zero_le _,Nat.zero_le _⟩ hS HLL.out.2 HCK.out.names ino h0 h1 (fun x hx => by rw [List.mem_singleton] at hx; rw [hx]; exact bG.lt)
  (fun hx => by rw [List.mem_singleton] at hx; obtain ⟨ad',n',c',hS',_⟩:=(show ∃ ad n cap,SoAt w3 a.g ad n cap s.l ∧ (∀ q,0 < n → ad = some q → q.block < B) from by obtain ⟨_,_,_,hg',_⟩:=hy1; exact hg'.so); have:=hS'.lt; omega)
  (fun q hp e hx => by rw [List.mem_singleton] at hx; have:=hq q hp e; omega)
 have HB4 : Hid (Below w3.heap.size w3 w4):=hb4
 have HBA4 : Hid (Boxed w4 w.heap.size 26 (.slice none 0 0)):=nm_box bA3 hb4
 have HBB4 : Hid (Boxed w4 w1.heap.size 31 (.int .i64 0)):=nm_box bB3 hb4
 have HBG4 : Hid (Boxed w4 w3.heap.size 26 (.slice none 0 0)):=bG
 clear ca q1 hw1 hw2 hTC hy1 hy2 hy3 bA3 bB3 hb4 bG hg hS hq hXb
 go_wp2_with fail
 try rw [hw4]
 clear hw4
 refine cn.mono ?_
 rintro e w5 ⟨lb,rfl,hseq,hb5⟩
 clear cn q0
 have HSQ : Hid _:=hseq
 have HB5 : Hid (Below w4.heap.size w4 w5):=hb5
 have HN : Hid (s.l.length + s.d.L.length ≤ 2000):=by have:=HLL.out; unfold Hid; omega
 obtain ⟨gg,hgg⟩ : ∃ gg,w3.heap.size = gg:=⟨_,rfl⟩
 have bG5 : Boxed w5 gg 26 (.slice none 0 0):=by rw [← hgg]; exact nm_box HBG4.out hb5
 have HBA5 : Hid (Boxed w5 w.heap.size 26 (.slice none 0 0)):=nm_box HBA4.out hb5
 have HBB5 : Hid (Boxed w5 w1.heap.size 31 (.int .i64 0)):=nm_box HBB4.out hb5
 have HGG : Hid (w3.heap.size = gg):=hgg
 have hg5 : gg < w5.heap.size:=bG5.lt
 have HLE : Hid (w.heap.size < gg ∧ w1.heap.size < gg ∧ w.heap.size < w1.heap.size ∧ w.heap.size ≤ w5.heap.size):=by
  have l1:=HBA4.out.lt
  have z2:=HB2.out
  have z3 : w2.heap.size ≤ w3.heap.size:=by obtain ⟨_,_,h2,_⟩:=HO3.out; exact h2.size
  have:=HBA5.out.lt
  unfold Hid; omega
 rw [hgg] at hseq HSQ
 rw [hgg]
 clear hseq hb5 hgg HBA4 HBB4 HBG4
 go_wp2_with fail
 obtain ⟨iI,hii,hi0,hi1,hi2⟩:=nmInfo
 refine (wpIn_wide (n:=9)).1 ?_
 refine range_own2 (gf:=100) (lb:=lb) rfl (enters_of Tryz.func100 (by kernel_rfl) rfl) (HSQ.out _) (Below.refl _ _) (Nat.le_refl _) (fun _ => rfl)
  (fun pre X => (∃ va vc,Boxed X gg 26 (.slice va pre.length vc) ∧ X.ownsRow w5.heap.size 9 1 (.slice va pre.length vc) pre.length (nmC pre)) ∧ BelX [gg] w5.heap.size w5 X)
  (fun c pre X => False)
  ?ownI ?ownX ?abI ?abX ⟨⟨none,0,bG5,World.ownsRow_nil _ _ _ _⟩,BelX.refl _ _ _⟩
  (fun x t => (t.setIfInBounds 7 (.string x)).setIfInBounds 8 (.int .i64 0))
  ?assign ?body ?done ?stop
 case assign =>
  rintro l' x X K hK
  have hE : ∀ A B : Act,A = B → K A X → K B X:=fun A B h k => h ▸ k
  unfold actOf nmE
  simp only [id]
  gi_wp2
  refine hE _ _ ?_ hK
  unfold actOf nmE
  first | rfl | (simp; done) | go_simp
 case ownI =>
  intro s X X' row hs hg hr
  obtain ⟨⟨va,vc,h1,h2⟩,h3⟩:=hs
  exact ⟨⟨va,vc,own_box (β:=Unit) _ _ _ _ () X X' row h1 hg hr,nm_own (β:=Unit) _ _ _ _ _ () X X' row h2 hg hr⟩,own_belX (β:=Unit) (Nat.le_refl _) (Nat.le_refl _) () X X' row h3 hg hr⟩
 case ownX => exact fun c => own_pure _ _
 case abI =>
  rintro s X b cs ty v ⟨⟨va,vc,h1,h2⟩,h3⟩ hb ht e
  have ht9 : ty ≠ 9:=fun e9 => by rw [e9] at ht; revert ht; unfold TV; simp
  exact ⟨⟨va,vc,(heap_setCell_other X ⟨b,0,none⟩ _ v (by show gg ≠ b; omega)).trans h1,nm_set h2 e ht9 v⟩,h3.setCell (p:=⟨b,0,none⟩) (by show w5.heap.size ≤ b; omega) v⟩
 case abX => exact fun c s X b cs ty v h => h.elim
 case stop => exact fun D c pre W hD hS hf _ => hf.elim
 case body =>
  rintro l' pre x X hV hl' ⟨⟨va,vc,hBx,hown⟩,hX⟩ hlen
  have hX5:=hX.size
  have gX:=hBx.cell
  obtain ⟨W2,hW2⟩ : ∃ W2,X.alloc (.cells #[.string x] 9) = W2:=⟨_,rfl⟩
  have hb2 : Below X.heap.size X W2:=by rw [← hW2]; exact bel1 X _
  have hnew : W2.heap[X.heap.size]? = some (.cells #[.string x] 9 (0,0)):=by rw [← hW2]; exact heap_alloc_new X _
  have hown2:=nm_below hown hb2
  have HB2' : Hid _:=nm_box hBx hb2
  have hz2:=hb2.size
  have hpl : (pre ++ [x]).length = pre.length + 1:=by simp
  have hstr : nmC (pre ++ [x]) = nmC pre ++ [.string x]:=by simp [nmC]
  obtain ⟨L,hL⟩ : ∃ L,pre.length = L:=⟨_,rfl⟩
  have HL : Hid (pre.length = L):=hL
  rw [hL] at hown2 gX hlen
  have HBZ : Hid (Boxed W2 gg 26 (.slice va L vc)):=by unfold Hid; rw [← hL]; exact HB2'.out
  have HO2 : Hid (W2.ownsRow w5.heap.size 9 1 (.slice va L vc) L (nmC pre)):=hown2
  have FIN : Hid (∀ (W3 : World) (a3 : Option Addr) (c3 : Nat),W3.ownsRow w5.heap.size 9 1 (.slice a3 (L + 1) c3) (L + 1) (nmC pre ++ [.string x]) → W2.grownBy W3 (Value.slice va L vc).ownBlock →
    Boxed W3 gg 26 (.slice va L vc) ∧
    KpN (TV [gg]) w5.heap.size w5.heap.size X (W3.setCell ⟨gg,0,none⟩ (.slice a3 (L + 1) c3)) ∧ (∃ va vc,Boxed (W3.setCell ⟨gg,0,none⟩ (.slice a3 (L + 1) c3)) gg 26 (.slice va (pre ++ [x]).length vc) ∧ (W3.setCell ⟨gg,0,none⟩ (.slice a3 (L + 1) c3)).ownsRow w5.heap.size 9 1 (.slice va (pre ++ [x]).length vc) (pre ++ [x]).length (nmC (pre ++ [x]))) ∧ BelX [gg] w5.heap.size w5 (W3.setCell ⟨gg,0,none⟩ (.slice a3 (L + 1) c3))):=fun W3 a3 c3 ho3 hg4 => by
   have k1 : KpN (TV [gg]) w5.heap.size w5.heap.size X W3:=(KpN.of_below hb2 hX5).trans (nm_grown HO2.out hg4 (by unfold TV; simp) (by omega))
   have b3 : Boxed W3 gg 26 (.slice va L vc):=Boxed.kept HBZ.out hg4 (fun e => by have:=(World.ownsRow.lt HO2.out gg e.symm).1; omega)
   have kp:=k1.trans (KpN.setX (TT:=TV [gg]) (n₀:=w5.heap.size) (n₁:=w5.heap.size) (b:=gg) (i:=0) W3 (.slice a3 (L + 1) c3) (by unfold TV; simp) hg5)
   refine ⟨b3,kp,⟨a3,c3,?_,?_⟩,hX.trans kp.bel⟩
   ·rw [hpl,HL.out]; exact b3.set _
   ·rw [hpl,HL.out,hstr]
    exact own_keep ho3 ((Below.refl gg W3).setCell (p:=⟨gg,0,none⟩) (Nat.le_refl _) _).size (fun q hq hl => heap_setCell_other W3 ⟨gg,0,none⟩ q _ (fun e => by have:=(World.ownsRow.lt ho3 q hq).1; have e2 : q = gg:=e; omega))
  have hbL : L ≤ 2000:=by have:=HN.out; unfold Hid at this; omega
  clear hL hBx hown hb2
  unfold actOf nmE
  gi_wp2_with (gi_at_builtin; refine wpListIn_append_own W2 rfl _ _ 26 rfl w5.heap.size 9 iI (.string ⟨#[]⟩) 1 16 Tryz.underlying26 hii hi0 hi1 hi2 rfl (by decide) _ L (nmC pre) rfl hown2 ⟨X.heap.size,0,none⟩ 1 1 [.string x] rfl rfl (nm_one hnew) (by simp [Value.oneCell']) (by unfold maxLen; omega) (by omega) (by omega) ?_; intro v3 w8 ho3 hg4 _; obtain ⟨a3,c3,rfl⟩:=own_shape ho3; obtain ⟨z1,z4,z5,z6⟩:=FIN.out _ _ _ ho3 hg4; have z1c:=z1.cell; have z1f:=z1.frozen)
  exact ⟨z4.non,z4.up (by omega),z5,z6⟩
 case done =>
  rintro D ys X hD hys ⟨⟨va,vc,hBx,hown⟩,h2⟩ hK
  subst hys
  have gX:=hBx.cell
  have bA : Boxed X w.heap.size 26 (.slice none 0 0):=(h2.block _ (by have:=HLE.out; omega) (by rw [List.mem_singleton]; have:=HLE.out; omega)).trans HBA5.out
  have bB : Boxed X w1.heap.size 31 (.int .i64 0):=(h2.block _ (by have:=HLE.out; omega) (by rw [List.mem_singleton]; have:=HLE.out; omega)).trans HBB5.out
  obtain ⟨k,hkl⟩ : ∃ k,(namesV s.l s.d ino).length = k:=⟨_,rfl⟩
  rw [hkl] at gX hown
  have HOWN : Hid (X.ownsRow w5.heap.size 9 1 (.slice va k vc) k (nmC (namesV s.l s.d ino))):=hown
  have HKX : Hid (X.heap[D]? = some (.deferred (some []))):=hK
  have HX2 : Hid (BelX [gg] w5.heap.size w5 X):=h2
  have aC:=bA.cell
  have aF:=bA.frozen
  have hne : w1.heap.size ≠ w.heap.size:=by have:=HLE.out; omega
  have bB1 : Boxed (X.setCell ⟨w.heap.size,0,none⟩ (.slice va k vc)) w1.heap.size 31 (.int .i64 0):=(heap_setCell_other X ⟨w.heap.size,0,none⟩ _ _ hne).trans bB
  have bC:=bB1.cell
  have bF:=bB1.frozen
  have bA1:=bA.set (.slice va k vc)
  have HBA2 : Hid (Boxed ((X.setCell ⟨w.heap.size,0,none⟩ (.slice va k vc)).setCell ⟨w1.heap.size,0,none⟩ (.int .i64 0)) w.heap.size 26 (.slice va k vc)):=(heap_setCell_other _ ⟨w1.heap.size,0,none⟩ _ _ hne.symm).trans bA1
  have HBB2 : Hid (Boxed ((X.setCell ⟨w.heap.size,0,none⟩ (.slice va k vc)).setCell ⟨w1.heap.size,0,none⟩ (.int .i64 0)) w1.heap.size 31 (.int .i64 0)):=bB1.set (.int .i64 0)
  have HR1 : Hid (((X.setCell ⟨w.heap.size,0,none⟩ (.slice va k vc)).setCell ⟨w1.heap.size,0,none⟩ (.int .i64 0)).ownsRow w5.heap.size 9 1 (.slice va k vc) k (nmC (namesV s.l s.d ino))):=nm_set (nm_set hown bA (by decide) _) bB1 (by decide) _
  clear bA bB bB1 bA1 hBx hown h2 hK hne
  go_wp2_with fail
  obtain ⟨Y,hY⟩ : ∃ Y,(X.setCell ⟨w.heap.size,0,none⟩ (.slice va k vc)).setCell ⟨w1.heap.size,0,none⟩ (.int .i64 0) = Y:=⟨_,rfl⟩
  have hDge : w5.heap.size ≤ D:=hD
  have hK' : Y.heap[D]? = some (.deferred (some [])):=by
   rw [← hY,heap_setCell_other _ ⟨w1.heap.size,0,none⟩ D _ (by show D ≠ w1.heap.size; have:=HLE.out; omega),heap_setCell_other _ ⟨w.heap.size,0,none⟩ D _ (by show D ≠ w.heap.size; have:=HLE.out; omega)]
   exact HKX.out
  have hsY : Y.heap.size = X.heap.size:=by rw [← hY]; simp
  have hoY : ∀ q,q ≠ w.heap.size → q ≠ w1.heap.size → Y.heap[q]? = X.heap[q]?:=fun q h1 h2 => by
   rw [← hY,heap_setCell_other _ ⟨w1.heap.size,0,none⟩ q _ h2,heap_setCell_other _ ⟨w.heap.size,0,none⟩ q _ h1]
  have hbY : Below 0 X Y:=by
   rw [← hY]
   exact ((Below.refl 0 X).setCell (p:=⟨w.heap.size,0,none⟩) (Nat.zero_le _) _).setCell (p:=⟨w1.heap.size,0,none⟩) (Nat.zero_le _) _
  have e1Y : Y.os = X.os ∧ Y.tape = X.tape ∧ Y.output = X.output:=⟨hbY.os,hbY.tape,hbY.output⟩
  rw [hY] at HBA2 HBB2 HR1
  rw [hY]
  refine ⟨by simp,.inl ⟨_,_,rfl,run_takeDeferred hK',?_⟩⟩
  have gp:=grownBy_putObj' Y D (.deferred none)
  have hc4:=cell_kept HBA2.out.cell gp (fun q e => by cases e; exact ⟨_,hK',rfl⟩)
  have hc5:=cell_kept HBB2.out.cell gp (fun q e => by cases e; exact ⟨_,hK',rfl⟩)
  have hbD:=belowK_b (w:=w5) (Nat.le_refl _) Y D _ (.deferred none) hDge hK' rfl rfl
  refine ⟨.tuple #[.slice va k vc,.int .i64 0],?_,.slice va k vc,rfl,?_,?_⟩
  ·simp [results,Tryz.f45,go_sem,hc4,hc5]
  ·refine nm_fin HH.out HB2.out.1 HB2.out.2.1 HO3.out (HB4.out.trans (HB5.out.mono HB4.out.size)) (by rw [hbD.os,e1Y.1,HX2.out.os]) (by rw [hbD.tape,e1Y.2.1,HX2.out.tape]) (by rw [hbD.output,e1Y.2.2,HX2.out.output]) (Nat.le_trans HX2.out.size (by have:=hbD.size; omega)) (fun q hq h3 h4 h5 => ?_)
   rw [hbD.block q hq,hoY q h4 (by rw [HB2.out.2.2]; exact h5),HX2.out.block q hq (by rw [List.mem_singleton,← HGG.out]; exact h3)]
  ·rw [hkl,← nmC_flat]
   refine own_keep (own_down HR1.out HLE.out.2.2.2) hbD.size (fun q hq hlq => World.putObj_heap_other (fun e => ?_))
   obtain ⟨cs',e'⟩:=own_row HR1.out hq
   have e2 : q = D:=e
   rw [e2,hK'] at e'
   cases e'
end Go.Proofs.YtgajjphjkbnaeaaGreat
