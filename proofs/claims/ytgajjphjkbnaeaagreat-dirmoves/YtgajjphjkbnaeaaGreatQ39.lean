/- InG, InH: in one text. -/
import Derived.Test.YtgajjphjkbnaeaaGreatQ38
namespace Go.Proofs.YtgajjphjkbnaeaaGreat
open Go.RowKit
set_option linter.unusedVariables false
set_option maxHeartbeats 32000000
set_option maxRecDepth 100000
set_option linter.unusedSimpArgs false
open Go.RowKit Go.Maps
structure RsAt (w : World) (x rv q : Nat) (vr vu vq : Value) (ad : Option Addr) (n cap : Nat) (M nx : Int) : Prop where
 x : w.heap[x]? = some (.cells #[.pointer (some ⟨rv,0,none⟩),vr,vu,.int .u32 nx] 146 (0,0))
 v : w.heap[rv]? = some (.cells #[.slice ad n cap,.pointer (some ⟨q,0,none⟩)] 144 (0,0))
 q : w.heap[q]? = some (.cells #[vq,.int .i64 M] 175 (0,0))
theorem RsAt.below {w w' : World} {x rv q : Nat} {vr vu vq : Value} {ad : Option Addr} {n cap : Nat} {M nx : Int} (h : RsAt w x rv q vr vu vq ad n cap M nx) (hb : Below w.heap.size w w') : RsAt w' x rv q vr vu vq ad n cap M nx :=
 ⟨(hb.block _ (lt_of_row h.x)).trans h.x,(hb.block _ (lt_of_row h.v)).trans h.v,(hb.block _ (lt_of_row h.q)).trans h.q⟩
theorem rdnew_any (w : World) (m : Int) (hm : m ≤ 9223372036854775807) : Calls Tryz.prog 65 #[.int .i64 m] w fun e w' => e = .returned (.pointer (some ⟨w.heap.size,0,none⟩)) ∧ w' = w.alloc (.cells #[.slice none 0 0,.int .i64 (newS m).most] 175):=by
 by_cases h0 : m < 0
 ·have hx : (newS m).most = 0:=by unfold newS; rw [show max m 0 = 0 by omega]
  rw [hx]
  go_enter Tryz.func65,Tryz.ntmps65
  go_wp2
  go_ret
  first | exact ⟨rfl,rfl⟩ | exact ⟨rfl,by rw [show max m 0 = 0 by omega]⟩
 ·have hx : (newS m).most = m:=by unfold newS; rw [show max m 0 = m by omega]
  have h0' : 0 ≤ m:=by omega
  rw [hx]
  clear hx
  go_enter Tryz.func65,Tryz.ntmps65
  go_wp2
  go_ret
  first | exact ⟨rfl,rfl⟩ | exact ⟨rfl,by rw [show max m 0 = m by omega]⟩
theorem rsnew_any (w : World) (ad : Option Addr) (n cap : Nat) (m : Int) (hm : m ≤ 9223372036854775807) (nx : Int) : Calls Tryz.prog 39 #[.slice ad n cap,.int .i64 m,.int .u32 nx] w fun e w' =>
  ∃ x rv q,e = .returned (.pointer (some ⟨x,0,none⟩)) ∧ RsAt w' x rv q (.slice none 0 0) (.slice none 0 0) (.slice none 0 0) ad n cap (newS m).most nx ∧ Below w.heap.size w w' ∧ w.heap.size ≤ x ∧ w.heap.size ≤ rv ∧ w.heap.size ≤ q:=by
 have cd:=rdnew_any w m hm
 generalize (newS m).most = M at *
 go_enter Tryz.func39,Tryz.ntmps39
 go_wp2_with fail
 refine cd.mono ?_
 rintro e w1 ⟨rfl,rfl⟩
 clear cd
 have r1:=heap_alloc_new w (.cells #[.slice none 0 0,.int .i64 M] 175)
 have b1:=bel1 w (.cells #[.slice none 0 0,.int .i64 M] 175)
 obtain ⟨w1,hw1⟩ : ∃ w1,w.alloc (.cells #[.slice none 0 0,.int .i64 M] 175) = w1:=⟨_,rfl⟩
 rw [hw1] at r1 b1 ⊢
 clear hw1
 have r2:=heap_alloc_new w1 (.cells #[.slice ad n cap,.pointer (some ⟨w.heap.size,0,none⟩)] 144)
 have b2:=bel1 w1 (.cells #[.slice ad n cap,.pointer (some ⟨w.heap.size,0,none⟩)] 144)
 obtain ⟨w2,hw2⟩ : ∃ w2,w1.alloc (.cells #[.slice ad n cap,.pointer (some ⟨w.heap.size,0,none⟩)] 144) = w2:=⟨_,rfl⟩
 rw [hw2] at r2 b2
 have r3:=heap_alloc_new w2 (.cells #[.pointer (some ⟨w1.heap.size,0,none⟩),.slice none 0 0,.slice none 0 0,.int .u32 nx] 146)
 have b3:=bel1 w2 (.cells #[.pointer (some ⟨w1.heap.size,0,none⟩),.slice none 0 0,.slice none 0 0,.int .u32 nx] 146)
 obtain ⟨w3,hw3⟩ : ∃ w3,w2.alloc (.cells #[.pointer (some ⟨w1.heap.size,0,none⟩),.slice none 0 0,.slice none 0 0,.int .u32 nx] 146) = w3:=⟨_,rfl⟩
 rw [hw3] at r3 b3
 have HR : Hid (RsAt w3 w2.heap.size w1.heap.size w.heap.size (.slice none 0 0) (.slice none 0 0) (.slice none 0 0) ad n cap M nx) :=
  ⟨r3,(b3.block _ (lt_of_row r2)).trans r2,((thenB b2 b3).block _ (lt_of_row r1)).trans r1⟩
 have HB : Hid (Below w.heap.size w w3):=thenB b1 (thenB b2 b3)
 have HS : Hid (w.heap.size ≤ w1.heap.size ∧ w1.heap.size ≤ w2.heap.size):=⟨b1.size,b2.size⟩
 clear r1 r2 r3 b1 b2 b3
 go_wp2
 go_ret
 exact ⟨_,_,_,rfl,HR.out,HB.out,Nat.le_trans HS.out.1 HS.out.2,HS.out.1,Nat.le_refl _⟩
def PrAt (w : World) (pp : Nat) (a : Sa) (x : Nat) : Prop:=w.heap[pp]? = some (.cells #[.pointer (some ⟨a.s,0,none⟩),.pointer (some ⟨a.p,0,none⟩),.pointer (some ⟨x,0,none⟩),.pointer (some ⟨a.g,0,none⟩)] 39 (0,0))
def sg0 (l : List (ByteArray × ByteArray)) (most nx : Int) : Sg:=⟨l,newS most,[],[],nx⟩
def BgOut (B : Nat) (w : World) (ad : Option Addr) (n cap : Nat) (l : List (ByteArray × ByteArray)) (most nx : Int) (e : Ending) (w' : World) : Prop :=
 ∃ pp a x X rv q,e = .returned (.pointer (some ⟨pp,0,none⟩)) ∧ PrAt w' pp a x ∧ SgIn B w' a X (sg0 l most nx) ∧ (∀ k ∈ X,w.heap.size ≤ k) ∧ RsAt w' x rv q (.slice none 0 0) (.slice none 0 0) (.slice none 0 0) ad n cap (newS most).most nx ∧ Below w.heap.size w w' ∧
  (w.heap.size ≤ pp ∧ w.heap.size ≤ a.s ∧ w.heap.size ≤ a.v ∧ w.heap.size ≤ a.g ∧ w.heap.size ≤ x ∧ w.heap.size ≤ rv ∧ w.heap.size ≤ q)
theorem begin_in (w : World) (ad : Option Addr) (n cap : Nat) (l : List (ByteArray × ByteArray)) (hl : RdK w ad n cap l) {B : Nat} (hB : B ≤ w.heap.size) (hlB : ∀ q,0 < n → ad = some q → q.block < B) (most : Int) (hm : most ≤ 9223372036854775807) (nx : Int) (h0 : 0 ≤ nx) (h1 : nx ≤ 4294967295) :
  Calls Tryz.prog 15 #[.slice ad n cap,.int .i64 most,.int .u32 nx] w fun e w' => BgOut B w ad n cap l most nx e w':=by
 have cd:=dnew_any w most hm
 have HLB : Hid (∀ q,0 < n → ad = some q → q.block < B):=hlB
 have HLL : Hid (RdK w ad n cap l):=hl
 clear hl
 go_enter Tryz.func15,Tryz.ntmps15
 go_wp2_with fail
 refine cd.mono ?_
 rintro e w1 ⟨rfl,hd1,hb1⟩
 clear cd
 have hb2:=bel1 w1 (.cells #[.slice ad n cap,.int .i64 (-1)] 84)
 have hs2 : SoAt (w1.alloc (.cells #[.slice ad n cap,.int .i64 (-1)] 84)) w1.heap.size ad n cap l:=⟨heap_alloc_new w1 _,(HLL.out.below hb1).below hb2⟩
 obtain ⟨w2,hw2⟩ : ∃ w2,w1.alloc (.cells #[.slice ad n cap,.int .i64 (-1)] 84) = w2:=⟨_,rfl⟩
 rw [hw2] at hb2 hs2
 have HS2 : Hid _:=hs2
 have cx:=rsnew_any w2 ad n cap most hm nx
 have HD1 : Hid (DlAt w1 (w.heap.size + 1) w.heap.size (.slice none 0 0) (newS most)):=hd1
 have HB1 : Hid (Below w.heap.size w w1):=hb1
 have HB2 : Hid (Below w1.heap.size w1 w2):=hb2
 obtain ⟨D,hD⟩ : ∃ D,newS most = D:=⟨_,rfl⟩
 rw [hD] at cx HD1
 have HDD : Hid (newS most = D):=hD
 clear hd1 hb1 hb2 hs2 hD
 go_wp2_with fail
 refine cx.mono ?_
 rintro e w3 ⟨x,rv,q,rfl,hx3,hb3,hxx⟩
 clear cx
 have HX3 : Hid _:=hx3
 have HB3 : Hid (Below w2.heap.size w2 w3):=hb3
 have HXX : Hid (w2.heap.size ≤ x ∧ w2.heap.size ≤ rv ∧ w2.heap.size ≤ q):=hxx
 clear hx3 hb3 hxx
 have cv:=vnew_any w3 w1.heap.size (w.heap.size + 1)
 unfold baV at cv
 go_wp2_with fail
 refine cv.mono ?_
 rintro e w4 ⟨rfl,hv4,hb4⟩
 clear cv
 have HV4 : Hid (VwAt w4 w3.heap.size w1.heap.size (w.heap.size + 1)):=hv4
 have HB4 : Hid (Below w3.heap.size w3 w4):=hb4
 clear hv4 hb4
 have cr:=new_any w4
 unfold ptr at cr
 go_wp2_with fail
 refine cr.mono ?_
 rintro e w5 ⟨rfl,hr5,hb5⟩
 clear cr
 have HR5 : Hid (SetAt w5 (w4.heap.size + 1) w4.heap.size (.slice none 0 0) []):=hr5
 have HB5 : Hid (Below w4.heap.size w4 w5):=hb5
 clear hr5 hb5
 have cu:=new_any w5
 unfold ptr at cu
 go_wp2_with fail
 refine cu.mono ?_
 rintro e w6 ⟨rfl,hu6,hb6⟩
 clear cu
 have HU6 : Hid (SetAt w6 (w5.heap.size + 1) w5.heap.size (.slice none 0 0) []):=hu6
 have HB6 : Hid (Below w5.heap.size w5 w6):=hb6
 clear hu6 hb6
 have r7:=heap_alloc_new w6 (.cells #[.int .u32 nx] 30)
 have b7:=bel1 w6 (.cells #[.int .u32 nx] 30)
 obtain ⟨w7,hw7⟩ : ∃ w7,w6.alloc (.cells #[.int .u32 nx] 30) = w7:=⟨_,rfl⟩
 rw [hw7] at r7 b7
 have HR7 : Hid _:=r7
 have HB7 : Hid _:=b7
 clear r7 b7
 go_wp2_with fail
 have r8:=heap_alloc_new w7 (.cells #[.pointer (some ⟨w3.heap.size,0,none⟩),.pointer (some ⟨w4.heap.size + 1,0,none⟩),.pointer (some ⟨w5.heap.size + 1,0,none⟩),.func (.func 42) #[] #[.pointer (some ⟨w6.heap.size,0,none⟩)]] 62)
 have b8:=bel1 w7 (.cells #[.pointer (some ⟨w3.heap.size,0,none⟩),.pointer (some ⟨w4.heap.size + 1,0,none⟩),.pointer (some ⟨w5.heap.size + 1,0,none⟩),.func (.func 42) #[] #[.pointer (some ⟨w6.heap.size,0,none⟩)]] 62)
 have z8:=World.size_alloc w7 (.cells #[.pointer (some ⟨w3.heap.size,0,none⟩),.pointer (some ⟨w4.heap.size + 1,0,none⟩),.pointer (some ⟨w5.heap.size + 1,0,none⟩),.func (.func 42) #[] #[.pointer (some ⟨w6.heap.size,0,none⟩)]] 62)
 obtain ⟨w8,hw8⟩ : ∃ w8,w7.alloc (.cells #[.pointer (some ⟨w3.heap.size,0,none⟩),.pointer (some ⟨w4.heap.size + 1,0,none⟩),.pointer (some ⟨w5.heap.size + 1,0,none⟩),.func (.func 42) #[] #[.pointer (some ⟨w6.heap.size,0,none⟩)]] 62) = w8:=⟨_,rfl⟩
 rw [hw8] at r8 b8 z8 ⊢
 have r9:=heap_alloc_new w8 (.cells #[.pointer (some ⟨w7.heap.size,0,none⟩),.pointer (some ⟨w.heap.size + 1,0,none⟩),.pointer (some ⟨x,0,none⟩),.pointer (some ⟨w1.heap.size,0,none⟩)] 39)
 have b9:=bel1 w8 (.cells #[.pointer (some ⟨w7.heap.size,0,none⟩),.pointer (some ⟨w.heap.size + 1,0,none⟩),.pointer (some ⟨x,0,none⟩),.pointer (some ⟨w1.heap.size,0,none⟩)] 39)
 obtain ⟨w9,hw9⟩ : ∃ w9,w8.alloc (.cells #[.pointer (some ⟨w7.heap.size,0,none⟩),.pointer (some ⟨w.heap.size + 1,0,none⟩),.pointer (some ⟨x,0,none⟩),.pointer (some ⟨w1.heap.size,0,none⟩)] 39) = w9:=⟨_,rfl⟩
 rw [hw9] at r9 b9 ⊢
 clear hw9 hw8 hw7 hw2
 go_ret
 have hb1:=HB1.out
 have hb2:=HB2.out
 have hb3:=HB3.out
 have hb4:=HB4.out
 have hb5:=HB5.out
 have hb6:=HB6.out
 have hb7:=HB7.out
 have b79:=thenB b8 b9
 have b69:=thenB hb7 b79
 have b59:=thenB hb6 b69
 have b49:=thenB hb5 b59
 have b39:=thenB hb4 b49
 have b29:=thenB hb3 b39
 have b19:=thenB hb2 b29
 have b09:=thenB hb1 b19
 have s1:=hb1.size
 have s2:=hb2.size
 have s3:=hb3.size
 have s4:=hb4.size
 have s5:=hb5.size
 have s6:=hb6.size
 have s7:=hb7.size
 have s8:=b8.size
 have s9:=b9.size
 have l5:=HR5.out.lt
 have l6:=HU6.out.lt
 have l1:=HD1.out.lt
 have l7:=lt_of_row HR7.out
 obtain ⟨x1,x2,x3⟩:=HXX.out
 refine ⟨w8.heap.size,⟨w7.heap.size,w3.heap.size,w1.heap.size,w.heap.size + 1,w.heap.size,w4.heap.size + 1,w4.heap.size,w5.heap.size + 1,w5.heap.size,w6.heap.size⟩,x,_,rv,q,by rw [z8]; first | done | rfl,r9,⟨.slice none 0 0,.slice none 0 0,.slice none 0 0,?_,rfl⟩,?_,?_,b09,?_⟩
 ·unfold sg0
  rw [HDD.out]
  refine ⟨(b9.block _ (lt_of_row r8)).trans r8,HV4.out.below b49,⟨ad,n,cap,HS2.out.below b29,HLB.out⟩,HD1.out.below b19,HR5.out.below b59,HU6.out.below b69,(b79.block _ l7).trans HR7.out,h0,h1,?_,?_,?_,?_,?_,?_,Nat.le_trans hB b09.size⟩
  ·dsimp only; omega
  ·dsimp only; omega
  ·dsimp only; omega
  ·dsimp only; omega
  ·intro k hk; cases hk
  ·intro k hk
   rcases mine_iff.1 hk with e | e | e | e | e | e | e | e | e | e
   all_goals first | (dsimp only at e; omega) | (cases e)
 ·intro k hk
  rcases mine_iff.1 hk with e | e | e | e | e | e | e | e | e | e
  all_goals first | (dsimp only at e; omega) | (cases e)
 ·rw [HDD.out]; exact HX3.out.below b39
 ·dsimp only; omega
open Go.RowKit Go.Maps
theorem PrAt.c0 {w : World} {pp x : Nat} {a : Sa} (h : PrAt w pp a x) : w.cell? ⟨pp,0,none⟩ = some (.pointer (some ⟨a.s,0,none⟩)):=by rw [cell_of_row _ _ _ _ _ (0,0) h]; rfl
theorem PrAt.c1 {w : World} {pp x : Nat} {a : Sa} (h : PrAt w pp a x) : w.cell? ⟨pp,1,none⟩ = some (.pointer (some ⟨a.p,0,none⟩)):=by rw [cell_of_row _ _ _ _ _ (0,0) h]; rfl
theorem PrAt.c2 {w : World} {pp x : Nat} {a : Sa} (h : PrAt w pp a x) : w.cell? ⟨pp,2,none⟩ = some (.pointer (some ⟨x,0,none⟩)):=by rw [cell_of_row _ _ _ _ _ (0,0) h]; rfl
theorem PrAt.c3 {w : World} {pp x : Nat} {a : Sa} (h : PrAt w pp a x) : w.cell? ⟨pp,3,none⟩ = some (.pointer (some ⟨a.g,0,none⟩)):=by rw [cell_of_row _ _ _ _ _ (0,0) h]; rfl
theorem SgIn.not_pair {B : Nat} {w : World} {a : Sa} {X : List Nat} {s : Sg} (h : SgIn B w a X s) {pp x : Nat} {a' : Sa} (hp : PrAt w pp a' x) : pp ∉ X:=by
 obtain ⟨vd,vr,vu,h,rfl⟩:=h
 exact h.other hp (by decide) (by decide) (by decide) (by decide) (by decide)
structure Pr (B : Nat) (w0 w : World) (pp : Nat) (a : Sa) (s : Sg) : Prop where
 ex : ∃ X x,PrAt w pp a x ∧ SgIn B w a X s
 bel : Below B w0 w
 B : B ≤ w0.heap.size
theorem Pr.c0 {B : Nat} {w0 w : World} {pp : Nat} {a : Sa} {s : Sg} (h : Pr B w0 w pp a s) : w.cell? ⟨pp,0,none⟩ = some (.pointer (some ⟨a.s,0,none⟩)):=by
 obtain ⟨X,x,h1,_⟩:=h.ex
 exact h1.c0
theorem Pr.below {B : Nat} {w0 w w' : World} {pp : Nat} {a : Sa} {s : Sg} (h : Pr B w0 w pp a s) (hb : Below w.heap.size w w') : Pr B w0 w' pp a s:=by
 obtain ⟨X,x,h1,h2⟩:=h.ex
 exact ⟨⟨X,x,(hb.block _ (lt_of_row h1)).trans h1,h2.below hb⟩,h.bel.trans (hb.mono (Nat.le_trans h.B h.bel.size)),h.B⟩
theorem SgIn.ge {B : Nat} {w : World} {a : Sa} {X : List Nat} {s : Sg} (h : SgIn B w a X s) : ∀ k ∈ X,B ≤ k:=by
 obtain ⟨vd,vr,vu,h,rfl⟩:=h
 exact h.ge
theorem Sole.belowX {X : List Nat} {B : Nat} {w w' : World} (h : Sole X w w') (hX : ∀ k ∈ X,B ≤ k) (hB : B ≤ w.heap.size) : Below B w w' :=
 ⟨h.os,h.tape,h.output,h.size,fun k hk => h.block k (by omega) (fun e => by have:=hX k e; omega)⟩
theorem Pr.out {B : Nat} {w0 w w' : World} {pp : Nat} {a : Sa} {s s' : Sg} (h : Pr B w0 w pp a s) (ho : ∀ X,SgIn B w a X s → SgOut B w a X s' w') : Pr B w0 w' pp a s':=by
 obtain ⟨X,x,h1,h2⟩:=h.ex
 obtain ⟨X',k1,k2,k3⟩:=ho X h2
 exact ⟨⟨X',x,k2.row h1 (h2.not_pair h1),k1⟩,h.bel.trans (k2.belowX h2.ge (Nat.le_trans h.B h.bel.size)),h.B⟩
theorem Pr.of {w : World} {ad : Option Addr} {n cap : Nat} {l : List (ByteArray × ByteArray)} {most nx : Int} {e : Ending} {w' : World} {B : Nat} (h : BgOut B w ad n cap l most nx e w') (hB : B ≤ w.heap.size) : ∃ pp a,e = .returned (.pointer (some ⟨pp,0,none⟩)) ∧ Pr B w w' pp a (sg0 l most nx):=by
 obtain ⟨pp,a,x,X,rv,q,rfl,h1,h2,_,_,h4,_⟩:=h
 exact ⟨pp,a,rfl,⟨X,x,h1,h2⟩,h4.mono hB,hB⟩
theorem Pr.set {B : Nat} {w0 w : World} {pp : Nat} {a : Sa} {s : Sg} (h : Pr B w0 w pp a s) (ino : Int) (h0 : 0 ≤ ino) (h1 : ino ≤ 4294967295) (fa : Option Addr) (fn fc : Nat) (fs : List (Int × Int)) (hr : RdZ 2 fiE w (.slice fa fn fc) fs) (hn : fn ≤ 1000) (hf : fiOk fs) {N : Nat} (hk : Sk s N) (hN : N ≤ 3800) :
  Calls Tryz.prog 64 #[.pointer (some ⟨a.s,0,none⟩),.int .u32 ino,.slice fa fn fc] w fun e w' => e = .returned (.int .i64 (setR s ino fs).2) ∧ Pr B w0 w' pp a (setR s ino fs).1:=by
 obtain ⟨X,x,p1,p2⟩:=h.ex
 refine (set_in p2 ino h0 h1 fa fn fc fs hr hn hf (Nat.le_trans hk.L (by omega)) (Nat.le_trans hk.P (by omega)) (Nat.le_trans hk.U (by omega))).mono ?_
 rintro e w' ⟨rfl,ho⟩
 obtain ⟨X',k1,k2,k3⟩:=ho
 exact ⟨rfl,⟨X',x,k2.row p1 (p2.not_pair p1),k1⟩,h.bel.trans (k2.belowX p2.ge (Nat.le_trans h.B h.bel.size)),h.B⟩
theorem Pr.make {B : Nat} {w0 w : World} {pp : Nat} {a : Sa} {s : Sg} (h : Pr B w0 w pp a s) (kind mode : Int) {N : Nat} (hk : Sk s N) (hN : N ≤ 3800) :
  Calls Tryz.prog 44 #[.pointer (some ⟨a.s,0,none⟩),.int .i64 kind,.int .i64 mode] w fun e w' => e = .returned (.tuple #[.int .u32 (makR s kind mode).2.1,.int .i64 (makR s kind mode).2.2]) ∧ Pr B w0 w' pp a (makR s kind mode).1:=by
 obtain ⟨X,x,p1,p2⟩:=h.ex
 refine (make_in p2 kind mode (Nat.le_trans hk.L (by omega)) (Nat.le_trans hk.P (by omega))).mono ?_
 rintro e w' ⟨rfl,ho⟩
 obtain ⟨X',k1,k2,k3⟩:=ho
 exact ⟨rfl,⟨X',x,k2.row p1 (p2.not_pair p1),k1⟩,h.bel.trans (k2.belowX p2.ge (Nat.le_trans h.B h.bel.size)),h.B⟩
theorem Pr.kind {B : Nat} {w0 w : World} {pp : Nat} {a : Sa} {s : Sg} (h : Pr B w0 w pp a s) (ino : Int) (h0 : 0 ≤ ino) (h1 : ino ≤ 4294967295) :
  Calls Tryz.prog 25 #[.pointer (some ⟨a.s,0,none⟩),.int .u32 ino] w fun e w' => e = .returned (.tuple #[.int .i64 (fdR s ino).1.k,.int .i64 (fdR s ino).2]) ∧ Pr B w0 w' pp a s:=by
 obtain ⟨X,x,p1,p2⟩:=h.ex
 refine (kind_in p2 ino h0 h1).mono ?_
 rintro e w' ⟨rfl,hb⟩
 exact ⟨rfl,h.below hb⟩
theorem Pr.link {B : Nat} {w0 w : World} {pp : Nat} {a : Sa} {s : Sg} (h : Pr B w0 w pp a s) (ino : Int) (h0 : 0 ≤ ino) (h1 : ino ≤ 4294967295) (y : Int) (hy0 : -9223372036854775808 ≤ y) (hy1 : y ≤ 9223372036854775807) {N : Nat} (hk : Sk s N) (hN : N ≤ 3800) :
  Calls Tryz.prog 37 #[.pointer (some ⟨a.s,0,none⟩),.int .u32 ino,.int .i64 y] w fun e w' => e = .returned (.tuple #[.int .i64 (lkR s ino y).2.1,.int .i64 (lkR s ino y).2.2]) ∧ Pr B w0 w' pp a (lkR s ino y).1:=by
 obtain ⟨X,x,p1,p2⟩:=h.ex
 refine (link_in p2 ino h0 h1 y hy0 hy1 hk (by omega) (Nat.le_trans hk.R (by omega)) (Nat.le_trans hk.U (by omega))).mono ?_
 rintro e w' ⟨rfl,ho⟩
 obtain ⟨X',k1,k2,k3⟩:=ho
 exact ⟨rfl,⟨X',x,k2.row p1 (p2.not_pair p1),k1⟩,h.bel.trans (k2.belowX p2.ge (Nat.le_trans h.B h.bel.size)),h.B⟩
theorem Pr.rm {B : Nat} {w0 w : World} {pp : Nat} {a : Sa} {s : Sg} (h : Pr B w0 w pp a s) (ino : Int) (h0 : 0 ≤ ino) (h1 : ino ≤ 4294967295) {N : Nat} (hk : Sk s N) (hN : N ≤ 3800) :
  Calls Tryz.prog 46 #[.pointer (some ⟨a.s,0,none⟩),.int .u32 ino] w fun e w' => e = .returned (.int .i64 (rmR s ino).2) ∧ Pr B w0 w' pp a (rmR s ino).1:=by
 obtain ⟨X,x,p1,p2⟩:=h.ex
 refine (rm_in p2 ino h0 h1 hk (by omega) (Nat.le_trans hk.R (by omega)) (Nat.le_trans hk.U (by omega))).mono ?_
 rintro e w' ⟨rfl,ho⟩
 obtain ⟨X',k1,k2,k3⟩:=ho
 exact ⟨rfl,⟨X',x,k2.row p1 (p2.not_pair p1),k1⟩,h.bel.trans (k2.belowX p2.ge (Nat.le_trans h.B h.bel.size)),h.B⟩
theorem sk0 (l : List (ByteArray × ByteArray)) (most nx : Int) : Sk (sg0 l most nx) 0:=⟨(fun c hc => absurd hc (by simp [sg0,newS])),Nat.le_refl _,Nat.le_refl _,Nat.le_refl _,Nat.le_refl _⟩
theorem Sk.make {s : Sg} {n : Nat} (h : Sk s n) (kind mode : Int) : Sk (makR s kind mode).1 (n + 1):=by
 have hm : Sk (makS s kind mode) (n + 1):=by
  obtain ⟨h1,h2,h3,h4,h5⟩:=h.put (makC s kind mode)
  exact ⟨h1,h2,h3,h4,h5⟩
 unfold makR
 split
 ·exact h.mono (by omega)
 split
 ·exact hm
 ·exact hm
theorem goneL_sk : ∀ (ps : List Pl) {s : Sg} {n : Nat},Sk s n → Sk (goneL s ps).1 (n + ps.length)
 | [],s,n,h => h
 | p :: ps,s,n,h => by
  unfold goneL
  have h1 : Sk (gone1 s p) (n + 1):=h.put (goneC p)
  split
  ·exact h1.mono (by simp)
  ·exact (goneL_sk ps h1).mono (by simp; omega)
theorem Sk.rm {s : Sg} {n : Nat} (h : Sk s n) (hd : DlOk s.d) (ino : Int) : Sk (rmR s ino).1 (n + 20):=by
 have hb:=fd_bd hd h.ck ino
 unfold rmR rmF
 split
 ·exact h.mono (by omega)
 ·have h1 : Sk (rmB s ino (fdR s ino).1) (n + 1):=by
   unfold rmB
   split
   ·exact (h.read ino [3])
   ·exact h.mono (by omega)
  have h2:=goneL_sk (placesL ino (fdR s ino).1) h1
  have hl:=placesL_len (ino:=ino) hb.s1
  unfold rmE
  split
  ·exact h2.mono (by omega)
  ·exact (h2.wrote ino [7]).mono (by simp; omega)
theorem Sk.link {s : Sg} {n : Nat} (h : Sk s n) (hd : DlOk s.d) (ino y : Int) : Sk (lkR s ino y).1 (n + 30):=by
 have h1:=h.read ino [2]
 simp only [List.length_singleton] at h1
 unfold lkR
 split
 ·exact h.mono (by omega)
 split
 ·exact h.mono (by omega)
 ·unfold lkB
  split
  ·exact h1.mono (by omega)
  split
  ·unfold lkE
   have h2:=Sk.rm (s:={ s with R:=addK s.R ino [2] }) h1 hd ino
   split
   ·exact h2.mono (by omega)
   ·exact h2.mono (by omega)
  split
  ·exact h1.mono (by omega)
  ·unfold lkE
   have h2:=h1.set ino [(2,(fdR s ino).1.l + y)]
   split
   ·exact h2.mono (by omega)
   ·exact h2.mono (by omega)
def v0 : Sg:=sg0 [] 60 2
def v1 : Sg:=(makR v0 1 6).1
def v2 : Sg:=(lkR v1 2 1).1
def v3 : Sg:=(lkR v2 2 (-2)).1
end Go.Proofs.YtgajjphjkbnaeaaGreat
