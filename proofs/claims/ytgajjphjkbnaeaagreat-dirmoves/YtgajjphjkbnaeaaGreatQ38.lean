/- InE, InF: in one text. -/
import Derived.Test.YtgajjphjkbnaeaaGreatQ1
import Derived.Test.YtgajjphjkbnaeaaGreatQ31
namespace Go.Proofs.YtgajjphjkbnaeaaGreat
open Go.RowKit
set_option linter.unusedVariables false
set_option maxHeartbeats 32000000
set_option maxRecDepth 100000
set_option linter.unusedSimpArgs false
open Go.RowKit Go.Maps
def nextN (n : Int) : Int:=if n = 4294967295 then 0 else n + 1
theorem nextN_ok {n : Int} (h0 : 0 ≤ n) (h1 : n ≤ 4294967295) : 0 ≤ nextN n ∧ nextN n ≤ 4294967295:=by
 unfold nextN
 split <;> omega
theorem alloc_any {w : World} {x : Nat} {n : Int} (h : w.heap[x]? = some (.cells #[.int .u32 n] 30 (0,0))) (h0 : 0 ≤ n) (h1 : n ≤ 4294967295) : Calls Tryz.prog 42 #[.pointer (some ⟨x,0,none⟩)] w fun e w' =>
  e = .returned (.int .u32 n) ∧ w' = w.setCell ⟨x,0,none⟩ (.int .u32 (nextN n)):=by
 have bx : Boxed w x 30 (.int .u32 n):=h
 have xc:=bx.cell
 have xf:=bx.frozen
 by_cases hm : n = 4294967295
 ·subst hm
  have c2:=(bx.set (.int .u32 0)).cell
  go_enter Tryz.func42,Tryz.ntmps42
  go_wp2
  go_ret
  exact ⟨rfl,rfl⟩
 ·have hlt : n + 1 ≤ 4294967295:=by omega
  have hn : nextN n = n + 1:=by unfold nextN; rw [if_neg hm]
  rw [hn]
  have c2:=(bx.set (.int .u32 (n + 1))).cell
  have h11 : n + 1 - 1 = n:=by omega
  go_enter Tryz.func42,Tryz.ntmps42
  go_wp2
  go_ret
  first | exact ⟨rfl,rfl⟩ | (refine ⟨?_,rfl⟩; rw [h11])
theorem SgAt.next {B : Nat} {w : World} {a : Sa} {vd vr vu : Value} {s : Sg} (h : SgAt B w a vd vr vu s) : SgOut B w a (mine a vd vr vu) { s with n:=nextN s.n } (w.setCell ⟨a.x,0,none⟩ (.int .u32 (nextN s.n))):=by
 obtain ⟨ad,n,cap,hS,hq⟩:=h.so
 have hx : a.x ∈ mine a vd vr vu:=mine_iff.2 (by simp)
 have hs:=Sole.setCell (S:=mine a vd vr vu) w (a:=⟨a.x,0,none⟩) (.int .u32 (nextN s.n)) hx
 obtain ⟨w',hw⟩ : ∃ w',w.setCell ⟨a.x,0,none⟩ (.int .u32 (nextN s.n)) = w':=⟨_,rfl⟩
 have oth : ∀ i,i ≠ a.x → w'.heap[i]? = w.heap[i]?:=fun i hi => by rw [← hw]; exact heap_setCell_other w ⟨a.x,0,none⟩ i _ hi
 have hnew : w'.heap[a.x]? = some (.cells #[.int .u32 (nextN s.n)] 30 (0,0)):=by rw [← hw]; exact heap_setCell_same w a.x 0 _ _ (.int .u32 (nextN s.n)) h.x
 rw [hw] at hs ⊢
 have ne : ∀ {i : Nat} {cs : Array Value} {T : TypeId} {fr : Nat × Nat},w.heap[i]? = some (.cells cs T fr) → T ≠ 30 → w'.heap[i]? = w.heap[i]?:=fun hi ht => oth _ (ne_of_type hi h.x ht)
 have mp : ∀ {i : Nat} {es : Array MapEntry} {cl : Nat},w.heap[i]? = some (.map es cl) → w'.heap[i]? = w.heap[i]?:=fun {i es cl} hi => oth _ (fun e => by rw [e,h.x] at hi; cases hi)
 obtain ⟨n0,n1⟩:=nextN_ok h.n0 h.n1
 have ks : ∀ {p b : Nat} {v : Value} {L : List Tc},SetAt w p b v L → SetAt w' p b v L:=fun {p b v L} hs' => hs'.keep hs.size (fun i hi e => by
  rcases e with rfl | rfl | e
  ·exact ne hs'.row (by decide)
  ·obtain ⟨x,cl,e⟩:=hs'.sp.isMap; exact mp e
  ·obtain ⟨cs,e'⟩:=own_row hs'.own e; exact ne e' (by decide))
 refine ⟨mine a vd vr vu,⟨vd,vr,vu,⟨(ne h.sr (by decide)).trans h.sr,⟨(ne h.vw.row (by decide)).trans h.vw.row⟩,⟨ad,n,cap,⟨(ne hS.row (by decide)).trans hS.row,hS.at_.keep hq hs.size ?_⟩,hq⟩,
  ⟨(ne h.d.row (by decide)).trans h.d.row,h.d.mp.keep (by obtain ⟨x,cl,e⟩:=h.d.mp.isMap; exact mp e),own_keep h.d.pus hs.size (fun q hq hl => by obtain ⟨cs,e⟩:=own_row h.d.pus hq; exact ne e (by decide)),h.d.ok⟩,
  ks h.r,ks h.u,hnew,n0,n1,h.ru,h.rub,h.brb,h.bub,h.vv,h.ge,Nat.le_trans h.le hs.size⟩,rfl⟩,hs,fun k hk => .inl hk⟩
 exact fun i hi hl => oth i (fun e => by have:=h.ge a.x hx; omega)
theorem SgIn.next {B : Nat} {w : World} {a : Sa} {X : List Nat} {s : Sg} (h : SgIn B w a X s) : Calls Tryz.prog 42 #[.pointer (some ⟨a.x,0,none⟩)] w fun e w' =>
  e = .returned (.int .u32 s.n) ∧ SgOut B w a X { s with n:=nextN s.n } w':=by
 obtain ⟨vd,vr,vu,h,rfl⟩:=h
 refine (alloc_any h.x h.n0 h.n1).mono ?_
 rintro e w' ⟨rfl,rfl⟩
 exact ⟨rfl,h.next⟩
theorem sg_n {B : Nat} {w : World} {a : Sa} {X : List Nat} {s : Sg} (h : SgIn B w a X s) : 0 ≤ s.n ∧ s.n ≤ 4294967295:=by
 obtain ⟨vd,vr,vu,h,rfl⟩:=h
 exact ⟨h.n0,h.n1⟩
def makC (s : Sg) (kind mode : Int) : Cg:=freshC (recP s.n) kind mode 1 0
def makS (s : Sg) (kind mode : Int) : Sg:={ s with n:=nextN s.n,d:=putS s.d (makC s kind mode) }
def makR (s : Sg) (kind mode : Int) : Sg × Int × Int :=
 if inoOk kind mode 1 0 = false then (s,0,1)
 else if (putX s.d (makC s kind mode)).2 ≠ 0 then (makS s kind mode,0,(putX s.d (makC s kind mode)).2)
 else (makS s kind mode,s.n,0)
theorem bt_freshP (p : Pl) (k m l z : Int) : Tryz.prog.built 114 [(0,plV p),(2,.bool true),(4,.agg #[.int .i64 k,.int .i64 m,.int .i64 l,.int .i64 z])] = some (cgC (freshC p k m l z)):=bt_fresh p k m l z
theorem makC_ok {s : Sg} (h0 : 0 ≤ s.n) (h1 : s.n ≤ 4294967295) {kind mode : Int} (h : inoOk kind mode 1 0 = true) : CgOk (makC s kind mode):=by
 have hb:=(bd_ok h).ok
 exact ⟨recP_ok h0 h1,by simp only [makC,freshC]; omega,by simp only [makC,freshC]; omega,hb,by simp [makC,freshC],by simp [makC,freshC],pt0_ok⟩
theorem make_in {B : Nat} {w : World} {a : Sa} {X : List Nat} {s : Sg} (h : SgIn B w a X s) (kind mode : Int) (hL : s.d.L.length ≤ 5000) (hP : s.d.pus.length ≤ 5000) : Calls Tryz.prog 44 #[.pointer (some ⟨a.s,0,none⟩),.int .i64 kind,.int .i64 mode] w fun e w' =>
  e = .returned (.tuple #[.int .u32 (makR s kind mode).2.1,.int .i64 (makR s kind mode).2.2]) ∧ SgOut B w a X (makR s kind mode).1 w':=by
 obtain ⟨hn0,hn1⟩:=sg_n h
 have hX:=h.lt
 have HF : Hid (makR s kind mode = if inoOk kind mode 1 0 = false then (s,0,1) else if (putX s.d (makC s kind mode)).2 ≠ 0 then (makS s kind mode,0,(putX s.d (makC s kind mode)).2) else (makS s kind mode,s.n,0)):=rfl
 generalize makR s kind mode = R at *
 have hb1:=bel1 w (.cells #[.int .i64 kind,.int .i64 mode,.int .i64 1,.int .i64 0] 41)
 have hi1 : InRow (w.alloc (.cells #[.int .i64 kind,.int .i64 mode,.int .i64 1,.int .i64 0] 41)) w.heap.size kind mode 1 0:=⟨heap_alloc_new w _⟩
 have cc:=checkInode_any (w.alloc (.cells #[.int .i64 kind,.int .i64 mode,.int .i64 1,.int .i64 0] 41)) kind mode 1 0
 have HH : Hid (SgIn B w a X s):=h
 have HB1 : Hid (Below w.heap.size w (w.alloc (.cells #[.int .i64 kind,.int .i64 mode,.int .i64 1,.int .i64 0] 41))):=hb1
 have HI1 : Hid (InRow (w.alloc (.cells #[.int .i64 kind,.int .i64 mode,.int .i64 1,.int .i64 0] 41)) w.heap.size kind mode 1 0):=hi1
 have HX : Hid (∀ k ∈ X,k < w.heap.size):=hX
 have HN : Hid (0 ≤ s.n ∧ s.n ≤ 4294967295):=⟨hn0,hn1⟩
 have HL : Hid (s.d.L.length ≤ 5000 ∧ s.d.pus.length ≤ 5000):=⟨hL,hP⟩
 have l1 : Hid _:=hi1.load
 clear h hb1 hi1 hX hn0 hn1 hL hP
 go_enter Tryz.func44,Tryz.ntmps44
 go_wp2_with (refine wpList_loadG rfl 41 _ rfl _ rfl _ l1.out ?_)
 refine cc.mono ?_
 rintro e w2 ⟨rfl,hb2⟩
 clear cc l1
 have HB2 : Hid (Below w.heap.size w w2):=thenB HB1.out hb2
 have HI2 : Hid (InRow w2 w.heap.size kind mode 1 0):=HI1.out.below hb2
 clear hb2 HB1 HI1
 cases hok : inoOk kind mode 1 0 with
 | false =>
  have HE : Hid (R = (s,0,1)):=by unfold Hid; rw [HF.out,if_pos hok]
  rw [inoE_11 hok]
  clear HF
  go_wp2
  go_ret2
  exact ⟨by rw [HE.out]; first | done | rfl,by rw [HE.out]; exact HH.out.out HB2.out⟩
 | true =>
 rw [inoE_0 hok]
 have HE0 : Hid ((if (putX s.d (makC s kind mode)).2 ≠ 0 then (makS s kind mode,0,(putX s.d (makC s kind mode)).2) else (makS s kind mode,s.n,0)) = R):=by have:=HF.out; rw [if_neg (by rw [hok]; decide)] at this; exact this.symm
 have HCG : Hid (CgOk (makC s kind mode)):=makC_ok HN.out.1 HN.out.2 hok
 have h2:=HH.out.below HB2.out
 have c3:=h2.c3
 unfold alV at c3
 have ca:=h2.next
 clear HF hok
 clear h2
 go_wp2_with fail
 refine ca.mono ?_
 rintro e w3 ⟨rfl,ho3⟩
 clear ca c3
 have HI3 : Hid (InRow w3 w.heap.size kind mode 1 0):=HI2.out.sole ho3.sole (fun e => by have:=HX.out _ e; omega)
 obtain ⟨X3,hx1,hx2,hx3⟩:=ho3
 have HX2 : Hid (Sole X w2 w3):=hx2
 have HX3 : Hid (∀ k ∈ X3,k ∈ X ∨ w2.heap.size ≤ k):=hx3
 have HNX : Hid (w.heap.size ∉ X3):=fun hm => by
  rcases hx3 _ hm with e | e
  ·have:=HX.out _ e; omega
  ·have:=HI2.out.lt; omega
 have HX1 : Hid (SgIn B w3.drew a X3 { s with n:=nextN s.n }):=hx1.drew
 have hS0 : SRow w3.drew a ∧ InRow w3.drew w.heap.size kind mode 1 0:=⟨HX1.out.row,⟨HI3.out.row⟩⟩
 have lJ : ∀ W,(SRow W a ∧ InRow W w.heap.size kind mode 1 0) → (Instr.loadAt 41 (.pointer (some ⟨w.heap.size,0,none⟩))).run Tryz.prog W = .ok (.agg #[.int .i64 kind,.int .i64 mode,.int .i64 1,.int .i64 0]) W:=fun W h => h.2.load
 clear hx1 hx2 hx3
 go_wp2_with fail
 refine wp_region_noPanic ?_
 refine wp_region_held_drew (S:=fun W => SRow W a ∧ InRow W w.heap.size kind mode 1 0) (by kernel_rfl) hS0 (fun hHeld => ?_)
 refine tk 0 (.pointer (some ⟨a.s,0,none⟩)) rfl ?_
 try simp only [nz]
 refine tk 1 (.pointer (some ⟨a.s,0,none⟩)) rfl ?_
 try simp only [nz]
 refine tk 2 (.pointer (some ⟨a.s,0,none⟩)) rfl ?_
 try simp only [nz]
 refine tk 3 (.pointer (some ⟨a.v,0,none⟩)) rfl ?_ (fun W hSw => by (try dsimp only at hSw); (have z:=hSw.1.c0; go_simp))
 try simp only [nz]
 refine tk 4 (.int .u32 s.n) rfl ?_
 try simp only [nz]
 refine wpAnyH_take (i:=6) (v:=.agg #[.int .i64 kind,.int .i64 mode,.int .i64 1,.int .i64 0]) rfl (by kernel_rfl) (by kernel_rfl) (by kernel_rfl) (fun _ _ _ h => h) (yields_load (by rfl) _ _ rfl _ rfl _ lJ) (by assumption) ?_
 try simp only [nz]
 have cr:=irec_any w3.drew s.n
 refine rd 5 rfl (fun K hK => ?_)
 go_simp
 go_wp2_with (go_at_call 58; refine cr.mono ?_; rintro e w8 ⟨rfl,hb8⟩)
 refine hK.out _ _ ⟨hHeld.1.below hb8,hHeld.2.below hb8⟩ (fun hHeld2 => ?_)
 clear hK K cr
 try simp only [nz]
 refine wpAnyH_take (i:=7) (v:=.agg (cgC (makC s kind mode))) rfl (by kernel_rfl) (by kernel_rfl) (by kernel_rfl) (fun _ _ _ h => h) (yields_build (by rfl) 114 _ rfl [(0,plV (recP s.n)),(2,.bool true),(4,.agg #[.int .i64 kind,.int .i64 mode,.int .i64 1,.int .i64 0])] (by kernel_rfl) _ (bt_freshP (recP s.n) kind mode 1 0)) (by assumption) ?_
 try simp only [nz]
 have cp:=(HX1.out.below hb8).put (makC s kind mode) HCG.out HL.out.1 HL.out.2
 refine rd 8 rfl (fun K hK => ?_)
 go_simp
 go_wp2_with (go_at_call 69; refine cp.mono ?_; rintro e w9 ⟨rfl,ho9⟩)
 have HO9 : Hid (SgOut B w a X (makS s kind mode) w9):=SgOut.pre HB2.out (SgOut.then HX2.out HX3.out (SgOut.pre (w1:=w8) ((Below.refl _ w3).drew.trans (hb8.mono (Nat.le_refl _))) ho9))
 refine hK.out _ _ ⟨ho9.srow,hHeld2.2.sole ho9.sole HNX.out⟩ (fun hHeld3 => ?_)
 clear hK K cp
 try simp only [nz]
 refine tk 9 (.int .i64 (putX s.d (makC s kind mode)).2) rfl ?_
 try simp only [nz]
 refine wpAnyH_done (by kernel_rfl) ?_ _
 refine NoPanic.normal ?_
 clear hHeld hHeld2 hHeld3 ho9 hb8 lJ hS0 HX1 HCG
 generalize putX s.d (makC s kind mode) = PX at *
 generalize makS s kind mode = MS at *
 obtain ⟨pc,pe⟩:=PX
 dsimp only at HE0 ⊢
 by_cases hpe : pe = 0
 case neg =>
  have hpb : (pe != 0) = true:=by simpa using hpe
  have HE : Hid (R = (MS,0,pe)):=by have:=HE0.out; rw [if_pos hpe] at this; exact this.symm
  clear HE0
  go_wp2
  go_ret2
  exact ⟨by rw [HE.out]; first | done | rfl,by rw [HE.out]; exact HO9.out⟩
 subst hpe
 have HE : Hid (R = (MS,s.n,0)):=by have:=HE0.out; rw [if_neg (by simp)] at this; exact this.symm
 clear HE0
 go_wp2
 go_ret2
 exact ⟨by rw [HE.out]; first | done | rfl,by rw [HE.out]; exact HO9.out⟩
open Go.RowKit Go.Maps
def lkE (g : Sg × Int) (n : Int) : Sg × Int × Int:=if g.2 ≠ 0 then (g.1,0,g.2) else (g.1,n,0)
def lkB (s : Sg) (ino l by_ : Int) : Sg × Int × Int :=
 if by_ < -l ∨ 15 - l < by_ then (s,0,170) else if l + by_ = 0 then lkE (rmR s ino) 0 else if by_ = 0 then (s,l + by_,0) else lkE (setR s ino [(2,l + by_)]) (l + by_)
def lkR (s : Sg) (ino by_ : Int) : Sg × Int × Int :=
 if (fdR s ino).2 ≠ 0 then (s,0,(fdR s ino).2) else if (fdR s ino).1.k = 2 then (s,0,193) else lkB { s with R:=addK s.R ino [2] } ino (fdR s ino).1.l by_
theorem rd_fi (w : World) (f : Int × Int) : RdZ 2 fiE (w.alloc (.cells #[.int .i64 f.1,.int .i64 f.2] 139)) (.slice (some ⟨w.heap.size,0,none⟩) 1 1) [f] :=
 rdZ_own fi_len (base:=w.heap.size) (e:=139) ⟨rfl,.inr ⟨w.heap.size,1,#[.int .i64 f.1,.int .i64 f.2],rfl,Nat.le_refl _,heap_alloc_new _ _,Nat.le_refl _,by decide,rfl,rfl⟩⟩
theorem link_in {B : Nat} {w : World} {a : Sa} {X : List Nat} {s : Sg} (h : SgIn B w a X s) (ino : Int) (h0 : 0 ≤ ino) (h1 : ino ≤ 4294967295) (y : Int) (hy0 : -9223372036854775808 ≤ y) (hy1 : y ≤ 9223372036854775807) {N : Nat} (hk : Sk s N) (hN : N ≤ 3900) (hR : s.R.length ≤ 17998) (hU : s.U.length ≤ 17999) : Calls Tryz.prog 37 #[.pointer (some ⟨a.s,0,none⟩),.int .u32 ino,.int .i64 y] w fun e w' =>
  e = .returned (.tuple #[.int .i64 (lkR s ino y).2.1,.int .i64 (lkR s ino y).2.2]) ∧ SgOut B w a X (lkR s ino y).1 w':=by
 have cf:=find_in h ino h0 h1
 have hbd:=fd_bd (sg_ok h) hk.ck ino
 have HF : Hid (lkR s ino y = if (fdR s ino).2 ≠ 0 then (s,0,(fdR s ino).2) else if (fdR s ino).1.k = 2 then (s,0,193) else lkB { s with R:=addK s.R ino [2] } ino (fdR s ino).1.l y):=rfl
 generalize lkR s ino y = R at *
 generalize fdR s ino = F at *
 obtain ⟨⟨fk,fm,fl,fz⟩,fe⟩:=F
 unfold inV at cf
 dsimp only at cf HF hbd ⊢
 have HH : Hid (SgIn B w a X s):=h
 have HBD : Hid (Bd ⟨fk,fm,fl,fz⟩):=hbd
 have HX : Hid (∀ k ∈ X,k < w.heap.size):=h.lt
 have HK : Hid (Sk s N):=hk
 have HN : Hid (N ≤ 3900):=hN
 have HL : Hid (s.R.length ≤ 17998 ∧ s.U.length ≤ 17999):=⟨hR,hU⟩
 clear h hbd hk hR hU hN
 go_enter Tryz.func37,Tryz.ntmps37
 go_wp2_with fail
 refine cf.mono ?_
 rintro e w1 ⟨rfl,hb1⟩
 clear cf
 have hb2:=bel1 w1 (.cells #[.int .i64 fk,.int .i64 fm,.int .i64 fl,.int .i64 fz] 41)
 have hi2 : InRow (w1.alloc (.cells #[.int .i64 fk,.int .i64 fm,.int .i64 fl,.int .i64 fz] 41)) w1.heap.size fk fm fl fz:=⟨heap_alloc_new w1 _⟩
 obtain ⟨w2,hw2⟩ : ∃ w2,w1.alloc (.cells #[.int .i64 fk,.int .i64 fm,.int .i64 fl,.int .i64 fz] 41) = w2:=⟨_,rfl⟩
 rw [hw2] at hb2 hi2
 have hB2:=thenB hb1 hb2
 have HB2 : Hid (Below w.heap.size w w2):=hB2
 have HLE : Hid (w.heap.size ≤ w1.heap.size):=hb1.size
 by_cases he : fe = 0
 case neg =>
  have heb : (fe != 0) = true:=by simpa using he
  have HE : Hid (R = (s,0,fe)):=by unfold Hid; rw [HF.out,if_pos he]
  clear HF hi2
  go_wp2
  go_ret2
  exact ⟨by rw [HE.out]; first | done | rfl,by rw [HE.out]; exact HH.out.out HB2.out⟩
 subst he
 have i0:=hi2.cell 0 _ rfl
 have HI2 : Hid (InRow w2 w1.heap.size fk fm fl fz):=hi2
 clear hi2 hb1 hb2 hB2
 by_cases hk2 : fk = 2
 case pos =>
  subst hk2
  have HE : Hid (R = (s,0,193)):=by unfold Hid; rw [HF.out,if_neg (by simp),if_pos rfl]
  clear HF
  go_wp2
  go_ret2
  exact ⟨by rw [HE.out]; first | done | rfl,by rw [HE.out]; exact HH.out.out HB2.out⟩
 have hk2b : (fk == 2) = false:=by simpa using hk2
 have HE : Hid (R = lkB { s with R:=addK s.R ino [2] } ino fl y):=by unfold Hid; rw [HF.out,if_neg (by simp),if_neg hk2]
 have HK1 : Hid (Sk { s with R:=addK s.R ino [2] } (N + 1)):=HK.out.read ino [2]
 have HL1 : Hid ((addK s.R ino [2]).length ≤ 17999 ∧ s.U.length ≤ 17999):=⟨by have:=addK_len s.R ino [2]; have:=HL.out.1; simp at *; omega,HL.out.2⟩
 have hb3:=bel1 w2 (.cells #[.int .i64 2] 3)
 have hk3 : RdKs (w2.alloc (.cells #[.int .i64 2] 3)) (.slice (some ⟨w2.heap.size,0,none⟩) 1 1) [2]:=rdKs_lit w2 [2]
 obtain ⟨w3,hw3⟩ : ∃ w3,w2.alloc (.cells #[.int .i64 2] 3) = w3:=⟨_,rfl⟩
 rw [hw3] at hb3 hk3
 have c1:=(HH.out.below HB2.out).c1
 have ct:=((HH.out.below HB2.out).below hb3).touchR ino h0 h1 _ _ _ _ hk3 (by intro k hk; simp at hk; omega) (by decide) (by have:=HL.out.1; omega)
 have HB3 : Hid (Below w.heap.size w w3):=thenB HB2.out hb3
 have HI3 : Hid (InRow w3 w1.heap.size fk fm fl fz):=HI2.out.below hb3
 clear hb3 hk3 HB2 HI2 HF hk2
 go_wp2_with fail
 refine ct.mono ?_
 rintro e w4 ⟨rfl,ho4⟩
 clear ct c1 i0
 have hi4 : InRow w4 w1.heap.size fk fm fl fz:=HI3.out.sole ho4.sole (fun e => by have:=HX.out _ e; have:=HLE.out; omega)
 have i2:=hi4.cell 2 _ rfl
 obtain ⟨S1,hS1⟩ : ∃ S1 : Sg,({ s with R:=addK s.R ino [2] } : Sg) = S1:=⟨_,rfl⟩
 have HO4 : Hid (SgOut B w a X S1 w4):=by unfold Hid; rw [← hS1]; exact SgOut.pre HB3.out ho4
 rw [hS1] at HE HK1
 have HL4 : Hid (S1.R.length ≤ 17999 ∧ S1.U.length ≤ 17999):=by unfold Hid; rw [← hS1]; exact HL1.out
 have hl0:=HBD.out.l0
 have hl1:=HBD.out.l1
 dsimp only at hl0 hl1
 have hneg : ¬ (-fl < -9223372036854775808):=by omega
 clear hS1 ho4 hi4 HB3 HI3 HL1 HL HK
 by_cases hlo : y < -fl
 case pos =>
  have HE1 : Hid (R = (S1,0,170)):=by unfold Hid; rw [HE.out]; unfold lkB; rw [if_pos (.inl hlo)]
  clear HE
  go_wp2
  go_ret2
  exact ⟨by rw [HE1.out]; first | done | rfl,by rw [HE1.out]; exact HO4.out⟩
 by_cases hhi : 15 - fl < y
 case pos =>
  have HE1 : Hid (R = (S1,0,170)):=by unfold Hid; rw [HE.out]; unfold lkB; rw [if_pos (.inr hhi)]
  clear HE
  go_wp2
  go_ret2
  exact ⟨by rw [HE1.out]; first | done | rfl,by rw [HE1.out]; exact HO4.out⟩
 obtain ⟨L,hL⟩ : ∃ L,fl + y = L:=⟨_,rfl⟩
 have hLb : 0 ≤ L ∧ L ≤ 15:=by omega
 obtain ⟨X4,hx1,hx2,hx3⟩:=HO4.out
 have HX2 : Hid (Sole X w w4):=hx2
 have HX3 : Hid (∀ k ∈ X4,k ∈ X ∨ w.heap.size ≤ k):=hx3
 have HX1 : Hid (SgIn B w4 a X4 S1):=hx1
 clear hx1 hx2 hx3
 by_cases hz : L = 0
 case pos =>
  have hyl : y = -fl:=by omega
  have HE1 : Hid (R = lkE (rmR S1 ino) 0):=by unfold Hid; rw [HE.out]; unfold lkB; rw [if_neg (by omega),if_pos (by omega)]
  have cr:=rm_in HX1.out ino h0 h1 HK1.out (by have:=HN.out; omega) HL4.out.1 HL4.out.2
  clear HE hlo hhi
  have hsum : fl + y = 0:=by omega
  clear hL hyl
  go_wp2_with fail
  refine cr.mono ?_
  rintro e w5 ⟨rfl,ho5⟩
  have HO5 : Hid (SgOut B w a X (rmR S1 ino).1 w5):=SgOut.then HX2.out HX3.out ho5
  clear cr ho5
  generalize rmR S1 ino = G at *
  obtain ⟨gs,ge⟩:=G
  dsimp only at HO5 ⊢
  by_cases hge : ge = 0
  ·subst hge
   have HE2 : Hid (R = (gs,0,0)):=by unfold Hid; rw [HE1.out]; rfl
   clear HE1
   go_wp2
   go_ret2
   exact ⟨by rw [HE2.out]; first | done | rfl,by rw [HE2.out]; exact HO5.out⟩
  ·have hgb : (ge != 0) = true:=by simpa using hge
   have HE2 : Hid (R = (gs,0,ge)):=by unfold Hid; rw [HE1.out]; unfold lkE; rw [if_pos hge]
   clear HE1
   go_wp2
   go_ret2
   exact ⟨by rw [HE2.out]; first | done | rfl,by rw [HE2.out]; exact HO5.out⟩
 by_cases hyz : y = 0
 case pos =>
  subst hyz
  have HE1 : Hid (R = (S1,L,0)):=by unfold Hid; rw [HE.out]; unfold lkB; rw [if_neg (by omega),if_neg (by omega),if_pos rfl,hL]
  clear HE
  have hfl : fl = L:=by omega
  clear hL
  subst hfl
  go_wp2
  go_ret2
  exact ⟨by rw [HE1.out]; first | done | rfl,by rw [HE1.out]; exact HO4.out⟩
 have HE1 : Hid (R = lkE (setR S1 ino [(2,L)]) L):=by unfold Hid; rw [HE.out]; unfold lkB; rw [if_neg (by omega),if_neg (by omega),if_neg hyz,hL]
 have hb5:=bel1 w4 (.cells #[.int .i64 2,.int .i64 L] 139)
 have hr5:=rd_fi w4 (2,L)
 obtain ⟨w5,hw5⟩ : ∃ w5,w4.alloc (.cells #[.int .i64 2,.int .i64 L] 139) = w5:=⟨_,rfl⟩
 dsimp only at hr5
 rw [hw5] at hb5 hr5
 have cs:=set_in (HX1.out.below hb5) ino h0 h1 _ _ _ [(2,L)] hr5 (by decide) (by intro f hf; simp at hf; subst hf; dsimp only; omega) (by have:=HK1.out.L; have:=HN.out; omega) (by have:=HK1.out.P; have:=HN.out; omega) (by have:=HL4.out.2; omega)
 have HB5 : Hid (Below w4.heap.size w4 w5):=hb5
 have hyb : (y != 0) = true:=by simpa using hyz
 have hzb : (L == 0) = false:=by simpa using hz
 clear HE hb5 hr5
 go_wp2_with fail
 refine cs.mono ?_
 rintro e w6 ⟨rfl,ho6⟩
 have HO6 : Hid (SgOut B w a X (setR S1 ino [(2,L)]).1 w6):=SgOut.then HX2.out HX3.out (SgOut.pre HB5.out ho6)
 clear cs ho6
 generalize setR S1 ino [(2,L)] = G at *
 obtain ⟨gs,ge⟩:=G
 dsimp only at HO6 ⊢
 by_cases hge : ge = 0
 ·subst hge
  have HE2 : Hid (R = (gs,L,0)):=by unfold Hid; rw [HE1.out]; rfl
  clear HE1
  go_wp2
  go_ret2
  exact ⟨by rw [HE2.out]; first | done | rfl,by rw [HE2.out]; exact HO6.out⟩
 ·have hgb : (ge != 0) = true:=by simpa using hge
  have HE2 : Hid (R = (gs,0,ge)):=by unfold Hid; rw [HE1.out]; unfold lkE; rw [if_pos hge]
  clear HE1
  go_wp2
  go_ret2
  exact ⟨by rw [HE2.out]; first | done | rfl,by rw [HE2.out]; exact HO6.out⟩
end Go.Proofs.YtgajjphjkbnaeaaGreat
