/- DrS: in one text. -/
import Derived.Test.YtgajjphjkbnaeaaGreatQ1
import Derived.Test.YtgajjphjkbnaeaaGreatQ48
namespace Go.Proofs.YtgajjphjkbnaeaaGreat
open Go.RowKit
set_option linter.unusedVariables false
set_option maxHeartbeats 32000000
set_option maxRecDepth 100000
set_option linter.unusedSimpArgs false
open Go.RowKit Go.Maps
structure Rop where
 d : Int
 k : Int
 m : Int
 old : ByteArray
 p : ByteArray
def ropC (o : Rop) : Array Value:=#[.int .i64 o.d,.int .i64 o.k,.int .i64 o.m,.string o.old,.string o.p]
structure RopAt (w : World) (g : Nat) (o : Rop) : Prop where
 row : w.heap[g]? = some (.cells (ropC o) 56 (0,0))
theorem RopAt.below {w w' : World} {g : Nat} {o : Rop} (h : RopAt w g o) (hb : Below w.heap.size w w') : RopAt w' g o:=⟨(hb.block _ (lt_of_row h.row)).trans h.row⟩
theorem RopAt.cell {w : World} {g : Nat} {o : Rop} (h : RopAt w g o) (j : Nat) (v : Value) (hv : (ropC o)[j]? = some v) : w.cell? ⟨g,j,none⟩ = some v:=by
 rw [cell_of_row _ _ _ _ _ (0,0) h.row]; exact hv
theorem RopAt.load {w : World} {g : Nat} {o : Rop} (h : RopAt w g o) : (Instr.loadAt 56 (.pointer (some ⟨g,0,none⟩))).run Tryz.prog w = .ok (.agg (ropC o)) w:=by
 have:=run_loadAt_mid (P:=Tryz.prog) w g 0 56 (ropC o).toList _ (fun j u hu => by rw [cell_of_row _ _ _ _ _ (0,0) h.row,Nat.zero_add,← Array.getElem?_toList]; exact hu) Tryz.underlying56 rfl (by kernel_rfl)
 simpa using this
theorem RopAt.c1 {w : World} {g : Nat} {d k m : Int} {old p : ByteArray} (h : RopAt w g ⟨d,k,m,old,p⟩) : w.cell? ⟨g,1,none⟩ = some (.int .i64 k):=h.cell 1 _ rfl
theorem RopAt.c2 {w : World} {g : Nat} {d k m : Int} {old p : ByteArray} (h : RopAt w g ⟨d,k,m,old,p⟩) : w.cell? ⟨g,2,none⟩ = some (.int .i64 m):=h.cell 2 _ rfl
theorem RopAt.c3 {w : World} {g : Nat} {d k m : Int} {old p : ByteArray} (h : RopAt w g ⟨d,k,m,old,p⟩) : w.cell? ⟨g,3,none⟩ = some (.string old):=h.cell 3 _ rfl
theorem RopAt.c4 {w : World} {g : Nat} {d k m : Int} {old p : ByteArray} (h : RopAt w g ⟨d,k,m,old,p⟩) : w.cell? ⟨g,4,none⟩ = some (.string p):=h.cell 4 _ rfl
def doneR (s : Sg) (o : Rop) : Sg × Int :=
 if o.d = 2 then ((drMake DgP s o.p o.k o.m).1,(drMake DgP s o.p o.k o.m).2.2) else if o.d = 3 then drLink DgP s o.old o.p else if o.d = 4 then drUnlink DgP s o.p else if o.d = 5 then drRmdir DgP s o.p else if o.d = 6 then drRename DgP s o.old o.p else (s,0)
def DnOut (B : Nat) (w0 : World) (pp : Nat) (a : Sa) (s : Sg) (n : Nat) (R : Sg × Int) (e : Ending) (w' : World) : Prop:=e = .returned (.bool (R.2 == 0)) ∧ Pr B w0 w' pp a R.1 ∧ Sk R.1 (n + 50) ∧ Jr s R.1
theorem done_make {B : Nat} {w0 w : World} {pp : Nat} {a : Sa} {s : Sg} {n : Nat} (h : Pr B w0 w pp a s) (hj : Jv s) (hk : Sk s n) (hn : n ≤ 3800) (rk rm : Int) (ro rp : ByteArray) (hs : ro.size ≤ maxLen ∧ rp.size ≤ maxLen) :
  Calls Tryz.prog 22 #[.pointer (some ⟨pp,0,none⟩),.agg (ropC ⟨2,rk,rm,ro,rp⟩)] w (DnOut B w0 pp a s n ((drMake DgP s rp rk rm).1,(drMake DgP s rp rk rm).2.2)):=by
 have hb1:=bel1 w (.cells (ropC ⟨2,rk,rm,ro,rp⟩) 56)
 have ho1 : RopAt (w.alloc (.cells (ropC ⟨2,rk,rm,ro,rp⟩) 56)) w.heap.size ⟨2,rk,rm,ro,rp⟩:=⟨heap_alloc_new w _⟩
 obtain ⟨w1,hw1⟩ : ∃ w1,w.alloc (.cells (ropC ⟨2,rk,rm,ro,rp⟩) 56) = w1:=⟨_,rfl⟩
 rw [hw1] at hb1 ho1
 have h1:=h.below hb1
 have HO1 : Hid (RopAt w1 w.heap.size ⟨2,rk,rm,ro,rp⟩):=ho1
 have v0 : w1.cell? ⟨w.heap.size,0,none⟩ = some (.int .i64 2):=ho1.cell 0 _ rfl
 have HB : Hid (Below B w0 w1 ∧ B ≤ w0.heap.size):=⟨h1.bel,h1.B⟩
 obtain ⟨X,x,hp1,hx1⟩:=h1.ex
 have HP1 : Hid (PrAt w1 pp a x):=hp1
 have HX1 : Hid (SgIn B w1 a X s):=hx1
 have HNX : Hid (w.heap.size ∉ X ∧ pp ∉ X):=⟨by obtain ⟨vd,vr,vu,hg,rfl⟩:=hx1; exact hg.other ho1.row (by decide) (by decide) (by decide) (by decide) (by decide),hx1.not_pair hp1⟩
 have HKP : Hid (DgP.Kp s s n):=⟨hk,Jr_refl hj⟩
 have cc : ∀ W,SgIn B W a X s → Calls Tryz.prog 17 #[.pointer (some ⟨a.s,0,none⟩),.string rp,.int .i64 rk,.int .i64 rm] W fun e w' => e = .returned (.tuple #[.int .u32 (drMake DgP s rp rk rm).2.1,.int .i64 (drMake DgP s rp rk rm).2.2]) ∧ SgOut B W a X (drMake DgP s rp rk rm).1 w' ∧ DgP.Kp s (drMake DgP s rp rk rm).1 (n + 50):=fun W hX => make_g DgP_ok (s:=s) hX rp hs.2 rk rm HKP.out hn
 unfold DnOut
 generalize drMake DgP s rp rk rm = R0 at *
 obtain ⟨s1,u0,e0⟩:=R0
 dsimp only at cc ⊢
 unfold ropC at hw1 ⊢
 dsimp only at hw1 ⊢
 clear h hb1 ho1 h1 hp1 hx1 hk hj hn hs
 go_enter Tryz.func22,Tryz.ntmps22
 go_upto_region 4 with fail
 try rw [hw1]
 clear hw1 v0
 refine wp_region_noPanic ?_
 refine wp_region_held_drew (S:=fun W => PrAt W pp a x ∧ RopAt W w.heap.size ⟨2,rk,rm,ro,rp⟩) (by kernel_rfl) ⟨HP1.out,⟨HO1.out.row⟩⟩ (fun hHeld => ?_)
 refine tk 0 (.pointer (some ⟨pp,0,none⟩)) rfl ?_
 try simp only [nz]
 refine tk 1 (.pointer (some ⟨pp,0,none⟩)) rfl ?_
 try simp only [nz]
 refine tk 2 (.pointer (some ⟨pp,0,none⟩)) rfl ?_
 try simp only [nz]
 refine tk 3 (.pointer (some ⟨a.s,0,none⟩)) rfl ?_ (fun W hSw => by (try dsimp only at hSw); (have z:=PrAt.c0 hSw.1; go_simp))
 try simp only [nz]
 refine tk 4 (.pointer (some ⟨w.heap.size,4,none⟩)) rfl ?_
 try simp only [nz]
 refine tk 5 (.string rp) rfl ?_ (fun W hSw => by (try dsimp only at hSw); (have z:=hSw.2.c4; go_simp))
 try simp only [nz]
 refine tk 6 (.pointer (some ⟨w.heap.size,1,none⟩)) rfl ?_
 try simp only [nz]
 refine tk 7 (.int .i64 rk) rfl ?_ (fun W hSw => by (try dsimp only at hSw); (have z:=hSw.2.c1; go_simp))
 try simp only [nz]
 refine tk 8 (.pointer (some ⟨w.heap.size,2,none⟩)) rfl ?_
 try simp only [nz]
 refine tk 9 (.int .i64 rm) rfl ?_ (fun W hSw => by (try dsimp only at hSw); (have z:=hSw.2.c2; go_simp))
 try simp only [nz]
 refine rd 10 rfl (fun K hK => ?_)
 go_simp
 go_wp2_with (go_at_call 17; refine (cc _ (HX1.out.below (Below.refl _ _).drew)).mono ?_; rintro e w2 ⟨rfl,⟨X2,k1,k2,k3⟩,hkp⟩)
 have hS2 : PrAt w2 pp a x ∧ RopAt w2 w.heap.size ⟨2,rk,rm,ro,rp⟩:=⟨k2.row hHeld.1 HNX.out.2,⟨k2.row hHeld.2.row HNX.out.1⟩⟩
 refine hK.out _ _ hS2 (fun hHeld2 => ?_)
 clear hK K
 try simp only [nz]
 refine tk 11 (.tuple #[.int .u32 u0,.int .i64 e0]) rfl ?_
 try simp only [nz]
 refine tk 12 (.int .u32 u0) rfl ?_
 try simp only [nz]
 refine tk 13 (.int .i64 e0) rfl ?_
 try simp only [nz]
 refine tk 14 (.int .i64 e0) rfl ?_
 try simp only [nz]
 refine wpAnyH_done (by kernel_rfl) ?_ _
 refine NoPanic.normal ?_
 have HF : Hid (Pr B w0 w2 pp a s1 ∧ Sk s1 (n + 50) ∧ Jr s s1):=⟨⟨⟨X2,x,hS2.1,k1⟩,HB.out.1.trans ((Below.refl B w1).drew.trans (k2.belowX HX1.out.ge (Nat.le_trans HB.out.2 HB.out.1.size))),HB.out.2⟩,hkp.k,hkp.j⟩
 clear hHeld hHeld2 hS2 k1 k2 k3 hkp cc HX1
 go_wp2_with fail
 go_ret
 exact ⟨rfl,HF.out⟩
theorem done_link {B : Nat} {w0 w : World} {pp : Nat} {a : Sa} {s : Sg} {n : Nat} (h : Pr B w0 w pp a s) (hj : Jv s) (hk : Sk s n) (hn : n ≤ 3800) (rk rm : Int) (ro rp : ByteArray) (hs : ro.size ≤ maxLen ∧ rp.size ≤ maxLen) :
  Calls Tryz.prog 22 #[.pointer (some ⟨pp,0,none⟩),.agg (ropC ⟨3,rk,rm,ro,rp⟩)] w (DnOut B w0 pp a s n (drLink DgP s ro rp)):=by
 have hb1:=bel1 w (.cells (ropC ⟨3,rk,rm,ro,rp⟩) 56)
 have ho1 : RopAt (w.alloc (.cells (ropC ⟨3,rk,rm,ro,rp⟩) 56)) w.heap.size ⟨3,rk,rm,ro,rp⟩:=⟨heap_alloc_new w _⟩
 obtain ⟨w1,hw1⟩ : ∃ w1,w.alloc (.cells (ropC ⟨3,rk,rm,ro,rp⟩) 56) = w1:=⟨_,rfl⟩
 rw [hw1] at hb1 ho1
 have h1:=h.below hb1
 have HO1 : Hid (RopAt w1 w.heap.size ⟨3,rk,rm,ro,rp⟩):=ho1
 have v0 : w1.cell? ⟨w.heap.size,0,none⟩ = some (.int .i64 3):=ho1.cell 0 _ rfl
 have HB : Hid (Below B w0 w1 ∧ B ≤ w0.heap.size):=⟨h1.bel,h1.B⟩
 obtain ⟨X,x,hp1,hx1⟩:=h1.ex
 have HP1 : Hid (PrAt w1 pp a x):=hp1
 have HX1 : Hid (SgIn B w1 a X s):=hx1
 have HNX : Hid (w.heap.size ∉ X ∧ pp ∉ X):=⟨by obtain ⟨vd,vr,vu,hg,rfl⟩:=hx1; exact hg.other ho1.row (by decide) (by decide) (by decide) (by decide) (by decide),hx1.not_pair hp1⟩
 have HKP : Hid (DgP.Kp s s n):=⟨hk,Jr_refl hj⟩
 have cc : ∀ W,SgIn B W a X s → Calls Tryz.prog 13 #[.pointer (some ⟨a.s,0,none⟩),.string ro,.string rp] W fun e w' => e = .returned (.int .i64 (drLink DgP s ro rp).2) ∧ SgOut B W a X (drLink DgP s ro rp).1 w' ∧ DgP.Kp s (drLink DgP s ro rp).1 (n + 50):=fun W hX => link_g DgP_ok (s:=s) hX ro rp hs.1 hs.2 HKP.out hn
 unfold DnOut
 generalize drLink DgP s ro rp = R0 at *
 obtain ⟨s1,e0⟩:=R0
 dsimp only at cc ⊢
 unfold ropC at hw1 ⊢
 dsimp only at hw1 ⊢
 clear h hb1 ho1 h1 hp1 hx1 hk hj hn hs
 go_enter Tryz.func22,Tryz.ntmps22
 go_upto_region 6 with fail
 try rw [hw1]
 clear hw1 v0
 refine wp_region_noPanic ?_
 refine wp_region_held_drew (S:=fun W => PrAt W pp a x ∧ RopAt W w.heap.size ⟨3,rk,rm,ro,rp⟩) (by kernel_rfl) ⟨HP1.out,⟨HO1.out.row⟩⟩ (fun hHeld => ?_)
 refine tk 0 (.pointer (some ⟨pp,0,none⟩)) rfl ?_
 try simp only [nz]
 refine tk 1 (.pointer (some ⟨pp,0,none⟩)) rfl ?_
 try simp only [nz]
 refine tk 2 (.pointer (some ⟨pp,0,none⟩)) rfl ?_
 try simp only [nz]
 refine tk 3 (.pointer (some ⟨a.s,0,none⟩)) rfl ?_ (fun W hSw => by (try dsimp only at hSw); (have z:=PrAt.c0 hSw.1; go_simp))
 try simp only [nz]
 refine tk 4 (.pointer (some ⟨w.heap.size,3,none⟩)) rfl ?_
 try simp only [nz]
 refine tk 5 (.string ro) rfl ?_ (fun W hSw => by (try dsimp only at hSw); (have z:=hSw.2.c3; go_simp))
 try simp only [nz]
 refine tk 6 (.pointer (some ⟨w.heap.size,4,none⟩)) rfl ?_
 try simp only [nz]
 refine tk 7 (.string rp) rfl ?_ (fun W hSw => by (try dsimp only at hSw); (have z:=hSw.2.c4; go_simp))
 try simp only [nz]
 refine rd 8 rfl (fun K hK => ?_)
 go_simp
 go_wp2_with (go_at_call 13; refine (cc _ (HX1.out.below (Below.refl _ _).drew)).mono ?_; rintro e w2 ⟨rfl,⟨X2,k1,k2,k3⟩,hkp⟩)
 have hS2 : PrAt w2 pp a x ∧ RopAt w2 w.heap.size ⟨3,rk,rm,ro,rp⟩:=⟨k2.row hHeld.1 HNX.out.2,⟨k2.row hHeld.2.row HNX.out.1⟩⟩
 refine hK.out _ _ hS2 (fun hHeld2 => ?_)
 clear hK K
 try simp only [nz]
 refine tk 9 (.int .i64 e0) rfl ?_
 try simp only [nz]
 refine wpAnyH_done (by kernel_rfl) ?_ _
 refine NoPanic.normal ?_
 have HF : Hid (Pr B w0 w2 pp a s1 ∧ Sk s1 (n + 50) ∧ Jr s s1):=⟨⟨⟨X2,x,hS2.1,k1⟩,HB.out.1.trans ((Below.refl B w1).drew.trans (k2.belowX HX1.out.ge (Nat.le_trans HB.out.2 HB.out.1.size))),HB.out.2⟩,hkp.k,hkp.j⟩
 clear hHeld hHeld2 hS2 k1 k2 k3 hkp cc HX1
 go_wp2_with fail
 go_ret
 exact ⟨rfl,HF.out⟩
theorem done_unlink {B : Nat} {w0 w : World} {pp : Nat} {a : Sa} {s : Sg} {n : Nat} (h : Pr B w0 w pp a s) (hj : Jv s) (hk : Sk s n) (hn : n ≤ 3800) (rk rm : Int) (ro rp : ByteArray) (hs : ro.size ≤ maxLen ∧ rp.size ≤ maxLen) :
  Calls Tryz.prog 22 #[.pointer (some ⟨pp,0,none⟩),.agg (ropC ⟨4,rk,rm,ro,rp⟩)] w (DnOut B w0 pp a s n (drUnlink DgP s rp)):=by
 have hb1:=bel1 w (.cells (ropC ⟨4,rk,rm,ro,rp⟩) 56)
 have ho1 : RopAt (w.alloc (.cells (ropC ⟨4,rk,rm,ro,rp⟩) 56)) w.heap.size ⟨4,rk,rm,ro,rp⟩:=⟨heap_alloc_new w _⟩
 obtain ⟨w1,hw1⟩ : ∃ w1,w.alloc (.cells (ropC ⟨4,rk,rm,ro,rp⟩) 56) = w1:=⟨_,rfl⟩
 rw [hw1] at hb1 ho1
 have h1:=h.below hb1
 have HO1 : Hid (RopAt w1 w.heap.size ⟨4,rk,rm,ro,rp⟩):=ho1
 have v0 : w1.cell? ⟨w.heap.size,0,none⟩ = some (.int .i64 4):=ho1.cell 0 _ rfl
 have HB : Hid (Below B w0 w1 ∧ B ≤ w0.heap.size):=⟨h1.bel,h1.B⟩
 obtain ⟨X,x,hp1,hx1⟩:=h1.ex
 have HP1 : Hid (PrAt w1 pp a x):=hp1
 have HX1 : Hid (SgIn B w1 a X s):=hx1
 have HNX : Hid (w.heap.size ∉ X ∧ pp ∉ X):=⟨by obtain ⟨vd,vr,vu,hg,rfl⟩:=hx1; exact hg.other ho1.row (by decide) (by decide) (by decide) (by decide) (by decide),hx1.not_pair hp1⟩
 have HKP : Hid (DgP.Kp s s n):=⟨hk,Jr_refl hj⟩
 have cc : ∀ W,SgIn B W a X s → Calls Tryz.prog 14 #[.pointer (some ⟨a.s,0,none⟩),.string rp] W fun e w' => e = .returned (.int .i64 (drUnlink DgP s rp).2) ∧ SgOut B W a X (drUnlink DgP s rp).1 w' ∧ DgP.Kp s (drUnlink DgP s rp).1 (n + 50):=fun W hX => unlink_g DgP_ok (s:=s) hX rp hs.2 HKP.out hn
 unfold DnOut
 generalize drUnlink DgP s rp = R0 at *
 obtain ⟨s1,e0⟩:=R0
 dsimp only at cc ⊢
 unfold ropC at hw1 ⊢
 dsimp only at hw1 ⊢
 clear h hb1 ho1 h1 hp1 hx1 hk hj hn hs
 go_enter Tryz.func22,Tryz.ntmps22
 go_upto_region 8 with fail
 try rw [hw1]
 clear hw1 v0
 refine wp_region_noPanic ?_
 refine wp_region_held_drew (S:=fun W => PrAt W pp a x ∧ RopAt W w.heap.size ⟨4,rk,rm,ro,rp⟩) (by kernel_rfl) ⟨HP1.out,⟨HO1.out.row⟩⟩ (fun hHeld => ?_)
 refine tk 0 (.pointer (some ⟨pp,0,none⟩)) rfl ?_
 try simp only [nz]
 refine tk 1 (.pointer (some ⟨pp,0,none⟩)) rfl ?_
 try simp only [nz]
 refine tk 2 (.pointer (some ⟨pp,0,none⟩)) rfl ?_
 try simp only [nz]
 refine tk 3 (.pointer (some ⟨a.s,0,none⟩)) rfl ?_ (fun W hSw => by (try dsimp only at hSw); (have z:=PrAt.c0 hSw.1; go_simp))
 try simp only [nz]
 refine tk 4 (.pointer (some ⟨w.heap.size,4,none⟩)) rfl ?_
 try simp only [nz]
 refine tk 5 (.string rp) rfl ?_ (fun W hSw => by (try dsimp only at hSw); (have z:=hSw.2.c4; go_simp))
 try simp only [nz]
 refine rd 6 rfl (fun K hK => ?_)
 go_simp
 go_wp2_with (go_at_call 14; refine (cc _ (HX1.out.below (Below.refl _ _).drew)).mono ?_; rintro e w2 ⟨rfl,⟨X2,k1,k2,k3⟩,hkp⟩)
 have hS2 : PrAt w2 pp a x ∧ RopAt w2 w.heap.size ⟨4,rk,rm,ro,rp⟩:=⟨k2.row hHeld.1 HNX.out.2,⟨k2.row hHeld.2.row HNX.out.1⟩⟩
 refine hK.out _ _ hS2 (fun hHeld2 => ?_)
 clear hK K
 try simp only [nz]
 refine tk 7 (.int .i64 e0) rfl ?_
 try simp only [nz]
 refine wpAnyH_done (by kernel_rfl) ?_ _
 refine NoPanic.normal ?_
 have HF : Hid (Pr B w0 w2 pp a s1 ∧ Sk s1 (n + 50) ∧ Jr s s1):=⟨⟨⟨X2,x,hS2.1,k1⟩,HB.out.1.trans ((Below.refl B w1).drew.trans (k2.belowX HX1.out.ge (Nat.le_trans HB.out.2 HB.out.1.size))),HB.out.2⟩,hkp.k,hkp.j⟩
 clear hHeld hHeld2 hS2 k1 k2 k3 hkp cc HX1
 go_wp2_with fail
 go_ret
 exact ⟨rfl,HF.out⟩
theorem done_rmdir {B : Nat} {w0 w : World} {pp : Nat} {a : Sa} {s : Sg} {n : Nat} (h : Pr B w0 w pp a s) (hj : Jv s) (hk : Sk s n) (hn : n ≤ 3800) (rk rm : Int) (ro rp : ByteArray) (hs : ro.size ≤ maxLen ∧ rp.size ≤ maxLen) :
  Calls Tryz.prog 22 #[.pointer (some ⟨pp,0,none⟩),.agg (ropC ⟨5,rk,rm,ro,rp⟩)] w (DnOut B w0 pp a s n (drRmdir DgP s rp)):=by
 have hb1:=bel1 w (.cells (ropC ⟨5,rk,rm,ro,rp⟩) 56)
 have ho1 : RopAt (w.alloc (.cells (ropC ⟨5,rk,rm,ro,rp⟩) 56)) w.heap.size ⟨5,rk,rm,ro,rp⟩:=⟨heap_alloc_new w _⟩
 obtain ⟨w1,hw1⟩ : ∃ w1,w.alloc (.cells (ropC ⟨5,rk,rm,ro,rp⟩) 56) = w1:=⟨_,rfl⟩
 rw [hw1] at hb1 ho1
 have h1:=h.below hb1
 have HO1 : Hid (RopAt w1 w.heap.size ⟨5,rk,rm,ro,rp⟩):=ho1
 have v0 : w1.cell? ⟨w.heap.size,0,none⟩ = some (.int .i64 5):=ho1.cell 0 _ rfl
 have HB : Hid (Below B w0 w1 ∧ B ≤ w0.heap.size):=⟨h1.bel,h1.B⟩
 obtain ⟨X,x,hp1,hx1⟩:=h1.ex
 have HP1 : Hid (PrAt w1 pp a x):=hp1
 have HX1 : Hid (SgIn B w1 a X s):=hx1
 have HNX : Hid (w.heap.size ∉ X ∧ pp ∉ X):=⟨by obtain ⟨vd,vr,vu,hg,rfl⟩:=hx1; exact hg.other ho1.row (by decide) (by decide) (by decide) (by decide) (by decide),hx1.not_pair hp1⟩
 have HKP : Hid (DgP.Kp s s n):=⟨hk,Jr_refl hj⟩
 have cc : ∀ W,SgIn B W a X s → Calls Tryz.prog 18 #[.pointer (some ⟨a.s,0,none⟩),.string rp] W fun e w' => e = .returned (.int .i64 (drRmdir DgP s rp).2) ∧ SgOut B W a X (drRmdir DgP s rp).1 w' ∧ DgP.Kp s (drRmdir DgP s rp).1 (n + 50):=fun W hX => rmdir_g DgP_ok (s:=s) hX rp hs.2 HKP.out hn
 unfold DnOut
 generalize drRmdir DgP s rp = R0 at *
 obtain ⟨s1,e0⟩:=R0
 dsimp only at cc ⊢
 unfold ropC at hw1 ⊢
 dsimp only at hw1 ⊢
 clear h hb1 ho1 h1 hp1 hx1 hk hj hn hs
 go_enter Tryz.func22,Tryz.ntmps22
 go_upto_region 10 with fail
 try rw [hw1]
 clear hw1 v0
 refine wp_region_noPanic ?_
 refine wp_region_held_drew (S:=fun W => PrAt W pp a x ∧ RopAt W w.heap.size ⟨5,rk,rm,ro,rp⟩) (by kernel_rfl) ⟨HP1.out,⟨HO1.out.row⟩⟩ (fun hHeld => ?_)
 refine tk 0 (.pointer (some ⟨pp,0,none⟩)) rfl ?_
 try simp only [nz]
 refine tk 1 (.pointer (some ⟨pp,0,none⟩)) rfl ?_
 try simp only [nz]
 refine tk 2 (.pointer (some ⟨pp,0,none⟩)) rfl ?_
 try simp only [nz]
 refine tk 3 (.pointer (some ⟨a.s,0,none⟩)) rfl ?_ (fun W hSw => by (try dsimp only at hSw); (have z:=PrAt.c0 hSw.1; go_simp))
 try simp only [nz]
 refine tk 4 (.pointer (some ⟨w.heap.size,4,none⟩)) rfl ?_
 try simp only [nz]
 refine tk 5 (.string rp) rfl ?_ (fun W hSw => by (try dsimp only at hSw); (have z:=hSw.2.c4; go_simp))
 try simp only [nz]
 refine rd 6 rfl (fun K hK => ?_)
 go_simp
 go_wp2_with (go_at_call 18; refine (cc _ (HX1.out.below (Below.refl _ _).drew)).mono ?_; rintro e w2 ⟨rfl,⟨X2,k1,k2,k3⟩,hkp⟩)
 have hS2 : PrAt w2 pp a x ∧ RopAt w2 w.heap.size ⟨5,rk,rm,ro,rp⟩:=⟨k2.row hHeld.1 HNX.out.2,⟨k2.row hHeld.2.row HNX.out.1⟩⟩
 refine hK.out _ _ hS2 (fun hHeld2 => ?_)
 clear hK K
 try simp only [nz]
 refine tk 7 (.int .i64 e0) rfl ?_
 try simp only [nz]
 refine wpAnyH_done (by kernel_rfl) ?_ _
 refine NoPanic.normal ?_
 have HF : Hid (Pr B w0 w2 pp a s1 ∧ Sk s1 (n + 50) ∧ Jr s s1):=⟨⟨⟨X2,x,hS2.1,k1⟩,HB.out.1.trans ((Below.refl B w1).drew.trans (k2.belowX HX1.out.ge (Nat.le_trans HB.out.2 HB.out.1.size))),HB.out.2⟩,hkp.k,hkp.j⟩
 clear hHeld hHeld2 hS2 k1 k2 k3 hkp cc HX1
 go_wp2_with fail
 go_ret
 exact ⟨rfl,HF.out⟩
theorem done_rename {B : Nat} {w0 w : World} {pp : Nat} {a : Sa} {s : Sg} {n : Nat} (h : Pr B w0 w pp a s) (hj : Jv s) (hk : Sk s n) (hn : n ≤ 3800) (rk rm : Int) (ro rp : ByteArray) (hs : ro.size ≤ maxLen ∧ rp.size ≤ maxLen) :
  Calls Tryz.prog 22 #[.pointer (some ⟨pp,0,none⟩),.agg (ropC ⟨6,rk,rm,ro,rp⟩)] w (DnOut B w0 pp a s n (drRename DgP s ro rp)):=by
 have hb1:=bel1 w (.cells (ropC ⟨6,rk,rm,ro,rp⟩) 56)
 have ho1 : RopAt (w.alloc (.cells (ropC ⟨6,rk,rm,ro,rp⟩) 56)) w.heap.size ⟨6,rk,rm,ro,rp⟩:=⟨heap_alloc_new w _⟩
 obtain ⟨w1,hw1⟩ : ∃ w1,w.alloc (.cells (ropC ⟨6,rk,rm,ro,rp⟩) 56) = w1:=⟨_,rfl⟩
 rw [hw1] at hb1 ho1
 have h1:=h.below hb1
 have HO1 : Hid (RopAt w1 w.heap.size ⟨6,rk,rm,ro,rp⟩):=ho1
 have v0 : w1.cell? ⟨w.heap.size,0,none⟩ = some (.int .i64 6):=ho1.cell 0 _ rfl
 have HB : Hid (Below B w0 w1 ∧ B ≤ w0.heap.size):=⟨h1.bel,h1.B⟩
 obtain ⟨X,x,hp1,hx1⟩:=h1.ex
 have HP1 : Hid (PrAt w1 pp a x):=hp1
 have HX1 : Hid (SgIn B w1 a X s):=hx1
 have HNX : Hid (w.heap.size ∉ X ∧ pp ∉ X):=⟨by obtain ⟨vd,vr,vu,hg,rfl⟩:=hx1; exact hg.other ho1.row (by decide) (by decide) (by decide) (by decide) (by decide),hx1.not_pair hp1⟩
 have HKP : Hid (DgP.Kp s s n):=⟨hk,Jr_refl hj⟩
 have cc : ∀ W,SgIn B W a X s → Calls Tryz.prog 11 #[.pointer (some ⟨a.s,0,none⟩),.string ro,.string rp] W fun e w' => e = .returned (.int .i64 (drRename DgP s ro rp).2) ∧ SgOut B W a X (drRename DgP s ro rp).1 w' ∧ DgP.Kp s (drRename DgP s ro rp).1 (n + 50):=fun W hX => rename_g DgP_ok (s:=s) hX ro rp hs.1 hs.2 HKP.out hn
 unfold DnOut
 generalize drRename DgP s ro rp = R0 at *
 obtain ⟨s1,e0⟩:=R0
 dsimp only at cc ⊢
 unfold ropC at hw1 ⊢
 dsimp only at hw1 ⊢
 clear h hb1 ho1 h1 hp1 hx1 hk hj hn hs
 go_enter Tryz.func22,Tryz.ntmps22
 go_upto_region 12 with fail
 try rw [hw1]
 clear hw1 v0
 refine wp_region_noPanic ?_
 refine wp_region_held_drew (S:=fun W => PrAt W pp a x ∧ RopAt W w.heap.size ⟨6,rk,rm,ro,rp⟩) (by kernel_rfl) ⟨HP1.out,⟨HO1.out.row⟩⟩ (fun hHeld => ?_)
 refine tk 0 (.pointer (some ⟨pp,0,none⟩)) rfl ?_
 try simp only [nz]
 refine tk 1 (.pointer (some ⟨pp,0,none⟩)) rfl ?_
 try simp only [nz]
 refine tk 2 (.pointer (some ⟨pp,0,none⟩)) rfl ?_
 try simp only [nz]
 refine tk 3 (.pointer (some ⟨a.s,0,none⟩)) rfl ?_ (fun W hSw => by (try dsimp only at hSw); (have z:=PrAt.c0 hSw.1; go_simp))
 try simp only [nz]
 refine tk 4 (.pointer (some ⟨w.heap.size,3,none⟩)) rfl ?_
 try simp only [nz]
 refine tk 5 (.string ro) rfl ?_ (fun W hSw => by (try dsimp only at hSw); (have z:=hSw.2.c3; go_simp))
 try simp only [nz]
 refine tk 6 (.pointer (some ⟨w.heap.size,4,none⟩)) rfl ?_
 try simp only [nz]
 refine tk 7 (.string rp) rfl ?_ (fun W hSw => by (try dsimp only at hSw); (have z:=hSw.2.c4; go_simp))
 try simp only [nz]
 refine rd 8 rfl (fun K hK => ?_)
 go_simp
 go_wp2_with (go_at_call 11; refine (cc _ (HX1.out.below (Below.refl _ _).drew)).mono ?_; rintro e w2 ⟨rfl,⟨X2,k1,k2,k3⟩,hkp⟩)
 have hS2 : PrAt w2 pp a x ∧ RopAt w2 w.heap.size ⟨6,rk,rm,ro,rp⟩:=⟨k2.row hHeld.1 HNX.out.2,⟨k2.row hHeld.2.row HNX.out.1⟩⟩
 refine hK.out _ _ hS2 (fun hHeld2 => ?_)
 clear hK K
 try simp only [nz]
 refine tk 9 (.int .i64 e0) rfl ?_
 try simp only [nz]
 refine wpAnyH_done (by kernel_rfl) ?_ _
 refine NoPanic.normal ?_
 have HF : Hid (Pr B w0 w2 pp a s1 ∧ Sk s1 (n + 50) ∧ Jr s s1):=⟨⟨⟨X2,x,hS2.1,k1⟩,HB.out.1.trans ((Below.refl B w1).drew.trans (k2.belowX HX1.out.ge (Nat.le_trans HB.out.2 HB.out.1.size))),HB.out.2⟩,hkp.k,hkp.j⟩
 clear hHeld hHeld2 hS2 k1 k2 k3 hkp cc HX1
 go_wp2_with fail
 go_ret
 exact ⟨rfl,HF.out⟩
theorem done_none {B : Nat} {w0 w : World} {pp : Nat} {a : Sa} {s : Sg} {n : Nat} (h : Pr B w0 w pp a s) (hj : Jv s) (hk : Sk s n) {rd : Int} (hd : ¬ (2 ≤ rd ∧ rd ≤ 6)) (rk rm : Int) (ro rp : ByteArray) :
  Calls Tryz.prog 22 #[.pointer (some ⟨pp,0,none⟩),.agg (ropC ⟨rd,rk,rm,ro,rp⟩)] w (DnOut B w0 pp a s n (s,0)):=by
 have hb1:=bel1 w (.cells (ropC ⟨rd,rk,rm,ro,rp⟩) 56)
 have ho1 : RopAt (w.alloc (.cells (ropC ⟨rd,rk,rm,ro,rp⟩) 56)) w.heap.size ⟨rd,rk,rm,ro,rp⟩:=⟨heap_alloc_new w _⟩
 obtain ⟨w1,hw1⟩ : ∃ w1,w.alloc (.cells (ropC ⟨rd,rk,rm,ro,rp⟩) 56) = w1:=⟨_,rfl⟩
 rw [hw1] at hb1 ho1
 have v0 : w1.cell? ⟨w.heap.size,0,none⟩ = some (.int .i64 rd):=ho1.cell 0 _ rfl
 have HF : Hid (Pr B w0 w1 pp a s ∧ Sk s (n + 50) ∧ Jr s s):=⟨h.below hb1,hk.mono (by omega),Jr_refl hj⟩
 have e2 : (rd == 2) = false:=by simpa using (show rd ≠ 2 by omega)
 have e3 : (rd == 3) = false:=by simpa using (show rd ≠ 3 by omega)
 have e4 : (rd == 4) = false:=by simpa using (show rd ≠ 4 by omega)
 have e5 : (rd == 5) = false:=by simpa using (show rd ≠ 5 by omega)
 have e6 : (rd == 6) = false:=by simpa using (show rd ≠ 6 by omega)
 unfold DnOut
 dsimp only
 unfold ropC at hw1 ⊢
 dsimp only at hw1 ⊢
 clear h hb1 ho1 hk hj hd
 go_enter Tryz.func22,Tryz.ntmps22
 go_upto_region 3 with fail
 try rw [hw1]
 clear hw1
 go_wp2_with fail
 go_ret
 exact ⟨rfl,HF.out⟩
theorem done_any {B : Nat} {w0 w : World} {pp : Nat} {a : Sa} {s : Sg} {n : Nat} (h : Pr B w0 w pp a s) (hj : Jv s) (hk : Sk s n) (hn : n ≤ 3800) (r : Rop) (hs : r.old.size ≤ maxLen ∧ r.p.size ≤ maxLen) :
  Calls Tryz.prog 22 #[.pointer (some ⟨pp,0,none⟩),.agg (ropC r)] w (DnOut B w0 pp a s n (doneR s r)):=by
 obtain ⟨d,rk,rm,ro,rp⟩:=r
 by_cases h2 : d = 2
 ·subst h2; exact done_make h hj hk hn rk rm ro rp hs
 by_cases h3 : d = 3
 ·subst h3; exact done_link h hj hk hn rk rm ro rp hs
 by_cases h4 : d = 4
 ·subst h4; exact done_unlink h hj hk hn rk rm ro rp hs
 by_cases h5 : d = 5
 ·subst h5; exact done_rmdir h hj hk hn rk rm ro rp hs
 by_cases h6 : d = 6
 ·subst h6; exact done_rename h hj hk hn rk rm ro rp hs
 have e : doneR s ⟨d,rk,rm,ro,rp⟩ = (s,0):=by unfold doneR; simp [h2,h3,h4,h5,h6]
 rw [e]
 exact done_none h hj hk (by omega) rk rm ro rp
end Go.Proofs.YtgajjphjkbnaeaaGreat
