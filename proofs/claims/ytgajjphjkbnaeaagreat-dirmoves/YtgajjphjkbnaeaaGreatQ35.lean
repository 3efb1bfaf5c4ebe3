/- DrF: in one text. -/
import Derived.Test.YtgajjphjkbnaeaaGreatQ1
import Derived.Test.YtgajjphjkbnaeaaGreatQ34
namespace Go.Proofs.YtgajjphjkbnaeaaGreat
open Go.RowKit
set_option linter.unusedVariables false
set_option maxHeartbeats 32000000
set_option maxRecDepth 100000
set_option linter.unusedSimpArgs false
open Go.RowKit Go.Maps
theorem free_g {D : Sgd} (o : D.Ok) {B : Nat} {w : World} {a : Sa} {X : List Nat} {s : D.G.S} {n : Nat} (h : D.G.In B w a X s) (p : ByteArray) (hp : p.size ≤ maxLen) (hk : D.G.Sk s n) (hn : n ≤ 3880) :
  Calls Tryz.prog 33 #[.pointer (some ⟨a.s,0,none⟩),.string p] w fun e w' => e = .returned (.tuple #[.agg (spC (drFree D s p).2.1),.int .i64 (drFree D s p).2.2]) ∧ D.G.Out B w a X (drFree D s p).1 w' ∧ SptOk (drFree D s p).2.1:=by
 have g:=o.g
 have hb1:=bel1 w (.cells (spC spt0) 73)
 have hs1 : SptAt (w.alloc (.cells (spC spt0) 73)) w.heap.size spt0:=⟨heap_alloc_new w _⟩
 have HF : Hid (drFree D s p = drFree1 D (drSpot D s p)):=rfl
 obtain ⟨w1,hw1⟩ : ∃ w1,w.alloc (.cells (spC spt0) 73) = w1:=⟨_,rfl⟩
 rw [hw1] at hb1 hs1
 have hh1:=g.below h hb1
 have cp:=spotOf_g o hh1 p hp hk hn
 have HNX : Hid (w.heap.size ∉ X):=g.sp hh1 hs1
 have HBW : Hid (B ≤ w.heap.size):=g.le h
 have HB1 : Hid (Below w.heap.size w w1):=hb1
 have HS1 : Hid (SptAt w1 w.heap.size spt0):=hs1
 generalize drFree D s p = R at *
 generalize drSpot D s p = R0 at *
 obtain ⟨S1,⟨xi,xn,xt⟩,e1⟩:=R0
 dsimp only at cp HF
 have hspc : spC ⟨xi,xn,xt⟩ = #[.int .u32 xi,.string xn,.int .u32 xt]:=rfl
 have hsp0 : spC spt0 = #[.int .u32 0,.string ⟨#[]⟩,.int .u32 0]:=rfl
 rw [hspc] at cp
 rw [hsp0] at hw1
 clear h hb1 hs1 hk hn hp hh1
 go_enter Tryz.func33,Tryz.ntmps33
 go_wp2_with fail
 try rw [hw1]
 refine cp.mono ?_
 rintro e w2 ⟨rfl,ho2,hok⟩
 have hs2 : SptAt w2 w.heap.size spt0:=HS1.out.sole ho2.sole HNX.out
 have hb3:=bel1 w2 (.cells (spC ⟨xi,xn,xt⟩) 73)
 have hs3 : SptAt (w2.alloc (.cells (spC ⟨xi,xn,xt⟩) 73)) w2.heap.size ⟨xi,xn,xt⟩:=⟨heap_alloc_new w2 _⟩
 obtain ⟨w3,hw3⟩ : ∃ w3,w2.alloc (.cells (spC ⟨xi,xn,xt⟩) 73) = w3:=⟨_,rfl⟩
 rw [hw3] at hb3 hs3
 rw [hspc] at hw3
 have ho3 : D.G.Out B w a X S1 w3:=g.post (Sgt.Out.pre HB1.out ho2) hb3
 have HOK : Hid (SptOk ⟨xi,xn,xt⟩):=hok
 have HS3 : Hid (SptAt w3 w.heap.size spt0):=hs2.below hb3
 have c2 : w3.cell? ⟨w2.heap.size,2,none⟩ = some (.int .u32 xt):=hs3.c2
 have LD : Hid _:=hs3.load
 clear cp hw1 ho2 hs2 hb3 hs3 hok HS1
 go_upto_region 2 with fail
 try rw [hw3]
 clear hw3
 by_cases hc : e1 = 0 ∧ xt ≠ 0
 ·obtain ⟨rfl,hx⟩:=hc
  have HE : Hid (R = (S1,spt0,191)):=by unfold Hid; rw [HF.out]; unfold drFree1; rw [if_pos ⟨rfl,hx⟩]
  have HO : Hid (D.G.Out B w a X S1 (w3.setRow w.heap.size (spC spt0))):=sp_fin g HBW.out ho3 (Nat.le_refl _) HS3.out spt0
  have hxb : (xt != 0) = true:=by simpa using hx
  clear HF ho3
  go_wp2_with (first | (refine wpList_store_rowTo rfl 73 _ _ rfl rfl w.heap.size (spC spt0) rfl rfl 73 (spC spt0) HS3.out.row size_sp rfl (one_sp _) ?_))
  refine ret_sp rfl w.heap.size spt0 rfl (.int .i64 191) rfl (HS3.out.set spt0) rfl ?_
  exact ⟨by rw [HE.out],by rw [HE.out]; exact HO.out,by rw [HE.out]; exact spt0_ok⟩
 have HE : Hid (R = (S1,⟨xi,xn,xt⟩,e1)):=by unfold Hid; rw [HF.out]; unfold drFree1; rw [if_neg hc]
 have HO : Hid (D.G.Out B w a X S1 (w3.setRow w.heap.size (spC ⟨xi,xn,xt⟩))):=sp_fin g HBW.out ho3 (Nat.le_refl _) HS3.out ⟨xi,xn,xt⟩
 by_cases he : e1 = 0
 ·subst he
  have hx : ¬ xt ≠ 0:=fun hx => hc ⟨rfl,hx⟩
  have hxb : (xt != 0) = false:=by simpa using hx
  clear HF ho3 hc
  go_wp2_with (first | (refine wpList_store_rowTo rfl 73 _ _ rfl rfl w.heap.size (spC ⟨xi,xn,xt⟩) rfl rfl 73 (spC spt0) HS3.out.row size_sp rfl (one_sp _) ?_) | (refine wpList_loadG rfl 73 _ rfl _ rfl _ LD.out ?_))
  refine ret_sp rfl w.heap.size ⟨xi,xn,xt⟩ rfl (.int .i64 0) rfl (HS3.out.set _) rfl ?_
  exact ⟨by rw [HE.out],by rw [HE.out]; exact HO.out,by rw [HE.out]; exact HOK.out⟩
 ·have heb : (e1 == 0) = false:=by simpa using he
  clear HF ho3 hc
  go_wp2_with (first | (refine wpList_store_rowTo rfl 73 _ _ rfl rfl w.heap.size (spC ⟨xi,xn,xt⟩) rfl rfl 73 (spC spt0) HS3.out.row size_sp rfl (one_sp _) ?_) | (refine wpList_loadG rfl 73 _ rfl _ rfl _ LD.out ?_))
  refine ret_sp rfl w.heap.size ⟨xi,xn,xt⟩ rfl (.int .i64 e1) rfl (HS3.out.set _) rfl ?_
  exact ⟨by rw [HE.out],by rw [HE.out]; exact HO.out,by rw [HE.out]; exact HOK.out⟩
theorem taken_g {D : Sgd} (o : D.Ok) {B : Nat} {w : World} {a : Sa} {X : List Nat} {s : D.G.S} {n : Nat} (h : D.G.In B w a X s) (p : ByteArray) (hp : p.size ≤ maxLen) (hk : D.G.Sk s n) (hn : n ≤ 3880) :
  Calls Tryz.prog 31 #[.pointer (some ⟨a.s,0,none⟩),.string p] w fun e w' => e = .returned (.tuple #[.agg (spC (drTaken D s p).2.1),.int .i64 (drTaken D s p).2.2]) ∧ D.G.Out B w a X (drTaken D s p).1 w' ∧ SptOk (drTaken D s p).2.1:=by
 have g:=o.g
 have hb1:=bel1 w (.cells (spC spt0) 73)
 have hs1 : SptAt (w.alloc (.cells (spC spt0) 73)) w.heap.size spt0:=⟨heap_alloc_new w _⟩
 have HF : Hid (drTaken D s p = drTaken1 D (drSpot D s p)):=rfl
 obtain ⟨w1,hw1⟩ : ∃ w1,w.alloc (.cells (spC spt0) 73) = w1:=⟨_,rfl⟩
 rw [hw1] at hb1 hs1
 have hh1:=g.below h hb1
 have cp:=spotOf_g o hh1 p hp hk hn
 have HNX : Hid (w.heap.size ∉ X):=g.sp hh1 hs1
 have HBW : Hid (B ≤ w.heap.size):=g.le h
 have HB1 : Hid (Below w.heap.size w w1):=hb1
 have HS1 : Hid (SptAt w1 w.heap.size spt0):=hs1
 generalize drTaken D s p = R at *
 generalize drSpot D s p = R0 at *
 obtain ⟨S1,⟨xi,xn,xt⟩,e1⟩:=R0
 dsimp only at cp HF
 have hspc : spC ⟨xi,xn,xt⟩ = #[.int .u32 xi,.string xn,.int .u32 xt]:=rfl
 have hsp0 : spC spt0 = #[.int .u32 0,.string ⟨#[]⟩,.int .u32 0]:=rfl
 rw [hspc] at cp
 rw [hsp0] at hw1
 clear h hb1 hs1 hk hn hp hh1
 go_enter Tryz.func31,Tryz.ntmps31
 go_wp2_with fail
 try rw [hw1]
 refine cp.mono ?_
 rintro e w2 ⟨rfl,ho2,hok⟩
 have hs2 : SptAt w2 w.heap.size spt0:=HS1.out.sole ho2.sole HNX.out
 have hb3:=bel1 w2 (.cells (spC ⟨xi,xn,xt⟩) 73)
 have hs3 : SptAt (w2.alloc (.cells (spC ⟨xi,xn,xt⟩) 73)) w2.heap.size ⟨xi,xn,xt⟩:=⟨heap_alloc_new w2 _⟩
 obtain ⟨w3,hw3⟩ : ∃ w3,w2.alloc (.cells (spC ⟨xi,xn,xt⟩) 73) = w3:=⟨_,rfl⟩
 rw [hw3] at hb3 hs3
 rw [hspc] at hw3
 have ho3 : D.G.Out B w a X S1 w3:=g.post (Sgt.Out.pre HB1.out ho2) hb3
 have HOK : Hid (SptOk ⟨xi,xn,xt⟩):=hok
 have HS3 : Hid (SptAt w3 w.heap.size spt0):=hs2.below hb3
 have c2 : w3.cell? ⟨w2.heap.size,2,none⟩ = some (.int .u32 xt):=hs3.c2
 have LD : Hid _:=hs3.load
 clear cp hw1 ho2 hs2 hb3 hs3 hok HS1
 go_upto_region 2 with fail
 try rw [hw3]
 clear hw3
 by_cases hc : e1 = 0 ∧ xt = 0
 ·obtain ⟨rfl,hx⟩:=hc
  have HE : Hid (R = (S1,spt0,190)):=by unfold Hid; rw [HF.out]; unfold drTaken1; rw [if_pos ⟨rfl,hx⟩]
  have HO : Hid (D.G.Out B w a X S1 (w3.setRow w.heap.size (spC spt0))):=sp_fin g HBW.out ho3 (Nat.le_refl _) HS3.out spt0
  subst hx
  clear HF ho3
  go_wp2_with (first | (refine wpList_store_rowTo rfl 73 _ _ rfl rfl w.heap.size (spC spt0) rfl rfl 73 (spC spt0) HS3.out.row size_sp rfl (one_sp _) ?_))
  refine ret_sp rfl w.heap.size spt0 rfl (.int .i64 190) rfl (HS3.out.set spt0) rfl ?_
  exact ⟨by rw [HE.out],by rw [HE.out]; exact HO.out,by rw [HE.out]; exact spt0_ok⟩
 have HE : Hid (R = (S1,⟨xi,xn,xt⟩,e1)):=by unfold Hid; rw [HF.out]; unfold drTaken1; rw [if_neg hc]
 have HO : Hid (D.G.Out B w a X S1 (w3.setRow w.heap.size (spC ⟨xi,xn,xt⟩))):=sp_fin g HBW.out ho3 (Nat.le_refl _) HS3.out ⟨xi,xn,xt⟩
 by_cases he : e1 = 0
 ·subst he
  have hx : ¬ xt = 0:=fun hx => hc ⟨rfl,hx⟩
  have hxb : (xt == 0) = false:=by simpa using hx
  clear HF ho3 hc
  go_wp2_with (first | (refine wpList_store_rowTo rfl 73 _ _ rfl rfl w.heap.size (spC ⟨xi,xn,xt⟩) rfl rfl 73 (spC spt0) HS3.out.row size_sp rfl (one_sp _) ?_) | (refine wpList_loadG rfl 73 _ rfl _ rfl _ LD.out ?_))
  refine ret_sp rfl w.heap.size ⟨xi,xn,xt⟩ rfl (.int .i64 0) rfl (HS3.out.set _) rfl ?_
  exact ⟨by rw [HE.out],by rw [HE.out]; exact HO.out,by rw [HE.out]; exact HOK.out⟩
 ·have heb : (e1 == 0) = false:=by simpa using he
  clear HF ho3 hc
  go_wp2_with (first | (refine wpList_store_rowTo rfl 73 _ _ rfl rfl w.heap.size (spC ⟨xi,xn,xt⟩) rfl rfl 73 (spC spt0) HS3.out.row size_sp rfl (one_sp _) ?_) | (refine wpList_loadG rfl 73 _ rfl _ rfl _ LD.out ?_))
  refine ret_sp rfl w.heap.size ⟨xi,xn,xt⟩ rfl (.int .i64 e1) rfl (HS3.out.set _) rfl ?_
  exact ⟨by rw [HE.out],by rw [HE.out]; exact HO.out,by rw [HE.out]; exact HOK.out⟩
theorem Sgt.Ok.cg {G : Sgt} (g : G.Ok) {B w a X} {s : G.S} (h : G.In B w a X s) {k : Nat} {c : Cg} (hk : CgAt w k c) : k ∉ X:=g.other h hk.row (by decide) (by decide) (by decide) (by decide) (by decide) (by decide)
theorem CgAt.soleD {w w' : World} {g : Nat} {c : Cg} {X : List Nat} (h : CgAt w g c) (hs : Sole X w w') (hn : g ∉ X) : CgAt w' g c:=⟨hs.row h.row hn⟩
theorem write_g {D : Sgd} (o : D.Ok) {B : Nat} {w : World} {a : Sa} {X : List Nat} {s0 s : D.G.S} {n : Nat} (h : D.G.In B w a X s) (x : Spt) (hx : SptOk x) (c : Cg) (hc : CgOk c) (hk : D.Kp s0 s n) (hn : n ≤ 3900) :
  Calls Tryz.prog 62 #[.pointer (some ⟨a.s,0,none⟩),.agg (spC x),.agg (cgC c)] w fun e w' => e = .returned (.int .i64 (drWrite D s x.ino x.name c).2) ∧ D.G.Out B w a X (drWrite D s x.ino x.name c).1 w' ∧ D.Kp s0 (drWrite D s x.ino x.name c).1 (n + 2):=by
 have g:=o.g
 obtain ⟨xi,xn,xt⟩:=x
 have hb1:=bel1 w (.cells (spC ⟨xi,xn,xt⟩) 73)
 have hs1 : SptAt (w.alloc (.cells (spC ⟨xi,xn,xt⟩) 73)) w.heap.size ⟨xi,xn,xt⟩:=⟨heap_alloc_new w _⟩
 obtain ⟨w1,hw1⟩ : ∃ w1,w.alloc (.cells (spC ⟨xi,xn,xt⟩) 73) = w1:=⟨_,rfl⟩
 rw [hw1] at hb1 hs1
 have hb2:=bel1 w1 (.cells (cgC c) 114)
 have hs2 : CgAt (w1.alloc (.cells (cgC c) 114)) w1.heap.size c:=⟨heap_alloc_new w1 _⟩
 obtain ⟨w2,hw2⟩ : ∃ w2,w1.alloc (.cells (cgC c) 114) = w2:=⟨_,rfl⟩
 rw [hw2] at hb2 hs2
 have hp2:=hs1.below hb2
 have HB2 : Hid (Below w.heap.size w w2):=thenB hb1 hb2
 have HI2 : Hid (D.G.In B w2 a X s):=g.below h HB2.out
 have HS2 : Hid (SptAt w2 w.heap.size ⟨xi,xn,xt⟩):=hp2
 have HC2 : Hid (CgAt w2 w1.heap.size c):=hs2
 have HNX : Hid (w.heap.size ∉ X ∧ w1.heap.size ∉ X):=⟨g.sp HI2.out hp2,g.cg HI2.out hs2⟩
 have HCL : Hid (c.pt.bytes.length = 32):=hc.pt.ch.1
 have cp : ∀ W,D.G.In B W a X s → Calls Tryz.prog 69 #[.pointer (some ⟨a.v,0,none⟩),.agg (cgC c)] W fun e w' => e = .returned (.int .i64 (D.G.putE s c)) ∧ D.G.Out B W a X (D.G.putS s c) w':=fun W hW => g.puts hW c hc hk.k (by omega)
 have HF : Hid (drWrite D s xi xn c = if D.G.putE s c ≠ 0 then (D.G.putS s c,D.G.putE s c) else (D.G.wr (D.G.putS s c) (tcN xi xn),0)):=rfl
 have HK1 : Hid (D.Kp s0 (D.G.putS s c) (n + 1)):=⟨g.skP hk.k c,o.jP h hk.j c hc⟩
 have HX : Hid (SptOk ⟨xi,xn,xt⟩ ∧ n ≤ 3900):=⟨hx,hn⟩
 dsimp only
 generalize drWrite D s xi xn c = R at *
 generalize D.G.putS s c = S1 at *
 generalize D.G.putE s c = E1 at *
 have hspc : spC ⟨xi,xn,xt⟩ = #[.int .u32 xi,.string xn,.int .u32 xt]:=rfl
 rw [hspc] at hw1 ⊢
 clear h hb1 hs1 hb2 hs2 hp2 hk hn hc hx
 go_enter Tryz.func62,Tryz.ntmps62
 go_upto_region 1 with fail
 try rw [hw1]
 try rw [hw2]
 clear hw1 hw2
 refine wp_region_noPanic ?_
 refine wp_region_held_drew (S:=fun W => SRow W a ∧ SptAt W w.heap.size ⟨xi,xn,xt⟩ ∧ CgAt W w1.heap.size c) (by kernel_rfl) ⟨g.srow (g.drew HI2.out),⟨HS2.out.row⟩,⟨HC2.out.row⟩⟩ (fun hHeld => ?_)
 refine tk 0 (.pointer (some ⟨a.s,0,none⟩)) rfl ?_
 try simp only [nz]
 refine tk 1 (.pointer (some ⟨a.s,0,none⟩)) rfl ?_
 try simp only [nz]
 refine tk 2 (.pointer (some ⟨a.s,0,none⟩)) rfl ?_
 try simp only [nz]
 refine tk 3 (.pointer (some ⟨a.v,0,none⟩)) rfl ?_ (fun W hSw => by (try dsimp only at hSw); (have z:=SRow.c0 hSw.1; go_simp))
 try simp only [nz]
 refine wpAnyH_take (i:=4) (v:=.agg (cgC c)) rfl (by kernel_rfl) (by kernel_rfl) (by kernel_rfl) (fun _ _ _ h => h) (yields_load (by rfl) _ _ rfl _ rfl _ (fun W h => h.2.2.load HCL.out)) (by assumption) ?_
 try simp only [nz]
 refine rd 5 rfl (fun K hK => ?_)
 go_simp
 go_wp2_with (go_at_call 69; refine (cp _ (g.drew HI2.out)).mono ?_; rintro e w3 ⟨rfl,ho3⟩)
 have hsl:=ho3.sole
 have hh3 : SRow w3 a ∧ SptAt w3 w.heap.size ⟨xi,xn,xt⟩ ∧ CgAt w3 w1.heap.size c:=⟨by obtain ⟨X2,k1,_⟩:=ho3; exact g.srow k1,hHeld.2.1.sole hsl HNX.out.1,hHeld.2.2.soleD hsl HNX.out.2⟩
 refine hK.out _ _ hh3 (fun hHeld3 => ?_)
 clear hK K
 try simp only [nz]
 refine tk 6 (.int .i64 E1) rfl ?_
 try simp only [nz]
 refine wpAnyH_done (by kernel_rfl) ?_ _
 refine NoPanic.normal ?_
 have ho:=Sgt.Out.pre HB2.out (Sgt.Out.pre (Below.refl _ w2).drew ho3)
 clear cp hsl hHeld hHeld3 ho3 HI2 HS2 HC2
 by_cases hE : E1 = 0
 case neg =>
  have heb : (E1 != 0) = true:=by simpa using hE
  have HE : Hid (R = (S1,E1)):=by unfold Hid; rw [HF.out,if_pos hE]
  have HO : Hid (D.G.Out B w a X S1 w3):=ho
  clear HF ho hh3
  go_wp2
  go_ret
  exact ⟨by rw [HE.out]; first | done | rfl,by rw [HE.out]; exact HO.out,by rw [HE.out]; exact o.kmono HK1.out (by omega)⟩
 subst hE
 have HE : Hid (R = (D.G.wr S1 (tcN xi xn),0)):=by unfold Hid; rw [HF.out,if_neg (by simp)]
 obtain ⟨X3,hx1,hx2,hx3⟩:=ho
 have HI3 : Hid (D.G.In B w3 a X3 S1):=hx1
 have HX2 : Hid (Sole X w w3):=hx2
 have HX3 : Hid (∀ k ∈ X3,k ∈ X ∨ w.heap.size ≤ k):=hx3
 have HS3 : Hid (SptAt w3 w.heap.size ⟨xi,xn,xt⟩):=hh3.2.1
 have ct:=fun W => tchOf_any xi xn W
 have ca : ∀ W,D.G.In B W a X3 S1 → Calls Tryz.prog 59 #[.pointer (some ⟨a.u,0,none⟩),.agg (tcC (tcN xi xn))] W fun e w' => e = .returned (.int .i64 (tckE (tcN xi xn))) ∧ D.G.Out B W a X3 (D.G.wr S1 (tcN xi xn)) w':=fun W hW => g.wrs hW _ (tcN_ok HX.out.1.i0 HX.out.1.i1 HX.out.1.n8) HK1.out.k (by have:=HX.out.2; omega)
 have HK2 : Hid (D.Kp s0 (D.G.wr S1 (tcN xi xn)) (n + 2)):=⟨g.skW HK1.out.k _,o.jW HK1.out.j _⟩
 generalize D.G.wr S1 (tcN xi xn) = S2 at *
 generalize tckE (tcN xi xn) = TE at *
 generalize tcC (tcN xi xn) = TC at *
 clear HF hx1 hx2 hx3 hh3 HK1
 have HNX3 : Hid (w.heap.size ∉ X3):=g.sp HI3.out HS3.out
 go_wp2_with fail
 refine wp_region_noPanic ?_
 refine wp_region_held_drew (S:=fun W => SRow W a ∧ SptAt W w.heap.size ⟨xi,xn,xt⟩) (by kernel_rfl) ⟨g.srow (g.drew HI3.out),⟨HS3.out.row⟩⟩ (fun hHeld => ?_)
 refine tk 0 (.pointer (some ⟨a.s,0,none⟩)) rfl ?_
 try simp only [nz]
 refine tk 1 (.pointer (some ⟨a.s,0,none⟩)) rfl ?_
 try simp only [nz]
 refine tk 2 (.pointer (some ⟨a.s,2,none⟩)) rfl ?_
 try simp only [nz]
 refine tk 3 (.pointer (some ⟨a.u,0,none⟩)) rfl ?_ (fun W hSw => by (try dsimp only at hSw); (have z:=SRow.c2 hSw.1; go_simp))
 try simp only [nz]
 refine tk 4 (.pointer (some ⟨w.heap.size,0,none⟩)) rfl ?_
 try simp only [nz]
 refine tk 5 (.int .u32 xi) rfl ?_ (fun W hSw => by (try dsimp only at hSw); (have z:=hSw.2.c0; go_simp))
 try simp only [nz]
 refine tk 6 (.pointer (some ⟨w.heap.size,1,none⟩)) rfl ?_
 try simp only [nz]
 refine tk 7 (.string xn) rfl ?_ (fun W hSw => by (try dsimp only at hSw); (have z:=hSw.2.c1; go_simp))
 try simp only [nz]
 refine rd 8 rfl (fun K hK => ?_)
 go_simp
 go_wp2_with (go_at_call 75; refine (ct _).mono ?_; rintro e w4 ⟨rfl,hb4⟩)
 have hi4:=g.below (g.drew HI3.out) hb4
 have hb34 : Below w3.heap.size w3 w4:=(Below.refl _ w3).drew.trans hb4
 refine hK.out _ _ ⟨g.srow hi4,hHeld.2.below hb4⟩ (fun hHeld2 => ?_)
 clear hK K
 try simp only [nz]
 refine rd 9 rfl (fun K hK => ?_)
 go_simp
 go_wp2_with (go_at_call 59; refine (ca _ hi4).mono ?_; rintro e w5 ⟨rfl,ho5⟩)
 have hS5 : SRow w5 a ∧ SptAt w5 w.heap.size ⟨xi,xn,xt⟩:=⟨by obtain ⟨X2,k1,_⟩:=ho5; exact g.srow k1,hHeld2.2.sole ho5.sole HNX3.out⟩
 refine hK.out _ _ hS5 (fun hHeld3 => ?_)
 clear hK K
 try simp only [nz]
 refine wpAnyH_done (by kernel_rfl) ?_ _
 refine NoPanic.normal ?_
 have HO : Hid (D.G.Out B w a X S2 w5):=Sgt.Out.then HX2.out HX3.out (Sgt.Out.pre hb34 ho5)
 clear hHeld hHeld2 hHeld3 hS5 ho5 hi4 ca ct
 go_wp2
 go_ret
 exact ⟨by rw [HE.out]; first | done | rfl,by rw [HE.out]; exact HO.out,by rw [HE.out]; exact HK2.out⟩
theorem set_g {D : Sgd} (o : D.Ok) {B : Nat} {w : World} {a : Sa} {X : List Nat} {s0 s : D.G.S} {n : Nat} (h : D.G.In B w a X s) (x : Spt) (hx : SptOk x) (tt : Int) (t0 : 0 ≤ tt) (t1 : tt ≤ 4294967295) (hk : D.Kp s0 s n) (hn : n ≤ 3900) :
  Calls Tryz.prog 35 #[.pointer (some ⟨a.s,0,none⟩),.agg (spC x),.int .u32 tt] w fun e w' => e = .returned (.int .i64 (drSet D s x tt).2) ∧ D.G.Out B w a X (drSet D s x tt).1 w' ∧ D.Kp s0 (drSet D s x tt).1 (n + 2):=by
 have g:=o.g
 obtain ⟨xi,xn,xt⟩:=x
 have hb1:=bel1 w (.cells (spC ⟨xi,xn,xt⟩) 73)
 have hs1 : SptAt (w.alloc (.cells (spC ⟨xi,xn,xt⟩) 73)) w.heap.size ⟨xi,xn,xt⟩:=⟨heap_alloc_new w _⟩
 obtain ⟨w1,hw1⟩ : ∃ w1,w.alloc (.cells (spC ⟨xi,xn,xt⟩) 73) = w1:=⟨_,rfl⟩
 rw [hw1] at hb1 hs1
 have HB1 : Hid (Below w.heap.size w w1):=hb1
 have HI1 : Hid (D.G.In B w1 a X s):=g.below h hb1
 have HS1 : Hid (SptAt w1 w.heap.size ⟨xi,xn,xt⟩):=hs1
 have HNX : Hid (w.heap.size ∉ X):=g.sp HI1.out hs1
 have cw : ∀ W,D.G.In B W a X s → Calls Tryz.prog 62 #[.pointer (some ⟨a.s,0,none⟩),.agg (spC ⟨xi,xn,xt⟩),.agg (cgC (toC xi xn tt))] W fun e w' => e = .returned (.int .i64 (drWrite D s xi xn (toC xi xn tt)).2) ∧ D.G.Out B W a X (drWrite D s xi xn (toC xi xn tt)).1 w' ∧ D.Kp s0 (drWrite D s xi xn (toC xi xn tt)).1 (n + 2):=fun W hW => write_g o hW ⟨xi,xn,xt⟩ hx _ (toC_ok hx.i0 hx.i1 hx.n8 t0 t1) hk hn
 have ct:=fun W => dplOf_any xi xn W
 have hR : drSet D s ⟨xi,xn,xt⟩ tt = drWrite D s xi xn (toC xi xn tt):=rfl
 rw [hR]
 generalize drWrite D s xi xn (toC xi xn tt) = R at *
 obtain ⟨S1,E1⟩:=R
 dsimp only at cw ⊢
 have hspc : spC ⟨xi,xn,xt⟩ = #[.int .u32 xi,.string xn,.int .u32 xt]:=rfl
 rw [hspc] at hw1 cw ⊢
 clear h hb1 hs1 hk hn hx hR
 go_enter Tryz.func35,Tryz.ntmps35
 go_upto_region 1 with fail
 try rw [hw1]
 clear hw1
 refine wp_region_noPanic ?_
 refine wp_region_held_drew (S:=fun W => SptAt W w.heap.size ⟨xi,xn,xt⟩) (by kernel_rfl) ⟨HS1.out.row⟩ (fun hHeld => ?_)
 refine tk 0 (.pointer (some ⟨a.s,0,none⟩)) rfl ?_
 try simp only [nz]
 refine wpAnyH_take (i:=1) (v:=.agg #[.int .u32 xi,.string xn,.int .u32 xt]) rfl (by kernel_rfl) (by kernel_rfl) (by kernel_rfl) (fun _ _ _ h => h) (yields_load (by rfl) _ _ rfl _ rfl _ (fun W h => h.load)) (by assumption) ?_
 try simp only [nz]
 refine tk 2 (.pointer (some ⟨w.heap.size,0,none⟩)) rfl ?_
 try simp only [nz]
 refine tk 3 (.int .u32 xi) rfl ?_ (fun W hSw => by (try dsimp only at hSw); (have z:=hSw.c0; go_simp))
 try simp only [nz]
 refine tk 4 (.pointer (some ⟨w.heap.size,1,none⟩)) rfl ?_
 try simp only [nz]
 refine tk 5 (.string xn) rfl ?_ (fun W hSw => by (try dsimp only at hSw); (have z:=hSw.c1; go_simp))
 try simp only [nz]
 refine tk 7 (.int .u32 tt) rfl ?_
 try simp only [nz]
 refine rd 6 rfl (fun K hK => ?_)
 go_simp
 go_wp2_with (go_at_call 63; refine (ct _).mono ?_; rintro e w2 ⟨rfl,hb2⟩)
 have hi2:=g.below (g.drew HI1.out) hb2
 have hb12 : Below w1.heap.size w1 w2:=(Below.refl _ w1).drew.trans hb2
 refine hK.out _ _ (hHeld.below hb2) (fun hHeld2 => ?_)
 clear hK K
 try simp only [nz]
 refine wpAnyH_take (i:=8) (v:=.agg (cgC (toC xi xn tt))) rfl (by kernel_rfl) (by kernel_rfl) (by kernel_rfl) (fun _ _ _ h => h) (yields_build (by rfl) 114 _ rfl [(0,plV (entP xi xn)),(5,.int .u32 tt)] (by kernel_rfl) _ (bt_ent (entP xi xn) tt)) (by assumption) ?_
 try simp only [nz]
 refine rd 9 rfl (fun K hK => ?_)
 go_simp
 go_wp2_with (go_at_call 62; refine (cw _ hi2).mono ?_; rintro e w3 ⟨rfl,ho3,hkp⟩)
 refine hK.out _ _ (hHeld2.sole ho3.sole HNX.out) (fun hHeld3 => ?_)
 clear hK K
 try simp only [nz]
 refine tk 10 (.int .i64 E1) rfl ?_
 try simp only [nz]
 refine wpAnyH_done (by kernel_rfl) ?_ _
 refine NoPanic.normal ?_
 have HO : Hid (D.G.Out B w a X S1 w3 ∧ D.Kp s0 S1 (n + 2)):=⟨Sgt.Out.pre HB1.out (Sgt.Out.pre hb12 ho3),hkp⟩
 clear hHeld hHeld2 hHeld3 ho3 hi2 cw ct hkp
 go_wp2
 go_ret
 exact ⟨rfl,HO.out.1,HO.out.2⟩
theorem takeAway_g {D : Sgd} (o : D.Ok) {B : Nat} {w : World} {a : Sa} {X : List Nat} {s0 s : D.G.S} {n : Nat} (h : D.G.In B w a X s) (x : Spt) (hx : SptOk x) (hk : D.Kp s0 s n) (hn : n ≤ 3900) :
  Calls Tryz.prog 34 #[.pointer (some ⟨a.s,0,none⟩),.agg (spC x)] w fun e w' => e = .returned (.int .i64 (drAway D s x).2) ∧ D.G.Out B w a X (drAway D s x).1 w' ∧ D.Kp s0 (drAway D s x).1 (n + 2):=by
 have g:=o.g
 obtain ⟨xi,xn,xt⟩:=x
 have hb1:=bel1 w (.cells (spC ⟨xi,xn,xt⟩) 73)
 have hs1 : SptAt (w.alloc (.cells (spC ⟨xi,xn,xt⟩) 73)) w.heap.size ⟨xi,xn,xt⟩:=⟨heap_alloc_new w _⟩
 obtain ⟨w1,hw1⟩ : ∃ w1,w.alloc (.cells (spC ⟨xi,xn,xt⟩) 73) = w1:=⟨_,rfl⟩
 rw [hw1] at hb1 hs1
 have HB1 : Hid (Below w.heap.size w w1):=hb1
 have HI1 : Hid (D.G.In B w1 a X s):=g.below h hb1
 have HS1 : Hid (SptAt w1 w.heap.size ⟨xi,xn,xt⟩):=hs1
 have HNX : Hid (w.heap.size ∉ X):=g.sp HI1.out hs1
 have cw : ∀ W,D.G.In B W a X s → Calls Tryz.prog 62 #[.pointer (some ⟨a.s,0,none⟩),.agg (spC ⟨xi,xn,xt⟩),.agg (cgC (goneC (entP xi xn)))] W fun e w' => e = .returned (.int .i64 (drWrite D s xi xn (goneC (entP xi xn))).2) ∧ D.G.Out B W a X (drWrite D s xi xn (goneC (entP xi xn))).1 w' ∧ D.Kp s0 (drWrite D s xi xn (goneC (entP xi xn))).1 (n + 2):=fun W hW => write_g o hW ⟨xi,xn,xt⟩ hx _ (goneE_ok hx.i0 hx.i1 hx.n8) hk hn
 have ct:=fun W => dplOf_any xi xn W
 have hR : drAway D s ⟨xi,xn,xt⟩ = drWrite D s xi xn (goneC (entP xi xn)):=rfl
 rw [hR]
 generalize drWrite D s xi xn (goneC (entP xi xn)) = R at *
 obtain ⟨S1,E1⟩:=R
 dsimp only at cw ⊢
 have hspc : spC ⟨xi,xn,xt⟩ = #[.int .u32 xi,.string xn,.int .u32 xt]:=rfl
 rw [hspc] at hw1 cw ⊢
 clear h hb1 hs1 hk hn hx hR
 go_enter Tryz.func34,Tryz.ntmps34
 go_upto_region 1 with fail
 try rw [hw1]
 clear hw1
 refine wp_region_noPanic ?_
 refine wp_region_held_drew (S:=fun W => SptAt W w.heap.size ⟨xi,xn,xt⟩) (by kernel_rfl) ⟨HS1.out.row⟩ (fun hHeld => ?_)
 refine tk 0 (.pointer (some ⟨a.s,0,none⟩)) rfl ?_
 try simp only [nz]
 refine wpAnyH_take (i:=1) (v:=.agg #[.int .u32 xi,.string xn,.int .u32 xt]) rfl (by kernel_rfl) (by kernel_rfl) (by kernel_rfl) (fun _ _ _ h => h) (yields_load (by rfl) _ _ rfl _ rfl _ (fun W h => h.load)) (by assumption) ?_
 try simp only [nz]
 refine tk 2 (.pointer (some ⟨w.heap.size,0,none⟩)) rfl ?_
 try simp only [nz]
 refine tk 3 (.int .u32 xi) rfl ?_ (fun W hSw => by (try dsimp only at hSw); (have z:=hSw.c0; go_simp))
 try simp only [nz]
 refine tk 4 (.pointer (some ⟨w.heap.size,1,none⟩)) rfl ?_
 try simp only [nz]
 refine tk 5 (.string xn) rfl ?_ (fun W hSw => by (try dsimp only at hSw); (have z:=hSw.c1; go_simp))
 try simp only [nz]
 refine rd 6 rfl (fun K hK => ?_)
 go_simp
 go_wp2_with (go_at_call 63; refine (ct _).mono ?_; rintro e w2 ⟨rfl,hb2⟩)
 have hi2:=g.below (g.drew HI1.out) hb2
 have hb12 : Below w1.heap.size w1 w2:=(Below.refl _ w1).drew.trans hb2
 refine hK.out _ _ (hHeld.below hb2) (fun hHeld2 => ?_)
 clear hK K
 try simp only [nz]
 refine wpAnyH_take (i:=7) (v:=.agg (cgC (goneC (entP xi xn)))) rfl (by kernel_rfl) (by kernel_rfl) (by kernel_rfl) (fun _ _ _ h => h) (yields_build (by rfl) 114 _ rfl [(0,plV (entP xi xn)),(1,.bool true)] (by kernel_rfl) _ (bt_gone (entP xi xn))) (by assumption) ?_
 try simp only [nz]
 refine rd 8 rfl (fun K hK => ?_)
 go_simp
 go_wp2_with (go_at_call 62; refine (cw _ hi2).mono ?_; rintro e w3 ⟨rfl,ho3,hkp⟩)
 refine hK.out _ _ (hHeld2.sole ho3.sole HNX.out) (fun hHeld3 => ?_)
 clear hK K
 try simp only [nz]
 refine tk 9 (.int .i64 E1) rfl ?_
 try simp only [nz]
 refine wpAnyH_done (by kernel_rfl) ?_ _
 refine NoPanic.normal ?_
 have HO : Hid (D.G.Out B w a X S1 w3 ∧ D.Kp s0 S1 (n + 2)):=⟨Sgt.Out.pre HB1.out (Sgt.Out.pre hb12 ho3),hkp⟩
 clear hHeld hHeld2 hHeld3 ho3 hi2 cw ct hkp
 go_wp2
 go_ret
 exact ⟨rfl,HO.out.1,HO.out.2⟩
end Go.Proofs.YtgajjphjkbnaeaaGreat
