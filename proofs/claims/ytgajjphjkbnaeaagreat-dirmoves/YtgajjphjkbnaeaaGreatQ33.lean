/- DrB: in one text. -/
import Derived.Test.YtgajjphjkbnaeaaGreatQ1
import Derived.Test.YtgajjphjkbnaeaaGreatQ32
import Derived.Deep.CutRange
namespace Go.Proofs.YtgajjphjkbnaeaaGreat
open Go.RowKit
set_option linter.unusedVariables false
set_option maxHeartbeats 32000000
set_option maxRecDepth 100000
set_option linter.unusedSimpArgs false
open Go.RowKit Go.Maps
theorem drSole {w : World} {k : Nat} {cs : Array Value} : Sole [k] w (w.setRow k cs):=⟨rfl,rfl,rfl,by simp [World.setRow],fun i hi hn => setRow_other _ _ _ _ (by simpa using hn)⟩
theorem ItAt.soleD {T : TypeId} {w w' : World} {g : Nat} {x : It} {X : List Nat} (h : ItAt T w g x) (hs : Sole X w w') (hn : g ∉ X) : ItAt T w' g x:=⟨hs.row h.row hn⟩
theorem refuse_g {D : Sgd} (o : D.Ok) {B : Nat} {w : World} {a : Sa} {X : List Nat} {s : D.G.S} (h : D.G.In B w a X s) (ino : Int) (h0 : 0 ≤ ino) (h1 : ino ≤ 4294967295) (k e0 : Int) :
  Calls Tryz.prog 32 #[.pointer (some ⟨a.s,0,none⟩),.int .u32 ino,.int .i64 k,.int .i64 e0] w fun e w' => e = .returned (.int .i64 (drKind D s ino k e0).2) ∧ D.G.Out B w a X (drKind D s ino k e0).1 w':=by
 have ck:=o.g.kind h ino h0 h1
 have HF : Hid (drKind D s ino k e0 = (D.G.fdS s ino,if (D.G.fd s ino).2 ≠ 0 then (D.G.fd s ino).2 else if (D.G.fd s ino).1.k = k then e0 else 0)):=rfl
 generalize drKind D s ino k e0 = R at *
 generalize D.G.fdS s ino = S1 at *
 generalize D.G.fd s ino = F at *
 obtain ⟨⟨fk,fm,fl,fz⟩,fe⟩:=F
 dsimp only at ck HF ⊢
 clear h
 go_enter Tryz.func32,Tryz.ntmps32
 go_wp2_with fail
 refine ck.mono ?_
 rintro e w1 ⟨rfl,ho1⟩
 have HO : Hid (D.G.Out B w a X S1 w1):=ho1
 clear ck ho1
 by_cases he : fe = 0
 case neg =>
  have heb : (fe != 0) = true:=by simpa using he
  have HE : Hid (R = (S1,fe)):=by unfold Hid; rw [HF.out,if_pos he]
  clear HF
  go_wp2
  go_ret
  exact ⟨by rw [HE.out]; first | done | rfl,by rw [HE.out]; exact HO.out⟩
 subst he
 by_cases hk2 : fk = k
 case pos =>
  subst hk2
  have HE : Hid (R = (S1,e0)):=by unfold Hid; rw [HF.out,if_neg (by simp),if_pos rfl]
  clear HF
  go_wp2
  go_ret
  exact ⟨by rw [HE.out]; first | done | rfl,by rw [HE.out]; exact HO.out⟩
 have hk2b : (fk == k) = false:=by simpa using hk2
 have HE : Hid (R = (S1,0)):=by unfold Hid; rw [HF.out,if_neg (by simp),if_neg hk2]
 clear HF
 go_wp2
 go_ret
 exact ⟨by rw [HE.out]; first | done | rfl,by rw [HE.out]; exact HO.out⟩
theorem ret_tch {fn : Func} {R : Ending → World → Prop} {a : Act} {w : World} {p : Tmp} (h : fn.results = #[.cell p 120]) (g : Nat) (q : Tc) {t : TypeId} {fr : Nat × Nat} (hp : a.tmps.getD p undef = .pointer (some ⟨g,0,none⟩))
  (hg : w.heap[g]? = some (.cells (tcC q) t fr)) (hd : a.defers = []) (hR : R (.returned (.agg (tcC q))) w) : bodyPost Tryz.prog fn R .ret a w :=
 bodyPost_ret (results_cell_row h a.tmps w g t (tcC q) fr _ hp hg Tryz.underlying120 rfl (by kernel_rfl)) hd hR
theorem tchOf_any (ino : Int) (name : ByteArray) (W : World) : Calls Tryz.prog 75 #[.int .u32 ino,.string name] W fun e w' => e = .returned (.agg (tcC (tcN ino name))) ∧ Below W.heap.size W w':=by
 have hb1:=bel1 W (.cells #[.int .i64 5,.int .u32 ino,.string name,.int .i64 0,.int .i64 0] 120)
 have HB : Hid _:=hb1
 clear hb1
 go_enter Tryz.func75,Tryz.ntmps75
 go_wp2
 exact ret_tch rfl W.heap.size (tcN ino name) rfl (heap_alloc_new W _) rfl ⟨rfl,HB.out⟩
theorem dplOf_any (ino : Int) (name : ByteArray) (W : World) : Calls Tryz.prog 63 #[.int .u32 ino,.string name] W fun e w' => e = .returned (plV (entP ino name)) ∧ Below W.heap.size W w':=by
 have hb1:=bel1 W (.cells #[.int .u32 ino,.int .i64 2,.string name,.int .u32 0] 110)
 have HB : Hid _:=hb1
 clear hb1
 go_enter Tryz.func63,Tryz.ntmps63
 go_wp2
 exact ret_place rfl W.heap.size (entP ino name) rfl (heap_alloc_new W _) rfl ⟨rfl,HB.out⟩
theorem lookUp_g {D : Sgd} (o : D.Ok) {B : Nat} {w : World} {a : Sa} {X : List Nat} {s : D.G.S} {n : Nat} (h : D.G.In B w a X s) (ino : Int) (h0 : 0 ≤ ino) (h1 : ino ≤ 4294967295) {name : ByteArray} (hn8 : name.size ≤ 8) (hk : D.G.Sk s n) (hn : n ≤ 3900) :
  Calls Tryz.prog 56 #[.pointer (some ⟨a.s,0,none⟩),.int .u32 ino,.string name] w fun e w' => e = .returned (.tuple #[.int .u32 (drLook D s ino name).2.1,.int .i64 (drLook D s ino name).2.2]) ∧ D.G.Out B w a X (drLook D s ino name).1 w' ∧ 0 ≤ (drLook D s ino name).2.1 ∧ (drLook D s ino name).2.1 ≤ 4294967295:=by
 have g:=o.g
 have cf:=refuse_g o h ino h0 h1 1 192
 have HK : Hid (D.G.Sk (drKind D s ino 1 192).1 n):=g.skF hk ino
 have HF : Hid (drLook D s ino name = drLook1 D (drKind D s ino 1 192) ino name):=rfl
 have HBW : Hid (B ≤ w.heap.size):=g.le h
 generalize drLook D s ino name = R at *
 generalize drKind D s ino 1 192 = KR at *
 obtain ⟨S1,ke⟩:=KR
 dsimp only at cf HK HF
 have HI : Hid (0 ≤ ino ∧ ino ≤ 4294967295 ∧ name.size ≤ 8 ∧ n ≤ 3900):=⟨h0,h1,hn8,hn⟩
 clear h h0 h1 hn8 hk hn
 go_enter Tryz.func56,Tryz.ntmps56
 go_wp2_with fail
 refine cf.mono ?_
 rintro e w1 ⟨rfl,ho1⟩
 clear cf
 by_cases he : ke = 0
 case neg =>
  have heb : (ke != 0) = true:=by simpa using he
  have HE : Hid (R = (S1,0,ke)):=by unfold Hid; rw [HF.out]; unfold drLook1; rw [if_pos he]
  have HO : Hid (D.G.Out B w a X S1 w1):=ho1
  clear HF ho1
  go_wp2
  go_ret2
  exact ⟨by rw [HE.out]; first | done | rfl,by rw [HE.out]; exact HO.out,by rw [HE.out]; exact ⟨Int.le_refl _,show (0 : Int) ≤ 4294967295 by decide⟩⟩
 subst he
 have HE0 : Hid (R = drLook2 D (D.G.rd S1 (tcN ino name)) ino name):=by unfold Hid; rw [HF.out]; unfold drLook1; rw [if_neg (by simp)]
 obtain ⟨X1,hx1,hx2,hx3⟩:=ho1
 have HX1 : Hid (D.G.In B w1 a X1 S1):=hx1
 have HX2 : Hid (Sole X w w1):=hx2
 have HX3 : Hid (∀ k ∈ X1,k ∈ X ∨ w.heap.size ≤ k):=hx3
 have ct:=fun W => tchOf_any ino name W
 have ca : ∀ W,D.G.In B W a X1 S1 → Calls Tryz.prog 59 #[.pointer (some ⟨a.r,0,none⟩),.agg (tcC (tcN ino name))] W fun e w' => e = .returned (.int .i64 (tckE (tcN ino name))) ∧ D.G.Out B W a X1 (D.G.rd S1 (tcN ino name)) w':=fun W hW => g.rds hW _ (tcN_ok HI.out.1 HI.out.2.1 HI.out.2.2.1) HK.out (by have:=HI.out; omega)
 have HK2 : Hid (D.G.Sk (D.G.rd S1 (tcN ino name)) (n + 1)):=g.skR HK.out _
 generalize D.G.rd S1 (tcN ino name) = S2 at *
 generalize tckE (tcN ino name) = TE at *
 generalize tcC (tcN ino name) = TC at *
 clear hx1 hx2 hx3 HF HK
 go_wp2_with fail
 refine wp_region_noPanic ?_
 refine wp_region_held_drew (S:=fun W => SRow W a) (by kernel_rfl) (g.srow (g.drew HX1.out)) (fun hHeld => ?_)
 refine tk 0 (.pointer (some ⟨a.s,0,none⟩)) rfl ?_
 try simp only [nz]
 refine tk 1 (.pointer (some ⟨a.s,0,none⟩)) rfl ?_
 try simp only [nz]
 refine tk 2 (.pointer (some ⟨a.s,1,none⟩)) rfl ?_
 try simp only [nz]
 refine tk 3 (.pointer (some ⟨a.r,0,none⟩)) rfl ?_ (fun W hSw => by (try dsimp only at hSw); (have z:=SRow.c1 hSw; go_simp))
 try simp only [nz]
 refine tk 4 (.int .u32 ino) rfl ?_
 try simp only [nz]
 refine tk 5 (.string name) rfl ?_
 try simp only [nz]
 refine rd 6 rfl (fun K hK => ?_)
 go_simp
 go_wp2_with (go_at_call 75; refine (ct _).mono ?_; rintro e w2 ⟨rfl,hb2⟩)
 have hi2:=g.below (g.drew HX1.out) hb2
 have hb12 : Below w1.heap.size w1 w2:=(Below.refl _ w1).drew.trans hb2
 refine hK.out _ _ (g.srow hi2) (fun hHeld2 => ?_)
 clear hK K
 try simp only [nz]
 refine rd 7 rfl (fun K hK => ?_)
 go_simp
 go_wp2_with (go_at_call 59; refine (ca _ hi2).mono ?_; rintro e w3 ⟨rfl,ho3⟩)
 have hS3 : SRow w3 a:=by obtain ⟨X2,k1,_⟩:=ho3; exact g.srow k1
 refine hK.out _ _ hS3 (fun hHeld3 => ?_)
 clear hK K
 try simp only [nz]
 refine wpAnyH_done (by kernel_rfl) ?_ _
 refine NoPanic.normal ?_
 obtain ⟨X3,hy1,hy2,hy3⟩:=Sgt.Out.then HX2.out HX3.out (Sgt.Out.pre hb12 ho3)
 have HY1 : Hid (D.G.In B w3 a X3 S2):=hy1
 have HY2 : Hid (Sole X w w3):=hy2
 have HY3 : Hid (∀ k ∈ X3,k ∈ X ∨ w.heap.size ≤ k):=hy3
 have HLX : Hid (∀ k ∈ X3,k < w3.heap.size):=g.lt hy1
 have cg : ∀ W,D.G.In B W a X3 S2 → Calls Tryz.prog 57 #[.pointer (some ⟨a.v,0,none⟩),plV (entP ino name)] W fun e w' => e = .returned (.tuple #[.agg (itC (D.G.get S2 (entP ino name)).1),.bool (D.G.get S2 (entP ino name)).2.1,.int .i64 (D.G.get S2 (entP ino name)).2.2]) ∧ D.G.Out B W a X3 (D.G.getS S2 (entP ino name)) w':=fun W hW => g.gets hW _ (entP_ok HI.out.1 HI.out.2.1 HI.out.2.2.1)
 have HCH : Hid (Ch (D.G.get S2 (entP ino name)).1.bytes):=g.getO hy1 _
 have HTO : Hid (0 ≤ (D.G.get S2 (entP ino name)).1.lead ∧ (D.G.get S2 (entP ino name)).1.lead ≤ 4294967295):=o.getT hy1 _
 have HE1 : Hid (R = (D.G.getS S2 (entP ino name),(D.G.get S2 (entP ino name)).1.lead,(D.G.get S2 (entP ino name)).2.2)):=HE0.out
 have HPO : Hid (∀ W,Calls Tryz.prog 63 #[.int .u32 ino,.string name] W fun e w' => e = .returned (plV (entP ino name)) ∧ Below W.heap.size W w'):=fun W => dplOf_any ino name W
 generalize D.G.getS S2 (entP ino name) = S3 at *
 generalize D.G.get S2 (entP ino name) = V at *
 generalize plV (entP ino name) = PV at *
 obtain ⟨x,is,er⟩:=V
 dsimp only at cg HCH HE1 HTO
 have hz:=zeroItem
 have len0:=ch_zero.1
 clear hy1 hy2 hy3 ho3 hi2 hb2 hb12 hHeld hHeld2 hHeld3 hS3 HE0 HX1 HX2 HX3 ca ct HK2
 go_upto_region 5 with fail
 go_cut [9,10,11] from 26 to 37 (fun s9 s10 s11 wx => ∃ gi,s9 = .pointer (some ⟨gi,0,none⟩) ∧ s10 = .bool is ∧ s11 = .int .i64 er ∧ Hid (ItAt 128 wx gi x) ∧ Hid (D.G.Out B w3 a X3 S3 wx))
 case first =>
  have hS0 : SRow w3.drew a:=g.srow (g.drew HY1.out)
  refine wp_region_noPanic ?_
  refine wp_region_held_drew (S:=fun W => SRow W a) (by kernel_rfl) hS0 (fun hHeld => ?_)
  refine tk 0 (.pointer (some ⟨a.s,0,none⟩)) rfl ?_
  try simp only [nz]
  refine tk 1 (.pointer (some ⟨a.s,0,none⟩)) rfl ?_
  try simp only [nz]
  refine tk 2 (.pointer (some ⟨a.s,0,none⟩)) rfl ?_
  try simp only [nz]
  refine tk 3 (.pointer (some ⟨a.v,0,none⟩)) rfl ?_ (fun W hSw => by (try dsimp only at hSw); (have z:=SRow.c0 hSw; go_simp))
  try simp only [nz]
  refine tk 4 (.int .u32 ino) rfl ?_
  try simp only [nz]
  refine tk 5 (.string name) rfl ?_
  try simp only [nz]
  have hi0:=g.drew HY1.out
  have hs0 : Below w3.heap.size w3 w3.drew:=(Below.refl _ _).drew
  obtain ⟨wA,hwA⟩ : ∃ wA,wA = w3.drew:=⟨_,rfl⟩
  rw [← hwA] at hHeld hi0 hs0 ⊢
  clear hwA hS0
  refine wpAnyH_ready (rs:=[6,12]) (by kernel_rfl) (by simp) ?_
  refine AllReadyH.cons rfl (fun K hK => ?_) (AllReadyH.cons rfl (fun K hK => ?_) AllReadyH.nil)
  ·skip
   have cr:=HPO.out wA
   go_simp
   go_wp2_with (go_at_call 63; refine cr.mono ?_; rintro e wB ⟨rfl,hbP⟩)
   have hHeldN:=SRow.below hHeld hbP
   clear hHeld
   refine hK.out _ _ hHeldN (fun hHeld => ?_)
   clear hK K cr hHeldN
   try simp only [nz]
   have hi1:=g.below hi0 hbP
   have hs1:=hs0.trans (hbP.mono hs0.size)
   refine wpAnyH_ready (rs:=[7,12]) (by kernel_rfl) (by simp) ?_
   refine AllReadyH.cons rfl (fun K hK => ?_) (AllReadyH.cons rfl (fun K hK => ?_) AllReadyH.nil)
   ·skip
    go_simp
    go_wp2_with (go_at_call 57; refine (cg _ hi1).mono ?_; rintro e wG ⟨rfl,hoG⟩)
    have hsG:=hoG.sole
    have hHeldN : SRow wG a:=by obtain ⟨X2,k1,_⟩:=hoG; exact g.srow k1
    clear hHeld
    refine hK.out _ _ hHeldN (fun hHeld => ?_)
    clear hK K hHeldN
    try simp only [nz]
    refine tk 8 (.tuple #[.agg (itC x),.bool is,.int .i64 er]) rfl ?_
    try simp only [nz]
    refine tk 9 (.agg (itC x)) rfl ?_
    try simp only [nz]
    refine tk 10 (.bool is) rfl ?_
    try simp only [nz]
    refine tk 11 (.int .i64 er) rfl ?_
    try simp only [nz]
    refine rd 12 rfl (fun K hK => ?_)
    go_simp
    go_wp2
    have hat:=ItAt.laid 128 wG it0
    have hba:=bel1 wG (.cells (itC it0) 128)
    obtain ⟨GI,hg0⟩ : ∃ G0,wG.heap.size = G0:=⟨_,rfl⟩
    have hHeldN:=SRow.below hHeld hba
    clear hHeld
    refine hK.out _ _ hHeldN (fun hHeld => ?_)
    clear hK K
    obtain ⟨wH,hnw⟩ : ∃ wz,wG.alloc (.cells (itC it0) 128) = wz:=⟨_,rfl⟩
    rw [hnw] at hat hba hHeld ⊢
    rw [hg0] at hat ⊢
    try simp only [nz]
    clear hHeldN hnw
    have hgi : w3.heap.size ≤ GI:=by rw [← hg0]; exact Nat.le_trans hs1.size hsG.size
    have hO:=g.post (Sgt.Out.pre hs1 hoG) hba
    refine rd 13 rfl (fun K hK => ?_)
    rw [if_pos (by rfl)]
    refine wp_stI _ _ rfl GI x it0 rfl rfl HCH.out.1 len0 hat ?_
    have HFI : Hid (D.G.Out B w3 a X3 S3 (wH.setRow GI (itC x))):=g.fin (g.le HY1.out) hO hgi hat.row (by decide) (by decide) (by decide) (by decide) (by decide) (by decide) (by decide) (by decide) drSole
    have HAI : Hid (ItAt 128 (wH.setRow GI (itC x)) GI x):=hat.setRow x
    have hne2 : a.s ≠ GI:=by intro e; have:=lt_of_row (g.srow HY1.out); omega
    refine hK.out _ _ ((setRow_other _ _ _ _ hne2).trans hHeld) (fun hHeld9 => ?_)
    clear hK K
    try simp only [nz]
    refine tk 14 (.bool is) rfl ?_
    try simp only [nz]
    refine tk 15 (.int .i64 er) rfl ?_
    try simp only [nz]
    refine wpAnyH_done (by kernel_rfl) ?_ _
    refine NoPanic.normal ?_
    clear hHeld hHeld9
    go_wp2_with fail
    go_meet
    case rel => exact ⟨GI,rfl,rfl,rfl,HAI,HFI⟩
   ·skip
    go_simp
    go_wp2
    have hat:=ItAt.laid 128 wB it0
    have hba:=bel1 wB (.cells (itC it0) 128)
    obtain ⟨GI,hg0⟩ : ∃ G0,wB.heap.size = G0:=⟨_,rfl⟩
    have hHeldN:=SRow.below hHeld hba
    clear hHeld
    refine hK.out _ _ hHeldN (fun hHeld => ?_)
    clear hK K
    obtain ⟨wH,hnw⟩ : ∃ wz,wB.alloc (.cells (itC it0) 128) = wz:=⟨_,rfl⟩
    rw [hnw] at hat hba hHeld ⊢
    rw [hg0] at hat ⊢
    try simp only [nz]
    clear hHeldN hnw
    have hgi : w3.heap.size ≤ GI:=by rw [← hg0]; exact hs1.size
    have hi2:=g.below hi1 hba
    refine rd 7 rfl (fun K hK => ?_)
    go_simp
    go_wp2_with (go_at_call 57; refine (cg _ hi2).mono ?_; rintro e wG ⟨rfl,hoG⟩)
    have hsG:=hoG.sole
    have hHeldN : SRow wG a:=by obtain ⟨X2,k1,_⟩:=hoG; exact g.srow k1
    clear hHeld
    refine hK.out _ _ hHeldN (fun hHeld => ?_)
    clear hK K hHeldN
    try simp only [nz]
    refine tk 8 (.tuple #[.agg (itC x),.bool is,.int .i64 er]) rfl ?_
    try simp only [nz]
    refine tk 9 (.agg (itC x)) rfl ?_
    try simp only [nz]
    refine tk 10 (.bool is) rfl ?_
    try simp only [nz]
    refine tk 11 (.int .i64 er) rfl ?_
    try simp only [nz]
    have hat:=hat.soleD hsG (fun e => by have:=HLX.out _ e; omega)
    have hO:=Sgt.Out.pre (hs1.trans (hba.mono hs1.size)) hoG
    refine rd 13 rfl (fun K hK => ?_)
    rw [if_pos (by rfl)]
    refine wp_stI _ _ rfl GI x it0 rfl rfl HCH.out.1 len0 hat ?_
    have HFI : Hid (D.G.Out B w3 a X3 S3 (wG.setRow GI (itC x))):=g.fin (g.le HY1.out) hO hgi hat.row (by decide) (by decide) (by decide) (by decide) (by decide) (by decide) (by decide) (by decide) drSole
    have HAI : Hid (ItAt 128 (wG.setRow GI (itC x)) GI x):=hat.setRow x
    have hne2 : a.s ≠ GI:=by intro e; have:=lt_of_row (g.srow HY1.out); omega
    refine hK.out _ _ ((setRow_other _ _ _ _ hne2).trans hHeld) (fun hHeld9 => ?_)
    clear hK K
    try simp only [nz]
    refine tk 14 (.bool is) rfl ?_
    try simp only [nz]
    refine tk 15 (.int .i64 er) rfl ?_
    try simp only [nz]
    refine wpAnyH_done (by kernel_rfl) ?_ _
    refine NoPanic.normal ?_
    clear hHeld hHeld9
    go_wp2_with fail
    go_meet
    case rel => exact ⟨GI,rfl,rfl,rfl,HAI,HFI⟩
  ·skip
   go_simp
   go_wp2
   have hat:=ItAt.laid 128 wA it0
   have hba:=bel1 wA (.cells (itC it0) 128)
   obtain ⟨GI,hg0⟩ : ∃ G0,wA.heap.size = G0:=⟨_,rfl⟩
   have hHeldN:=SRow.below hHeld hba
   clear hHeld
   refine hK.out _ _ hHeldN (fun hHeld => ?_)
   clear hK K
   obtain ⟨wH,hnw⟩ : ∃ wz,wA.alloc (.cells (itC it0) 128) = wz:=⟨_,rfl⟩
   rw [hnw] at hat hba hHeld ⊢
   rw [hg0] at hat ⊢
   try simp only [nz]
   clear hHeldN hnw
   have hgi : w3.heap.size ≤ GI:=by rw [← hg0]; exact hs0.size
   have hi2:=g.below hi0 hba
   have hs2:=hs0.trans (hba.mono hs0.size)
   refine rd 6 rfl (fun K hK => ?_)
   have cr:=HPO.out wH
   go_simp
   go_wp2_with (go_at_call 63; refine cr.mono ?_; rintro e wB ⟨rfl,hbP⟩)
   have hHeldN:=SRow.below hHeld hbP
   clear hHeld
   refine hK.out _ _ hHeldN (fun hHeld => ?_)
   clear hK K cr hHeldN
   try simp only [nz]
   have hi1:=g.below hi2 hbP
   have hs1:=hs2.trans (hbP.mono hs2.size)
   have hat:=hat.below hbP
   refine rd 7 rfl (fun K hK => ?_)
   go_simp
   go_wp2_with (go_at_call 57; refine (cg _ hi1).mono ?_; rintro e wG ⟨rfl,hoG⟩)
   have hsG:=hoG.sole
   have hHeldN : SRow wG a:=by obtain ⟨X2,k1,_⟩:=hoG; exact g.srow k1
   clear hHeld
   refine hK.out _ _ hHeldN (fun hHeld => ?_)
   clear hK K hHeldN
   try simp only [nz]
   refine tk 8 (.tuple #[.agg (itC x),.bool is,.int .i64 er]) rfl ?_
   try simp only [nz]
   refine tk 9 (.agg (itC x)) rfl ?_
   try simp only [nz]
   refine tk 10 (.bool is) rfl ?_
   try simp only [nz]
   refine tk 11 (.int .i64 er) rfl ?_
   try simp only [nz]
   have hat:=hat.soleD hsG (fun e => by have:=HLX.out _ e; omega)
   have hO:=Sgt.Out.pre hs1 hoG
   refine rd 13 rfl (fun K hK => ?_)
   rw [if_pos (by rfl)]
   refine wp_stI _ _ rfl GI x it0 rfl rfl HCH.out.1 len0 hat ?_
   have HFI : Hid (D.G.Out B w3 a X3 S3 (wG.setRow GI (itC x))):=g.fin (g.le HY1.out) hO hgi hat.row (by decide) (by decide) (by decide) (by decide) (by decide) (by decide) (by decide) (by decide) drSole
   have HAI : Hid (ItAt 128 (wG.setRow GI (itC x)) GI x):=hat.setRow x
   have hne2 : a.s ≠ GI:=by intro e; have:=lt_of_row (g.srow HY1.out); omega
   refine hK.out _ _ ((setRow_other _ _ _ _ hne2).trans hHeld) (fun hHeld9 => ?_)
   clear hK K
   try simp only [nz]
   refine tk 14 (.bool is) rfl ?_
   try simp only [nz]
   refine tk 15 (.int .i64 er) rfl ?_
   try simp only [nz]
   refine wpAnyH_done (by kernel_rfl) ?_ _
   refine NoPanic.normal ?_
   clear hHeld hHeld9
   go_wp2_with fail
   go_meet
   case rel => exact ⟨GI,rfl,rfl,rfl,HAI,HFI⟩
 case rest =>
  obtain ⟨gi,rfl,rfl,rfl,HI5,HO5⟩:=hcut
  obtain ⟨w6,rfl⟩ : ∃ w6,w6 = wc:=⟨_,rfl⟩
  have HOW : Hid (D.G.Out B w a X S3 w6):=Sgt.Out.then HY2.out HY3.out HO5.out
  have q4:=HI5.out.c4
  clear cg hz len0
  go_wp2
  go_ret2
  exact ⟨by rw [HE1.out]; first | done | rfl,by rw [HE1.out]; exact HOW.out,by rw [HE1.out]; exact HTO.out⟩
end Go.Proofs.YtgajjphjkbnaeaaGreat
