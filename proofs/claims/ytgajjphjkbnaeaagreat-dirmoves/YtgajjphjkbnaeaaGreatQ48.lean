/- DrV, DrL: in one text. -/
import Derived.Test.YtgajjphjkbnaeaaGreatQ45
import Derived.Test.YtgajjphjkbnaeaaGreatQ47
namespace Go.Proofs.YtgajjphjkbnaeaaGreat
open Go.RowKit
set_option linter.unusedVariables false
set_option maxHeartbeats 32000000
set_option maxRecDepth 100000
set_option linter.unusedSimpArgs false
open Go.RowKit Go.Maps
def rootI : It:=⟨2,0,1,0,0,zeroC⟩
def rootK : ByteArray:=⟨#[0,0,0,1,1,0,0,0,0,0,0,0,0,0]⟩
def rootV : ByteArray:=strOfNums (wrL 1 rootI)
def rootL : List (ByteArray × ByteArray):=[(rootK,rootV)]
def rv0 : Sg:=sg0 rootL 60 2
def pnA : ByteArray:=⟨#[47,97]⟩
def pnAF : ByteArray:=⟨#[47,97,47,102]⟩
def pnAB : ByteArray:=⟨#[47,97,47,98]⟩
def pnG : ByteArray:=⟨#[47,103]⟩
def pnR : ByteArray:=⟨#[47]⟩
def rv1 : Sg:=(drMake DgP rv0 pnA 2 0).1
def rv2 : Sg:=(drMake DgP rv1 pnAF 1 0).1
def rv3 : Sg:=(drFind DgP rv2 pnAF).1
def rv4 : Sg:=(drRename DgP rv3 pnA pnAB).1
def rv5 : Sg:=(drRmdir DgP rv4 pnA).1
def rv6 : Sg:=(drRename DgP rv5 pnAF pnG).1
def rv7 : Sg:=(drRmdir DgP rv6 pnA).1
theorem rl_1 : (drMake DgP rv0 pnA 2 0).2 = (2,0):=by kernel_rfl
theorem rl_2 : (drMake DgP rv1 pnAF 1 0).2 = (3,0):=by kernel_rfl
theorem rl_3 : (drFind DgP rv2 pnAF).2 = (3,0):=by kernel_rfl
theorem rl_4 : (drRename DgP rv3 pnA pnAB).2 = 195:=by kernel_rfl
theorem rl_5 : (drRmdir DgP rv4 pnA).2 = 194:=by kernel_rfl
theorem rl_6 : (drRename DgP rv5 pnAF pnG).2 = 0:=by kernel_rfl
theorem rl_7 : (drRmdir DgP rv6 pnA).2 = 0:=by kernel_rfl
theorem rl_8 : (drList DgP rv7 pnR).2 = ([⟨#[103]⟩],0):=by kernel_rfl
theorem rj_0 : Jv rv0:=⟨newS_ok (by decide),(fun c hc => absurd hc (by simp [rv0,sg0,newS])),by decide,by decide,by decide⟩
open Go.RowKit Go.Maps
theorem Pr.callD {B : Nat} {w0 w : World} {pp : Nat} {a : Sa} {s s' : Sg} (h : Pr B w0 w pp a s) {f : FuncId} {args : Array Value} {K : Ending → World → Prop} (hc : ∀ X,SgIn B w a X s → Calls Tryz.prog f args w fun e w' => SgOut B w a X s' w' ∧ K e w') :
  Calls Tryz.prog f args w fun e w' => Pr B w0 w' pp a s' ∧ K e w':=by
 obtain ⟨X,x,h1,h2⟩:=h.ex
 refine (hc X h2).mono ?_
 rintro e w' ⟨⟨X',k1,k2,k3⟩,hk⟩
 exact ⟨⟨⟨X',x,k2.row h1 (h2.not_pair h1),k1⟩,h.bel.trans (k2.belowX h2.ge (Nat.le_trans h.B h.bel.size)),h.B⟩,hk⟩
theorem wrL_root : strOfNums (wrL 1 rootI) = rootV:=rfl
theorem root_bl : Tryz.prog.built 92 [(0,.agg #[.int .i64 2,.int .i64 0,.int .i64 1,.int .i64 0])] = some (itC rootI):=by kernel_rfl
theorem rootI_ok : ItOk rootI:=⟨⟨by decide,by decide,by decide,by decide,by decide,by decide,by decide,by decide⟩,by decide,by decide,ch_zero⟩
theorem root_rd (w : World) : RdK (w.alloc (.cells #[.string rootK,.string rootV] 94)) (some ⟨w.heap.size,0,none⟩) 1 1 rootL:=by
 have hr:=heap_alloc_new w (.cells #[.string rootK,.string rootV] 94)
 refine ⟨rfl,Nat.le_refl _,by decide,fun _ => ⟨w.heap.size,0,rfl,lt_of_row hr,fun i p hp => ?_⟩⟩
 have hi : i = 0:=by have:=(List.getElem?_eq_some_iff.1 hp).1; simp [rootL] at this; exact this
 subst hi
 cases hp
 exact ⟨by rw [cell_of_row _ _ _ _ _ (0,0) hr]; rfl,by rw [cell_of_row _ _ _ _ _ (0,0) hr]; rfl⟩
theorem root_any (w : World) : Calls Tryz.prog 16 #[] w fun e w' => ∃ g,e = .returned (.slice (some ⟨g,0,none⟩) 1 1) ∧ RdK w' (some ⟨g,0,none⟩) 1 1 rootL ∧ Below w.heap.size w w' ∧ w.heap.size ≤ g ∧ g < w'.heap.size:=by
 have ce:=refEnc_1c w rootI rootI_ok (by kernel_rfl) (by kernel_rfl)
 rw [wrL_root] at ce
 go_enter Tryz.func16,Tryz.ntmps16
 go_wp2_with (first | (refine wpList_buildBy rfl 92 _ rfl _ rfl [(0,.agg #[.int .i64 2,.int .i64 0,.int .i64 1,.int .i64 0])] (by kernel_rfl) _ root_bl ?_))
 refine ce.mono ?_
 rintro e w1 ⟨rfl,hb1⟩
 have hr:=root_rd w1
 have hb2:=bel1 w1 (.cells #[.string rootK,.string rootV] 94)
 have hrow:=heap_alloc_new w1 (.cells #[.string rootK,.string rootV] 94)
 have HF : Hid _:=hr
 have HB : Hid (Below w.heap.size w (w1.alloc (.cells #[.string rootK,.string rootV] 94)) ∧ w.heap.size ≤ w1.heap.size ∧ w1.heap.size < (w1.alloc (.cells #[.string rootK,.string rootV] 94)).heap.size):=⟨thenB hb1 hb2,hb1.size,lt_of_row hrow⟩
 clear ce hr hb1 hb2 hrow
 generalize rootV = V at *
 unfold rootK at HF HB
 go_wp2
 go_ret
 exact ⟨_,rfl,HF.out,HB.out⟩
theorem rk_0 : DgP.Kp rv0 rv0 0:=⟨sk0 _ _ _,Jr_refl rj_0⟩
theorem lvc_0 {B : Nat} {w0 w : World} {pp : Nat} {a : Sa} (h : Pr B w0 w pp a rv0) (hk : DgP.Kp rv0 rv0 0) :
  Calls Tryz.prog 17 #[.pointer (some ⟨a.s,0,none⟩),.string pnA,.int .i64 2,.int .i64 0] w fun e w' => Pr B w0 w' pp a rv1 ∧ (e = .returned (.tuple #[.int .u32 2,.int .i64 0]) ∧ DgP.Kp rv0 rv1 50):=by
 refine h.callD (fun X hX => (make_g DgP_ok (s:=rv0) hX pnA (by decide) 2 0 hk (by decide)).mono (fun e w' r => ?_))
 have e1:=r.1
 rw [rl_1] at e1
 exact ⟨r.2.1,e1,r.2.2⟩
theorem lvc_1 {B : Nat} {w0 w : World} {pp : Nat} {a : Sa} (h : Pr B w0 w pp a rv1) (hk : DgP.Kp rv0 rv1 50) :
  Calls Tryz.prog 17 #[.pointer (some ⟨a.s,0,none⟩),.string pnAF,.int .i64 1,.int .i64 0] w fun e w' => Pr B w0 w' pp a rv2 ∧ (e = .returned (.tuple #[.int .u32 3,.int .i64 0]) ∧ DgP.Kp rv0 rv2 100):=by
 refine h.callD (fun X hX => (make_g DgP_ok (s:=rv1) hX pnAF (by decide) 1 0 hk (by decide)).mono (fun e w' r => ?_))
 have e1:=r.1
 rw [rl_2] at e1
 exact ⟨r.2.1,e1,r.2.2⟩
theorem lvc_2 {B : Nat} {w0 w : World} {pp : Nat} {a : Sa} (h : Pr B w0 w pp a rv2) (hk : DgP.Kp rv0 rv2 100) :
  Calls Tryz.prog 9 #[.pointer (some ⟨a.s,0,none⟩),.string pnAF] w fun e w' => Pr B w0 w' pp a rv3 ∧ (e = .returned (.tuple #[.int .u32 3,.int .i64 0]) ∧ DgP.Kp rv0 rv3 150):=by
 refine h.callD (fun X hX => (find_g DgP_ok (s:=rv2) hX pnAF (by decide) hk (by decide)).mono (fun e w' r => ?_))
 have e1:=r.1
 rw [rl_3] at e1
 exact ⟨r.2.1,e1,DgP_ok.kmono r.2.2.1 (by decide)⟩
theorem lvc_3 {B : Nat} {w0 w : World} {pp : Nat} {a : Sa} (h : Pr B w0 w pp a rv3) (hk : DgP.Kp rv0 rv3 150) :
  Calls Tryz.prog 11 #[.pointer (some ⟨a.s,0,none⟩),.string pnA,.string pnAB] w fun e w' => Pr B w0 w' pp a rv4 ∧ (e = .returned (.int .i64 195) ∧ DgP.Kp rv0 rv4 200):=by
 refine h.callD (fun X hX => (rename_g DgP_ok (s:=rv3) hX pnA pnAB (by decide) (by decide) hk (by decide)).mono (fun e w' r => ?_))
 have e1:=r.1
 rw [rl_4] at e1
 exact ⟨r.2.1,e1,r.2.2⟩
theorem lvc_4 {B : Nat} {w0 w : World} {pp : Nat} {a : Sa} (h : Pr B w0 w pp a rv4) (hk : DgP.Kp rv0 rv4 200) :
  Calls Tryz.prog 18 #[.pointer (some ⟨a.s,0,none⟩),.string pnA] w fun e w' => Pr B w0 w' pp a rv5 ∧ (e = .returned (.int .i64 194) ∧ DgP.Kp rv0 rv5 250):=by
 refine h.callD (fun X hX => (rmdir_g DgP_ok (s:=rv4) hX pnA (by decide) hk (by decide)).mono (fun e w' r => ?_))
 have e1:=r.1
 rw [rl_5] at e1
 exact ⟨r.2.1,e1,r.2.2⟩
theorem lvc_5 {B : Nat} {w0 w : World} {pp : Nat} {a : Sa} (h : Pr B w0 w pp a rv5) (hk : DgP.Kp rv0 rv5 250) :
  Calls Tryz.prog 11 #[.pointer (some ⟨a.s,0,none⟩),.string pnAF,.string pnG] w fun e w' => Pr B w0 w' pp a rv6 ∧ (e = .returned (.int .i64 0) ∧ DgP.Kp rv0 rv6 300):=by
 refine h.callD (fun X hX => (rename_g DgP_ok (s:=rv5) hX pnAF pnG (by decide) (by decide) hk (by decide)).mono (fun e w' r => ?_))
 have e1:=r.1
 rw [rl_6] at e1
 exact ⟨r.2.1,e1,r.2.2⟩
theorem lvc_6 {B : Nat} {w0 w : World} {pp : Nat} {a : Sa} (h : Pr B w0 w pp a rv6) (hk : DgP.Kp rv0 rv6 300) :
  Calls Tryz.prog 18 #[.pointer (some ⟨a.s,0,none⟩),.string pnA] w fun e w' => Pr B w0 w' pp a rv7 ∧ (e = .returned (.int .i64 0) ∧ DgP.Kp rv0 rv7 350):=by
 refine h.callD (fun X hX => (rmdir_g DgP_ok (s:=rv6) hX pnA (by decide) hk (by decide)).mono (fun e w' r => ?_))
 have e1:=r.1
 rw [rl_7] at e1
 exact ⟨r.2.1,e1,r.2.2⟩
theorem lvc_7 {B : Nat} {w0 w : World} {pp : Nat} {a : Sa} (h : Pr B w0 w pp a rv7) (hk : DgP.Kp rv0 rv7 350) :
  Calls Tryz.prog 19 #[.pointer (some ⟨a.s,0,none⟩),.string pnR] w fun e w' => ∃ v,e = .returned (.tuple #[v,.int .i64 0]) ∧ Below B w0 w' ∧ w'.ownsRow w.heap.size 9 1 v 1 [.string ⟨#[103]⟩]:=by
 obtain ⟨X,x,h1,h2⟩:=h.ex
 refine (list_g DgP_ok (s:=rv7) h2 pnR (by decide) hk (by decide)).mono ?_
 rintro e w' ⟨v,e1,⟨X',k1,k2,k3⟩,_,ho⟩
 rw [rl_8] at e1 ho
 exact ⟨v,e1,h.bel.trans (k2.belowX h2.ge (Nat.le_trans h.B h.bel.size)),ho⟩
theorem dlive_any (w : World) : Calls Tryz.prog 6 #[] w fun e w' => e = .returned (.bool true) ∧ Below w.heap.size w w':=by
 have cr:=root_any w
 go_enter Tryz.func6,Tryz.ntmps6
 go_wp2_with fail
 refine cr.mono ?_
 rintro e w1 ⟨g,rfl,hr,hb1,hg,hg2⟩
 clear cr
 have cb:=begin_in w1 (some ⟨g,0,none⟩) 1 1 rootL hr (Nat.le_refl _) (fun q _ e => by cases e; exact hg2) 60 (by decide) 2 (by decide) (by decide)
 have HB1 : Hid (Below w.heap.size w w1):=hb1
 clear hr hb1 hg hg2
 go_wp2_with fail
 refine cb.mono ?_
 intro e w2 hbg
 obtain ⟨pp,a,rfl,hp⟩:=Pr.of hbg (Nat.le_refl _)
 clear cb hbg
 have hp : Pr w1.heap.size w1 w2 pp a rv0:=hp
 have hk:=rk_0
 have q0:=hp.c0
 have cc:=lvc_0 hp hk
 clear hp hk
 go_wp2_with fail
 refine cc.mono ?_
 rintro e x0 ⟨hp,rfl,hk⟩
 clear cc q0
 have q0:=hp.c0
 have cc:=lvc_1 hp hk
 clear hp hk
 go_wp2_with fail
 refine cc.mono ?_
 rintro e x1 ⟨hp,rfl,hk⟩
 clear cc q0
 have q0:=hp.c0
 have cc:=lvc_2 hp hk
 clear hp hk
 go_wp2_with fail
 refine cc.mono ?_
 rintro e x2 ⟨hp,rfl,hk⟩
 clear cc q0
 have q0:=hp.c0
 have cc:=lvc_3 hp hk
 clear hp hk
 go_wp2_with fail
 refine cc.mono ?_
 rintro e x3 ⟨hp,rfl,hk⟩
 clear cc q0
 have q0:=hp.c0
 have cc:=lvc_4 hp hk
 clear hp hk
 go_wp2_with fail
 refine cc.mono ?_
 rintro e x4 ⟨hp,rfl,hk⟩
 clear cc q0
 have q0:=hp.c0
 have cc:=lvc_5 hp hk
 clear hp hk
 go_wp2_with fail
 refine cc.mono ?_
 rintro e x5 ⟨hp,rfl,hk⟩
 clear cc q0
 have q0:=hp.c0
 have cc:=lvc_6 hp hk
 clear hp hk
 go_wp2_with fail
 refine cc.mono ?_
 rintro e x6 ⟨hp,rfl,hk⟩
 clear cc q0
 have q0:=hp.c0
 have cc:=lvc_7 hp hk
 clear hp hk
 go_wp2_with fail
 refine cc.mono ?_
 rintro e x7 ⟨v,rfl,hb,ho⟩
 clear cc q0
 have HB : Hid (Below w.heap.size w x7):=HB1.out.trans (hb.mono HB1.out.size)
 obtain ⟨gr,c,rfl,hgr⟩ : ∃ gr c,v = .slice (some ⟨gr,0,none⟩) 1 c ∧ x7.cell? ⟨gr,0,none⟩ = some (.string ⟨#[103]⟩):=by
  obtain ⟨_,⟨e,h0⟩ | ⟨g,cap,cur,e,h1,h2,h3,_,_,h6⟩⟩:=ho
  ·exact absurd h0 (by decide)
  ·refine ⟨g,cap,e,?_⟩
   rw [cell_of_row _ _ _ _ _ (0,0) h2]
   have:=congrArg (fun l => l[0]?) h6
   simpa using this
 clear ho hb
 go_wp2
 go_ret
 exact ⟨rfl,HB.out⟩
end Go.Proofs.YtgajjphjkbnaeaaGreat
