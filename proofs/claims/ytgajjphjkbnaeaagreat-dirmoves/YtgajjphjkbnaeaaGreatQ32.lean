/- ExVg, SgI, DrA: in one text. -/
import Derived.Test.YtgajjphjkbnaeaaGreatQ31
import Derived.Test.YtgajjphjkbnaeaaGreatQ17
namespace Go.Proofs.YtgajjphjkbnaeaaGreat
open Go.RowKit
set_option linter.unusedVariables false
set_option maxHeartbeats 32000000
set_option maxRecDepth 100000
set_option linter.unusedSimpArgs false
def aft (v : It × Bool × Int) (c : Cg) : It × Bool × Int:=if refA c then refW it0 false c else if v.2.2 ≠ 0 then (it0,false,v.2.2) else refW v.1 v.2.1 c
theorem ch_aft (l : List (ByteArray × ByteArray)) {c : Cg} (h : ckOk c = true) : chL l c = aft (stI l c.pl,stB l c.pl,stE l c.pl) c:=by
 rw [ch_ref l c h]; unfold refT aft; rw [if_pos rfl]
theorem aft_over {v : It × Bool × Int} {c : Cg} (h : refA c = true) : aft v c = refW it0 false c:=by unfold aft; rw [if_pos h]
theorem aft_err {v : It × Bool × Int} {c : Cg} (h : refA c = false) (he : v.2.2 ≠ 0) : aft v c = (it0,false,v.2.2):=by unfold aft; rw [h,if_neg (by simp),if_pos he]
theorem aft_on {v : It × Bool × Int} {c : Cg} (h : refA c = false) (he : v.2.2 = 0) : aft v c = refW v.1 v.2.1 c:=by unfold aft; rw [h,if_neg (by simp),if_neg (by simpa using he)]
theorem orF_bit {f g : Int} (hf : 1 ≤ f ∧ f ≤ 7) (hg : 1 ≤ g ∧ g ≤ 7) : (1 ≤ orF f g ∧ orF f g ≤ 7) ∧ bF (orF f g) 1 = (bF f 1 || bF g 1) ∧ bF (orF f g) 2 = (bF f 2 || bF g 2) ∧ bF (orF f g) 4 = (bF f 4 || bF g 4):=by
 obtain ⟨f0,f1⟩:=hf
 obtain ⟨g0,g1⟩:=hg
 have hf : f = 1 ∨ f = 2 ∨ f = 3 ∨ f = 4 ∨ f = 5 ∨ f = 6 ∨ f = 7:=by omega
 have hg : g = 1 ∨ g = 2 ∨ g = 3 ∨ g = 4 ∨ g = 5 ∨ g = 6 ∨ g = 7:=by omega
 rcases hf with rfl | rfl | rfl | rfl | rfl | rfl | rfl <;> rcases hg with rfl | rfl | rfl | rfl | rfl | rfl | rfl <;> decide
theorem fields_bd {c : Cg} (h : fieldsOk c = true) : (1 ≤ c.fields ∧ c.fields ≤ 7) ∧ c = fieldsC c.pl c.fields 0 (wM c 0) (wL c 0) (wS c 0):=by
 unfold fieldsOk at h
 split at h
 ·cases h
 ·split at h
  ·cases h
  ·exact ⟨by omega,cgEq_iff.1 (Bool.and_eq_true_iff.1 h).1⟩
theorem rec_fields {c : Cg} (h : recOk c = true) (hf : c.fresh = false) : fieldsOk c = true:=by
 unfold recOk at h; rw [hf] at h; exact h
theorem lay_fresh {x : List Int} {p : Pt} (h : p.fresh = true) : layB x p = layB zeroC p:=by
 apply ch_ext (layB_len _ _) (layB_len _ _)
 intro i hi
 rw [layB_get _ _ hi,layB_get _ _ hi]
 unfold layAt
 rw [h]
 rfl
theorem lay_frP (p : Pt) : layB zeroC { p with fresh:=true } = layB zeroC p:=by
 apply ch_ext (layB_len _ _) (layB_len _ _)
 intro i hi
 rw [layB_get _ _ hi,layB_get _ _ hi]
 unfold layAt
 dsimp only
 split
 ·rfl
 ·rw [if_pos rfl,zeroC_get]; split <;> rfl
theorem aft_join (v : It × Bool × Int) (hv : v.2.2 = 0 ∨ v.1 = it0) {a b : Cg} (h : (joinX a b).2 = 0) : aft v (joinX a b).1 = aft (aft v a) b:=by
 have hpl:=joinX_pl h
 unfold joinX at h ⊢
 cases ha : ckOk a
 ·rw [ha] at h; cases h
 cases hb : ckOk b
 ·rw [ha,hb] at h; cases h
 cases hp : plEq a.pl b.pl
 ·rw [ha,hb,hp] at h; cases h
 rw [ha,hb,hp] at h
 simp only [if_true] at h ⊢
 have epl:=plEq_iff.1 hp
 obtain ⟨pa,ca⟩:=ck_cases ha
 obtain ⟨pb,cb⟩:=ck_cases hb
 have over : ∀ (c : Cg),refA c = true → ∀ v',aft v c = aft v' c:=fun c hc v' => by unfold aft; rw [if_pos hc,if_pos hc]
 cases hg : b.gone
 case true =>
  simp only [if_true]
  exact over b (by unfold refA; rw [hg]; rfl) _
 rw [hg] at h cb
 simp only [Bool.false_eq_true,if_false] at h cb ⊢
 by_cases h1 : b.pl.part = 1
 ·rw [if_pos h1] at h cb ⊢
  unfold jRX at h ⊢
  cases hf : b.fresh
  case true =>
   simp only [if_true]
   exact over b (by unfold refA; rw [hg,hf]; rfl) _
  rw [hf] at h
  simp only [Bool.false_eq_true,if_false] at h ⊢
  cases hga : a.gone
  case true => rw [hga] at h; cases h
  rw [hga] at h ca
  simp only [Bool.false_eq_true,if_false] at h ca ⊢
  cases hr : recOk (recJ a b)
  case false => rw [hr] at h; cases h
  simp only [if_true]
  have h1a : a.pl.part = 1:=by rw [epl]; exact h1
  rw [if_pos h1a] at ca
  have n2 : ¬ b.pl.part = 2:=by omega
  have n3 : ¬ b.pl.part = 3:=by omega
  have n2a : ¬ a.pl.part = 2:=by omega
  have n3a : ¬ a.pl.part = 3:=by omega
  have b2 : (b.pl.part == 2) = false:=by simp [n2]
  have b2a : (a.pl.part == 2) = false:=by simp [n2a]
  have fb:=rec_fields cb hf
  obtain ⟨bdb,eb⟩:=fields_bd fb
  have ptb : b.pt.fresh = false:=by rw [eb]; rfl
  have rb : refA b = false:=by unfold refA; rw [hg,hf,b2,ptb]; rfl
  cases hfa : a.fresh
  ·have fa:=rec_fields ca hfa
   obtain ⟨bda,ea⟩:=fields_bd fa
   have pta : a.pt.fresh = false:=by rw [ea]; rfl
   have ra : refA a = false:=by unfold refA; rw [hga,hfa,b2a,pta]; rfl
   have ej : recJ a b = { recI a b with fields:=orF a.fields b.fields }:=by unfold recJ; rw [hfa]; rfl
   have rj : refA (recJ a b) = false:=by rw [ej]; unfold refA recI; dsimp only; rw [hga,hfa,b2a,pta]; rfl
   obtain ⟨_,o1,o2,o4⟩:=orF_bit bda bdb
   by_cases he : v.2.2 = 0
   ·rw [aft_on rj he,aft_on ra he]
    have k1 : (recJ a b).gone = false:=by rw [ej]; exact hga
    have k2 : (recJ a b).pl = a.pl:=by rw [ej]; rfl
    have k3 : (recJ a b).fresh = false:=by rw [ej]; exact hfa
    have wJ : ∀ x is,refW x is (recJ a b) = if is then (⟨x.kind,wM (recJ a b) x.mode,wL (recJ a b) x.links,wS (recJ a b) x.size,x.lead,x.bytes⟩,true,0) else (it0,false,3):=fun x is => by
     unfold refW; rw [k1,k2,k3,if_neg (by simp),if_neg n2a,if_neg n3a,if_neg (by simp)]
    have wA : ∀ x is,refW x is a = if is then (⟨x.kind,wM a x.mode,wL a x.links,wS a x.size,x.lead,x.bytes⟩,true,0) else (it0,false,3):=fun x is => by
     unfold refW; rw [hga,hfa,if_neg (by simp),if_neg n2a,if_neg n3a,if_neg (by simp)]
    have wB : ∀ x is,refW x is b = if is then (⟨x.kind,wM b x.mode,wL b x.links,wS b x.size,x.lead,x.bytes⟩,true,0) else (it0,false,3):=fun x is => by
     unfold refW; rw [hg,hf,if_neg (by simp),if_neg n2,if_neg n3,if_neg (by simp)]
    rw [wJ,wA]
    obtain ⟨x,is,er⟩:=v
    dsimp only at he ⊢
    cases is
    ·rw [if_neg (by simp),if_neg (by simp),aft_err rb (by dsimp only; decide)]
    ·rw [if_pos rfl,if_pos rfl,aft_on rb rfl]
     dsimp only
     rw [wB,if_pos rfl]
     dsimp only
     have m1 : wM (recJ a b) x.mode = wM b (wM a x.mode):=by rw [ej]; unfold wM recI; dsimp only; rw [o1]; unfold wM; cases bF a.fields 1 <;> cases bF b.fields 1 <;> rfl
     have m2 : wL (recJ a b) x.links = wL b (wL a x.links):=by rw [ej]; unfold wL recI; dsimp only; rw [o2]; unfold wL; cases bF a.fields 2 <;> cases bF b.fields 2 <;> rfl
     have m4 : wS (recJ a b) x.size = wS b (wS a x.size):=by rw [ej]; unfold wS recI; dsimp only; rw [o4]; unfold wS; cases bF a.fields 4 <;> cases bF b.fields 4 <;> rfl
     rw [m1,m2,m4]
   ·rw [aft_err rj he,aft_err ra he,aft_err rb (by exact he)]
  ·have ej : recJ a b = recI a b:=by unfold recJ; rw [hfa]; rfl
   have ra : refA a = true:=by unfold refA; rw [hga,hfa]; rfl
   have rj : refA (recI a b) = true:=by unfold refA recI; dsimp only; rw [hga,hfa]; rfl
   rw [ej,aft_over rj,aft_over ra]
   have k1 : (recI a b).gone = false:=hga
   have k2 : (recI a b).pl = a.pl:=rfl
   have k3 : (recI a b).fresh = true:=hfa
   have wJ : refW it0 false (recI a b) = (freshI (recI a b),true,0):=by unfold refW; rw [k1,k2,k3,if_neg (by simp),if_neg n2a,if_neg n3a,if_pos rfl]
   have wA : refW it0 false a = (freshI a,true,0):=by unfold refW; rw [hga,hfa,if_neg (by simp),if_neg n2a,if_neg n3a,if_pos rfl]
   rw [wJ,wA,aft_on rb rfl]
   unfold refW
   rw [hg,hf,if_neg (by simp),if_neg n2,if_neg n3,if_neg (by simp),if_pos rfl]
   rfl
 ·rw [if_neg h1] at h cb ⊢
  by_cases h2 : b.pl.part = 2
  ·rw [if_pos h2]
   exact over b (by unfold refA; rw [h2]; simp) _
  ·rw [if_neg h2] at cb ⊢
   have h3 : b.pl.part = 3:=by rcases plOk_part pb with e | e | e <;> omega
   have n1a : ¬ a.pl.part = 1:=by rw [epl]; exact h1
   have n2a : ¬ a.pl.part = 2:=by rw [epl]; exact h2
   have h3a : a.pl.part = 3:=by rw [epl]; exact h3
   have b2 : (b.pl.part == 2) = false:=by simp [h2]
   have b2a : (a.pl.part == 2) = false:=by simp [n2a]
   obtain ⟨t1,t2⟩:=dat_trim cb
   have hfb : b.fresh = false:=by rw [t2]; rfl
   have rb : refA b = b.pt.fresh:=by unfold refA; rw [hg,hfb,b2]; simp
   have wB : ∀ x is,refW x is b = (laidI x b,true,0):=fun x is => by unfold refW; rw [hg]; simp only [Bool.false_eq_true,if_false]; rw [if_neg h2,if_pos h3]
   unfold jDX
   cases hga : a.gone
   case true =>
    simp only [if_true]
    have ra : refA a = true:=by unfold refA; rw [hga]; rfl
    have rj : refA (frP b) = true:=by unfold refA frP; simp
    have wJ : ∀ x is,refW x is (frP b) = (laidI x (frP b),true,0):=fun x is => by
     unfold refW
     rw [show (frP b).gone = false from hg,show (frP b).pl = b.pl from rfl]; simp only [Bool.false_eq_true,if_false]; rw [if_neg h2,if_pos h3]
    have wA : refW it0 false a = (it0,false,0):=by unfold refW; rw [hga]; rfl
    have e : laidI it0 (frP b) = laidI it0 b:=by unfold laidI frP; dsimp only; rw [show it0.bytes = zeroC from rfl,lay_frP]
    rw [aft_over rj,aft_over ra,wJ,wA]
    cases hbf : b.pt.fresh
    ·rw [aft_on (by rw [rb]; exact hbf) rfl,wB,e]
    ·rw [aft_over (by rw [rb]; exact hbf),wB,e]
   rw [hga] at ca
   simp only [Bool.false_eq_true,if_false] at ca ⊢
   rw [if_neg n1a,if_neg n2a] at ca
   obtain ⟨s1,s2⟩:=dat_trim ca
   have hfa : a.fresh = false:=by rw [s2]; rfl
   have ra : refA a = a.pt.fresh:=by unfold refA; rw [hga,hfa,b2a]; simp
   have wA : ∀ x is,refW x is a = (laidI x a,true,0):=fun x is => by unfold refW; rw [hga]; simp only [Bool.false_eq_true,if_false]; rw [if_neg n2a,if_pos h3a]
   have wJ : ∀ x is,refW x is (joC a b) = (laidI x (joC a b),true,0):=fun x is => by
    unfold refW
    rw [show (joC a b).gone = false from hg,show (joC a b).pl = b.pl from rfl]; simp only [Bool.false_eq_true,if_false]; rw [if_neg h2,if_pos h3]
   have rj : refA (joC a b) = (b.pt.fresh || a.pt.fresh):=by
    unfold refA
    rw [show (joC a b).gone = false from hg,show (joC a b).fresh = false from hfb,show (joC a b).pl = b.pl from rfl,b2,show (joC a b).pt = joinP a.pt b.pt from rfl]
    unfold joinP
    cases hbf : b.pt.fresh
    ·simp
    ·simp [trimP,hbf]
   have lJ : ∀ x,laidI x (joC a b) = laidI (laidI x a) b:=fun x => by
    unfold laidI
    dsimp only
    rw [show (joC a b).pt = joinP a.pt b.pt from rfl,lay_join]
   cases hbf : b.pt.fresh
   case true =>
    have e : laidI it0 (joC a b) = laidI it0 b:=by rw [lJ]; unfold laidI; dsimp only; rw [lay_fresh hbf,lay_fresh (x:=it0.bytes) hbf]
    rw [aft_over (by rw [rj,hbf]; rfl),aft_over (v:=aft v a) (by rw [rb]; exact hbf),wJ,wB,e]
   rw [hbf] at rj rb
   cases haf : a.pt.fresh
   case true =>
    rw [haf] at rj ra
    rw [aft_over rj,aft_over ra,wJ,wA,aft_on rb rfl,wB,lJ]
   rw [haf] at rj ra
   by_cases he : v.2.2 = 0
   ·rw [aft_on rj he,aft_on ra he,wJ,wA,aft_on rb rfl,wB,lJ]
   ·rw [aft_err rj he,aft_err ra he,aft_err rb (by exact he)]
theorem vg_put (l : List (ByteArray × ByteArray)) {d : Dl} (hd : DlOk d) (hc : CksOk d) {c : Cg} (hcg : CgOk c) (h0 : (putX d c).2 = 0) (q : Pl) : vgR l (putS d c) q = if plEq c.pl q = true then aft (vgR l d c.pl) c else vgR l d q:=by
 have hL : (putS d c).L = setL d.L (putX d c).1:=by unfold putS; rw [if_pos h0]
 have hpl:=putX_pl h0
 have hok:=putX_ok hd hcg
 have hg:=getL_set hd.L hok q
 rw [hpl] at hg
 have hst : (stE l c.pl = 0 ∨ stI l c.pl = it0):=by
  by_cases he : stE l c.pl = 0
  ·exact .inl he
  ·right
   unfold stI
   have : stB l c.pl = false:=by
    cases hB : stB l c.pl with
    | false => rfl
    | true =>
     exfalso
     unfold stB at hB
     simp only [Bool.and_eq_true,decide_eq_true_eq] at hB
     apply he
     unfold stE
     rw [hB.1.1,hB.1.2,if_pos rfl,if_pos rfl]
     exact hB.2
   rw [this]; rfl
 cases hq : plEq c.pl q
 ·rw [if_neg (by decide)]
  rw [hq,if_neg (by decide)] at hg
  unfold vgR isX wasX
  rw [hL,hg]
 ·rw [if_pos rfl]
  rw [hq,if_pos rfl] at hg
  have eq:=plEq_iff.1 hq
  subst eq
  have hi' : isX (putS d c) c.pl = true:=by unfold isX; rw [hL,hg]; rfl
  have hw' : wasX (putS d c) c.pl = (putX d c).1:=by unfold wasX; rw [hL,hg]; rfl
  have hck : ckOk (putX d c).1 = true:=by
   have:=hc.put c
   refine this _ ?_
   rw [hL]
   exact setL_mem.2 (.inl rfl)
  have hv : vgR l (putS d c) c.pl = aft (stI l c.pl,stB l c.pl,stE l c.pl) (putX d c).1:=by
   unfold vgR
   rw [hi',hw',if_pos rfl,ch_aft l hck,hpl]
  rw [hv]
  unfold putX behX at h0 ⊢
  cases hco : ckOk c
  ·rw [hco] at h0; cases h0
  rw [hco] at h0
  simp only [if_true] at h0 ⊢
  cases hi : isX d c.pl
  ·rw [hi] at h0
   simp only [Bool.false_eq_true,if_false] at h0 ⊢
   split at h0
   ·cases h0
   ·rename_i hm
    rw [if_neg hm]
    have : vgR l d c.pl = (stI l c.pl,stB l c.pl,stE l c.pl):=by unfold vgR; rw [hi]; rfl
    rw [this]
  ·rw [hi] at h0
   simp only [if_true] at h0 ⊢
   have hwp:=was_pl hd hi
   have : vgR l d c.pl = aft (stI l c.pl,stB l c.pl,stE l c.pl) (wasX d c.pl):=by
    unfold vgR
    rw [hi,if_pos rfl,ch_aft l (is_ck hc hi),hwp]
   rw [this]
   exact aft_join _ hst h0
open Go.RowKit Go.Maps
theorem SgIn.other6 {B : Nat} {w : World} {a : Sa} {X : List Nat} {s : Sg} (h : SgIn B w a X s) {k : Nat} {cs : Array Value} {T : TypeId} {fr : Nat × Nat} (hk : w.heap[k]? = some (.cells cs T fr)) (h1 : T ≠ 101) (h2 : T ≠ 116) (h3 : T ≠ 105) (h4 : T ≠ 120) (h5 : T ≠ 30) : k ∉ X:=by
 obtain ⟨vd,vr,vu,h,rfl⟩:=h
 exact h.other hk h1 h2 h3 h4 h5
theorem SgIn.addR {B : Nat} {w : World} {a : Sa} {X : List Nat} {s : Sg} (h : SgIn B w a X s) (t : Tc) (ht : TcOk t) (hL : s.R.length ≤ 20000) :
  Calls Tryz.prog 59 #[.pointer (some ⟨a.r,0,none⟩),.agg (tcC t)] w fun e w' => e = .returned (.int .i64 (tckE t)) ∧ SgOut B w a X { s with R:=addL s.R t } w':=by
 obtain ⟨vd,vr,vu,h,rfl⟩:=h
 refine (add_any h.r t ht hL).mono ?_
 rintro e w' ⟨rfl,v',h2,h3⟩
 exact ⟨rfl,h.read h2 h3⟩
theorem SgIn.addU {B : Nat} {w : World} {a : Sa} {X : List Nat} {s : Sg} (h : SgIn B w a X s) (t : Tc) (ht : TcOk t) (hL : s.U.length ≤ 20000) :
  Calls Tryz.prog 59 #[.pointer (some ⟨a.u,0,none⟩),.agg (tcC t)] w fun e w' => e = .returned (.int .i64 (tckE t)) ∧ SgOut B w a X { s with U:=addL s.U t } w':=by
 obtain ⟨vd,vr,vu,h,rfl⟩:=h
 refine (add_any h.u t ht hL).mono ?_
 rintro e w' ⟨rfl,v',h2,h3⟩
 exact ⟨rfl,h.wrote h2 h3⟩
theorem SgOut.finP {B : Nat} {w w5 w6 : World} {a : Sa} {X : List Nat} {s' : Sg} (hB : B ≤ w.heap.size) (ho : SgOut B w a X s' w5) {g : Nat} (hg : w.heap.size ≤ g) {T : TypeId} {cs : Array Value} (hr : w5.heap[g]? = some (.cells cs T (0,0))) (t1 : T ≠ 101) (t2 : T ≠ 116) (t3 : T ≠ 105) (t4 : T ≠ 120) (t5 : T ≠ 30) (t6 : T ≠ 84) (t7 : T ≠ 62) (t8 : T ≠ 150) (hs : Sole [g] w5 w6) : SgOut B w a X s' w6:=by
 obtain ⟨X',h1,h2,h3⟩:=ho
 refine ⟨X',h1.keep hs.size (fun k hk hc => hs.block k hk (fun e => ?_)),h2.after hs (fun k hk => .inr (by rw [List.mem_singleton] at hk; omega)),h3⟩
 rw [List.mem_singleton] at e
 subst e
 obtain ⟨vd,vr,vu,h,rfl⟩:=h1
 have tt : ∀ {cs' : Array Value} {T' : TypeId} {fr' : Nat × Nat},w5.heap[k]? = some (.cells cs' T' fr') → T = T':=fun e => by rw [e] at hr; simp only [Option.some.injEq,Obj.cells.injEq] at hr; exact hr.2.1.symm
 rcases hc with hc | hc | hc | hc | hc
 ·omega
 ·exact h.other hr t1 t2 t3 t4 t5 hc
 ·subst hc; exact absurd (tt h.sr) t7
 ·subst hc; exact absurd (tt h.vw.row) t8
 ·subst hc
  obtain ⟨ad,n,cap,hS,_⟩:=h.so
  exact absurd (tt hS.row) t6
structure Sgt where
 S : Type
 In : Nat → World → Sa → List Nat → S → Prop
 fd : S → Int → In4 × Int
 fdS : S → Int → S
 sz : S → Int → S × Int × Int
 set : S → Int → List (Int × Int) → S × Int
 get : S → Pl → It × Bool × Int
 getS : S → Pl → S
 putE : S → Cg → Int
 putS : S → Cg → S
 rd : S → Tc → S
 wr : S → Tc → S
 Sk : S → Nat → Prop
def Sgt.Out (G : Sgt) (B : Nat) (w : World) (a : Sa) (X : List Nat) (s : G.S) (w' : World) : Prop:=∃ X',G.In B w' a X' s ∧ Sole X w w' ∧ ∀ k ∈ X',k ∈ X ∨ w.heap.size ≤ k
structure Sgt.Ok (G : Sgt) : Prop where
 below : ∀ {B w w' a X} {s : G.S},G.In B w a X s → Below w.heap.size w w' → G.In B w' a X s
 lt : ∀ {B w a X} {s : G.S},G.In B w a X s → ∀ k ∈ X,k < w.heap.size
 other : ∀ {B w a X} {s : G.S},G.In B w a X s → ∀ {k : Nat} {cs : Array Value} {T : TypeId} {fr : Nat × Nat},w.heap[k]? = some (.cells cs T fr) → T ≠ 101 → T ≠ 116 → T ≠ 105 → T ≠ 120 → T ≠ 30 → T ≠ 84 → k ∉ X
 srow : ∀ {B w a X} {s : G.S},G.In B w a X s → SRow w a
 le : ∀ {B w a X} {s : G.S},G.In B w a X s → B ≤ w.heap.size
 fin : ∀ {B w w5 w6 a X} {s : G.S},B ≤ w.heap.size → G.Out B w a X s w5 → ∀ {k : Nat} {T : TypeId} {cs : Array Value},w.heap.size ≤ k → w5.heap[k]? = some (.cells cs T (0,0)) → T ≠ 101 → T ≠ 116 → T ≠ 105 → T ≠ 120 → T ≠ 30 → T ≠ 84 → T ≠ 62 → T ≠ 150 → Sole [k] w5 w6 → G.Out B w a X s w6
 skm : ∀ {s : G.S} {n m : Nat},G.Sk s n → n ≤ m → G.Sk s m
 skF : ∀ {s : G.S} {n : Nat},G.Sk s n → ∀ ino,G.Sk (G.fdS s ino) n
 skZ : ∀ {s : G.S} {n : Nat},G.Sk s n → ∀ ino,G.Sk (G.sz s ino).1 (n + 1)
 skS : ∀ {s : G.S} {n : Nat},G.Sk s n → ∀ ino fs,G.Sk (G.set s ino fs).1 (n + 4)
 skG : ∀ {s : G.S} {n : Nat},G.Sk s n → ∀ p,G.Sk (G.getS s p) n
 skP : ∀ {s : G.S} {n : Nat},G.Sk s n → ∀ c,G.Sk (G.putS s c) (n + 1)
 skR : ∀ {s : G.S} {n : Nat},G.Sk s n → ∀ t,G.Sk (G.rd s t) (n + 1)
 skW : ∀ {s : G.S} {n : Nat},G.Sk s n → ∀ t,G.Sk (G.wr s t) (n + 1)
 szb : ∀ {B w a X} {s : G.S} {n : Nat},G.In B w a X s → G.Sk s n → ∀ ino,0 ≤ (G.sz s ino).2.1 ∧ (G.sz s ino).2.1 ≤ 512
 getO : ∀ {B w a X} {s : G.S},G.In B w a X s → ∀ p,Ch (G.get s p).1.bytes
 kind : ∀ {B w a X} {s : G.S},G.In B w a X s → ∀ ino,0 ≤ ino → ino ≤ 4294967295 → Calls Tryz.prog 25 #[.pointer (some ⟨a.s,0,none⟩),.int .u32 ino] w fun e w' => e = .returned (.tuple #[.int .i64 (G.fd s ino).1.k,.int .i64 (G.fd s ino).2]) ∧ G.Out B w a X (G.fdS s ino) w'
 sets : ∀ {B w a X} {s : G.S} {n : Nat},G.In B w a X s → ∀ ino,0 ≤ ino → ino ≤ 4294967295 → ∀ (g fn fc : Nat) (fs : List (Int × Int)),RdZ 2 fiE w (.slice (some ⟨g,0,none⟩) fn fc) fs → g ∉ X → fn ≤ 1000 → fiOk fs → G.Sk s n → n ≤ 4000 →
  Calls Tryz.prog 64 #[.pointer (some ⟨a.s,0,none⟩),.int .u32 ino,.slice (some ⟨g,0,none⟩) fn fc] w fun e w' => e = .returned (.int .i64 (G.set s ino fs).2) ∧ G.Out B w a X (G.set s ino fs).1 w'
 gets : ∀ {B w a X} {s : G.S},G.In B w a X s → ∀ p,PlOk p → Calls Tryz.prog 57 #[.pointer (some ⟨a.v,0,none⟩),plV p] w fun e w' => e = .returned (.tuple #[.agg (itC (G.get s p).1),.bool (G.get s p).2.1,.int .i64 (G.get s p).2.2]) ∧ G.Out B w a X (G.getS s p) w'
 puts : ∀ {B w a X} {s : G.S} {n : Nat},G.In B w a X s → ∀ c,CgOk c → G.Sk s n → n ≤ 4000 → Calls Tryz.prog 69 #[.pointer (some ⟨a.v,0,none⟩),.agg (cgC c)] w fun e w' => e = .returned (.int .i64 (G.putE s c)) ∧ G.Out B w a X (G.putS s c) w'
 rds : ∀ {B w a X} {s : G.S} {n : Nat},G.In B w a X s → ∀ t,TcOk t → G.Sk s n → n ≤ 4000 → Calls Tryz.prog 59 #[.pointer (some ⟨a.r,0,none⟩),.agg (tcC t)] w fun e w' => e = .returned (.int .i64 (tckE t)) ∧ G.Out B w a X (G.rd s t) w'
 wrs : ∀ {B w a X} {s : G.S} {n : Nat},G.In B w a X s → ∀ t,TcOk t → G.Sk s n → n ≤ 4000 → Calls Tryz.prog 59 #[.pointer (some ⟨a.u,0,none⟩),.agg (tcC t)] w fun e w' => e = .returned (.int .i64 (tckE t)) ∧ G.Out B w a X (G.wr s t) w'
theorem SRow.row {w : World} {a : Sa} (h : SRow w a) : w.heap[a.s]? = some (.cells #[.pointer (some ⟨a.v,0,none⟩),.pointer (some ⟨a.r,0,none⟩),.pointer (some ⟨a.u,0,none⟩),alV a.x] 62 (0,0)):=h
theorem Sgt.Ok.drew {G : Sgt} (g : G.Ok) {B w a X} {s : G.S} (h : G.In B w a X s) : G.In B w.drew a X s:=g.below h (Below.refl _ _).drew
theorem Sgt.Ok.out {G : Sgt} (g : G.Ok) {B w w' a X} {s : G.S} (h : G.In B w a X s) (hb : Below w.heap.size w w') : G.Out B w a X s w':=⟨X,g.below h hb,Sole.of_below hb X,fun k hk => .inl hk⟩
theorem Sgt.Out.pre {G : Sgt} {B w w1 w2 a X} {s : G.S} (hb : Below w.heap.size w w1) (h : G.Out B w1 a X s w2) : G.Out B w a X s w2:=by
 obtain ⟨X',h1,h2,h3⟩:=h
 exact ⟨X',h1,(Sole.of_below hb X).trans h2,fun k hk => (h3 k hk).imp id (Nat.le_trans hb.size)⟩
theorem Sgt.Ok.post {G : Sgt} (g : G.Ok) {B w w1 w2 a X} {s : G.S} (h : G.Out B w a X s w1) (hb : Below w1.heap.size w1 w2) : G.Out B w a X s w2:=by
 obtain ⟨X',h1,h2,h3⟩:=h
 exact ⟨X',g.below h1 hb,h2.trans (Sole.of_below hb X),h3⟩
theorem Sgt.Out.then {G : Sgt} {B w w1 w2 a} {X X1 : List Nat} {s : G.S} (hs : Sole X w w1) (hx : ∀ k ∈ X1,k ∈ X ∨ w.heap.size ≤ k) (h : G.Out B w1 a X1 s w2) : G.Out B w a X s w2:=by
 obtain ⟨X',h1,h2,h3⟩:=h
 exact ⟨X',h1,hs.after h2 hx,fun k hk => by
  rcases h3 k hk with e | e
  ·exact hx k e
  ·exact .inr (Nat.le_trans hs.size e)⟩
theorem Sgt.Out.sole {G : Sgt} {B w w1 a X} {s : G.S} (h : G.Out B w a X s w1) : Sole X w w1:=by
 obtain ⟨X1,h1,h2,h3⟩:=h
 exact h2
theorem vgR_ch (l : List (ByteArray × ByteArray)) {d : Dl} (hd : DlOk d) (p : Pl) : Ch (vgR l d p).1.bytes:=by
 unfold vgR
 split
 ·have hc : CgOk (wasX d p):=getL_ok hd.L p
  unfold chL chR
  repeat' split
  all_goals first | exact it0_ok.ch | exact ch_zero | exact layB_ch it0_ok.ch hc.pt | exact layB_ch (stI_ok _ _).ch hc.pt
 ·exact (stI_ok l p).ch
theorem Sk.addR {s : Sg} {n : Nat} (h : Sk s n) (t : Tc) : Sk { s with R:=addL s.R t } (n + 1):=by
 have:=addL_len s.R t
 have:=h.R
 exact ⟨h.ck,Nat.le_trans h.L (by omega),Nat.le_trans h.P (by omega),by dsimp only; omega,Nat.le_trans h.U (by omega)⟩
theorem Sk.addU {s : Sg} {n : Nat} (h : Sk s n) (t : Tc) : Sk { s with U:=addL s.U t } (n + 1):=by
 have:=addL_len s.U t
 have:=h.U
 exact ⟨h.ck,Nat.le_trans h.L (by omega),Nat.le_trans h.P (by omega),Nat.le_trans h.R (by omega),by dsimp only; omega⟩
theorem Sk.size {s : Sg} {n : Nat} (h : Sk s n) (ino : Int) : Sk (sizeR s ino).1 (n + 1):=by
 unfold sizeR
 split
 ·exact h.mono (by omega)
 ·exact h.read ino [3]
def SgP : Sgt:=⟨Sg,SgIn,fdR,fun s _ => s,sizeR,setR,fun s p => vgR s.l s.d p,fun s _ => s,fun s c => (putX s.d c).2,fun s c => { s with d:=putS s.d c },fun s t => { s with R:=addL s.R t },fun s t => { s with U:=addL s.U t },Sk⟩
theorem SgP_ok : SgP.Ok where
 below:=fun h hb => SgIn.below h hb
 lt:=fun h => SgIn.lt h
 other:=fun h _ _ _ _ hk h1 h2 h3 h4 h5 _ => SgIn.other6 h hk h1 h2 h3 h4 h5
 srow:=fun h => SgIn.srow h
 le:=fun h => h.lts.2.2.2
 fin:=fun hB ho _ _ _ hg hr t1 t2 t3 t4 t5 t6 t7 t8 hs => SgOut.finP hB ho hg hr t1 t2 t3 t4 t5 t6 t7 t8 hs
 skm:=fun h hm => Sk.mono h hm
 skF:=fun h _ => h
 skZ:=fun h ino => Sk.size h ino
 skS:=fun h ino fs => Sk.set h ino fs
 skG:=fun h _ => h
 skP:=fun h c => Sk.put h c
 skR:=fun h t => Sk.addR h t
 skW:=fun h t => Sk.addU h t
 szb:=fun {B w a X s n} h hk ino => by
  have hb:=fd_bd (sg_ok h) hk.ck ino
  show 0 ≤ (sizeR s ino).2.1 ∧ (sizeR s ino).2.1 ≤ 512
  unfold sizeR
  split
  ·exact ⟨Int.le_refl _,show (0 : Int) ≤ 512 by decide⟩
  ·exact ⟨hb.s0,hb.s1⟩
 getO:=fun {B w a X s} h p => vgR_ch s.l (sg_ok h) p
 kind:=fun {B w a X s} h ino h0 h1 => (kind_in h ino h0 h1).mono (by rintro e w' ⟨rfl,hb⟩; exact ⟨rfl,SgIn.out h hb⟩)
 sets:=fun {B w a X s n} h ino h0 h1 g fn fc fs hr hg hfn hf hk hn => set_in h ino h0 h1 _ fn fc fs hr hfn hf (Nat.le_trans hk.L (by omega)) (Nat.le_trans hk.P (by omega)) (Nat.le_trans hk.U (by omega))
 gets:=fun {B w a X s} h p hp => (SgIn.get h p hp).mono (by rintro e w' ⟨rfl,hb⟩; exact ⟨rfl,SgIn.out h hb⟩)
 puts:=fun {B w a X s n} h c hc hk hn => SgIn.put h c hc (Nat.le_trans hk.L (by omega)) (Nat.le_trans hk.P (by omega))
 rds:=fun {B w a X s n} h t ht hk hn => SgIn.addR h t ht (Nat.le_trans hk.R (by omega))
 wrs:=fun {B w a X s n} h t ht hk hn => SgIn.addU h t ht (Nat.le_trans hk.U (by omega))
open Go.RowKit Go.Maps
def tcN (ino : Int) (name : ByteArray) : Tc:=⟨5,ino,name,0,0⟩
def tcA (ino : Int) : Tc:=⟨6,ino,⟨#[]⟩,0,0⟩
def toC (ino : Int) (name : ByteArray) (to : Int) : Cg:=entC (entP ino name) to
theorem tcN_ok {ino : Int} (h0 : 0 ≤ ino) (h1 : ino ≤ 4294967295) {name : ByteArray} (hn : name.size ≤ 8) : TcOk (tcN ino name):=⟨by simp [tcN],by simp [tcN],h0,h1,by unfold maxLen; simp only [tcN]; omega,by simp [tcN],by simp [tcN],by simp [tcN],by simp [tcN]⟩
theorem tcA_ok {ino : Int} (h0 : 0 ≤ ino) (h1 : ino ≤ 4294967295) : TcOk (tcA ino):=⟨by simp [tcA],by simp [tcA],h0,h1,Nat.zero_le _,by simp [tcA],by simp [tcA],by simp [tcA],by simp [tcA]⟩
theorem entP_ok {ino : Int} (h0 : 0 ≤ ino) (h1 : ino ≤ 4294967295) {name : ByteArray} (hn : name.size ≤ 8) : PlOk (entP ino name):=⟨h0,h1,by simp [entP],by simp [entP],by unfold maxLen; simp only [entP]; omega,by simp [entP],by simp [entP]⟩
theorem toC_ok {ino : Int} (h0 : 0 ≤ ino) (h1 : ino ≤ 4294967295) {name : ByteArray} (hn : name.size ≤ 8) {to : Int} (t0 : 0 ≤ to) (t1 : to ≤ 4294967295) : CgOk (toC ino name to):=by
 refine ⟨entP_ok h0 h1 hn,?_,?_,?_,t0,t1,pt0_ok⟩
 ·simp [toC,entC]
 ·simp [toC,entC]
 ·exact ⟨by simp [toC,entC],by simp [toC,entC],by simp [toC,entC],by simp [toC,entC],by simp [toC,entC],by simp [toC,entC],by simp [toC,entC],by simp [toC,entC]⟩
theorem goneE_ok {ino : Int} (h0 : 0 ≤ ino) (h1 : ino ≤ 4294967295) {name : ByteArray} (hn : name.size ≤ 8) : CgOk (goneC (entP ino name)):=by
 refine ⟨entP_ok h0 h1 hn,?_,?_,?_,?_,?_,pt0_ok⟩
 ·simp [goneC]
 ·simp [goneC]
 ·exact ⟨by simp [goneC],by simp [goneC],by simp [goneC],by simp [goneC],by simp [goneC],by simp [goneC],by simp [goneC],by simp [goneC]⟩
 ·simp [goneC]
 ·simp [goneC]
structure Sgd where
 G : Sgt
 mak : G.S → Int → Int → G.S × Int × Int
 rm : G.S → Int → G.S × Int
 lk : G.S → Int → Int → G.S × Int × Int
 nms : G.S → Int → G.S × List ByteArray × Int
 J : G.S → G.S → Prop
structure Sgd.Ok (D : Sgd) : Prop where
 g : D.G.Ok
 jF : ∀ {s0 s : D.G.S},D.J s0 s → ∀ ino,D.J s0 (D.G.fdS s ino)
 jG : ∀ {s0 s : D.G.S},D.J s0 s → ∀ p,D.J s0 (D.G.getS s p)
 jR : ∀ {s0 s : D.G.S},D.J s0 s → ∀ t,D.J s0 (D.G.rd s t)
 jW : ∀ {s0 s : D.G.S},D.J s0 s → ∀ t,D.J s0 (D.G.wr s t)
 jP : ∀ {B w a X} {s0 s : D.G.S},D.G.In B w a X s → D.J s0 s → ∀ c,CgOk c → D.J s0 (D.G.putS s c)
 jM : ∀ {B w a X} {s0 s : D.G.S},D.G.In B w a X s → D.J s0 s → ∀ k m,D.J s0 (D.mak s k m).1
 jD : ∀ {B w a X} {s0 s : D.G.S},D.G.In B w a X s → D.J s0 s → ∀ ino,0 ≤ ino → ino ≤ 4294967295 → D.J s0 (D.rm s ino).1
 jL : ∀ {B w a X} {s0 s : D.G.S},D.G.In B w a X s → D.J s0 s → ∀ ino,0 ≤ ino → ino ≤ 4294967295 → ∀ y,D.J s0 (D.lk s ino y).1
 jN : ∀ {s0 s : D.G.S},D.J s0 s → ∀ ino,D.J s0 (D.nms s ino).1
 bM : ∀ {s : D.G.S} {n : Nat},D.G.Sk s n → ∀ k m,D.G.Sk (D.mak s k m).1 (n + 1)
 bD : ∀ {B w a X} {s : D.G.S} {n : Nat},D.G.In B w a X s → D.G.Sk s n → ∀ ino,D.G.Sk (D.rm s ino).1 (n + 20)
 bL : ∀ {B w a X} {s : D.G.S} {n : Nat},D.G.In B w a X s → D.G.Sk s n → ∀ ino y,D.G.Sk (D.lk s ino y).1 (n + 30)
 bN : ∀ {s : D.G.S} {n : Nat},D.G.Sk s n → ∀ ino,D.G.Sk (D.nms s ino).1 (n + 1)
 getT : ∀ {B w a X} {s : D.G.S},D.G.In B w a X s → ∀ p,0 ≤ (D.G.get s p).1.lead ∧ (D.G.get s p).1.lead ≤ 4294967295
 makT : ∀ {B w a X} {s : D.G.S},D.G.In B w a X s → ∀ k m,0 ≤ (D.mak s k m).2.1 ∧ (D.mak s k m).2.1 ≤ 4294967295
 maks : ∀ {B w a X} {s : D.G.S} {n : Nat},D.G.In B w a X s → ∀ kind mode,D.G.Sk s n → n ≤ 3900 → Calls Tryz.prog 44 #[.pointer (some ⟨a.s,0,none⟩),.int .i64 kind,.int .i64 mode] w fun e w' => e = .returned (.tuple #[.int .u32 (D.mak s kind mode).2.1,.int .i64 (D.mak s kind mode).2.2]) ∧ D.G.Out B w a X (D.mak s kind mode).1 w'
 rms : ∀ {B w a X} {s : D.G.S} {n : Nat},D.G.In B w a X s → ∀ ino,0 ≤ ino → ino ≤ 4294967295 → D.G.Sk s n → n ≤ 3900 → Calls Tryz.prog 46 #[.pointer (some ⟨a.s,0,none⟩),.int .u32 ino] w fun e w' => e = .returned (.int .i64 (D.rm s ino).2) ∧ D.G.Out B w a X (D.rm s ino).1 w'
 lks : ∀ {B w a X} {s : D.G.S} {n : Nat},D.G.In B w a X s → ∀ ino,0 ≤ ino → ino ≤ 4294967295 → ∀ y,-9223372036854775808 ≤ y → y ≤ 9223372036854775807 → D.G.Sk s n → n ≤ 3900 → Calls Tryz.prog 37 #[.pointer (some ⟨a.s,0,none⟩),.int .u32 ino,.int .i64 y] w fun e w' => e = .returned (.tuple #[.int .i64 (D.lk s ino y).2.1,.int .i64 (D.lk s ino y).2.2]) ∧ D.G.Out B w a X (D.lk s ino y).1 w'
 nmsC : ∀ {B w a X} {s0 s : D.G.S} {n : Nat},D.G.In B w a X s → ∀ ino,0 < ino → ino ≤ 4294967295 → D.G.Sk s n → n ≤ 3900 → D.J s0 s → Calls Tryz.prog 45 #[.pointer (some ⟨a.s,0,none⟩),.int .u32 ino] w fun e w' => ∃ v,e = .returned (.tuple #[v,.int .i64 (D.nms s ino).2.2]) ∧ D.G.Out B w a X (D.nms s ino).1 w' ∧ w'.ownsRow w.heap.size 9 1 v (D.nms s ino).2.1.length ((D.nms s ino).2.1.flatMap strE)
structure Sgd.Kp (D : Sgd) (s0 s : D.G.S) (n : Nat) : Prop where
 k : D.G.Sk s n
 j : D.J s0 s
theorem Sgd.Ok.kmono {D : Sgd} (o : D.Ok) {s0 s : D.G.S} {n m : Nat} (h : D.Kp s0 s n) (hm : n ≤ m) : D.Kp s0 s m:=⟨o.g.skm h.k hm,h.j⟩
variable (D : Sgd)
def drKind (s : D.G.S) (ino k as_ : Int) : D.G.S × Int:=(D.G.fdS s ino,if (D.G.fd s ino).2 ≠ 0 then (D.G.fd s ino).2 else if (D.G.fd s ino).1.k = k then as_ else 0)
def drLook2 (s : D.G.S) (ino : Int) (name : ByteArray) : D.G.S × Int × Int:=(D.G.getS s (entP ino name),(D.G.get s (entP ino name)).1.lead,(D.G.get s (entP ino name)).2.2)
def drLook1 (g : D.G.S × Int) (ino : Int) (name : ByteArray) : D.G.S × Int × Int:=if g.2 ≠ 0 then (g.1,0,g.2) else drLook2 D (D.G.rd g.1 (tcN ino name)) ino name
def drLook (s : D.G.S) (ino : Int) (name : ByteArray) : D.G.S × Int × Int:=drLook1 D (drKind D s ino 1 192) ino name
def drStep (r : D.G.S × Int × Int) : D.G.S × Int × Int:=if r.2.2 = 0 ∧ r.2.1 = 0 then (r.1,0,190) else r
def drNext (d : D.G.S → Int → D.G.S × Int × Int) (r : D.G.S × Int × Int) : D.G.S × Int × Int:=if r.2.2 ≠ 0 then (r.1,0,r.2.2) else d r.1 r.2.1
def drDown : List ByteArray → D.G.S → Int → D.G.S × Int × Int
 | [],s,at_ => (s,at_,0)
 | n :: ns,s,at_ => drNext D (drDown ns) (drStep D (drLook D s at_ n))
def drFind (s : D.G.S) (p : ByteArray) : D.G.S × Int × Int:=if pathE p ≠ 0 then (s,0,pathE p) else drDown D (pathL p) s 1
structure Spt where
 ino : Int
 name : ByteArray
 to : Int
def spt0 : Spt:=⟨0,⟨#[]⟩,0⟩
def drSpot2 (ino : Int) (name : ByteArray) (r : D.G.S × Int × Int) : D.G.S × Spt × Int:=if r.2.2 ≠ 0 then (r.1,spt0,r.2.2) else (r.1,⟨ino,name,r.2.1⟩,0)
def drSpot1 (name : ByteArray) (d : D.G.S × Int × Int) : D.G.S × Spt × Int:=if d.2.2 ≠ 0 then (d.1,spt0,d.2.2) else drSpot2 D d.2.1 name (drLook D d.1 d.2.1 name)
def drSpot (s : D.G.S) (p : ByteArray) : D.G.S × Spt × Int:=if parE p ≠ 0 then (s,spt0,parE p) else drSpot1 D (parN p) (drDown D (parL p) s 1)
def drFree1 (r : D.G.S × Spt × Int) : D.G.S × Spt × Int:=if r.2.2 = 0 ∧ r.2.1.to ≠ 0 then (r.1,spt0,191) else r
def drFree (s : D.G.S) (p : ByteArray) : D.G.S × Spt × Int:=drFree1 D (drSpot D s p)
def drTaken1 (r : D.G.S × Spt × Int) : D.G.S × Spt × Int:=if r.2.2 = 0 ∧ r.2.1.to = 0 then (r.1,spt0,190) else r
def drTaken (s : D.G.S) (p : ByteArray) : D.G.S × Spt × Int:=drTaken1 D (drSpot D s p)
def drWrite (s : D.G.S) (ino : Int) (name : ByteArray) (c : Cg) : D.G.S × Int:=if D.G.putE s c ≠ 0 then (D.G.putS s c,D.G.putE s c) else (D.G.wr (D.G.putS s c) (tcN ino name),0)
def drSet (s : D.G.S) (x : Spt) (to : Int) : D.G.S × Int:=drWrite D s x.ino x.name (toC x.ino x.name to)
def drAway (s : D.G.S) (x : Spt) : D.G.S × Int:=drWrite D s x.ino x.name (goneC (entP x.ino x.name))
def drList2 (ino : Int) (k : D.G.S × Int) : D.G.S × List ByteArray × Int:=if k.2 ≠ 0 then (k.1,[],k.2) else D.nms k.1 ino
def drList1 (f : D.G.S × Int × Int) : D.G.S × List ByteArray × Int:=if f.2.2 ≠ 0 then (f.1,[],f.2.2) else drList2 D f.2.1 (drKind D f.1 f.2.1 1 192)
def drList (s : D.G.S) (p : ByteArray) : D.G.S × List ByteArray × Int:=drList1 D (drFind D s p)
def drMake2 (ino : Int) (r : D.G.S × Int) : D.G.S × Int × Int:=if r.2 ≠ 0 then (r.1,0,r.2) else (r.1,ino,0)
def drMake1 (x : Spt) (m : D.G.S × Int × Int) : D.G.S × Int × Int:=if m.2.2 ≠ 0 then (m.1,0,m.2.2) else drMake2 D m.2.1 (drSet D m.1 x m.2.1)
def drMake0 (kind mode : Int) (x : D.G.S × Spt × Int) : D.G.S × Int × Int:=if x.2.2 ≠ 0 then (x.1,0,x.2.2) else drMake1 D x.2.1 (D.mak x.1 kind mode)
def drMake (s : D.G.S) (p : ByteArray) (kind mode : Int) : D.G.S × Int × Int:=drMake0 D kind mode (drFree D s p)
def drLink3 (ino : Int) (x : Spt) (l : D.G.S × Int × Int) : D.G.S × Int:=if l.2.2 ≠ 0 then (l.1,l.2.2) else drSet D l.1 x ino
def drLink2 (ino : Int) (x : D.G.S × Spt × Int) : D.G.S × Int:=if x.2.2 ≠ 0 then (x.1,x.2.2) else drLink3 D ino x.2.1 (D.lk x.1 ino 1)
def drLink1 (ino : Int) (p : ByteArray) (k : D.G.S × Int) : D.G.S × Int:=if k.2 ≠ 0 then k else drLink2 D ino (drFree D k.1 p)
def drLink0 (p : ByteArray) (f : D.G.S × Int × Int) : D.G.S × Int:=if f.2.2 ≠ 0 then (f.1,f.2.2) else drLink1 D f.2.1 p (drKind D f.1 f.2.1 2 193)
def drLink (s : D.G.S) (old p : ByteArray) : D.G.S × Int:=if parE p ≠ 0 then (s,parE p) else drLink0 D p (drFind D s old)
def drUnlink3 (l : D.G.S × Int × Int) : D.G.S × Int:=(l.1,l.2.2)
def drUnlink2 (to : Int) (r : D.G.S × Int) : D.G.S × Int:=if r.2 ≠ 0 then r else drUnlink3 D (D.lk r.1 to (-1))
def drUnlink1 (x : Spt) (k : D.G.S × Int) : D.G.S × Int:=if k.2 ≠ 0 then k else drUnlink2 D x.to (drAway D k.1 x)
def drUnlink0 (x : D.G.S × Spt × Int) : D.G.S × Int:=if x.2.2 ≠ 0 then (x.1,x.2.2) else drUnlink1 D x.2.1 (drKind D x.1 x.2.1.to 2 193)
def drUnlink (s : D.G.S) (p : ByteArray) : D.G.S × Int:=drUnlink0 D (drTaken D s p)
def drRmdir3 (to : Int) (r : D.G.S × Int) : D.G.S × Int:=if r.2 ≠ 0 then r else D.rm r.1 to
def drRmdir2 (x : Spt) (n : D.G.S × List ByteArray × Int) : D.G.S × Int:=if n.2.2 ≠ 0 then (n.1,n.2.2) else if 0 < n.2.1.length then (n.1,194) else drRmdir3 D x.to (drAway D n.1 x)
def drRmdir1 (x : Spt) (k : D.G.S × Int) : D.G.S × Int:=if k.2 ≠ 0 then k else drRmdir2 D x (D.nms k.1 x.to)
def drRmdir0 (x : D.G.S × Spt × Int) : D.G.S × Int:=if x.2.2 ≠ 0 then (x.1,x.2.2) else drRmdir1 D x.2.1 (drKind D x.1 x.2.1.to 1 192)
def drRmdir (s : D.G.S) (p : ByteArray) : D.G.S × Int:=drRmdir0 D (drTaken D s p)
def drRen4 (y : Spt) (to : Int) (r : D.G.S × Int) : D.G.S × Int:=if r.2 ≠ 0 then r else drSet D r.1 y to
def drRen3 (x : Spt) (y : D.G.S × Spt × Int) : D.G.S × Int:=if y.2.2 ≠ 0 then (y.1,y.2.2) else drRen4 D y.2.1 x.to (drAway D y.1 x)
def drRen2 (x : Spt) (p : ByteArray) (k : D.G.S × Int) : D.G.S × Int:=if k.2 ≠ 0 then k else drRen3 D x (drFree D k.1 p)
def drBel (old p : ByteArray) : Bool:=underB (pathL old) (pathL p)
def drRen1 (old p : ByteArray) (x : D.G.S × Spt × Int) : D.G.S × Int:=if x.2.2 ≠ 0 then (x.1,x.2.2) else drRen2 D x.2.1 p (if drBel old p = true then drKind D x.1 x.2.1.to 2 195 else (x.1,0))
def drRename (s : D.G.S) (old p : ByteArray) : D.G.S × Int:=if parE old ≠ 0 then (s,parE old) else if parE p ≠ 0 then (s,parE p) else drRen1 D old p (drTaken D s old)
end Go.Proofs.YtgajjphjkbnaeaaGreat
