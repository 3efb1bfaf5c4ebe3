/- DrC, DrD: in one text. -/
import Derived.Test.YtgajjphjkbnaeaaGreatQ33
import Derived.Deep.LoopGhost
namespace Go.Proofs.YtgajjphjkbnaeaaGreat
open Go.RowKit
set_option linter.unusedVariables false
set_option maxHeartbeats 32000000
set_option maxRecDepth 100000
set_option linter.unusedSimpArgs false
open Go.RowKit Go.Maps
theorem drStep_st (D : Sgd) (r : D.G.S × Int × Int) : (drStep D r).1 = r.1:=by unfold drStep; split <;> rfl
theorem drLook_sk {D : Sgd} (o : D.Ok) {s : D.G.S} {n : Nat} (h : D.G.Sk s n) (ino : Int) (name : ByteArray) : D.G.Sk (drLook D s ino name).1 (n + 1):=by
 have g:=o.g
 have h1 : D.G.Sk (drKind D s ino 1 192).1 n:=g.skF h ino
 unfold drLook drLook1
 by_cases hc : (drKind D s ino 1 192).2 ≠ 0
 ·rw [if_pos hc]; exact g.skm h1 (by omega)
 ·rw [if_neg hc]; unfold drLook2; exact g.skG (g.skR h1 _) _
theorem drKind_kp {D : Sgd} (o : D.Ok) {s0 s : D.G.S} {n : Nat} (h : D.Kp s0 s n) (ino k e : Int) : D.Kp s0 (drKind D s ino k e).1 n:=⟨o.g.skF h.k ino,o.jF h.j ino⟩
theorem drLook_kp {D : Sgd} (o : D.Ok) {s0 s : D.G.S} {n : Nat} (h : D.Kp s0 s n) (ino : Int) (name : ByteArray) : D.Kp s0 (drLook D s ino name).1 (n + 1):=by
 refine ⟨drLook_sk o h.k ino name,?_⟩
 have h1 : D.J s0 (drKind D s ino 1 192).1:=o.jF h.j ino
 unfold drLook drLook1
 by_cases hc : (drKind D s ino 1 192).2 ≠ 0
 ·rw [if_pos hc]; exact h1
 ·rw [if_neg hc]; unfold drLook2; exact o.jG (o.jR h1 _) _
theorem drDown_sk {D : Sgd} (o : D.Ok) : ∀ (ns : List ByteArray) {s : D.G.S} {n : Nat},D.G.Sk s n → ∀ at_,D.G.Sk (drDown D ns s at_).1 (n + ns.length)
 | [],s,n,h,at_ => h
 | x :: ns,s,n,h,at_ => by
  have h1 : D.G.Sk (drStep D (drLook D s at_ x)).1 (n + 1):=by rw [drStep_st]; exact drLook_sk o h at_ x
  unfold drDown drNext
  split
  ·exact o.g.skm h1 (by simp)
  ·exact o.g.skm (drDown_sk o ns h1 _) (by simp; omega)
theorem drDown_kp {D : Sgd} (o : D.Ok) : ∀ (ns : List ByteArray) {s0 s : D.G.S} {n : Nat},D.Kp s0 s n → ∀ at_,D.Kp s0 (drDown D ns s at_).1 (n + ns.length)
 | [],s0,s,n,h,at_ => h
 | x :: ns,s0,s,n,h,at_ => by
  have h1 : D.Kp s0 (drStep D (drLook D s at_ x)).1 (n + 1):=by rw [drStep_st]; exact drLook_kp o h at_ x
  unfold drDown drNext
  split
  ·exact o.kmono h1 (by simp)
  ·exact o.kmono (drDown_kp o ns h1 _) (by simp; omega)
theorem drDown_ne (D : Sgd) : ∀ (ns : List ByteArray) (s : D.G.S) (at_ : Int),at_ ≠ 0 → (drDown D ns s at_).2.2 = 0 → (drDown D ns s at_).2.1 ≠ 0
 | [],s,at_,h,_ => h
 | x :: ns,s,at_,h,he => by
  unfold drDown drNext at he ⊢
  by_cases hc : (drStep D (drLook D s at_ x)).2.2 ≠ 0
  ·rw [if_pos hc] at he; exact absurd he hc
  ·rw [if_neg hc] at he ⊢
   refine drDown_ne D ns _ _ (fun e => ?_) he
   have hc' : (drStep D (drLook D s at_ x)).2.2 = 0:=Decidable.not_not.1 hc
   unfold drStep at e hc'
   split at e
   ·rename_i h2; rw [if_pos h2] at hc'; exact absurd hc' (show ¬ (190 : Int) = 0 by decide)
   ·rename_i h2; rw [if_neg h2] at hc'; exact h2 ⟨hc',e⟩
theorem step_g {D : Sgd} (o : D.Ok) {B : Nat} {w : World} {a : Sa} {X : List Nat} {s : D.G.S} {n : Nat} (h : D.G.In B w a X s) {b : Nat} (hb : w.cell? ⟨b,0,none⟩ = some (.pointer (some ⟨a.s,0,none⟩))) (ino : Int) (h0 : 0 ≤ ino) (h1 : ino ≤ 4294967295) {name : ByteArray} (hn8 : name.size ≤ 8) (hk : D.G.Sk s n) (hn : n ≤ 3900) :
  Calls Tryz.prog 55 #[.int .u32 ino,.string name,.pointer (some ⟨b,0,none⟩)] w fun e w' => e = .returned (.tuple #[.int .u32 (drStep D (drLook D s ino name)).2.1,.int .i64 (drStep D (drLook D s ino name)).2.2]) ∧ D.G.Out B w a X (drStep D (drLook D s ino name)).1 w' ∧ 0 ≤ (drStep D (drLook D s ino name)).2.1 ∧ (drStep D (drLook D s ino name)).2.1 ≤ 4294967295:=by
 have cl:=lookUp_g o h ino h0 h1 hn8 hk hn
 have HF : Hid (drStep D (drLook D s ino name) = if (drLook D s ino name).2.2 = 0 ∧ (drLook D s ino name).2.1 = 0 then ((drLook D s ino name).1,0,190) else drLook D s ino name):=rfl
 generalize drStep D (drLook D s ino name) = R at *
 generalize drLook D s ino name = L at *
 obtain ⟨S1,tt,er⟩:=L
 dsimp only at cl HF
 clear h
 go_enter Tryz.func55,Tryz.ntmps55
 go_wp2_with fail
 refine cl.mono ?_
 rintro e w1 ⟨rfl,ho1,t0,t1⟩
 have HO : Hid (D.G.Out B w a X S1 w1):=ho1
 have HT : Hid (0 ≤ tt ∧ tt ≤ 4294967295):=⟨t0,t1⟩
 clear cl ho1 hb t0 t1
 by_cases he : er = 0
 ·subst he
  by_cases ht : tt = 0
  ·subst ht
   have HE : Hid (R = (S1,0,190)):=by unfold Hid; rw [HF.out,if_pos ⟨rfl,rfl⟩]
   clear HF
   go_wp2
   go_ret2
   exact ⟨by rw [HE.out]; first | done | rfl,by rw [HE.out]; exact HO.out,by rw [HE.out]; exact ⟨Int.le_refl _,show (0 : Int) ≤ 4294967295 by decide⟩⟩
  ·have htb : (tt == 0) = false:=by simpa using ht
   have HE : Hid (R = (S1,tt,0)):=by unfold Hid; rw [HF.out,if_neg (fun h => ht h.2)]
   clear HF
   go_wp2
   go_ret2
   exact ⟨by rw [HE.out]; first | done | rfl,by rw [HE.out]; exact HO.out,by rw [HE.out]; exact HT.out⟩
 ·have heb : (er == 0) = false:=by simpa using he
  have HE : Hid (R = (S1,tt,er)):=by unfold Hid; rw [HF.out,if_neg (fun h => he h.1)]
  clear HF
  go_wp2
  go_ret2
  exact ⟨by rw [HE.out]; first | done | rfl,by rw [HE.out]; exact HO.out,by rw [HE.out]; exact HT.out⟩
theorem FrR.soleD {B : Nat} {w w' : World} {a : Option Addr} {n c : Nat} {l : List ByteArray} {X : List Nat} (h : FrR B w a n c l) (hs : Sole X w w') (hx : ∀ g cs,w.heap[g]? = some (.cells cs 9 (0,0)) → g ∉ X) : FrR B w' a n c l:=by
 rcases Nat.eq_zero_or_pos n with h0 | h0
 ·subst h0
  refine ⟨?_,fun hp => by omega⟩
  obtain ⟨⟨a',c',e,h1,h2,h3⟩,h4⟩:=h.1
  have hl : l = []:=List.eq_nil_of_length_eq_zero h.1.len.1
  subst hl
  exact ⟨⟨a',c',e,h1,h2,fun hne => absurd rfl hne⟩,h4⟩
 ·obtain ⟨g,o,cs,rfl,h2,h3,h4⟩:=h.2 h0
  exact ⟨h.1.sole hs (hx g cs h3),fun _ => ⟨g,o,cs,rfl,h2,hs.row h3 (hx g cs h3),h4⟩⟩
theorem Sgt.Ok.nm {G : Sgt} (g : G.Ok) {B w a X} {s : G.S} (h : G.In B w a X s) : ∀ k cs,w.heap[k]? = some (.cells cs 9 (0,0)) → k ∉ X:=fun k cs e => g.other h e (by decide) (by decide) (by decide) (by decide) (by decide) (by decide)
theorem down_g {D : Sgd} (o : D.Ok) {B : Nat} {w : World} {a : Sa} {X : List Nat} {s : D.G.S} {n : Nat} (h : D.G.In B w a X s) {b : Nat} (hb : w.heap[b]? = some (.cells #[.pointer (some ⟨a.s,0,none⟩)] 34 (0,0))) (at_ : Int) (h0 : 0 ≤ at_) (h1 : at_ ≤ 4294967295) {va : Option Addr} {nn vc : Nat} {ns : List ByteArray} (hf : FrR 0 w va nn vc ns) (hl : ns.length ≤ 6) (h8 : ∀ x ∈ ns,x.size ≤ 8) (hk : D.G.Sk s n) (hn : n ≤ 3890) :
  Calls Tryz.prog 54 #[.int .u32 at_,.slice va nn vc,.func (.func 55) #[] #[.pointer (some ⟨b,0,none⟩)]] w fun e w' => e = .returned (.tuple #[.int .u32 (drDown D ns s at_).2.1,.int .i64 (drDown D ns s at_).2.2]) ∧ D.G.Out B w a X (drDown D ns s at_).1 w' ∧ 0 ≤ (drDown D ns s at_).2.1 ∧ (drDown D ns s at_).2.1 ≤ 4294967295:=by
 have g:=o.g
 have HNL : Hid (ns.length = nn):=hf.1.len.1
 have HN6 : Hid (nn ≤ 6):=by unfold Hid; have:=hf.1.len.1; omega
 obtain ⟨R,hR⟩ : ∃ R,drDown D ns s at_ = R:=⟨_,rfl⟩
 rw [hR]
 have HW0 : Hid (D.G.Out B w a X s w ∧ FrR 0 w va nn vc ns ∧ R = drDown D (ns.drop 0) s at_ ∧ D.G.Sk s (n + 0) ∧ w.heap[b]? = some (.cells #[.pointer (some ⟨a.s,0,none⟩)] 34 (0,0))):=⟨g.out h (Below.refl _ _),hf,hR.symm,hk,hb⟩
 have H8 : Hid (∀ x ∈ ns,x.size ≤ 8):=h8
 have HN : Hid (n ≤ 3890):=hn
 clear h hb hf h8 hk hn hR hl
 go_enter Tryz.func54,Tryz.ntmps54
 go_wp2_with fail
 go_loopg [0,15] nn (fun kx s0 s15 wr => ∃ (i : Nat) (t : Int) (s' : D.G.S),s0 = .int .u32 t ∧ s15 = .int .i64 i ∧ i ≤ nn ∧ nn - i ≤ kx ∧ 0 ≤ t ∧ t ≤ 4294967295 ∧ Hid (D.G.Out B w a X s' wr ∧ FrR 0 wr va nn vc ns ∧ R = drDown D (ns.drop i) s' t ∧ D.G.Sk s' (n + i) ∧ wr.heap[b]? = some (.cells #[.pointer (some ⟨a.s,0,none⟩)] 34 (0,0))))
 case atStart => exact ⟨0,at_,s,rfl,rfl,Nat.zero_le _,by omega,h0,h1,HW0⟩
 case round =>
  obtain ⟨i,t,s',rfl,rfl,hin,hkx,ht0,ht1,HW⟩:=hrel
  by_cases hlt : i < nn
  ·obtain ⟨k1,k2,k3,k4,k5⟩:=HW.out
   obtain ⟨X1,hx1,hx2,hx3⟩:=k1
   obtain ⟨x,hx⟩ : ∃ x,ns[i]? = some x:=⟨_,List.getElem?_eq_getElem (by have:=HNL.out; omega)⟩
   have hx8:=H8.out x (List.mem_of_getElem? hx)
   have hdd : ns.drop i = x :: ns.drop (i + 1):=by
    have hl : i < ns.length:=by have:=HNL.out; omega
    have e:=List.drop_eq_getElem_cons hl
    rw [List.getElem?_eq_getElem hl] at hx
    cases hx
    exact e
   rw [hdd] at k3
   have cs:=step_g o hx1 (b:=b) (by rw [cell_of_row _ _ _ _ _ (0,0) k5]; rfl) t ht0 ht1 hx8 k4 (by have:=HN.out; have:=HN6.out; unfold Hid at this; omega)
   obtain ⟨b0,o0,rfl,d0⟩:=s_cell k2.1 hx
   have HX2 : Hid (Sole X w wr):=hx2
   have HX3 : Hid (∀ k ∈ X1,k ∈ X ∨ w.heap.size ≤ k):=hx3
   have HFR : Hid (FrR 0 wr (some ⟨b0,o0,none⟩) nn vc ns):=k2
   have HNM : Hid (∀ k cs,wr.heap[k]? = some (.cells cs 9 (0,0)) → k ∉ X1):=g.nm hx1
   have HBR : Hid (wr.heap[b]? = some (.cells #[.pointer (some ⟨a.s,0,none⟩)] 34 (0,0)) ∧ b ∉ X1):=⟨k5,g.other hx1 k5 (by decide) (by decide) (by decide) (by decide) (by decide) (by decide)⟩
   have HRR : Hid (R = drNext D (drDown D (ns.drop (i + 1))) (drStep D (drLook D s' t x))):=k3
   have HSK : Hid (D.G.Sk (drStep D (drLook D s' t x)).1 (n + (i + 1))):=by unfold Hid; rw [drStep_st,← Nat.add_assoc]; exact drLook_sk o k4 t x
   have hiI : (i : Int) < (nn : Int):=by omega
   have hib : (i : Int) + 1 ≤ 1000:=by have:=HN6.out; unfold Hid at this; omega
   generalize drStep D (drLook D s' t x) = L at *
   obtain ⟨S2,t2,e2⟩:=L
   dsimp only at cs HSK HRR
   clear k2 k3 k4 k5 hx1 hx2 hx3 hx hx8 hdd HW HW0
   go_wp2_with fail
   refine cs.mono ?_
   rintro e w2 ⟨rfl,ho2,q0,q1⟩
   have HO : Hid (D.G.Out B w a X S2 w2):=Sgt.Out.then HX2.out HX3.out ho2
   have HS2 : Hid (Sole X1 wr w2):=ho2.sole
   clear cs ho2 d0
   by_cases he : e2 = 0
   ·subst he
    have HE : Hid (R = drDown D (ns.drop (i + 1)) S2 t2):=by unfold Hid; rw [HRR.out]; unfold drNext; rw [if_neg (by simp)]
    have HW2 : Hid (D.G.Out B w a X S2 w2 ∧ FrR 0 w2 (some ⟨b0,o0,none⟩) nn vc ns ∧ R = drDown D (ns.drop (i + 1)) S2 t2 ∧ D.G.Sk S2 (n + (i + 1)) ∧ w2.heap[b]? = some (.cells #[.pointer (some ⟨a.s,0,none⟩)] 34 (0,0))):=⟨HO.out,HFR.out.soleD HS2.out HNM.out,HE.out,HSK.out,HS2.out.row HBR.out.1 HBR.out.2⟩
    clear HE HO HFR HSK HRR HBR HNM HS2
    go_wp2_with fail
    go_roundg (nn - (i + 1))
    case measure => omega
    case rel => exact ⟨i + 1,t2,S2,rfl,by rw [show ((i : Int) + 1) = ((i + 1 : Nat) : Int) by omega],by omega,by omega,q0,q1,HW2⟩
   ·have heb : (e2 != 0) = true:=by simpa using he
    have HE : Hid (R = (S2,0,e2)):=by unfold Hid; rw [HRR.out]; unfold drNext; rw [if_pos he]
    clear HRR
    go_wp2_with fail
    go_ret2
    exact ⟨by rw [HE.out]; first | done | rfl,by rw [HE.out]; exact HO.out,by rw [HE.out]; exact ⟨Int.le_refl _,show (0 : Int) ≤ 4294967295 by decide⟩⟩
  ·obtain rfl : nn = i:=by omega
   obtain ⟨k1,k2,k3,k4,k5⟩:=HW.out
   rw [List.drop_of_length_le (by have:=HNL.out; omega)] at k3
   have HE : Hid (R = (s',t,0)):=k3
   have HO : Hid (D.G.Out B w a X s' wr):=k1
   clear k1 k2 k3 k4 k5 HW HW0
   go_wp2_with fail
   go_ret2
   exact ⟨by rw [HE.out]; first | done | rfl,by rw [HE.out]; exact HO.out,by rw [HE.out]; exact ⟨ht0,ht1⟩⟩
theorem goDown_g {D : Sgd} (o : D.Ok) {B : Nat} {w : World} {a : Sa} {X : List Nat} {s : D.G.S} {n : Nat} (h : D.G.In B w a X s) {va : Option Addr} {nn vc : Nat} {ns : List ByteArray} (hf : FrR 0 w va nn vc ns) (hl : ns.length ≤ 6) (h8 : ∀ x ∈ ns,x.size ≤ 8) (hk : D.G.Sk s n) (hn : n ≤ 3890) :
  Calls Tryz.prog 27 #[.pointer (some ⟨a.s,0,none⟩),.slice va nn vc] w fun e w' => e = .returned (.tuple #[.int .u32 (drDown D ns s 1).2.1,.int .i64 (drDown D ns s 1).2.2]) ∧ D.G.Out B w a X (drDown D ns s 1).1 w' ∧ 0 ≤ (drDown D ns s 1).2.1 ∧ (drDown D ns s 1).2.1 ≤ 4294967295:=by
 have hb1:=bel1 w (.cells #[.pointer (some ⟨a.s,0,none⟩)] 34)
 have cd:=down_g o (o.g.below h hb1) (b:=w.heap.size) (heap_alloc_new w _) 1 (by decide) (by decide) (hf.below hb1) hl h8 hk hn
 have HB : Hid (Below w.heap.size w (w.alloc (.cells #[.pointer (some ⟨a.s,0,none⟩)] 34))):=hb1
 generalize drDown D ns s 1 = R at *
 obtain ⟨S1,t1,e1⟩:=R
 dsimp only at cd ⊢
 clear h hb1 hf h8 hk hn hl
 go_enter Tryz.func27,Tryz.ntmps27
 go_wp2_with fail
 refine cd.mono ?_
 rintro e w2 ⟨rfl,ho2,q0,q1⟩
 have HO : Hid (D.G.Out B w a X S1 w2):=Sgt.Out.pre HB.out ho2
 clear cd ho2
 go_wp2
 go_ret2
 exact ⟨rfl,HO.out,q0,q1⟩
open Go.RowKit Go.Maps
def spC (x : Spt) : Array Value:=#[.int .u32 x.ino,.string x.name,.int .u32 x.to]
structure SptAt (w : World) (g : Nat) (x : Spt) : Prop where
 row : w.heap[g]? = some (.cells (spC x) 73 (0,0))
theorem size_sp : (Tryz.prog.info? 73).map (·.size) = some 3:=by kernel_rfl
theorem one_sp (x : Spt) : (spC x).all (·.oneCell') = true:=by simp [spC,Value.oneCell']
theorem SptAt.cell {w : World} {g : Nat} {x : Spt} (h : SptAt w g x) (j : Nat) (v : Value) (hv : (spC x)[j]? = some v) : w.cell? ⟨g,j,none⟩ = some v:=by
 rw [cell_of_row _ _ _ _ _ (0,0) h.row]; exact hv
theorem SptAt.c0 {w : World} {g : Nat} {x : Spt} (h : SptAt w g x) : w.cell? ⟨g,0,none⟩ = some (.int .u32 x.ino):=h.cell 0 _ rfl
theorem SptAt.c1 {w : World} {g : Nat} {x : Spt} (h : SptAt w g x) : w.cell? ⟨g,1,none⟩ = some (.string x.name):=h.cell 1 _ rfl
theorem SptAt.c2 {w : World} {g : Nat} {x : Spt} (h : SptAt w g x) : w.cell? ⟨g,2,none⟩ = some (.int .u32 x.to):=h.cell 2 _ rfl
theorem SptAt.load {w : World} {g : Nat} {x : Spt} (h : SptAt w g x) : (Instr.loadAt 73 (.pointer (some ⟨g,0,none⟩))).run Tryz.prog w = .ok (.agg (spC x)) w:=by
 have:=run_loadAt_mid (P:=Tryz.prog) w g 0 73 (spC x).toList _ (fun j u hu => by rw [cell_of_row _ _ _ _ _ (0,0) h.row,Nat.zero_add,← Array.getElem?_toList]; exact hu) Tryz.underlying73 rfl (by kernel_rfl)
 simpa using this
theorem SptAt.sole {w w' : World} {g : Nat} {x : Spt} {X : List Nat} (h : SptAt w g x) (hs : Sole X w w') (hn : g ∉ X) : SptAt w' g x:=⟨hs.row h.row hn⟩
theorem SptAt.below {w w' : World} {g : Nat} {x : Spt} (h : SptAt w g x) (hb : Below w.heap.size w w') : SptAt w' g x:=⟨(hb.block _ (lt_of_row h.row)).trans h.row⟩
theorem SptAt.set {w : World} {g : Nat} {x : Spt} (h : SptAt w g x) (y : Spt) : SptAt (w.setRow g (spC y)) g y:=⟨setRow_heap _ _ _ _ _ _ h.row⟩
theorem Sgt.Ok.sp {G : Sgt} (g : G.Ok) {B w a X} {s : G.S} (h : G.In B w a X s) {k : Nat} {x : Spt} (hk : SptAt w k x) : k ∉ X:=g.other h hk.row (by decide) (by decide) (by decide) (by decide) (by decide) (by decide)
theorem sp_fin {G : Sgt} (g : G.Ok) {B : Nat} {w w5 : World} {a : Sa} {X : List Nat} {s : G.S} (hB : B ≤ w.heap.size) (ho : G.Out B w a X s w5) {k : Nat} (hg : w.heap.size ≤ k) {x : Spt} (hr : SptAt w5 k x) (y : Spt) : G.Out B w a X s (w5.setRow k (spC y)) :=
 g.fin hB ho hg hr.row (by decide) (by decide) (by decide) (by decide) (by decide) (by decide) (by decide) (by decide) drSole
theorem ret_sp {fn : Func} {R : Ending → World → Prop} {a : Act} {w : World} {p u : Tmp} (h : fn.results = #[.cell p 73,.tmp u]) (g : Nat) (x : Spt) (hp : a.tmps.getD p undef = .pointer (some ⟨g,0,none⟩)) (v : Value) (hu : a.tmps.getD u undef = v)
  (hg : SptAt w g x) (hd : a.defers = []) (hR : R (.returned (.tuple #[.agg (spC x),v])) w) : bodyPost Tryz.prog fn R .ret a w:=by
 refine bodyPost_ret ?_ hd hR
 have hp' : a.tmps[p]?.getD undef = .pointer (some ⟨g,0,none⟩):=by simpa using hp
 have hu' : a.tmps[u]?.getD undef = v:=by simpa using hu
 have hl:=run_loadVar_row (P:=Tryz.prog) w g _ 73 _ _ _ hg.row Tryz.underlying73 rfl (by kernel_rfl)
 simp [results,h,hp',hu',asAddr,hl,Result.andThen]
structure SptOk (x : Spt) : Prop where
 i0 : 0 ≤ x.ino
 i1 : x.ino ≤ 4294967295
 n8 : x.name.size ≤ 8
 t0 : 0 ≤ x.to
 t1 : x.to ≤ 4294967295
theorem spt0_ok : SptOk spt0:=⟨by simp [spt0],by simp [spt0],by decide,by simp [spt0],by simp [spt0]⟩
theorem nm_size {x : ByteArray} (h : nameOk x = true) : x.size ≤ 8:=by rw [size_list]; exact (nmOk_size h).2
theorem par_ok {p : ByteArray} (h : parE p = 0) : (∀ x ∈ parL p,x.size ≤ 8) ∧ (parL p).length ≤ 6 ∧ (parN p).size ≤ 8:=by
 have h2 : pathE p = 0 ∧ pathL p ≠ []:=by
  unfold parE at h
  split at h
  ·assumption
  ·exact absurd h (by decide)
 obtain ⟨h3,h4⟩:=path_all h2.1
 have h5 : ∀ x ∈ pathL p,x.size ≤ 8:=fun x hx => nm_size (List.all_eq_true.1 h4 x hx)
 refine ⟨fun x hx => ?_,?_,?_⟩
 ·unfold parL at hx; rw [if_pos h] at hx; exact h5 x (List.dropLast_subset _ hx)
 ·unfold parL; rw [if_pos h,List.length_dropLast]; omega
 ·unfold parN; rw [if_pos h,List.getLast?_eq_some_getLast h2.2]
  exact h5 _ (List.getLast_mem h2.2)
theorem drSpot_kp {D : Sgd} (o : D.Ok) {s0 s : D.G.S} {n : Nat} (h : D.Kp s0 s n) (p : ByteArray) : D.Kp s0 (drSpot D s p).1 (n + 7):=by
 unfold drSpot
 by_cases hE : parE p ≠ 0
 ·rw [if_pos hE]; exact o.kmono h (by omega)
 ·rw [if_neg hE]
  have hl:=(par_ok (Decidable.not_not.1 hE)).2.1
  have h1 : D.Kp s0 (drDown D (parL p) s 1).1 (n + 6):=o.kmono (drDown_kp o _ h 1) (by omega)
  unfold drSpot1
  split
  ·exact o.kmono h1 (by omega)
  ·unfold drSpot2
   split
   ·exact drLook_kp o h1 _ _
   ·exact drLook_kp o h1 _ _
theorem drFree_st (D : Sgd) (s : D.G.S) (p : ByteArray) : (drFree D s p).1 = (drSpot D s p).1:=by unfold drFree drFree1; split <;> rfl
theorem drTaken_st (D : Sgd) (s : D.G.S) (p : ByteArray) : (drTaken D s p).1 = (drSpot D s p).1:=by unfold drTaken drTaken1; split <;> rfl
theorem drTaken_ne (D : Sgd) (s : D.G.S) (p : ByteArray) (h : (drTaken D s p).2.2 = 0) : (drTaken D s p).2.1.to ≠ 0:=by
 unfold drTaken drTaken1 at h ⊢
 by_cases hc : (drSpot D s p).2.2 = 0 ∧ (drSpot D s p).2.1.to = 0
 ·rw [if_pos hc] at h; exact absurd h (show ¬ (190 : Int) = 0 by decide)
 ·rw [if_neg hc] at h ⊢; exact fun e => hc ⟨h,e⟩
theorem path_ok {p : ByteArray} (h : pathE p = 0) : (∀ x ∈ pathL p,x.size ≤ 8) ∧ (pathL p).length ≤ 6:=by
 obtain ⟨h3,h4⟩:=path_all h
 exact ⟨fun x hx => nm_size (List.all_eq_true.1 h4 x hx),h3⟩
theorem drFind_kp {D : Sgd} (o : D.Ok) {s0 s : D.G.S} {n : Nat} (h : D.Kp s0 s n) (p : ByteArray) : D.Kp s0 (drFind D s p).1 (n + 6):=by
 unfold drFind
 by_cases hE : pathE p ≠ 0
 ·rw [if_pos hE]; exact o.kmono h (by omega)
 ·rw [if_neg hE]; exact o.kmono (drDown_kp o _ h 1) (by have:=(path_ok (Decidable.not_not.1 hE)).2; omega)
theorem drFind_ne (D : Sgd) (s : D.G.S) (p : ByteArray) (h : (drFind D s p).2.2 = 0) : (drFind D s p).2.1 ≠ 0:=by
 unfold drFind at h ⊢
 by_cases hE : pathE p ≠ 0
 ·rw [if_pos hE] at h; exact absurd h hE
 ·rw [if_neg hE] at h ⊢; exact drDown_ne D _ _ _ (by decide) h
theorem spotOf_g {D : Sgd} (o : D.Ok) {B : Nat} {w : World} {a : Sa} {X : List Nat} {s : D.G.S} {n : Nat} (h : D.G.In B w a X s) (p : ByteArray) (hp : p.size ≤ maxLen) (hk : D.G.Sk s n) (hn : n ≤ 3880) :
  Calls Tryz.prog 61 #[.pointer (some ⟨a.s,0,none⟩),.string p] w fun e w' => e = .returned (.tuple #[.agg (spC (drSpot D s p).2.1),.int .i64 (drSpot D s p).2.2]) ∧ D.G.Out B w a X (drSpot D s p).1 w' ∧ SptOk (drSpot D s p).2.1:=by
 have g:=o.g
 have hb1:=bel1 w (.cells (spC spt0) 73)
 have hs1 : SptAt (w.alloc (.cells (spC spt0) 73)) w.heap.size spt0:=⟨heap_alloc_new w _⟩
 have HF : Hid (drSpot D s p = if parE p ≠ 0 then (s,spt0,parE p) else drSpot1 D (parN p) (drDown D (parL p) s 1)):=rfl
 have HPK : Hid (parE p = 0 → (∀ x ∈ parL p,x.size ≤ 8) ∧ (parL p).length ≤ 6 ∧ (parN p).size ≤ 8):=par_ok
 obtain ⟨w1,hw1⟩ : ∃ w1,w.alloc (.cells (spC spt0) 73) = w1:=⟨_,rfl⟩
 rw [hw1] at hb1 hs1
 have cp:=pparent_any w1 p hp
 unfold ParOut at cp
 have HH1 : Hid (D.G.In B w1 a X s):=g.below h hb1
 have HBW : Hid (B ≤ w.heap.size):=g.le h
 have HB1 : Hid (Below w.heap.size w w1):=hb1
 have HS1 : Hid (SptAt w1 w.heap.size spt0):=hs1
 have HK : Hid (D.G.Sk s n ∧ n ≤ 3880):=⟨hk,hn⟩
 generalize drSpot D s p = R at *
 generalize parE p = E at *
 generalize parN p = N at *
 generalize parL p = L at *
 unfold spC spt0 at hw1
 dsimp only at hw1
 clear h hb1 hs1 hk hn hp
 go_enter Tryz.func61,Tryz.ntmps61
 go_wp2_with fail
 try rw [hw1]
 refine cp.mono ?_
 rintro e w2 ⟨pa,pn,pc,rfl,hfr,hb2⟩
 have HS2 : Hid (SptAt w2 w.heap.size spt0):=HS1.out.below hb2
 have hh2 : D.G.In B w2 a X s:=g.below HH1.out hb2
 have HB2 : Hid (Below w.heap.size w w2):=thenB HB1.out hb2
 clear cp hw1 hb2 HS1 HH1
 by_cases hE : E = 0
 case neg =>
  have heb : (E != 0) = true:=by simpa using hE
  have HE : Hid (R = (s,spt0,E)):=by unfold Hid; rw [HF.out,if_pos hE]
  have HO : Hid (D.G.Out B w a X s (w2.setRow w.heap.size (spC spt0))):=sp_fin g HBW.out (Sgt.Out.pre HB2.out (g.out hh2 (Below.refl _ _))) (Nat.le_refl _) HS2.out spt0
  clear HF hfr hh2
  go_wp2_with (first | (refine wpList_store_rowTo rfl 73 _ _ rfl rfl w.heap.size (spC spt0) rfl rfl 73 (spC spt0) HS2.out.row size_sp rfl (one_sp _) ?_))
  refine ret_sp rfl w.heap.size spt0 rfl (.int .i64 E) rfl (HS2.out.set spt0) rfl ?_
  exact ⟨by rw [HE.out],by rw [HE.out]; exact HO.out,by rw [HE.out]; exact spt0_ok⟩
 subst hE
 obtain ⟨k1,k2,k3⟩:=HPK.out rfl
 have HN8 : Hid (N.size ≤ 8):=k3
 have HF1 : Hid (R = drSpot1 D N (drDown D L s 1)):=by unfold Hid; rw [HF.out,if_neg (by simp)]
 have cd:=goDown_g o hh2 (hfr.mono (Nat.zero_le _)) k2 k1 HK.out.1 (by have:=HK.out.2; omega)
 have HK1 : Hid (D.G.Sk (drDown D L s 1).1 (n + 6)):=o.g.skm (drDown_sk o L HK.out.1 1) (by omega)
 generalize drDown D L s 1 = DD at *
 obtain ⟨S1,t1,e1⟩:=DD
 dsimp only at cd HK1 HF1
 have HNX : Hid (w.heap.size ∉ X):=g.sp hh2 HS2.out
 clear HF HPK k1 k2 k3 hfr hh2
 go_wp2_with fail
 refine cd.mono ?_
 rintro e w3 ⟨rfl,ho3,q0,q1⟩
 have HS3 : Hid (SptAt w3 w.heap.size spt0):=HS2.out.sole ho3.sole HNX.out
 have ho:=Sgt.Out.pre HB2.out ho3
 clear cd ho3 HS2
 by_cases hE : e1 = 0
 case neg =>
  have heb : (e1 != 0) = true:=by simpa using hE
  have HE : Hid (R = (S1,spt0,e1)):=by unfold Hid; rw [HF1.out]; unfold drSpot1; rw [if_pos hE]
  have HO : Hid (D.G.Out B w a X S1 (w3.setRow w.heap.size (spC spt0))):=sp_fin g HBW.out ho (Nat.le_refl _) HS3.out spt0
  clear HF1 ho
  go_wp2_with (first | (refine wpList_store_rowTo rfl 73 _ _ rfl rfl w.heap.size (spC spt0) rfl rfl 73 (spC spt0) HS3.out.row size_sp rfl (one_sp _) ?_))
  refine ret_sp rfl w.heap.size spt0 rfl (.int .i64 e1) rfl (HS3.out.set spt0) rfl ?_
  exact ⟨by rw [HE.out],by rw [HE.out]; exact HO.out,by rw [HE.out]; exact spt0_ok⟩
 subst hE
 have HF2 : Hid (R = drSpot2 D t1 N (drLook D S1 t1 N)):=by unfold Hid; rw [HF1.out]; unfold drSpot1; rw [if_neg (by simp)]
 obtain ⟨X3,hx1,hx2,hx3⟩:=ho
 have cl:=lookUp_g o hx1 t1 q0 q1 HN8.out HK1.out (by have:=HK.out.2; omega)
 have HX2 : Hid (Sole X w w3):=hx2
 have HX3 : Hid (∀ k ∈ X3,k ∈ X ∨ w.heap.size ≤ k):=hx3
 have HNX3 : Hid (w.heap.size ∉ X3):=g.sp hx1 HS3.out
 have HT1 : Hid (0 ≤ t1 ∧ t1 ≤ 4294967295):=⟨q0,q1⟩
 generalize drLook D S1 t1 N = LK at *
 obtain ⟨S2,t2,e2⟩:=LK
 dsimp only at cl HF2
 clear HF1 hx1 hx2 hx3 q0 q1
 go_wp2_with fail
 refine cl.mono ?_
 rintro e w4 ⟨rfl,ho4,q0,q1⟩
 have HS4 : Hid (SptAt w4 w.heap.size spt0):=HS3.out.sole ho4.sole HNX3.out
 have ho:=Sgt.Out.then HX2.out HX3.out ho4
 clear cl ho4 HS3
 by_cases hE : e2 = 0
 case neg =>
  have heb : (e2 != 0) = true:=by simpa using hE
  have HE : Hid (R = (S2,spt0,e2)):=by unfold Hid; rw [HF2.out]; unfold drSpot2; rw [if_pos hE]
  have HO : Hid (D.G.Out B w a X S2 (w4.setRow w.heap.size (spC spt0))):=sp_fin g HBW.out ho (Nat.le_refl _) HS4.out spt0
  clear HF2 ho
  go_wp2_with (first | (refine wpList_store_rowTo rfl 73 _ _ rfl rfl w.heap.size (spC spt0) rfl rfl 73 (spC spt0) HS4.out.row size_sp rfl (one_sp _) ?_))
  refine ret_sp rfl w.heap.size spt0 rfl (.int .i64 e2) rfl (HS4.out.set spt0) rfl ?_
  exact ⟨by rw [HE.out],by rw [HE.out]; exact HO.out,by rw [HE.out]; exact spt0_ok⟩
 subst hE
 have HE : Hid (R = (S2,⟨t1,N,t2⟩,0)):=by unfold Hid; rw [HF2.out]; unfold drSpot2; rw [if_neg (by simp)]
 have HO : Hid (D.G.Out B w a X S2 (w4.setRow w.heap.size (spC ⟨t1,N,t2⟩))):=sp_fin g HBW.out ho (Nat.le_refl _) HS4.out ⟨t1,N,t2⟩
 have HOK : Hid (SptOk ⟨t1,N,t2⟩):=⟨HT1.out.1,HT1.out.2,HN8.out,q0,q1⟩
 clear HF2 ho
 go_wp2_with (first | (refine wpList_store_rowTo rfl 73 _ _ rfl rfl w.heap.size (spC ⟨t1,N,t2⟩) rfl rfl 73 (spC spt0) HS4.out.row size_sp rfl (one_sp _) ?_))
 refine ret_sp rfl w.heap.size ⟨t1,N,t2⟩ rfl (.int .i64 0) rfl (HS4.out.set _) rfl ?_
 exact ⟨by rw [HE.out],by rw [HE.out]; exact HO.out,by rw [HE.out]; exact HOK.out⟩
end Go.Proofs.YtgajjphjkbnaeaaGreat
