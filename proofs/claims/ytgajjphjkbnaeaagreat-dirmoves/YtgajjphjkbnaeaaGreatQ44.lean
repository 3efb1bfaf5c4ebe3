/- RtDel, RtUndo: in one text. -/
import Derived.Test.YtgajjphjkbnaeaaGreatQ1
import Derived.Test.YtgajjphjkbnaeaaGreatQ18
import Derived.Deep.LoopGhost
namespace Go.Proofs.YtgajjphjkbnaeaaGreat
open Go.RowKit
set_option linter.unusedVariables false
set_option maxHeartbeats 32000000
set_option maxRecDepth 100000
set_option linter.unusedSimpArgs false
open Go.RowKit Go.Maps
theorem tc_load {w : World} {b off n cap : Nat} {l : List Tc} (h : RdZ 5 tcE w (.slice (some ⟨b,off,none⟩) n cap) l) {i : Nat} {x : Tc} (hx : l[i]? = some x) :
  (Instr.loadAt 120 (.pointer (some ⟨b,off + i * 5,none⟩))).run Tryz.prog w = .ok (.agg #[.int .i64 x.kind,.int .u32 x.ino,.string x.name,.int .i64 x.lo,.int .i64 x.hi]) w:=by
 obtain ⟨⟨a,c,e,h1,h2,h3⟩,_⟩:=h
 simp only [Value.slice.injEq] at e
 obtain ⟨rfl,rfl,rfl⟩:=e
 obtain ⟨b',off',e',hlt,hc⟩:=h3 (by intro e; subst e; simp at hx)
 simp only [Option.some.injEq,Addr.mk.injEq] at e'
 obtain ⟨rfl,rfl,_⟩:=e'
 have hr : w.rangeAt b (off + i * 5) (tcE x):=fun j u hu => hc i x j u hx hu
 exact run_loadAt_mid (P:=Tryz.prog) w b (off + i * 5) 120 _ _ hr Tryz.underlying120 rfl (by kernel_rfl)
theorem zc_one (n : Nat) : ∀ u ∈ (Builtin.zeroCells (Value.agg (tcC tc0)).cells n).toList,u.oneCell' = true:=by
 intro u hu
 have hz : ∀ v ∈ (tcC tc0).toList,v.oneCell' = true:=fun v hv => tc_one tc0 v (by simpa [tcC,tcE] using hv)
 obtain ⟨t,ht,rfl⟩:=List.mem_iff_getElem.1 hu
 have hs : (tcC tc0).size = 5:=rfl
 have hlt : t % 5 < 5:=Nat.mod_lt _ (by decide)
 have e : (Builtin.zeroCells (Value.agg (tcC tc0)).cells n).toList[t] = (tcC tc0)[t % 5]!:=by
  simp [Builtin.zeroCells,Value.cells,hs]
 rw [e,getElem!_pos _ _ (by rw [hs]; exact hlt)]
 exact hz _ (by simp)
theorem zc_len (n : Nat) : (Builtin.zeroCells (Value.agg (tcC tc0)).cells n).toList.length = n * 5:=by
 have hs : (tcC tc0).size = 5:=rfl
 simp [Builtin.zeroCells,Value.cells,hs]
theorem del_some (w : World) (g n c m : Nat) (cur : Array Value) (hg : w.heap[g]? = some (.cells cur 120 (0,0))) (hcs : cur.size = c * 5) (hn : n ≤ c) (hcm : c ≤ maxLen) (hm : m < n) :
  Calls Tryz.prog 50 #[.slice (some ⟨g,0,none⟩) n c,.int .i64 m,.int .i64 n] w fun e w' => e = .returned (.slice (some ⟨g,0,none⟩) m c) ∧ ∃ cs,w'.heap[g]? = some (.cells cs 120 (0,0)) ∧ cs.size = c * 5 ∧ cs.toList.take (m * 5) = cur.toList.take (m * 5) ∧ Sole [g] w w':=by
 unfold maxLen at hcm
 obtain ⟨iE,hiE,hz0,hz1,hz2⟩:=info_parts info_tc
 have hzv : ∀ w,(zeroValue 120).run Tryz.prog w = .ok (Value.agg (tcC tc0)) w:=by intro w; simp [zeroValue,typeInfo,hiE,hz0]
 have hj : 0 < n - m:=by omega
 have hgd : w.drew.heap[g]? = some (.cells cur 120 (0,0)):=hg
 obtain ⟨W2,hW2⟩ : ∃ W2,w.drew.setRow g (cur.toList.take (m * 5) ++ (Builtin.zeroCells (Value.agg (tcC tc0)).cells (n - m)).toList ++ cur.toList.drop (m * 5 + (Builtin.zeroCells (Value.agg (tcC tc0)).cells (n - m)).toList.length)).toArray = W2:=⟨_,rfl⟩
 have hcl : ∀ ty,(Builtin.clear_ #[102] ty #[.slice (some ⟨g,m * 5,none⟩) (n - m) (c - m)]).run Tryz.prog w.drew = .ok (.tuple #[]) W2:=fun ty => by
  rw [run_clear_row Tryz.prog w.drew _ _ ty _ Tryz.underlying102 hzv g (m * 5) (n - m) (c - m) cur (by omega) (zc_one (n - m)) hgd (by rw [zc_len,hcs,← Nat.add_mul]; exact Nat.mul_le_mul_right 5 (by omega)),hW2]
 have HG2 : Hid (∃ cs,W2.heap[g]? = some (.cells cs 120 (0,0)) ∧ cs.size = c * 5 ∧ cs.toList.take (m * 5) = cur.toList.take (m * 5)):=by
  have hml : m * 5 ≤ c * 5:=Nat.mul_le_mul_right 5 (by omega)
  have hmj : m * 5 + (n - m) * 5 ≤ c * 5:=by rw [← Nat.add_mul]; exact Nat.mul_le_mul_right 5 (by omega)
  have hzs:=zc_len (n - m)
  refine ⟨_,by rw [← hW2]; exact setRow_heap w.drew g cur _ _ _ hgd,?_,?_⟩
  ·rw [List.size_toArray,List.length_append,List.length_append,hzs,List.length_take,List.length_drop,Array.length_toList,hcs]; omega
  ·rw [List.append_assoc,List.take_append_of_le_length (by rw [List.length_take,Array.length_toList,hcs]; omega),List.take_take,Nat.min_self]
 have HS2 : Hid (Sole [g] w W2):=by unfold Hid; rw [← hW2]; exact (Sole.drew w _).trans ⟨rfl,rfl,rfl,by simp [World.setRow],fun k _ hk => setRow_other w.drew g k _ (fun e => hk (by simp [e]))⟩
 obtain ⟨A,hA⟩ : ∃ A : Addr,(if c = n then some (⟨g,0,none⟩ : Addr) else some ⟨g,n * 5,none⟩) = some A:=by
  by_cases h : c = n
  ·exact ⟨_,if_pos h⟩
  ·exact ⟨_,if_neg h⟩
 have HW : Hid (w.drew.setCells g (0 + m * 5) [] = w.drew):=rfl
 have hcm' : ¬ c = m:=by omega
 have hne : ¬ ((m : Int) = (n : Int)):=by omega
 have hmI : (m : Int) ≤ (n : Int):=by omega
 have hnc : (n : Int) ≤ (c : Int):=by omega
 have hm0 : (m : Int) ≤ (c : Int):=by omega
 have hnm : ¬ n = m:=by omega
 clear hW2 hgd hg hcs hzv hz0 hz2
 go_enter Tryz.func50,Tryz.ntmps50
 go_wp2_with fail
 go_region_law (refine step_append_room rfl (.tmp 22) (.tmp 25) 102 rfl 120 iE 5 Tryz.underlying102 hiE hz1 g 0 m c (by simp [Act.eval,Act.put]) A 0 (c - n) [] (by simp [Act.eval,Act.put]) rfl (fun t u hu => by simp at hu) (fun u hu => by simp at hu) (by omega) (fun t ht => by simp at ht) ?_; rw [HW.out])
 go_wp2_with fail
 go_ret
 obtain ⟨cs,k1,k2,k3⟩:=HG2.out
 exact ⟨by simp,cs,k1,k2,k3,HS2.out⟩
theorem del_none (w : World) (a : Option Addr) (n c : Nat) (hn : n ≤ c) (hcm : c ≤ maxLen) (ha : a = none → n = 0 ∧ c = 0) :
  Calls Tryz.prog 50 #[.slice a n c,.int .i64 n,.int .i64 n] w fun e w' => e = .returned (.slice a n c) ∧ w = w':=by
 unfold maxLen at hcm
 cases a with
 | none =>
  obtain ⟨rfl,rfl⟩:=ha rfl
  clear ha hn hcm
  go_enter Tryz.func50,Tryz.ntmps50
  go_wp2
  go_ret
  exact ⟨rfl,rfl⟩
 | some a =>
  clear ha
  have h1 : (n : Int) ≤ (c : Int):=by omega
  go_enter Tryz.func50,Tryz.ntmps50
  go_wp2
  all_goals (go_ret; exact ⟨rfl,rfl⟩)
open Go.RowKit Go.Maps
structure UndoS (w W : World) (p b : Nat) (v : Value) (M : List Tc) : Prop where
 row : W.heap[p]? = some (.cells #[v,.map (some b)] 105 (0,0))
 sp : SpAt W b M
 sole : Sole [b] w W
theorem UndoS.load0 {w W : World} {p b : Nat} {v : Value} {M : List Tc} (h : UndoS w W p b v M) : (Instr.loadAt 102 (.pointer (some ⟨p,0,none⟩))).run Tryz.prog W = .ok v W:=by
 have c : W.cell? ⟨p,0,none⟩ = some v:=by rw [cell_of_row _ _ _ _ _ (0,0) h.row]; rfl
 have u:=Tryz.underlying102
 go_simp
theorem UndoS.load1 {w W : World} {p b : Nat} {v : Value} {M : List Tc} (h : UndoS w W p b v M) : (Instr.loadAt 103 (.pointer (some ⟨p,1,none⟩))).run Tryz.prog W = .ok (.map (some b)) W:=by
 have c : W.cell? ⟨p,1,none⟩ = some (.map (some b)):=by rw [cell_of_row _ _ _ _ _ (0,0) h.row]; rfl
 have u:=Tryz.underlying103
 go_simp
theorem UndoS.below {w W W' : World} {p b : Nat} {v : Value} {M : List Tc} (h : UndoS w W p b v M) (hb : Below W.heap.size W W') : UndoS w W' p b v M :=
 ⟨(hb.block p (Array.getElem?_eq_some_iff.1 h.row).1).trans h.row,h.sp.keep (hb.block b h.sp.lt),h.sole.trans (Sole.of_below hb _)⟩
theorem UndoS.drew {w W : World} {p b : Nat} {v : Value} {M : List Tc} (h : UndoS w W p b v M) : UndoS w W.drew p b v M:=⟨h.row,h.sp.keep rfl,h.sole.trans (Sole.drew _ _)⟩
theorem undo_none {w : World} {p b : Nat} {v : Value} {L : List Tc} (h : SetAt w p b v L) : Calls Tryz.prog 24 #[ptr p,.int .i64 L.length] w fun e w' => e = .returned (.int .i64 0) ∧ AddOut w p b v L w':=by
 have c0:=h.c0
 have hsh:=h.own
 obtain ⟨a,c,rfl⟩:=own_shape h.own
 have hcap : L.length ≤ c ∧ c ≤ maxLen ∧ (a = none → L.length = 0 ∧ c = 0):=by
  obtain ⟨_,⟨e,h2⟩ | ⟨g,cap,cur,e,_,_,h5,h6,_⟩⟩:=hsh
  ·simp only [Value.slice.injEq] at e; exact ⟨by omega,by unfold maxLen; omega,fun _ => ⟨h2,e.2.2⟩⟩
  ·simp only [Value.slice.injEq,true_and] at e; exact ⟨by omega,by omega,fun q => by rw [e.1] at q; cases q⟩
 unfold ptr
 have hd:=fun W => del_none W a L.length c hcap.1 hcap.2.1 hcap.2.2
 have hp:=h.row
 have HH : Hid (SetAt w p b (.slice a L.length c) L):=h
 have hNc : (L.length : Int) ≤ (c : Int):=by omega
 have hn0 : ¬ ((L.length : Int) < 0):=by omega
 obtain ⟨N,hN⟩ : ∃ N,L.length = N:=⟨_,rfl⟩
 rw [hN] at c0 hd hp hNc hn0 HH ⊢
 clear h hsh hcap
 have HN : Hid (L.length = N):=hN
 clear hN
 by_cases hcN : N = c
 ·subst hcN
  go_enter Tryz.func24,Tryz.ntmps24
  go_wp2
  go_loopg [25] N (fun kx s25 wr => ∃ i : Nat,s25 = .int .i64 i ∧ i ≤ kx ∧ Hid (i = 0 ∧ w = wr))
  case atStart => exact ⟨0,rfl,Nat.zero_le _,rfl,rfl⟩
  case round =>
   obtain ⟨i,rfl,_,hw⟩:=hrel
   have hi0 : i = 0:=hw.out.1
   have hwr : w = wr:=hw.out.2
   clear hw
   subst hi0
   subst hwr
   have q1 : ∀ W,Sole [] w W → W.heap[p]? = some (.cells #[.slice a N N,.map (some b)] 105 (0,0)):=fun W hW => (hW.block p (Array.getElem?_eq_some_iff.1 hp).1 (by simp)).trans hp
   have q1l : ∀ W,Sole [] w W → (Instr.loadAt 102 (.pointer (some ⟨p,0,none⟩))).run Tryz.prog W = .ok (.slice a N N) W:=fun W hW => by
    have c : W.cell? ⟨p,0,none⟩ = some (.slice a N N):=by rw [cell_of_row _ _ _ _ _ (0,0) (q1 W hW)]; rfl
    have u:=Tryz.underlying102
    go_simp
   go_wp2_with fail
   refine wp_region_noPanic ?_
   refine wp_region_sink 14 (S:=fun W => Sole [] w W) (by kernel_rfl) (by kernel_rfl) (Sole.drew _ _) (fun hHeld => ?_)
   refine tk 0 (.pointer (some ⟨p,0,none⟩)) rfl ?_
   try simp only [nz]
   refine tk 1 (.pointer (some ⟨p,0,none⟩)) rfl ?_
   try simp only [nz]
   refine tk 2 (.pointer (some ⟨p,0,none⟩)) rfl ?_
   try simp only [nz]
   refine tk 3 (.pointer (some ⟨p,0,none⟩)) rfl ?_
   try simp only [nz]
   refine wpAnyH_take (i:=4) (v:=.slice a N N) rfl (by kernel_rfl) (by kernel_rfl) (by kernel_rfl) (fun _ _ _ h => h) (yields_load (by rfl) _ _ rfl _ rfl _ q1l) (by assumption) ?_
   try simp only [nz]
   refine tk 5 (.int .i64 N) rfl ?_
   try simp only [nz]
   refine tk 6 (.pointer (some ⟨p,0,none⟩)) rfl ?_
   try simp only [nz]
   refine tk 7 (.pointer (some ⟨p,0,none⟩)) rfl ?_
   try simp only [nz]
   refine tk 8 (.pointer (some ⟨p,0,none⟩)) rfl ?_
   try simp only [nz]
   refine wpAnyH_take (i:=9) (v:=.slice a N N) rfl (by kernel_rfl) (by kernel_rfl) (by kernel_rfl) (fun _ _ _ h => h) (yields_load (by rfl) _ _ rfl _ rfl _ q1l) (by assumption) ?_
   try simp only [nz]
   refine tk 10 (.int .i64 N) rfl ?_
   try simp only [nz]
   refine rd 11 rfl (fun K hK => ?_)
   go_simp
   go_wp2_with (go_at_call 50; refine (hd _).mono ?_; rintro e w7 ⟨rfl,rfl⟩)
   refine hK.out _ _ hHeld (fun hHeld4 => ?_)
   clear hK K
   refine tk 12 (.pointer (some ⟨p,0,none⟩)) rfl ?_
   try simp only [nz]
   refine tk 13 (.pointer (some ⟨p,0,none⟩)) rfl ?_
   try simp only [nz]
   have hG7:=q1 _ hHeld4
   have hS7:=hHeld4
   obtain ⟨w7,hw7⟩ : ∃ w7,w.drew = w7:=⟨_,rfl⟩
   rw [hw7] at hG7 hS7 hHeld4 ⊢
   have c72 : w7.cell? ⟨p,0,none⟩ = some (.slice a N N):=by rw [cell_of_row _ _ _ _ _ (0,0) hG7]; rfl
   have f72:=frozen_of_row w7 p 0 _ _ hG7
   have hG8:=heap_setCell_same w7 p 0 _ _ (.slice a N N) hG7
   obtain ⟨w8,hw8⟩ : ∃ w8,w7.setCell ⟨p,0,none⟩ (.slice a N N) = w8:=⟨_,rfl⟩
   have hS78 : Sole [p] w7 w8:=by rw [← hw8]; exact Sole.setCell _ _ (by simp)
   rw [hw8] at hG8
   have HG8 : Hid (w8.heap[p]? = some (.cells #[.slice a N N,.map (some b)] 105 (0,0))):=hG8
   have HS78 : Hid (Sole [p] w7 w8):=hS78
   have HS7 : Hid _:=hS7
   clear hS78 hG8 hS7 hHeld4 hHeld
   refine wpAnyH_done (by kernel_rfl) ?_ _
   refine Behind.run (by rfl) ?_
   go_simp
   go_wp2
   refine NoPanic.normal ?_
   go_wp2
   go_ret
   refine ⟨rfl,.slice a N N,?_,?_⟩
   ·have h:=HH.out
    have hne:=h.bp
    have hb7:=Sole.below HS7.out
    have h7:=h.below hb7
    exact ⟨HG8.out,h7.sp.keep (HS78.out.block b h7.sp.lt (by simpa using hne)),own_keep h7.own HS78.out.size (fun q hq hl => HS78.out.block q hl (by have:=h7.vp hq; simpa using this)),h.ok,h.nd⟩
   ·have k8 : Sole [p] w w8:=(HS7.out.mono (by simp)).trans HS78.out
    exact ⟨k8.os,k8.tape,k8.output,k8.size,fun k hk h1 h2 h3 => k8.block k hk (by simpa using h1),fun k hk => .inl hk⟩
 ·have hcN2 : ¬ c = N:=fun e => hcN e.symm
  go_enter Tryz.func24,Tryz.ntmps24
  go_wp2
  go_loopg [25] N (fun kx s25 wr => ∃ i : Nat,s25 = .int .i64 i ∧ i ≤ kx ∧ Hid (i = 0 ∧ w = wr))
  case atStart => exact ⟨0,rfl,Nat.zero_le _,rfl,rfl⟩
  case round =>
   obtain ⟨i,rfl,_,hw⟩:=hrel
   have hi0 : i = 0:=hw.out.1
   have hwr : w = wr:=hw.out.2
   clear hw
   subst hi0
   subst hwr
   have q1 : ∀ W,Sole [] w W → W.heap[p]? = some (.cells #[.slice a N c,.map (some b)] 105 (0,0)):=fun W hW => (hW.block p (Array.getElem?_eq_some_iff.1 hp).1 (by simp)).trans hp
   have q1l : ∀ W,Sole [] w W → (Instr.loadAt 102 (.pointer (some ⟨p,0,none⟩))).run Tryz.prog W = .ok (.slice a N c) W:=fun W hW => by
    have c : W.cell? ⟨p,0,none⟩ = some (.slice a N c):=by rw [cell_of_row _ _ _ _ _ (0,0) (q1 W hW)]; rfl
    have u:=Tryz.underlying102
    go_simp
   go_wp2_with fail
   refine wp_region_noPanic ?_
   refine wp_region_sink 14 (S:=fun W => Sole [] w W) (by kernel_rfl) (by kernel_rfl) (Sole.drew _ _) (fun hHeld => ?_)
   refine tk 0 (.pointer (some ⟨p,0,none⟩)) rfl ?_
   try simp only [nz]
   refine tk 1 (.pointer (some ⟨p,0,none⟩)) rfl ?_
   try simp only [nz]
   refine tk 2 (.pointer (some ⟨p,0,none⟩)) rfl ?_
   try simp only [nz]
   refine tk 3 (.pointer (some ⟨p,0,none⟩)) rfl ?_
   try simp only [nz]
   refine wpAnyH_take (i:=4) (v:=.slice a N c) rfl (by kernel_rfl) (by kernel_rfl) (by kernel_rfl) (fun _ _ _ h => h) (yields_load (by rfl) _ _ rfl _ rfl _ q1l) (by assumption) ?_
   try simp only [nz]
   refine tk 5 (.int .i64 N) rfl ?_
   try simp only [nz]
   refine tk 6 (.pointer (some ⟨p,0,none⟩)) rfl ?_
   try simp only [nz]
   refine tk 7 (.pointer (some ⟨p,0,none⟩)) rfl ?_
   try simp only [nz]
   refine tk 8 (.pointer (some ⟨p,0,none⟩)) rfl ?_
   try simp only [nz]
   refine wpAnyH_take (i:=9) (v:=.slice a N c) rfl (by kernel_rfl) (by kernel_rfl) (by kernel_rfl) (fun _ _ _ h => h) (yields_load (by rfl) _ _ rfl _ rfl _ q1l) (by assumption) ?_
   try simp only [nz]
   refine tk 10 (.int .i64 N) rfl ?_
   try simp only [nz]
   refine rd 11 rfl (fun K hK => ?_)
   go_simp
   go_wp2_with (go_at_call 50; refine (hd _).mono ?_; rintro e w7 ⟨rfl,rfl⟩)
   refine hK.out _ _ hHeld (fun hHeld4 => ?_)
   clear hK K
   refine tk 12 (.pointer (some ⟨p,0,none⟩)) rfl ?_
   try simp only [nz]
   refine tk 13 (.pointer (some ⟨p,0,none⟩)) rfl ?_
   try simp only [nz]
   have hG7:=q1 _ hHeld4
   have hS7:=hHeld4
   obtain ⟨w7,hw7⟩ : ∃ w7,w.drew = w7:=⟨_,rfl⟩
   rw [hw7] at hG7 hS7 hHeld4 ⊢
   have c72 : w7.cell? ⟨p,0,none⟩ = some (.slice a N c):=by rw [cell_of_row _ _ _ _ _ (0,0) hG7]; rfl
   have f72:=frozen_of_row w7 p 0 _ _ hG7
   have hG8:=heap_setCell_same w7 p 0 _ _ (.slice a N c) hG7
   obtain ⟨w8,hw8⟩ : ∃ w8,w7.setCell ⟨p,0,none⟩ (.slice a N c) = w8:=⟨_,rfl⟩
   have hS78 : Sole [p] w7 w8:=by rw [← hw8]; exact Sole.setCell _ _ (by simp)
   rw [hw8] at hG8
   have HG8 : Hid (w8.heap[p]? = some (.cells #[.slice a N c,.map (some b)] 105 (0,0))):=hG8
   have HS78 : Hid (Sole [p] w7 w8):=hS78
   have HS7 : Hid _:=hS7
   clear hS78 hG8 hS7 hHeld4 hHeld
   refine wpAnyH_done (by kernel_rfl) ?_ _
   refine Behind.run (by rfl) ?_
   go_simp
   go_wp2
   refine NoPanic.normal ?_
   go_wp2
   go_ret
   refine ⟨rfl,.slice a N c,?_,?_⟩
   ·have h:=HH.out
    have hne:=h.bp
    have hb7:=Sole.below HS7.out
    have h7:=h.below hb7
    exact ⟨HG8.out,h7.sp.keep (HS78.out.block b h7.sp.lt (by simpa using hne)),own_keep h7.own HS78.out.size (fun q hq hl => HS78.out.block q hl (by have:=h7.vp hq; simpa using this)),h.ok,h.nd⟩
   ·have k8 : Sole [p] w w8:=(HS7.out.mono (by simp)).trans HS78.out
    exact ⟨k8.os,k8.tape,k8.output,k8.size,fun k hk h1 h2 h3 => k8.block k hk (by simpa using h1),fun k hk => .inl hk⟩
theorem take_flat {L : List Tc} {m : Nat} (h : m ≤ L.length) : (L.flatMap tcE).take (m * 5) = (L.take m).flatMap tcE:=by
 conv => lhs; rw [← List.take_append_drop m L]
 rw [List.flatMap_append,List.take_append_of_le_length (by rw [flat_len tc_len,List.length_take]; exact Nat.mul_le_mul_right 5 (by omega)),List.take_of_length_le (by rw [flat_len tc_len,List.length_take]; exact Nat.mul_le_mul_right 5 (by omega))]
theorem cut_sub (L : List Tc) (m i : Nat) : (L.take m ++ L.drop (m + i)).Sublist L:=by
 conv => rhs; rw [← List.take_append_drop m L]
 refine (List.Sublist.refl _).append ?_
 rw [← List.drop_drop]
 exact List.drop_sublist _ _
structure UndoD (w W : World) (p b q : Nat) (v : Value) (M : List Tc) (x : Tc) : Prop where
 u : UndoS w W p b v M
 t : TcAt W q x
theorem UndoD.drew {w W : World} {p b q : Nat} {v : Value} {M : List Tc} {x : Tc} (h : UndoD w W p b q v M x) : UndoD w W.drew p b q v M x:=⟨h.u.drew,⟨h.t.row⟩⟩
theorem undo_some {w : World} {p b : Nat} {v : Value} {L : List Tc} (h : SetAt w p b v L) (m : Nat) (hm : m < L.length) : Calls Tryz.prog 24 #[ptr p,.int .i64 m] w fun e w' => e = .returned (.int .i64 0) ∧ AddOut w p b v (L.take m) w':=by
 have c0:=h.c0
 have hsh:=h.own
 obtain ⟨hl0,⟨e,h2⟩ | ⟨g,c,cur,rfl,_,hg,hnc,hcm,hcs,htk⟩⟩:=hsh
 ·omega
 unfold ptr
 have hp:=h.row
 obtain ⟨n,hn⟩ : ∃ n,L.length = n:=⟨_,rfl⟩
 obtain ⟨K,hK0⟩ : ∃ K,n - m = K:=⟨_,rfl⟩
 have hcm0:=hcm
 unfold maxLen at hcm
 have HH : Hid (SetAt w p b (.slice (some ⟨g,0,none⟩) L.length c) L):=h
 rw [hn] at c0 hp hnc htk HH ⊢
 have HN : Hid (L.length = n ∧ n = m + K ∧ 0 < K):=⟨hn,by omega,by omega⟩
 have hmn : (m : Int) ≤ (n : Int):=by omega
 have hmc : (m : Int) ≤ (c : Int):=by omega
 have hNc : (n : Int) ≤ (c : Int):=by omega
 have hn0 : ¬ ((m : Int) < 0):=by omega
 have hcm' : ¬ c = m:=by omega
 have HT : Hid (cur.toList.take (n * 5) = L.flatMap tcE):=htk
 have hgp : g ≠ p:=h.vp rfl
 have hgb : g ≠ b:=h.vb rfl
 have hbp:=h.bp
 have HO : Hid (cur.size = c * 5 ∧ n ≤ c ∧ c ≤ maxLen):=⟨hcs,hnc,hcm0⟩
 have hu0 : UndoS w w p b (.slice (some ⟨g,0,none⟩) n c) (L.take m ++ L.drop (m + 0)):=⟨hp,by rw [Nat.add_zero,List.take_append_drop]; exact h.sp,Sole.refl _ _⟩
 have HU0 : Hid _:=hu0
 have HRD : Hid (RdZ 5 tcE w (.slice (some ⟨g,0,none⟩) n c) L):=by have:=h.rd; rw [hn] at this; exact this
 have hgl:=(Array.getElem?_eq_some_iff.1 hg).1
 have HG : Hid (w.heap[g]? = some (.cells cur 120 (0,0))):=hg
 have hpl:=h.lt
 clear h hn hm hl0 htk hcs hnc hcm hcm0 hu0 hg
 go_enter Tryz.func24,Tryz.ntmps24
 go_wp2
 go_loopg [25] K (fun kx s25 wr => ∃ i : Nat,s25 = .int .i64 i ∧ i ≤ K ∧ K - i ≤ kx ∧ Hid (UndoS w wr p b (.slice (some ⟨g,0,none⟩) n c) (L.take m ++ L.drop (m + i))))
 case atStart => exact ⟨0,rfl,Nat.zero_le _,by omega,HU0.out⟩
 case round =>
  obtain ⟨i,rfl,hiK,hkx,HU⟩:=hrel
  by_cases hlt : i < K
  ·obtain ⟨x,hx⟩ : ∃ x,L[m + i]? = some x:=⟨_,List.getElem?_eq_getElem (by have:=HN.out; omega)⟩
   have hU:=HU.out
   have hsb:=hU.sole.size
   have hrd : RdZ 5 tcE wr (.slice (some ⟨g,0,none⟩) n c) L:=by
    have:=HRD.out
    refine ⟨?_,this.2⟩
    obtain ⟨⟨a1,c1,e1,k1,k2,k3⟩,_⟩:=this
    refine ⟨a1,c1,e1,k1,k2,fun hne => ?_⟩
    obtain ⟨b1,o1,rfl,hl1,hc1⟩:=k3 hne
    simp only [Value.slice.injEq,Option.some.injEq,Addr.mk.injEq] at e1
    obtain ⟨⟨rfl,rfl,_⟩,_⟩:=e1
    exact ⟨_,_,rfl,Nat.lt_of_lt_of_le hl1 hsb,fun t x j u ht hj => (World.cell?_of_block (hU.sole.block _ hl1 (by simpa using hgb))).trans (hc1 t x j u ht hj)⟩
   have hld:=tc_load hrd hx
   rw [show 0 + (m + i) * 5 = m * 5 + i * 5 by omega] at hld
   have HLD : Hid _:=hld
   have hm5 : (i : Int) < (K : Int):=by omega
   have HX : Hid (L[m + i]? = some x):=hx
   have hib : (i : Int) + 1 ≤ 9223372036854775807:=by
    have a1:=HN.out
    have a2:=HO.out.2.2
    have a3:=HO.out.2.1
    unfold maxLen at a2
    omega
   have hD5 : UndoD w (wr.alloc (.cells #[.int .i64 x.kind,.int .u32 x.ino,.string x.name,.int .i64 x.lo,.int .i64 x.hi] 120)) p b wr.heap.size (.slice (some ⟨g,0,none⟩) n c) (L.take m ++ L.drop (m + i)) x:=⟨hU.below (bel1 _ _),TcAt.laid wr x⟩
   obtain ⟨w5,hw5⟩ : ∃ w5,wr.alloc (.cells #[.int .i64 x.kind,.int .u32 x.ino,.string x.name,.int .i64 x.lo,.int .i64 x.hi] 120) = w5:=⟨_,rfl⟩
   rw [hw5] at hD5
   clear hld hrd hx hU HU
   go_wp2_with (refine wpList_loadG rfl 120 _ rfl _ rfl _ HLD.out ?_)
   have hdr : L.drop (m + i) = x :: L.drop (m + (i + 1)):=by
    rw [← Nat.add_assoc]
    have hlt' : m + i < L.length:=(List.getElem?_eq_some_iff.1 HX.out).1
    rw [List.drop_eq_getElem_cons hlt',(List.getElem?_eq_some_iff.1 HX.out).2]
   have hsp:=hD5.u.drew.sp
   have hsub:=cut_sub L m i
   rw [hdr] at hsp hsub
   obtain ⟨w6,hdel,hsp6,ht6⟩ : ∃ w',(∀ ty,(Builtin.delete_ #[103,120] ty #[.map (some b),.agg (tcC x)]).run Tryz.prog w5.drew = .ok (.tuple #[]) w') ∧ SpAt w' b (L.take m ++ L.drop (m + (i + 1))) ∧ w5.drew.mapTurned w' b:=by
    obtain ⟨w',k1,k2,k3⟩:=hsp.del (fun t ht => HH.out.ok t (hsub.subset ht)) (HH.out.nd.sublist hsub) 0
    exact ⟨w',fun ty => k1,k2,k3⟩
   have HSP6 : Hid _:=hsp6
   have hg6:=ht6.grown
   clear hsp hsub hdr hsp6 ht6
   refine wp_region_noPanic ?_
   refine wp_region_sink 5 (S:=fun W => UndoD w W p b wr.heap.size (.slice (some ⟨g,0,none⟩) n c) (L.take m ++ L.drop (m + i)) x) (by kernel_rfl) (by kernel_rfl) hD5.drew (fun hHeld => ?_)
   refine tk 0 (.pointer (some ⟨p,0,none⟩)) rfl ?_
   try simp only [nz]
   refine tk 1 (.pointer (some ⟨p,0,none⟩)) rfl ?_
   try simp only [nz]
   refine tk 2 (.pointer (some ⟨p,1,none⟩)) rfl ?_
   try simp only [nz]
   refine wpAnyH_take (i:=3) (v:=.map (some b)) rfl (by kernel_rfl) (by kernel_rfl) (by kernel_rfl) (fun _ _ _ h => h) (yields_load (by rfl) _ _ rfl _ rfl _ (fun W h => h.u.load1)) (by assumption) ?_
   try simp only [nz]
   refine wpAnyH_take (i:=4) (v:=.agg (tcC x)) rfl (by kernel_rfl) (by kernel_rfl) (by kernel_rfl) (fun _ _ _ h => h) (yields_load (by rfl) _ _ rfl _ rfl _ (fun W h => h.t.load)) (by assumption) ?_
   try simp only [nz]
   refine wpAnyH_done (by kernel_rfl) ?_ _
   refine Behind.run (by rfl) ?_
   go_simp
   go_wp2
   refine NoPanic.normal ?_
   have hU6 : UndoS w w6 p b (.slice (some ⟨g,0,none⟩) n c) (L.take m ++ L.drop (m + (i + 1))) :=
    ⟨(hg6.block p (Array.getElem?_eq_some_iff.1 hD5.u.row).1 (fun e => hbp (by cases e; rfl))).trans hD5.u.row,HSP6.out,hD5.u.sole.trans ⟨hg6.os,hg6.tape,hg6.output,hg6.size,fun k hk hn => hg6.block k hk (fun e => hn (by cases e; simp))⟩⟩
   have HU6 : Hid _:=hU6
   clear hU6 hg6 hdel HSP6 hD5 hHeld
   go_wp2
   go_roundg (K - (i + 1))
   case measure => omega
   case rel => exact ⟨i + 1,by rw [show ((i : Int) + 1) = ((i + 1 : Nat) : Int) by omega],by omega,by omega,HU6.out⟩
  ·obtain rfl : K = i:=by omega
   have hU:=HU.out
   rw [show L.take m ++ L.drop (m + K) = L.take m by rw [List.drop_of_length_le (by have:=HN.out; omega),List.append_nil]] at hU
   have hpr:=hU.row
   have hgr : wr.heap[g]? = some (.cells cur 120 (0,0)):=(hU.sole.block g hgl (by simpa using hgb)).trans HG.out
   have HUU : Hid _:=hU
   have q1 : ∀ W,Sole [g] wr W → W.heap[p]? = some (.cells #[.slice (some ⟨g,0,none⟩) n c,.map (some b)] 105 (0,0)):=fun W hW => (hW.block p (Array.getElem?_eq_some_iff.1 hpr).1 (by simpa using hgp.symm)).trans hpr
   have q1l : ∀ W,Sole [g] wr W → (Instr.loadAt 102 (.pointer (some ⟨p,0,none⟩))).run Tryz.prog W = .ok (.slice (some ⟨g,0,none⟩) n c) W:=fun W hW => by
    have c : W.cell? ⟨p,0,none⟩ = some (.slice (some ⟨g,0,none⟩) n c):=by rw [cell_of_row _ _ _ _ _ (0,0) (q1 W hW)]; rfl
    have u:=Tryz.underlying102
    go_simp
   have hd:=del_some wr.drew g n c m cur hgr HO.out.1 HO.out.2.1 HO.out.2.2 (by have:=HN.out; omega)
   clear hU HU hkx hiK hlt
   go_wp2_with fail
   refine wp_region_noPanic ?_
   refine wp_region_sink 14 (S:=fun W => Sole [g] wr W) (by kernel_rfl) (by kernel_rfl) (Sole.drew _ _) (fun hHeld => ?_)
   refine tk 0 (.pointer (some ⟨p,0,none⟩)) rfl ?_
   try simp only [nz]
   refine tk 1 (.pointer (some ⟨p,0,none⟩)) rfl ?_
   try simp only [nz]
   refine tk 2 (.pointer (some ⟨p,0,none⟩)) rfl ?_
   try simp only [nz]
   refine tk 3 (.pointer (some ⟨p,0,none⟩)) rfl ?_
   try simp only [nz]
   refine wpAnyH_take (i:=4) (v:=.slice (some ⟨g,0,none⟩) n c) rfl (by kernel_rfl) (by kernel_rfl) (by kernel_rfl) (fun _ _ _ h => h) (yields_load (by rfl) _ _ rfl _ rfl _ q1l) (by assumption) ?_
   try simp only [nz]
   refine tk 5 (.int .i64 m) rfl ?_
   try simp only [nz]
   refine tk 6 (.pointer (some ⟨p,0,none⟩)) rfl ?_
   try simp only [nz]
   refine tk 7 (.pointer (some ⟨p,0,none⟩)) rfl ?_
   try simp only [nz]
   refine tk 8 (.pointer (some ⟨p,0,none⟩)) rfl ?_
   try simp only [nz]
   refine wpAnyH_take (i:=9) (v:=.slice (some ⟨g,0,none⟩) n c) rfl (by kernel_rfl) (by kernel_rfl) (by kernel_rfl) (fun _ _ _ h => h) (yields_load (by rfl) _ _ rfl _ rfl _ q1l) (by assumption) ?_
   try simp only [nz]
   refine tk 10 (.int .i64 n) rfl ?_
   try simp only [nz]
   refine rd 11 rfl (fun K hK => ?_)
   go_simp
   go_wp2_with (go_at_call 50; refine hd.mono ?_; rintro e w7 ⟨rfl,cs,k1,k2,k3,hs7⟩; have hS7 : Sole [g] wr w7:=(Sole.drew _ _).trans hs7)
   refine hK.out _ _ hS7 (fun hHeld4 => ?_)
   clear hK K
   refine tk 12 (.pointer (some ⟨p,0,none⟩)) rfl ?_
   try simp only [nz]
   refine tk 13 (.pointer (some ⟨p,0,none⟩)) rfl ?_
   try simp only [nz]
   have hG7:=q1 _ hHeld4
   have HK : Hid _:=And.intro k1 (And.intro k2 k3)
   clear k1 k2 k3 hs7
   have c72 : w7.cell? ⟨p,0,none⟩ = some (.slice (some ⟨g,0,none⟩) n c):=by rw [cell_of_row _ _ _ _ _ (0,0) hG7]; rfl
   have f72:=frozen_of_row w7 p 0 _ _ hG7
   have hG8:=heap_setCell_same w7 p 0 _ _ (.slice (some ⟨g,0,none⟩) m c) hG7
   obtain ⟨w8,hw8⟩ : ∃ w8,w7.setCell ⟨p,0,none⟩ (.slice (some ⟨g,0,none⟩) m c) = w8:=⟨_,rfl⟩
   have hS78 : Sole [p] w7 w8:=by rw [← hw8]; exact Sole.setCell _ _ (by simp)
   rw [hw8] at hG8
   have HG8 : Hid (w8.heap[p]? = some (.cells #[.slice (some ⟨g,0,none⟩) m c,.map (some b)] 105 (0,0))):=hG8
   have HS78 : Hid (Sole [p] w7 w8):=hS78
   have HS7 : Hid _:=hS7
   clear hS78 hG8 hS7 hHeld4 hHeld
   refine wpAnyH_done (by kernel_rfl) ?_ _
   refine Behind.run (by rfl) ?_
   go_simp
   go_wp2
   refine NoPanic.normal ?_
   go_wp2
   go_ret
   obtain ⟨k1,k2,k3⟩:=HK.out
   have hU:=HUU.out
   refine ⟨rfl,.slice (some ⟨g,0,none⟩) m c,⟨HG8.out,?_,?_,fun t ht => HH.out.ok t (List.mem_of_mem_take ht),HH.out.nd.sublist (List.take_sublist _ _)⟩,?_⟩
   ·have h7 : SpAt w7 b (L.take m):=hU.sp.keep (HS7.out.block b hU.sp.lt (by simpa using hgb.symm))
    exact h7.keep (HS78.out.block b h7.lt (by simpa using hbp))
   ·have hlen : (L.take m).length = m:=by rw [List.length_take]; have:=HN.out; omega
    rw [hlen]
    refine ⟨by rw [flat_len tc_len,hlen],.inr ⟨g,c,cs,rfl,Nat.zero_le _,(HS78.out.block g (Array.getElem?_eq_some_iff.1 k1).1 (by simpa using hgp)).trans k1,by have:=HN.out; have:=HO.out; omega,HO.out.2.2,k2,?_⟩⟩
    have hmn' : m ≤ n:=by have:=HN.out; omega
    rw [k3,← take_flat (by rw [HN.out.1]; exact hmn'),← HT.out,List.take_take,Nat.min_eq_left (Nat.mul_le_mul_right 5 hmn')]
   ·have k8 : Sole [b,g,p] w w8:=((hU.sole.mono (by simp)).trans (HS7.out.mono (by simp))).trans (HS78.out.mono (by simp))
    exact ⟨k8.os,k8.tape,k8.output,k8.size,fun k hk h1 h2 h3 => k8.block k hk (by simp only [List.mem_cons,List.not_mem_nil,or_false,not_or]; exact ⟨h2,fun e => h3 (by rw [e]; rfl),h1⟩),fun k hk => .inl hk⟩
theorem undo_any {w : World} {p b : Nat} {v : Value} {L : List Tc} (h : SetAt w p b v L) (m : Nat) (hm : m ≤ L.length) : Calls Tryz.prog 24 #[ptr p,.int .i64 m] w fun e w' => e = .returned (.int .i64 0) ∧ AddOut w p b v (L.take m) w':=by
 by_cases hlt : m < L.length
 ·exact undo_some h m hlt
 ·obtain rfl : m = L.length:=by omega
  rw [List.take_length]
  exact undo_none h
end Go.Proofs.YtgajjphjkbnaeaaGreat
