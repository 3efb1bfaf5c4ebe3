/- VwMrg: in one text. -/
import Derived.Test.YtgajjphjkbnaeaaGreatQ1
import Derived.Test.YtgajjphjkbnaeaaGreatQ26
import Derived.Test.YtgajjphjkbnaeaaGreatQ5
namespace Go.Proofs.YtgajjphjkbnaeaaGreat
open Go.RowKit
set_option linter.unusedVariables false
set_option maxHeartbeats 32000000
set_option maxRecDepth 100000
set_option linter.unusedSimpArgs false
open Go.RowKit Go.Shelf
attribute [local go_sem] Oper.semAt_some
def cutN (R : List Cg) (s : ByteArray) : Nat:=if fnB R s then fnN R s + 1 else fnN R s
def mstep (x : List ByteArray × List Cg) (s : ByteArray) : List ByteArray × List Cg:=(x.1 ++ setN (x.2.take (cutN x.2 s)) ++ (if fnB x.2 s then [] else [s]),x.2.drop (cutN x.2 s))
def mst (ns : List ByteArray) (C : List Cg) : List ByteArray × List Cg:=ns.foldl mstep ([],C)
def mrgS (ns : List ByteArray) (C : List Cg) : List ByteArray:=(mst ns C).1 ++ setN (mst ns C).2
theorem mst_snoc (ns : List ByteArray) (C : List Cg) (s : ByteArray) : mst (ns ++ [s]) C = mstep (mst ns C) s:=by unfold mst; rw [List.foldl_append]; rfl
theorem mst_up : ∀ (t : List ByteArray) (x : List ByteArray × List Cg),x.1 <+: (t.foldl mstep x).1
 | [],x => List.prefix_refl _
 | s :: t,x => by
  rw [List.foldl_cons]
  refine List.IsPrefix.trans ?_ (mst_up t _)
  unfold mstep
  dsimp only
  rw [List.append_assoc]
  exact List.prefix_append _ _
theorem mst_pre (C : List Cg) {pre ns : List ByteArray} (h : pre <+: ns) : (mst pre C).1 <+: mrgS ns C:=by
 obtain ⟨t,rfl⟩:=h
 unfold mrgS mst
 rw [List.foldl_append]
 exact (mst_up t _).trans (List.prefix_append _ _)
theorem cutN_le (R : List Cg) (s : ByteArray) : cutN R s ≤ R.length:=by
 unfold cutN
 have:=fnN_le R s
 cases h : fnB R s
 ·simpa using this
 ·have : fnN R s < R.length:=by
   unfold fnB at h
   cases hp : R[fnN R s]? with
   | none => rw [hp] at h; cases h
   | some c => exact (List.getElem?_eq_some_iff.1 hp).1
  simp; omega
theorem mst_ok (C : List Cg) (ns : List ByteArray) : (∃ k,(mst ns C).2 = C.drop k) ∧ (mst ns C).1.length + (mst ns C).2.length ≤ ns.length + C.length:=by
 suffices h : ∀ (ns : List ByteArray) (x : List ByteArray × List Cg),(∃ k,x.2 = C.drop k) → (∃ k,(ns.foldl mstep x).2 = C.drop k) ∧ (ns.foldl mstep x).1.length + (ns.foldl mstep x).2.length ≤ ns.length + (x.1.length + x.2.length) by
  have:=h ns ([],C) ⟨0,rfl⟩
  simpa [mst] using this
 intro ns
 induction ns with
 | nil => intro x hx; exact ⟨hx,by simp⟩
 | cons s ns ih =>
  intro x hx
  obtain ⟨k,hk⟩:=hx
  obtain ⟨h1,h2⟩:=ih (mstep x s) ⟨k + cutN x.2 s,by unfold mstep; rw [hk,List.drop_drop]⟩
  refine ⟨h1,?_⟩
  have h3 : (mstep x s).1.length + (mstep x s).2.length ≤ x.1.length + x.2.length + 1:=by
   unfold mstep
   have a1:=setN_len (x.2.take (cutN x.2 s))
   have a2:=cutN_le x.2 s
   rw [List.length_take] at a1
   simp only [List.length_append,List.length_drop]
   split <;> simp <;> omega
  rw [List.foldl_cons,List.length_cons]
  omega
theorem merged_any (w : World) (gf : Nat) (lb : Array Value) (a : Option Addr) (len cap : Nat) : Calls Tryz.prog 88 #[.func (.func gf) #[] lb,.slice a len cap] w fun e w' =>
  e = .returned (.func (.func 100) #[] #[.pointer (some ⟨w.heap.size + 1,0,none⟩),.pointer (some ⟨w.heap.size,0,none⟩)]) ∧ w' = (w.alloc (.cells #[.func (.func gf) #[] lb] 156)).alloc (.cells #[.slice a len cap] 173):=by
 go_enter Tryz.func88,Tryz.ntmps88
 go_wp2
 go_ret
 exact ⟨rfl,rfl⟩
def RestAt (xv : List Nat) (n₀ : Nat) (X : World) (b : Nat) (R : List Cg) : Prop:=∃ a n c,Boxed X b 173 (.slice a n c) ∧ RdC X (.slice a n c) R ∧ (∀ ad,a = some ad → ad.block < n₀ ∧ ad.block ∉ xv) ∧ n ≤ c ∧ c ≤ maxLen
theorem cutC_low {xv : List Nat} {a : Option Addr} {c t n₀ : Nat} (h : ∀ ad,a = some ad → ad.block < n₀ ∧ ad.block ∉ xv) : ∀ ad,cutC a c t = some ad → ad.block < n₀ ∧ ad.block ∉ xv:=fun ad e => by
 unfold cutC at e
 split at e
 ·exact h ad e
 ·cases a with
  | none => cases e
  | some d =>
   simp only [Option.map_some,Option.some.injEq] at e
   have hb : (d.add (t * 46)).block = d.block:=by unfold Addr.add; split <;> rfl
   rw [← e,hb]
   exact h d rfl
theorem RdC.low {xv : List Nat} {n₀ : Nat} {w w' : World} {a : Option Addr} {n c : Nat} {B : List Cg} (h : RdC w (.slice a n c) B) (hl : ∀ g off,a = some ⟨g,off,none⟩ → g < n₀ ∧ g ∉ xv) (hb : BelX xv n₀ w w') : RdC w' (.slice a n c) B:=by
 obtain ⟨a',c',e,h1,h2⟩:=h
 simp only [Value.slice.injEq] at e
 obtain ⟨rfl,rfl,rfl⟩:=e
 refine ⟨_,_,rfl,h1,fun hp => ?_⟩
 obtain ⟨g,off,e,h3,h4⟩:=h2 hp
 have hg:=hl g off e
 exact ⟨g,off,e,Nat.lt_of_lt_of_le h3 hb.size,fun j x hj => (hb.cell (p:=⟨g,off + j,none⟩) hg.1 hg.2).trans (h4 j x hj)⟩
theorem wpListIn_sliceC {F : Fence} {m : Nat} {w : World} {ops : Array Oper} {rest : List Oper} {o : Oper} {a : Act} {Q : Exit → Act → World → Prop} (hgd : o.guard = none) (x lo : Operand) (ho : o.op = .slice 173 x (some lo) none none) (ua : Option Addr) (n uc i : Nat) (hx : a.eval x = .slice ua n uc) (hlo : a.eval lo = .int .i64 i) (hi : i ≤ n) (hc : n ≤ uc) (hn : ua = none → uc = 0)
  (h : wpListIn F m Tryz.prog ops Q rest (a.put o.dst (.slice (cutC ua uc i) (n - i) (uc - i))) w) : wpListIn F m Tryz.prog ops Q (o :: rest) a w:=by
 refine wpListIn_plain hgd fun K' hK' => ?_
 have hr:=cut_run w ua n uc i hi hc hn
 unfold Oper.wpIn
 refine ⟨by simp [Oper.about,ho],?_⟩
 rw [Oper.semAt_plain F _ _ (by rw [ho]; intro c hc; cases hc)]
 simp only [execOp,ho,Sem.run_bind,Sem.run_pure,Result.andThen_ok,Option.map_some,Option.map_none,hx,hlo,hr]
 exact hK' _ _ h
theorem merged_own (xv : List Nat) (n : Nat) (gf : Nat) (lb : Array Value) (eg : ∀ args w,(callFunc gf args).run Tryz.prog w = .ok (.enter gf args) w) (B1 B2 : Nat) (C : List Cg) (hC : ∀ c ∈ C,CgOk c) (hN8 : ∀ c ∈ C,c.pl.name.size ≤ 8) (hsort : ∀ k s,SortN (C.drop k) s) (a : Option Addr) (len cap : Nat) (ns : List ByteArray) (N : Nat) (n₀ : Nat) (w : World) (hB1 : B1 < n₀) (hB2 : B2 < n₀) (hn₀ : n₀ ≤ w.heap.size)
  (hc1 : w.cell? ⟨B1,0,none⟩ = some (.slice a len cap)) (hc2 : w.cell? ⟨B2,0,none⟩ = some (.func (.func gf) #[] lb)) (hrd : RdC w (.slice a len cap) C) (hlow : ∀ ad,a = some ad → ad.block < n₀ ∧ ad.block ∉ xv) (hnc : len ≤ cap) (hcm : cap ≤ maxLen) (hsm : C.length ≤ 1000)
  (hseq : ∀ m,SeqOwn m Tryz.prog gf lb nmE (TV xv) n₀ (fun ys => ys = ns) (fun pre => pre <+: ns) N w) (hNl : ns.length ≤ N) (M : Nat) (hM : N + C.length ≤ M) :
  SeqOwn n Tryz.prog 100 #[.pointer (some ⟨B1,0,none⟩),.pointer (some ⟨B2,0,none⟩)] nmE (TV xv) n₀ (fun ys => ys = mrgS ns C) (fun pre => pre <+: mrgS ns C) M w:=fun L J Jx W n₁ hW hn₁ hJ hJx hJt hJxt hY h0 => by
 have hws:=hW.size
 have bA : Below W.heap.size W ((W.alloc (.cells #[.func (.yield L) #[] #[]] 182)).alloc (.cells #[.slice a len cap] 173)):=((Below.refl _ W).alloc (Nat.le_refl _) _).alloc (by simp) _
 have bX : Boxed ((W.alloc (.cells #[.func (.yield L) #[] #[]] 182)).alloc (.cells #[.slice a len cap] 173)) W.heap.size 182 (.func (.yield L) #[] #[]):=(Boxed.new W _ _).alloc _
 have bR : Boxed ((W.alloc (.cells #[.func (.yield L) #[] #[]] 182)).alloc (.cells #[.slice a len cap] 173)) (W.heap.size + 1) 173 (.slice a len cap):=by
  have:=Boxed.new (W.alloc (.cells #[.func (.yield L) #[] #[]] 182)) 173 (.slice a len cap)
  rwa [World.size_alloc] at this
 have hsz : ((W.alloc (.cells #[.func (.yield L) #[] #[]] 182)).alloc (.cells #[.slice a len cap] 173)).heap.size = W.heap.size + 2:=by simp
 have d1:=((hW.trans (((Below.refl _ W).alloc (Nat.le_refl _) (.cells #[.func (.yield L) #[] #[]] 182)).mono hws)).cell (p:=⟨B1,0,none⟩) (by show B1 < _; omega)).trans hc1
 obtain ⟨W2,hW2⟩ : ∃ W2,(W.alloc (.cells #[.func (.yield L) #[] #[]] 182)).alloc (.cells #[.slice a len cap] 173) = W2:=⟨_,rfl⟩
 rw [hW2] at bA bX bR hsz
 have hbw : Below w.heap.size w W2:=hW.trans (bA.mono hws)
 have hJ2:=own_next hJ h0 bA
 have d2:=(hbw.cell (p:=⟨B2,0,none⟩) (by show B2 < _; omega)).trans hc2
 have hrd2:=hrd.below hbw
 refine callsIn_of_wp_marks Tryz.func100 rfl trivial ?_ rfl
 simp only [Tryz.ntmps100,List.size_toArray,List.length_cons,List.length_nil,Nat.reduceAdd,Nat.reduceSub,Array.replicate_succ,Array.replicate_zero,List.push_toArray,List.append_toArray,List.nil_append,List.cons_append]
 gi_wp2
 refine range_own (gf:=gf) (lb:=lb) rfl eg (hseq _) hbw (by omega) (fun _ => rfl)
  (fun pre X => J (mst pre C).1 X ∧ RestAt xv n₀ X (W.heap.size + 1) (mst pre C).2 ∧ Boxed X W.heap.size 182 (.func (.yield L) #[] #[]) ∧ BelX xv n₀ W2 X)
  (fun c pre X => c = .ret ∧ ∃ q,Jx q X ∧ q <+: (mst pre C).1)
  ?ownI ?ownX ?abI ?abX ⟨hJ2,⟨_,_,_,bR,hrd2,hlow,hnc,hcm⟩,bX,BelX.refl _ _ _⟩
  (fun x a' X => a' = { tmps:=#[.func (.yield L) #[] #[],.pointer (some ⟨B1,0,none⟩),.pointer (some ⟨B2,0,none⟩),.pointer (some ⟨W.heap.size,0,none⟩),.pointer (some ⟨W.heap.size + 1,0,none⟩),.string x,.int .i64 0,undef,undef,.slice a len cap,.func (.func gf) #[] lb,.string x,.int .i64 0,undef,undef,undef,undef,undef,undef,undef,undef,undef,undef,undef,undef,undef,undef,undef,undef,undef,undef,undef,undef,undef,undef,undef,undef,undef,undef,undef,undef,undef,undef,undef,undef,undef,undef,undef,undef],defers:=[] })
  ?ownA ?assign ?body ?done ?stop
 case ownI =>
  intro s X X' row hs hg hr
  obtain ⟨h1,⟨a',n',c',h2,h3,h4,h5⟩,h6,h7⟩:=hs
  have hb:=own_belX (β:=Unit) (n₀:=n₀) (B:=W2.heap.size) (w₀:=W2) (by omega) (by omega) () X X' row h7 hg hr
  refine ⟨own_up hJ (by omega) _ X X' row h1 hg hr,⟨a',n',c',own_box (β:=Unit) _ _ _ _ () X X' row h2 hg hr,?_,h4,h5⟩,own_box (β:=Unit) _ _ _ _ () X X' row h6 hg hr,hb⟩
  refine h3.low (fun g off e => h4 _ e) ⟨hg.os,hg.tape,hg.output,hg.size,fun k hk _ => hg.block k (by have:=h7.size; omega) (fun e => by have:=(hr k e.symm).1; omega)⟩
 case ownX =>
  intro c s X X' row hs hg hr
  obtain ⟨h1,q,h5,h6⟩:=hs
  exact ⟨h1,q,own_up hJx (by omega) q X X' row h5 hg hr,h6⟩
 case abI =>
  rintro s X b cs ty v ⟨h1,⟨a',n',c',h2,h3,h4,h5⟩,h6,h7⟩ hb ht e
  have hbs:=(BelX.refl xv n₀ X).setCell (p:=⟨b,0,none⟩) (by show n₀ ≤ b; omega) v
  exact ⟨hJt _ X b cs ty v h1 (by omega) ht e,⟨a',n',c',(heap_setCell_other X ⟨b,0,none⟩ _ v (by show W.heap.size + 1 ≠ b; omega)).trans h2,h3.low (fun g off e => h4 _ e) hbs,h4,h5⟩,(heap_setCell_other X ⟨b,0,none⟩ _ v (by show W.heap.size ≠ b; omega)).trans h6,h7.trans hbs⟩
 case abX =>
  rintro c s X b cs ty v ⟨h1,q,h5,h6⟩ hb ht e
  exact ⟨h1,q,hJxt _ X b cs ty v h5 (by omega) ht e,h6⟩
 case ownA => exact fun x a' s X X' row hs hg hr => hs
 case assign =>
  rintro l' pre x X K hi hK
  unfold nmE
  gi_wp2
  exact hK _ _ (KeepsFrom.refl _ _) (KpN.refl _ _ _) hi rfl
 case body =>
  rintro l' pre x a' X hV hl ⟨h1,⟨ra,rn,rc,h2,h3,h4,h5,h6⟩,h7,h8⟩ rfl hlen
  obtain ⟨⟨k,hk⟩,hml⟩:=mst_ok C pre
  have hsn:=mst_snoc pre C x
  obtain ⟨O,hO⟩ : ∃ O,(mst pre C).1 = O:=⟨_,rfl⟩
  obtain ⟨R,hR0⟩ : ∃ R,(mst pre C).2 = R:=⟨_,rfl⟩
  have hmk : mst pre C = (O,R):=by rw [← hO,← hR0]
  rw [hmk] at hsn
  rw [hO] at h1 hml
  rw [hR0] at h3 hk hml
  have hxs:=h8.size
  have e3:=h7.cell
  have e4:=h2.cell
  have hRok : ∀ c ∈ R,CgOk c:=fun c hc => hC c (by rw [hk] at hc; exact List.mem_of_mem_drop hc)
  have HR8 : Hid (∀ c ∈ R,c.pl.name.size ≤ 8):=fun c hc => hN8 c (by rw [hk] at hc; exact List.mem_of_mem_drop hc)
  have hrl : R.length = rn:=(h3.range hRok).1
  have hRl : R.length ≤ C.length:=by rw [hk,List.length_drop]; omega
  have cb:=bsearchN_any X ra rn rc R x hRok h3 h5 h6 (by rw [hk]; exact hsort k x) (by omega)
  gi_wp2
  refine ⟨trivial,(fun h => by cases h),?_⟩
  refine (CallsIn.inRound l' (callsIn_wide.2 cb)).mono ?_
  rintro e w5 ⟨rfl,hb5⟩
  clear cb
  have hcl:=cutN_le R x
  have h15:=own_next hJ h1 hb5
  have h25 : Boxed w5 (W.heap.size + 1) 173 (.slice ra rn rc):=(hb5.block _ h2.lt).trans h2
  have h75 : Boxed w5 W.heap.size 182 (.func (.yield L) #[] #[]):=(hb5.block _ h7.lt).trans h7
  have h35:=h3.below hb5
  have k5 : KpN (TV xv) n₀ n₁ X w5:=KpN.of_below hb5 (by omega)
  have h85:=h8.trans k5.bel
  have hmx : Tryz.prog.follows .mixedOrders = true:=by kernel_rfl
  have hs5:=h85.size
  have hTok : ∀ c ∈ R.take (cutN R x),CgOk c:=fun c hc => hRok c (List.mem_of_mem_take hc)
  have htd:=(rdC_to hRok h35 (cutN R x) (by omega)).below (Below.refl _ w5).drew
  have h15d:=own_next hJ h15 (Below.refl _ w5).drew
  have h75d : Boxed w5.drew W.heap.size 182 (.func (.yield L) #[] #[]):=h75
  have h25d : Boxed w5.drew (W.heap.size + 1) 173 (.slice ra rn rc):=h25
  have h35d:=h35.below (Below.refl _ w5).drew
  have k5d : KpN (TV xv) n₀ n₁ X w5.drew:=k5.trans (KpN.of_below (Below.refl _ w5).drew (by omega))
  have f3:=h75d.cell
  have f4:=h25d.cell
  cases hB : fnB R x
  ·obtain ⟨cu,hcu⟩ : ∃ cu,cutN R x = cu:=⟨_,rfl⟩
   have hfn : fnN R x = cu:=by rw [← hcu]; unfold cutN; rw [hB]; rfl
   have hms : mstep (O,R) x = (O ++ setN (R.take cu) ++ [x],R.drop cu):=by unfold mstep; dsimp only; rw [hcu,hB]; rfl
   rw [hcu] at hcl htd hTok
   rw [hfn]
   clear hfn hcu
   have hci : (cu : Int) ≤ rn:=by omega
   have hci2 : (cu : Int) ≤ rc:=by omega
   gi_wp2
   refine wpIn_region_any hmx ?_
   refine wpAny_inRound rfl (by kernel_rfl) _ _ _ _ ?_
   change wpAnyIn _ _ _ _ _ _ _ _ _ (World.drew _)
   refine wpAnyIn_take (i:=1) (v:=.int .i64 (cu : Int)) rfl rfl (by kernel_rfl) (by kernel_rfl) (by kernel_rfl) (fun _ _ _ h => h) ⟨Or.inl ⟨by rfl,fun w => by go_simp⟩,fun _ => rfl⟩ ?_
   try simp only [nz]
   refine wpAnyIn_ready (rs:=[0,3]) (by kernel_rfl) (by simp) ?_
   refine AllReadyIn.cons rfl (fun K hK => ?_) (AllReadyIn.cons rfl (fun K hK => ?_) AllReadyIn.nil)
   ·go_simp
    refine hK _ _ ?_
    clear hK K
    refine wpAnyIn_take (i:=2) (v:=.slice ra cu rc) rfl rfl (by kernel_rfl) (by kernel_rfl) (by kernel_rfl) (fun _ _ _ h => h) ⟨Or.inl ⟨by rfl,fun w => by (go_simp; try omega)⟩,fun _ => rfl⟩ ?_
    try simp only [nz]
    refine wpAnyIn_ready (rs:=[3]) (by kernel_rfl) (by simp) ?_
    refine AllReadyIn.cons rfl (fun K hK => ?_) AllReadyIn.nil
    go_simp
    refine hK _ _ ?_
    clear hK K
    refine wpAnyIn_ready (rs:=[4]) (by kernel_rfl) (by simp) ?_
    refine AllReadyIn.cons rfl (fun K hK => ?_) AllReadyIn.nil
    go_simp
    refine ⟨trivial,(fun h => by cases h),?_⟩
    refine (tellSet_in (n:=n - 1 - 1 - 1) (M:=M) (Jx:=Jx) O (R.take cu) hTok (fun c hc => HR8.out c (List.mem_of_mem_take hc)) ra cu rc w5.drew (by show n₀ ≤ w5.heap.size; omega) hJ htd (fun g off e => h4 _ e) (by omega) h6 (by rw [List.length_take]; omega) hY h15d).mono ?_
    rintro e w6 ⟨k6,(⟨rfl,hJ6⟩ | ⟨rfl,q,hq,hqp⟩)⟩
    ·refine hK _ _ ?_
     clear hK K
     refine wpAnyIn_take (i:=5) (v:=.bool false) rfl rfl (by kernel_rfl) (by kernel_rfl) (by kernel_rfl) (fun _ _ _ h => h) ⟨Or.inl ⟨by rfl,fun w => by go_simp⟩,fun _ => rfl⟩ ?_
     try simp only [nz]
     refine wpAnyIn_take (i:=6) (v:=.bool false) rfl rfl (by kernel_rfl) (by kernel_rfl) (by kernel_rfl) (fun _ _ _ h => h) ⟨Or.inl ⟨by rfl,fun w => by go_simp⟩,fun _ => rfl⟩ ?_
     try simp only [nz]
     refine wpAnyIn_take (i:=7) (v:=.bool false) rfl rfl (by kernel_rfl) (by kernel_rfl) (by kernel_rfl) (fun _ _ _ h => h) ⟨Or.inl ⟨by rfl,fun w => by go_simp⟩,fun _ => rfl⟩ ?_
     try simp only [nz]
     refine wpAnyIn_take (i:=8) (v:=.bool true) rfl rfl (by kernel_rfl) (by kernel_rfl) (by kernel_rfl) (fun _ _ _ h => h) ⟨Or.inl ⟨by rfl,fun w => by go_simp⟩,fun _ => rfl⟩ ?_
     try simp only [nz]
     refine wpAnyIn_take (i:=9) (v:=.bool true) rfl rfl (by kernel_rfl) (by kernel_rfl) (by kernel_rfl) (fun _ _ _ h => h) ⟨Or.inl ⟨by rfl,fun w => by go_simp⟩,fun _ => rfl⟩ ?_
     try simp only [nz]
     refine wpAnyIn_take (i:=11) (v:=.string x) rfl rfl (by kernel_rfl) (by kernel_rfl) (by kernel_rfl) (fun _ _ _ h => h) ⟨Or.inl ⟨by rfl,fun w => by go_simp⟩,fun _ => rfl⟩ ?_
     try simp only [nz]
     have h76 : Boxed w6 W.heap.size 182 (.func (.yield L) #[] #[]):=k6.typ _ _ _ _ hn₁ (by unfold TV; simp) h75d
     have h26 : Boxed w6 (W.heap.size + 1) 173 (.slice ra rn rc):=k6.typ _ _ _ _ (by omega) (by unfold TV; simp) h25d
     have h36:=h35d.low (fun g off e => h4 _ e) k6.bel
     have g3:=h76.cell
     have hlj : (O ++ setN (R.take cu)).length < M:=by
      have:=setN_len (R.take cu)
      rw [List.length_append]
      rw [List.length_take] at this
      omega
     obtain ⟨fn,tmps,assign,body,hy,hRo⟩:=hY _ x w6 hV hJ6 hlj
     unfold nmE at hy
     refine wpAnyIn_ready (rs:=[10]) (by kernel_rfl) (by simp) ?_
     refine AllReadyIn.cons rfl (fun K hK => ?_) AllReadyIn.nil
     go_simp
     refine hK _ _ ?_
     clear hK K
     refine wpAnyIn_ready (rs:=[12]) (by kernel_rfl) (by simp) ?_
     refine AllReadyIn.cons rfl (fun K hK => ?_) AllReadyIn.nil
     go_simp
     refine ⟨(fun h => by cases h),(round_wide hRo).mono ?_⟩
     rintro e w7 (⟨rfl,hJ7,k7⟩ | ⟨rfl,hJx7,k7⟩)
     ·refine hK _ _ ?_
      clear hK K
      refine wpAnyIn_take (i:=13) (v:=.bool false) rfl rfl (by kernel_rfl) (by kernel_rfl) (by kernel_rfl) (fun _ _ _ h => h) ⟨Or.inl ⟨by rfl,fun w => by go_simp⟩,fun _ => rfl⟩ ?_
      try simp only [nz]
      refine wpAnyIn_take (i:=14) (v:=.bool false) rfl rfl (by kernel_rfl) (by kernel_rfl) (by kernel_rfl) (fun _ _ _ h => h) ⟨Or.inl ⟨by rfl,fun w => by go_simp⟩,fun _ => rfl⟩ ?_
      try simp only [nz]
      refine wpAnyIn_take (i:=15) (v:=.bool false) rfl rfl (by kernel_rfl) (by kernel_rfl) (by kernel_rfl) (fun _ _ _ h => h) ⟨Or.inl ⟨by rfl,fun w => by go_simp⟩,fun _ => rfl⟩ ?_
      try simp only [nz]
      refine wpAnyIn_done (by kernel_rfl) ?_ _
      have z2 : Boxed w7 (W.heap.size + 1) 173 (.slice ra rn rc):=k7.typ _ _ _ _ (by omega) (by unfold TV; simp) h26
      have z7 : Boxed w7 W.heap.size 182 (.func (.yield L) #[] #[]):=k7.typ _ _ _ _ hn₁ (by unfold TV; simp) h76
      have zr : RdC w7 (.slice ra rn rc) R:=h36.low (fun g off e => h4 _ e) k7.bel
      have zc:=z2.cell
      have zf:=z2.frozen
      have hun : ra = none → rc = 0:=fun e => by obtain ⟨a',c',e',z1,_⟩:=zr; simp only [Value.slice.injEq] at e'; obtain ⟨rfl,_,rfl⟩:=e'; exact z1 e
      have zd:=rdC_cut hRok zr cu (by omega) h5
      have hkk : KpN (TV xv) n₀ n₁ X w7:=(k5d.trans k6).trans k7
      have hzs:=hkk.bel.size
      have kset : KpN (TV xv) n₀ (W2.heap.size + 2) w7 (w7.setCell ⟨W.heap.size + 1,0,none⟩ (.slice (cutC ra rc cu) (rn - cu) (rc - cu))):=KpN.setCell w7 _ (by omega) (by omega)
      have kall:=(hkk.up (show n₁ ≤ W2.heap.size + 2 by omega)).trans kset
      have hwl : ∀ ad,cutC ra rc cu = some ad → ad.block < n₀ ∧ ad.block ∉ xv:=cutC_low h4
      have zI : (fun pre X => J (mst pre C).1 X ∧ RestAt xv n₀ X (W.heap.size + 1) (mst pre C).2 ∧ Boxed X W.heap.size 182 (.func (.yield L) #[] #[]) ∧ BelX xv n₀ W2 X) (pre ++ [x]) (w7.setCell ⟨W.heap.size + 1,0,none⟩ (.slice (cutC ra rc cu) (rn - cu) (rc - cu))):=by
       dsimp only
       rw [hsn,hms]
       exact ⟨hJt _ w7 (W.heap.size + 1) _ _ _ hJ7 (by omega) (by unfold TV; simp) z2,⟨_,_,_,z2.set _,zd.low (fun g off e => hwl _ e) kset.bel,hwl,by omega,by unfold maxLen at h6 ⊢; omega⟩,(heap_setCell_other w7 ⟨W.heap.size + 1,0,none⟩ _ _ (by show W.heap.size ≠ W.heap.size + 1; omega)).trans z7,h8.trans kall.bel⟩
      have kfr : KeepsFrom W2.heap.size X (w7.setCell ⟨W.heap.size + 1,0,none⟩ (.slice (cutC ra rc cu) (rn - cu) (rc - cu))):=(from_up hkk.non (by omega)).trans ((KeepsOthers.setCell w7 ⟨W.heap.size + 1,0,none⟩ _).from _)
      gi_wp2_with (refine wpListIn_sliceC rfl _ _ rfl ra rn rc cu rfl rfl (by omega) h5 hun ?_)
      first | exact ⟨kfr,kall,zI⟩ | (rw [hsz] at kfr kall; exact ⟨kfr,kall,zI⟩)
     ·refine hK _ _ ?_
      clear hK K
      refine wpAnyIn_take (i:=13) (v:=.bool true) rfl rfl (by kernel_rfl) (by kernel_rfl) (by kernel_rfl) (fun _ _ _ h => h) ⟨Or.inl ⟨by rfl,fun w => by go_simp⟩,fun _ => rfl⟩ ?_
      try simp only [nz]
      refine wpAnyIn_take (i:=14) (v:=.bool true) rfl rfl (by kernel_rfl) (by kernel_rfl) (by kernel_rfl) (fun _ _ _ h => h) ⟨Or.inl ⟨by rfl,fun w => by go_simp⟩,fun _ => rfl⟩ ?_
      try simp only [nz]
      refine wpAnyIn_take (i:=15) (v:=.bool true) rfl rfl (by kernel_rfl) (by kernel_rfl) (by kernel_rfl) (fun _ _ _ h => h) ⟨Or.inl ⟨by rfl,fun w => by go_simp⟩,fun _ => rfl⟩ ?_
      try simp only [nz]
      refine wpAnyIn_done (by kernel_rfl) ?_ _
      have kz:=(k5d.trans k6).trans k7
      gi_wp2
      exact ⟨from_up kz.non (by omega),kz.up (by omega),rfl,_,hJx7,by rw [hsn,hms]; exact List.prefix_refl _⟩
    ·refine hK _ _ ?_
     clear hK K
     refine wpAnyIn_take (i:=5) (v:=.bool true) rfl rfl (by kernel_rfl) (by kernel_rfl) (by kernel_rfl) (fun _ _ _ h => h) ⟨Or.inl ⟨by rfl,fun w => by go_simp⟩,fun _ => rfl⟩ ?_
     try simp only [nz]
     refine wpAnyIn_take (i:=6) (v:=.bool true) rfl rfl (by kernel_rfl) (by kernel_rfl) (by kernel_rfl) (fun _ _ _ h => h) ⟨Or.inl ⟨by rfl,fun w => by go_simp⟩,fun _ => rfl⟩ ?_
     try simp only [nz]
     refine wpAnyIn_take (i:=7) (v:=undef) rfl rfl (by kernel_rfl) (by kernel_rfl) (by kernel_rfl) (fun _ _ _ h => h) ⟨Or.inr ⟨by rfl,rfl⟩,fun _ => rfl⟩ ?_
     try simp only [nz]
     refine wpAnyIn_take (i:=8) (v:=undef) rfl rfl (by kernel_rfl) (by kernel_rfl) (by kernel_rfl) (fun _ _ _ h => h) ⟨Or.inr ⟨by rfl,rfl⟩,fun _ => rfl⟩ ?_
     try simp only [nz]
     refine wpAnyIn_take (i:=9) (v:=undef) rfl rfl (by kernel_rfl) (by kernel_rfl) (by kernel_rfl) (fun _ _ _ h => h) ⟨Or.inr ⟨by rfl,rfl⟩,fun _ => rfl⟩ ?_
     try simp only [nz]
     refine wpAnyIn_take (i:=10) (v:=undef) rfl rfl (by kernel_rfl) (by kernel_rfl) (by kernel_rfl) (fun _ _ _ h => h) ⟨Or.inr ⟨by rfl,rfl⟩,fun _ => rfl⟩ ?_
     try simp only [nz]
     refine wpAnyIn_take (i:=11) (v:=undef) rfl rfl (by kernel_rfl) (by kernel_rfl) (by kernel_rfl) (fun _ _ _ h => h) ⟨Or.inr ⟨by rfl,rfl⟩,fun _ => rfl⟩ ?_
     try simp only [nz]
     refine wpAnyIn_take (i:=12) (v:=undef) rfl rfl (by kernel_rfl) (by kernel_rfl) (by kernel_rfl) (fun _ _ _ h => h) ⟨Or.inr ⟨by rfl,rfl⟩,fun _ => rfl⟩ ?_
     try simp only [nz]
     refine wpAnyIn_take (i:=13) (v:=undef) rfl rfl (by kernel_rfl) (by kernel_rfl) (by kernel_rfl) (fun _ _ _ h => h) ⟨Or.inr ⟨by rfl,rfl⟩,fun _ => rfl⟩ ?_
     try simp only [nz]
     refine wpAnyIn_take (i:=14) (v:=undef) rfl rfl (by kernel_rfl) (by kernel_rfl) (by kernel_rfl) (fun _ _ _ h => h) ⟨Or.inr ⟨by rfl,rfl⟩,fun _ => rfl⟩ ?_
     try simp only [nz]
     refine wpAnyIn_take (i:=15) (v:=.bool true) rfl rfl (by kernel_rfl) (by kernel_rfl) (by kernel_rfl) (fun _ _ _ h => h) ⟨Or.inl ⟨by rfl,fun w => by go_simp⟩,fun _ => rfl⟩ ?_
     try simp only [nz]
     refine wpAnyIn_done (by kernel_rfl) ?_ _
     gi_wp2
     have kz:=k5d.trans k6
     exact ⟨from_up kz.non (by omega),kz.up (by omega),rfl,q,hq,by rw [hsn,hms]; first | exact hqp | exact hqp.trans (List.prefix_append _ _)⟩
   ·go_simp
    refine hK _ _ ?_
    clear hK K
    refine wpAnyIn_ready (rs:=[0]) (by kernel_rfl) (by simp) ?_
    refine AllReadyIn.cons rfl (fun K hK => ?_) AllReadyIn.nil
    go_simp
    refine hK _ _ ?_
    clear hK K
    refine wpAnyIn_take (i:=2) (v:=.slice ra cu rc) rfl rfl (by kernel_rfl) (by kernel_rfl) (by kernel_rfl) (fun _ _ _ h => h) ⟨Or.inl ⟨by rfl,fun w => by (go_simp; try omega)⟩,fun _ => rfl⟩ ?_
    try simp only [nz]
    refine wpAnyIn_ready (rs:=[4]) (by kernel_rfl) (by simp) ?_
    refine AllReadyIn.cons rfl (fun K hK => ?_) AllReadyIn.nil
    go_simp
    refine ⟨trivial,(fun h => by cases h),?_⟩
    refine (tellSet_in (n:=n - 1 - 1 - 1) (M:=M) (Jx:=Jx) O (R.take cu) hTok (fun c hc => HR8.out c (List.mem_of_mem_take hc)) ra cu rc w5.drew (by show n₀ ≤ w5.heap.size; omega) hJ htd (fun g off e => h4 _ e) (by omega) h6 (by rw [List.length_take]; omega) hY h15d).mono ?_
    rintro e w6 ⟨k6,(⟨rfl,hJ6⟩ | ⟨rfl,q,hq,hqp⟩)⟩
    ·refine hK _ _ ?_
     clear hK K
     refine wpAnyIn_take (i:=5) (v:=.bool false) rfl rfl (by kernel_rfl) (by kernel_rfl) (by kernel_rfl) (fun _ _ _ h => h) ⟨Or.inl ⟨by rfl,fun w => by go_simp⟩,fun _ => rfl⟩ ?_
     try simp only [nz]
     refine wpAnyIn_take (i:=6) (v:=.bool false) rfl rfl (by kernel_rfl) (by kernel_rfl) (by kernel_rfl) (fun _ _ _ h => h) ⟨Or.inl ⟨by rfl,fun w => by go_simp⟩,fun _ => rfl⟩ ?_
     try simp only [nz]
     refine wpAnyIn_take (i:=7) (v:=.bool false) rfl rfl (by kernel_rfl) (by kernel_rfl) (by kernel_rfl) (fun _ _ _ h => h) ⟨Or.inl ⟨by rfl,fun w => by go_simp⟩,fun _ => rfl⟩ ?_
     try simp only [nz]
     refine wpAnyIn_take (i:=8) (v:=.bool true) rfl rfl (by kernel_rfl) (by kernel_rfl) (by kernel_rfl) (fun _ _ _ h => h) ⟨Or.inl ⟨by rfl,fun w => by go_simp⟩,fun _ => rfl⟩ ?_
     try simp only [nz]
     refine wpAnyIn_take (i:=9) (v:=.bool true) rfl rfl (by kernel_rfl) (by kernel_rfl) (by kernel_rfl) (fun _ _ _ h => h) ⟨Or.inl ⟨by rfl,fun w => by go_simp⟩,fun _ => rfl⟩ ?_
     try simp only [nz]
     refine wpAnyIn_take (i:=11) (v:=.string x) rfl rfl (by kernel_rfl) (by kernel_rfl) (by kernel_rfl) (fun _ _ _ h => h) ⟨Or.inl ⟨by rfl,fun w => by go_simp⟩,fun _ => rfl⟩ ?_
     try simp only [nz]
     have h76 : Boxed w6 W.heap.size 182 (.func (.yield L) #[] #[]):=k6.typ _ _ _ _ hn₁ (by unfold TV; simp) h75d
     have h26 : Boxed w6 (W.heap.size + 1) 173 (.slice ra rn rc):=k6.typ _ _ _ _ (by omega) (by unfold TV; simp) h25d
     have h36:=h35d.low (fun g off e => h4 _ e) k6.bel
     have g3:=h76.cell
     have hlj : (O ++ setN (R.take cu)).length < M:=by
      have:=setN_len (R.take cu)
      rw [List.length_append]
      rw [List.length_take] at this
      omega
     obtain ⟨fn,tmps,assign,body,hy,hRo⟩:=hY _ x w6 hV hJ6 hlj
     unfold nmE at hy
     refine wpAnyIn_ready (rs:=[10]) (by kernel_rfl) (by simp) ?_
     refine AllReadyIn.cons rfl (fun K hK => ?_) AllReadyIn.nil
     go_simp
     refine hK _ _ ?_
     clear hK K
     refine wpAnyIn_ready (rs:=[12]) (by kernel_rfl) (by simp) ?_
     refine AllReadyIn.cons rfl (fun K hK => ?_) AllReadyIn.nil
     go_simp
     refine ⟨(fun h => by cases h),(round_wide hRo).mono ?_⟩
     rintro e w7 (⟨rfl,hJ7,k7⟩ | ⟨rfl,hJx7,k7⟩)
     ·refine hK _ _ ?_
      clear hK K
      refine wpAnyIn_take (i:=13) (v:=.bool false) rfl rfl (by kernel_rfl) (by kernel_rfl) (by kernel_rfl) (fun _ _ _ h => h) ⟨Or.inl ⟨by rfl,fun w => by go_simp⟩,fun _ => rfl⟩ ?_
      try simp only [nz]
      refine wpAnyIn_take (i:=14) (v:=.bool false) rfl rfl (by kernel_rfl) (by kernel_rfl) (by kernel_rfl) (fun _ _ _ h => h) ⟨Or.inl ⟨by rfl,fun w => by go_simp⟩,fun _ => rfl⟩ ?_
      try simp only [nz]
      refine wpAnyIn_take (i:=15) (v:=.bool false) rfl rfl (by kernel_rfl) (by kernel_rfl) (by kernel_rfl) (fun _ _ _ h => h) ⟨Or.inl ⟨by rfl,fun w => by go_simp⟩,fun _ => rfl⟩ ?_
      try simp only [nz]
      refine wpAnyIn_done (by kernel_rfl) ?_ _
      have z2 : Boxed w7 (W.heap.size + 1) 173 (.slice ra rn rc):=k7.typ _ _ _ _ (by omega) (by unfold TV; simp) h26
      have z7 : Boxed w7 W.heap.size 182 (.func (.yield L) #[] #[]):=k7.typ _ _ _ _ hn₁ (by unfold TV; simp) h76
      have zr : RdC w7 (.slice ra rn rc) R:=h36.low (fun g off e => h4 _ e) k7.bel
      have zc:=z2.cell
      have zf:=z2.frozen
      have hun : ra = none → rc = 0:=fun e => by obtain ⟨a',c',e',z1,_⟩:=zr; simp only [Value.slice.injEq] at e'; obtain ⟨rfl,_,rfl⟩:=e'; exact z1 e
      have zd:=rdC_cut hRok zr cu (by omega) h5
      have hkk : KpN (TV xv) n₀ n₁ X w7:=(k5d.trans k6).trans k7
      have hzs:=hkk.bel.size
      have kset : KpN (TV xv) n₀ (W2.heap.size + 2) w7 (w7.setCell ⟨W.heap.size + 1,0,none⟩ (.slice (cutC ra rc cu) (rn - cu) (rc - cu))):=KpN.setCell w7 _ (by omega) (by omega)
      have kall:=(hkk.up (show n₁ ≤ W2.heap.size + 2 by omega)).trans kset
      have hwl : ∀ ad,cutC ra rc cu = some ad → ad.block < n₀ ∧ ad.block ∉ xv:=cutC_low h4
      have zI : (fun pre X => J (mst pre C).1 X ∧ RestAt xv n₀ X (W.heap.size + 1) (mst pre C).2 ∧ Boxed X W.heap.size 182 (.func (.yield L) #[] #[]) ∧ BelX xv n₀ W2 X) (pre ++ [x]) (w7.setCell ⟨W.heap.size + 1,0,none⟩ (.slice (cutC ra rc cu) (rn - cu) (rc - cu))):=by
       dsimp only
       rw [hsn,hms]
       exact ⟨hJt _ w7 (W.heap.size + 1) _ _ _ hJ7 (by omega) (by unfold TV; simp) z2,⟨_,_,_,z2.set _,zd.low (fun g off e => hwl _ e) kset.bel,hwl,by omega,by unfold maxLen at h6 ⊢; omega⟩,(heap_setCell_other w7 ⟨W.heap.size + 1,0,none⟩ _ _ (by show W.heap.size ≠ W.heap.size + 1; omega)).trans z7,h8.trans kall.bel⟩
      have kfr : KeepsFrom W2.heap.size X (w7.setCell ⟨W.heap.size + 1,0,none⟩ (.slice (cutC ra rc cu) (rn - cu) (rc - cu))):=(from_up hkk.non (by omega)).trans ((KeepsOthers.setCell w7 ⟨W.heap.size + 1,0,none⟩ _).from _)
      gi_wp2_with (refine wpListIn_sliceC rfl _ _ rfl ra rn rc cu rfl rfl (by omega) h5 hun ?_)
      first | exact ⟨kfr,kall,zI⟩ | (rw [hsz] at kfr kall; exact ⟨kfr,kall,zI⟩)
     ·refine hK _ _ ?_
      clear hK K
      refine wpAnyIn_take (i:=13) (v:=.bool true) rfl rfl (by kernel_rfl) (by kernel_rfl) (by kernel_rfl) (fun _ _ _ h => h) ⟨Or.inl ⟨by rfl,fun w => by go_simp⟩,fun _ => rfl⟩ ?_
      try simp only [nz]
      refine wpAnyIn_take (i:=14) (v:=.bool true) rfl rfl (by kernel_rfl) (by kernel_rfl) (by kernel_rfl) (fun _ _ _ h => h) ⟨Or.inl ⟨by rfl,fun w => by go_simp⟩,fun _ => rfl⟩ ?_
      try simp only [nz]
      refine wpAnyIn_take (i:=15) (v:=.bool true) rfl rfl (by kernel_rfl) (by kernel_rfl) (by kernel_rfl) (fun _ _ _ h => h) ⟨Or.inl ⟨by rfl,fun w => by go_simp⟩,fun _ => rfl⟩ ?_
      try simp only [nz]
      refine wpAnyIn_done (by kernel_rfl) ?_ _
      have kz:=(k5d.trans k6).trans k7
      gi_wp2
      exact ⟨from_up kz.non (by omega),kz.up (by omega),rfl,_,hJx7,by rw [hsn,hms]; exact List.prefix_refl _⟩
    ·refine hK _ _ ?_
     clear hK K
     refine wpAnyIn_take (i:=5) (v:=.bool true) rfl rfl (by kernel_rfl) (by kernel_rfl) (by kernel_rfl) (fun _ _ _ h => h) ⟨Or.inl ⟨by rfl,fun w => by go_simp⟩,fun _ => rfl⟩ ?_
     try simp only [nz]
     refine wpAnyIn_take (i:=6) (v:=.bool true) rfl rfl (by kernel_rfl) (by kernel_rfl) (by kernel_rfl) (fun _ _ _ h => h) ⟨Or.inl ⟨by rfl,fun w => by go_simp⟩,fun _ => rfl⟩ ?_
     try simp only [nz]
     refine wpAnyIn_take (i:=7) (v:=undef) rfl rfl (by kernel_rfl) (by kernel_rfl) (by kernel_rfl) (fun _ _ _ h => h) ⟨Or.inr ⟨by rfl,rfl⟩,fun _ => rfl⟩ ?_
     try simp only [nz]
     refine wpAnyIn_take (i:=8) (v:=undef) rfl rfl (by kernel_rfl) (by kernel_rfl) (by kernel_rfl) (fun _ _ _ h => h) ⟨Or.inr ⟨by rfl,rfl⟩,fun _ => rfl⟩ ?_
     try simp only [nz]
     refine wpAnyIn_take (i:=9) (v:=undef) rfl rfl (by kernel_rfl) (by kernel_rfl) (by kernel_rfl) (fun _ _ _ h => h) ⟨Or.inr ⟨by rfl,rfl⟩,fun _ => rfl⟩ ?_
     try simp only [nz]
     refine wpAnyIn_take (i:=10) (v:=undef) rfl rfl (by kernel_rfl) (by kernel_rfl) (by kernel_rfl) (fun _ _ _ h => h) ⟨Or.inr ⟨by rfl,rfl⟩,fun _ => rfl⟩ ?_
     try simp only [nz]
     refine wpAnyIn_take (i:=11) (v:=undef) rfl rfl (by kernel_rfl) (by kernel_rfl) (by kernel_rfl) (fun _ _ _ h => h) ⟨Or.inr ⟨by rfl,rfl⟩,fun _ => rfl⟩ ?_
     try simp only [nz]
     refine wpAnyIn_take (i:=12) (v:=undef) rfl rfl (by kernel_rfl) (by kernel_rfl) (by kernel_rfl) (fun _ _ _ h => h) ⟨Or.inr ⟨by rfl,rfl⟩,fun _ => rfl⟩ ?_
     try simp only [nz]
     refine wpAnyIn_take (i:=13) (v:=undef) rfl rfl (by kernel_rfl) (by kernel_rfl) (by kernel_rfl) (fun _ _ _ h => h) ⟨Or.inr ⟨by rfl,rfl⟩,fun _ => rfl⟩ ?_
     try simp only [nz]
     refine wpAnyIn_take (i:=14) (v:=undef) rfl rfl (by kernel_rfl) (by kernel_rfl) (by kernel_rfl) (fun _ _ _ h => h) ⟨Or.inr ⟨by rfl,rfl⟩,fun _ => rfl⟩ ?_
     try simp only [nz]
     refine wpAnyIn_take (i:=15) (v:=.bool true) rfl rfl (by kernel_rfl) (by kernel_rfl) (by kernel_rfl) (fun _ _ _ h => h) ⟨Or.inl ⟨by rfl,fun w => by go_simp⟩,fun _ => rfl⟩ ?_
     try simp only [nz]
     refine wpAnyIn_done (by kernel_rfl) ?_ _
     gi_wp2
     have kz:=k5d.trans k6
     exact ⟨from_up kz.non (by omega),kz.up (by omega),rfl,q,hq,by rw [hsn,hms]; first | exact hqp | exact hqp.trans (List.prefix_append _ _)⟩
  ·obtain ⟨at0,hat⟩ : ∃ at0,fnN R x = at0:=⟨_,rfl⟩
   have hcu : cutN R x = at0 + 1:=by rw [← hat]; unfold cutN; rw [hB]; rfl
   have hms : mstep (O,R) x = (O ++ setN (R.take (at0 + 1)),R.drop (at0 + 1)):=by unfold mstep; dsimp only; rw [hcu,hB]; simp
   rw [hcu] at hcl htd hTok
   rw [hat]
   clear hat hcu
   have hci : (at0 : Int) + 1 ≤ rn:=by omega
   have hci2 : (at0 : Int) + 1 ≤ rc:=by omega
   gi_wp2
   refine wpIn_region_any hmx ?_
   refine wpAny_inRound rfl (by kernel_rfl) _ _ _ _ ?_
   change wpAnyIn _ _ _ _ _ _ _ _ _ (World.drew _)
   refine wpAnyIn_take (i:=1) (v:=.int .i64 ((at0 : Int) + 1)) rfl rfl (by kernel_rfl) (by kernel_rfl) (by kernel_rfl) (fun _ _ _ h => h) ⟨Or.inl ⟨by rfl,fun w => by go_simp⟩,fun _ => rfl⟩ ?_
   try simp only [nz]
   refine wpAnyIn_ready (rs:=[0,3]) (by kernel_rfl) (by simp) ?_
   refine AllReadyIn.cons rfl (fun K hK => ?_) (AllReadyIn.cons rfl (fun K hK => ?_) AllReadyIn.nil)
   ·go_simp
    refine hK _ _ ?_
    clear hK K
    refine wpAnyIn_take (i:=2) (v:=.slice ra (at0 + 1) rc) rfl rfl (by kernel_rfl) (by kernel_rfl) (by kernel_rfl) (fun _ _ _ h => h) ⟨Or.inl ⟨by rfl,fun w => by (go_simp; try omega)⟩,fun _ => rfl⟩ ?_
    try simp only [nz]
    refine wpAnyIn_ready (rs:=[3]) (by kernel_rfl) (by simp) ?_
    refine AllReadyIn.cons rfl (fun K hK => ?_) AllReadyIn.nil
    go_simp
    refine hK _ _ ?_
    clear hK K
    refine wpAnyIn_ready (rs:=[4]) (by kernel_rfl) (by simp) ?_
    refine AllReadyIn.cons rfl (fun K hK => ?_) AllReadyIn.nil
    go_simp
    refine ⟨trivial,(fun h => by cases h),?_⟩
    refine (tellSet_in (n:=n - 1 - 1 - 1) (M:=M) (Jx:=Jx) O (R.take (at0 + 1)) hTok (fun c hc => HR8.out c (List.mem_of_mem_take hc)) ra (at0 + 1) rc w5.drew (by show n₀ ≤ w5.heap.size; omega) hJ htd (fun g off e => h4 _ e) (by omega) h6 (by rw [List.length_take]; omega) hY h15d).mono ?_
    rintro e w6 ⟨k6,(⟨rfl,hJ6⟩ | ⟨rfl,q,hq,hqp⟩)⟩
    ·refine hK _ _ ?_
     clear hK K
     refine wpAnyIn_take (i:=5) (v:=.bool false) rfl rfl (by kernel_rfl) (by kernel_rfl) (by kernel_rfl) (fun _ _ _ h => h) ⟨Or.inl ⟨by rfl,fun w => by go_simp⟩,fun _ => rfl⟩ ?_
     try simp only [nz]
     refine wpAnyIn_take (i:=6) (v:=.bool false) rfl rfl (by kernel_rfl) (by kernel_rfl) (by kernel_rfl) (fun _ _ _ h => h) ⟨Or.inl ⟨by rfl,fun w => by go_simp⟩,fun _ => rfl⟩ ?_
     try simp only [nz]
     refine wpAnyIn_take (i:=7) (v:=.bool true) rfl rfl (by kernel_rfl) (by kernel_rfl) (by kernel_rfl) (fun _ _ _ h => h) ⟨Or.inl ⟨by rfl,fun w => by go_simp⟩,fun _ => rfl⟩ ?_
     try simp only [nz]
     refine wpAnyIn_take (i:=8) (v:=.bool false) rfl rfl (by kernel_rfl) (by kernel_rfl) (by kernel_rfl) (fun _ _ _ h => h) ⟨Or.inl ⟨by rfl,fun w => by go_simp⟩,fun _ => rfl⟩ ?_
     try simp only [nz]
     refine wpAnyIn_take (i:=9) (v:=.bool false) rfl rfl (by kernel_rfl) (by kernel_rfl) (by kernel_rfl) (fun _ _ _ h => h) ⟨Or.inl ⟨by rfl,fun w => by go_simp⟩,fun _ => rfl⟩ ?_
     try simp only [nz]
     refine wpAnyIn_take (i:=10) (v:=undef) rfl rfl (by kernel_rfl) (by kernel_rfl) (by kernel_rfl) (fun _ _ _ h => h) ⟨Or.inr ⟨by rfl,rfl⟩,fun _ => rfl⟩ ?_
     try simp only [nz]
     refine wpAnyIn_take (i:=11) (v:=undef) rfl rfl (by kernel_rfl) (by kernel_rfl) (by kernel_rfl) (fun _ _ _ h => h) ⟨Or.inr ⟨by rfl,rfl⟩,fun _ => rfl⟩ ?_
     try simp only [nz]
     refine wpAnyIn_take (i:=12) (v:=undef) rfl rfl (by kernel_rfl) (by kernel_rfl) (by kernel_rfl) (fun _ _ _ h => h) ⟨Or.inr ⟨by rfl,rfl⟩,fun _ => rfl⟩ ?_
     try simp only [nz]
     refine wpAnyIn_take (i:=13) (v:=undef) rfl rfl (by kernel_rfl) (by kernel_rfl) (by kernel_rfl) (fun _ _ _ h => h) ⟨Or.inr ⟨by rfl,rfl⟩,fun _ => rfl⟩ ?_
     try simp only [nz]
     refine wpAnyIn_take (i:=14) (v:=.bool false) rfl rfl (by kernel_rfl) (by kernel_rfl) (by kernel_rfl) (fun _ _ _ h => h) ⟨Or.inl ⟨by rfl,fun w => by go_simp⟩,fun _ => rfl⟩ ?_
     try simp only [nz]
     refine wpAnyIn_take (i:=15) (v:=.bool false) rfl rfl (by kernel_rfl) (by kernel_rfl) (by kernel_rfl) (fun _ _ _ h => h) ⟨Or.inl ⟨by rfl,fun w => by go_simp⟩,fun _ => rfl⟩ ?_
     try simp only [nz]
     refine wpAnyIn_done (by kernel_rfl) ?_ _
     have z2 : Boxed w6 (W.heap.size + 1) 173 (.slice ra rn rc):=k6.typ _ _ _ _ (by omega) (by unfold TV; simp) h25d
     have z7 : Boxed w6 W.heap.size 182 (.func (.yield L) #[] #[]):=k6.typ _ _ _ _ hn₁ (by unfold TV; simp) h75d
     have zr : RdC w6 (.slice ra rn rc) R:=h35d.low (fun g off e => h4 _ e) k6.bel
     have zc:=z2.cell
     have zf:=z2.frozen
     have hun : ra = none → rc = 0:=fun e => by obtain ⟨a',c',e',z1,_⟩:=zr; simp only [Value.slice.injEq] at e'; obtain ⟨rfl,_,rfl⟩:=e'; exact z1 e
     have zd:=rdC_cut hRok zr (at0 + 1) (by omega) h5
     have hkk : KpN (TV xv) n₀ n₁ X w6:=k5d.trans k6
     have hzs:=hkk.bel.size
     have kset : KpN (TV xv) n₀ (W2.heap.size + 2) w6 (w6.setCell ⟨W.heap.size + 1,0,none⟩ (.slice (cutC ra rc (at0 + 1)) (rn - (at0 + 1)) (rc - (at0 + 1)))):=KpN.setCell w6 _ (by omega) (by omega)
     have kall:=(hkk.up (show n₁ ≤ W2.heap.size + 2 by omega)).trans kset
     have hwl : ∀ ad,cutC ra rc (at0 + 1) = some ad → ad.block < n₀ ∧ ad.block ∉ xv:=cutC_low h4
     have zI : (fun pre X => J (mst pre C).1 X ∧ RestAt xv n₀ X (W.heap.size + 1) (mst pre C).2 ∧ Boxed X W.heap.size 182 (.func (.yield L) #[] #[]) ∧ BelX xv n₀ W2 X) (pre ++ [x]) (w6.setCell ⟨W.heap.size + 1,0,none⟩ (.slice (cutC ra rc (at0 + 1)) (rn - (at0 + 1)) (rc - (at0 + 1)))):=by
      dsimp only
      rw [hsn,hms]
      exact ⟨hJt _ w6 (W.heap.size + 1) _ _ _ hJ6 (by omega) (by unfold TV; simp) z2,⟨_,_,_,z2.set _,zd.low (fun g off e => hwl _ e) kset.bel,hwl,by omega,by unfold maxLen at h6 ⊢; omega⟩,(heap_setCell_other w6 ⟨W.heap.size + 1,0,none⟩ _ _ (by show W.heap.size ≠ W.heap.size + 1; omega)).trans z7,h8.trans kall.bel⟩
     have kfr : KeepsFrom W2.heap.size X (w6.setCell ⟨W.heap.size + 1,0,none⟩ (.slice (cutC ra rc (at0 + 1)) (rn - (at0 + 1)) (rc - (at0 + 1)))):=(from_up hkk.non (by omega)).trans ((KeepsOthers.setCell w6 ⟨W.heap.size + 1,0,none⟩ _).from _)
     gi_wp2_with (refine wpListIn_sliceC rfl _ _ rfl ra rn rc (at0 + 1) rfl rfl (by omega) h5 hun ?_)
     first | exact ⟨kfr,kall,zI⟩ | (rw [hsz] at kfr kall; exact ⟨kfr,kall,zI⟩)
    ·refine hK _ _ ?_
     clear hK K
     refine wpAnyIn_take (i:=5) (v:=.bool true) rfl rfl (by kernel_rfl) (by kernel_rfl) (by kernel_rfl) (fun _ _ _ h => h) ⟨Or.inl ⟨by rfl,fun w => by go_simp⟩,fun _ => rfl⟩ ?_
     try simp only [nz]
     refine wpAnyIn_take (i:=6) (v:=.bool true) rfl rfl (by kernel_rfl) (by kernel_rfl) (by kernel_rfl) (fun _ _ _ h => h) ⟨Or.inl ⟨by rfl,fun w => by go_simp⟩,fun _ => rfl⟩ ?_
     try simp only [nz]
     refine wpAnyIn_take (i:=7) (v:=undef) rfl rfl (by kernel_rfl) (by kernel_rfl) (by kernel_rfl) (fun _ _ _ h => h) ⟨Or.inr ⟨by rfl,rfl⟩,fun _ => rfl⟩ ?_
     try simp only [nz]
     refine wpAnyIn_take (i:=8) (v:=undef) rfl rfl (by kernel_rfl) (by kernel_rfl) (by kernel_rfl) (fun _ _ _ h => h) ⟨Or.inr ⟨by rfl,rfl⟩,fun _ => rfl⟩ ?_
     try simp only [nz]
     refine wpAnyIn_take (i:=9) (v:=undef) rfl rfl (by kernel_rfl) (by kernel_rfl) (by kernel_rfl) (fun _ _ _ h => h) ⟨Or.inr ⟨by rfl,rfl⟩,fun _ => rfl⟩ ?_
     try simp only [nz]
     refine wpAnyIn_take (i:=10) (v:=undef) rfl rfl (by kernel_rfl) (by kernel_rfl) (by kernel_rfl) (fun _ _ _ h => h) ⟨Or.inr ⟨by rfl,rfl⟩,fun _ => rfl⟩ ?_
     try simp only [nz]
     refine wpAnyIn_take (i:=11) (v:=undef) rfl rfl (by kernel_rfl) (by kernel_rfl) (by kernel_rfl) (fun _ _ _ h => h) ⟨Or.inr ⟨by rfl,rfl⟩,fun _ => rfl⟩ ?_
     try simp only [nz]
     refine wpAnyIn_take (i:=12) (v:=undef) rfl rfl (by kernel_rfl) (by kernel_rfl) (by kernel_rfl) (fun _ _ _ h => h) ⟨Or.inr ⟨by rfl,rfl⟩,fun _ => rfl⟩ ?_
     try simp only [nz]
     refine wpAnyIn_take (i:=13) (v:=undef) rfl rfl (by kernel_rfl) (by kernel_rfl) (by kernel_rfl) (fun _ _ _ h => h) ⟨Or.inr ⟨by rfl,rfl⟩,fun _ => rfl⟩ ?_
     try simp only [nz]
     refine wpAnyIn_take (i:=14) (v:=undef) rfl rfl (by kernel_rfl) (by kernel_rfl) (by kernel_rfl) (fun _ _ _ h => h) ⟨Or.inr ⟨by rfl,rfl⟩,fun _ => rfl⟩ ?_
     try simp only [nz]
     refine wpAnyIn_take (i:=15) (v:=.bool true) rfl rfl (by kernel_rfl) (by kernel_rfl) (by kernel_rfl) (fun _ _ _ h => h) ⟨Or.inl ⟨by rfl,fun w => by go_simp⟩,fun _ => rfl⟩ ?_
     try simp only [nz]
     refine wpAnyIn_done (by kernel_rfl) ?_ _
     gi_wp2
     have kz:=k5d.trans k6
     exact ⟨from_up kz.non (by omega),kz.up (by omega),rfl,q,hq,by rw [hsn,hms]; first | exact hqp | exact hqp.trans (List.prefix_append _ _)⟩
   ·go_simp
    refine hK _ _ ?_
    clear hK K
    refine wpAnyIn_ready (rs:=[0]) (by kernel_rfl) (by simp) ?_
    refine AllReadyIn.cons rfl (fun K hK => ?_) AllReadyIn.nil
    go_simp
    refine hK _ _ ?_
    clear hK K
    refine wpAnyIn_take (i:=2) (v:=.slice ra (at0 + 1) rc) rfl rfl (by kernel_rfl) (by kernel_rfl) (by kernel_rfl) (fun _ _ _ h => h) ⟨Or.inl ⟨by rfl,fun w => by (go_simp; try omega)⟩,fun _ => rfl⟩ ?_
    try simp only [nz]
    refine wpAnyIn_ready (rs:=[4]) (by kernel_rfl) (by simp) ?_
    refine AllReadyIn.cons rfl (fun K hK => ?_) AllReadyIn.nil
    go_simp
    refine ⟨trivial,(fun h => by cases h),?_⟩
    refine (tellSet_in (n:=n - 1 - 1 - 1) (M:=M) (Jx:=Jx) O (R.take (at0 + 1)) hTok (fun c hc => HR8.out c (List.mem_of_mem_take hc)) ra (at0 + 1) rc w5.drew (by show n₀ ≤ w5.heap.size; omega) hJ htd (fun g off e => h4 _ e) (by omega) h6 (by rw [List.length_take]; omega) hY h15d).mono ?_
    rintro e w6 ⟨k6,(⟨rfl,hJ6⟩ | ⟨rfl,q,hq,hqp⟩)⟩
    ·refine hK _ _ ?_
     clear hK K
     refine wpAnyIn_take (i:=5) (v:=.bool false) rfl rfl (by kernel_rfl) (by kernel_rfl) (by kernel_rfl) (fun _ _ _ h => h) ⟨Or.inl ⟨by rfl,fun w => by go_simp⟩,fun _ => rfl⟩ ?_
     try simp only [nz]
     refine wpAnyIn_take (i:=6) (v:=.bool false) rfl rfl (by kernel_rfl) (by kernel_rfl) (by kernel_rfl) (fun _ _ _ h => h) ⟨Or.inl ⟨by rfl,fun w => by go_simp⟩,fun _ => rfl⟩ ?_
     try simp only [nz]
     refine wpAnyIn_take (i:=7) (v:=.bool true) rfl rfl (by kernel_rfl) (by kernel_rfl) (by kernel_rfl) (fun _ _ _ h => h) ⟨Or.inl ⟨by rfl,fun w => by go_simp⟩,fun _ => rfl⟩ ?_
     try simp only [nz]
     refine wpAnyIn_take (i:=8) (v:=.bool false) rfl rfl (by kernel_rfl) (by kernel_rfl) (by kernel_rfl) (fun _ _ _ h => h) ⟨Or.inl ⟨by rfl,fun w => by go_simp⟩,fun _ => rfl⟩ ?_
     try simp only [nz]
     refine wpAnyIn_take (i:=9) (v:=.bool false) rfl rfl (by kernel_rfl) (by kernel_rfl) (by kernel_rfl) (fun _ _ _ h => h) ⟨Or.inl ⟨by rfl,fun w => by go_simp⟩,fun _ => rfl⟩ ?_
     try simp only [nz]
     refine wpAnyIn_take (i:=10) (v:=undef) rfl rfl (by kernel_rfl) (by kernel_rfl) (by kernel_rfl) (fun _ _ _ h => h) ⟨Or.inr ⟨by rfl,rfl⟩,fun _ => rfl⟩ ?_
     try simp only [nz]
     refine wpAnyIn_take (i:=11) (v:=undef) rfl rfl (by kernel_rfl) (by kernel_rfl) (by kernel_rfl) (fun _ _ _ h => h) ⟨Or.inr ⟨by rfl,rfl⟩,fun _ => rfl⟩ ?_
     try simp only [nz]
     refine wpAnyIn_take (i:=12) (v:=undef) rfl rfl (by kernel_rfl) (by kernel_rfl) (by kernel_rfl) (fun _ _ _ h => h) ⟨Or.inr ⟨by rfl,rfl⟩,fun _ => rfl⟩ ?_
     try simp only [nz]
     refine wpAnyIn_take (i:=13) (v:=undef) rfl rfl (by kernel_rfl) (by kernel_rfl) (by kernel_rfl) (fun _ _ _ h => h) ⟨Or.inr ⟨by rfl,rfl⟩,fun _ => rfl⟩ ?_
     try simp only [nz]
     refine wpAnyIn_take (i:=14) (v:=.bool false) rfl rfl (by kernel_rfl) (by kernel_rfl) (by kernel_rfl) (fun _ _ _ h => h) ⟨Or.inl ⟨by rfl,fun w => by go_simp⟩,fun _ => rfl⟩ ?_
     try simp only [nz]
     refine wpAnyIn_take (i:=15) (v:=.bool false) rfl rfl (by kernel_rfl) (by kernel_rfl) (by kernel_rfl) (fun _ _ _ h => h) ⟨Or.inl ⟨by rfl,fun w => by go_simp⟩,fun _ => rfl⟩ ?_
     try simp only [nz]
     refine wpAnyIn_done (by kernel_rfl) ?_ _
     have z2 : Boxed w6 (W.heap.size + 1) 173 (.slice ra rn rc):=k6.typ _ _ _ _ (by omega) (by unfold TV; simp) h25d
     have z7 : Boxed w6 W.heap.size 182 (.func (.yield L) #[] #[]):=k6.typ _ _ _ _ hn₁ (by unfold TV; simp) h75d
     have zr : RdC w6 (.slice ra rn rc) R:=h35d.low (fun g off e => h4 _ e) k6.bel
     have zc:=z2.cell
     have zf:=z2.frozen
     have hun : ra = none → rc = 0:=fun e => by obtain ⟨a',c',e',z1,_⟩:=zr; simp only [Value.slice.injEq] at e'; obtain ⟨rfl,_,rfl⟩:=e'; exact z1 e
     have zd:=rdC_cut hRok zr (at0 + 1) (by omega) h5
     have hkk : KpN (TV xv) n₀ n₁ X w6:=k5d.trans k6
     have hzs:=hkk.bel.size
     have kset : KpN (TV xv) n₀ (W2.heap.size + 2) w6 (w6.setCell ⟨W.heap.size + 1,0,none⟩ (.slice (cutC ra rc (at0 + 1)) (rn - (at0 + 1)) (rc - (at0 + 1)))):=KpN.setCell w6 _ (by omega) (by omega)
     have kall:=(hkk.up (show n₁ ≤ W2.heap.size + 2 by omega)).trans kset
     have hwl : ∀ ad,cutC ra rc (at0 + 1) = some ad → ad.block < n₀ ∧ ad.block ∉ xv:=cutC_low h4
     have zI : (fun pre X => J (mst pre C).1 X ∧ RestAt xv n₀ X (W.heap.size + 1) (mst pre C).2 ∧ Boxed X W.heap.size 182 (.func (.yield L) #[] #[]) ∧ BelX xv n₀ W2 X) (pre ++ [x]) (w6.setCell ⟨W.heap.size + 1,0,none⟩ (.slice (cutC ra rc (at0 + 1)) (rn - (at0 + 1)) (rc - (at0 + 1)))):=by
      dsimp only
      rw [hsn,hms]
      exact ⟨hJt _ w6 (W.heap.size + 1) _ _ _ hJ6 (by omega) (by unfold TV; simp) z2,⟨_,_,_,z2.set _,zd.low (fun g off e => hwl _ e) kset.bel,hwl,by omega,by unfold maxLen at h6 ⊢; omega⟩,(heap_setCell_other w6 ⟨W.heap.size + 1,0,none⟩ _ _ (by show W.heap.size ≠ W.heap.size + 1; omega)).trans z7,h8.trans kall.bel⟩
     have kfr : KeepsFrom W2.heap.size X (w6.setCell ⟨W.heap.size + 1,0,none⟩ (.slice (cutC ra rc (at0 + 1)) (rn - (at0 + 1)) (rc - (at0 + 1)))):=(from_up hkk.non (by omega)).trans ((KeepsOthers.setCell w6 ⟨W.heap.size + 1,0,none⟩ _).from _)
     gi_wp2_with (refine wpListIn_sliceC rfl _ _ rfl ra rn rc (at0 + 1) rfl rfl (by omega) h5 hun ?_)
     first | exact ⟨kfr,kall,zI⟩ | (rw [hsz] at kfr kall; exact ⟨kfr,kall,zI⟩)
    ·refine hK _ _ ?_
     clear hK K
     refine wpAnyIn_take (i:=5) (v:=.bool true) rfl rfl (by kernel_rfl) (by kernel_rfl) (by kernel_rfl) (fun _ _ _ h => h) ⟨Or.inl ⟨by rfl,fun w => by go_simp⟩,fun _ => rfl⟩ ?_
     try simp only [nz]
     refine wpAnyIn_take (i:=6) (v:=.bool true) rfl rfl (by kernel_rfl) (by kernel_rfl) (by kernel_rfl) (fun _ _ _ h => h) ⟨Or.inl ⟨by rfl,fun w => by go_simp⟩,fun _ => rfl⟩ ?_
     try simp only [nz]
     refine wpAnyIn_take (i:=7) (v:=undef) rfl rfl (by kernel_rfl) (by kernel_rfl) (by kernel_rfl) (fun _ _ _ h => h) ⟨Or.inr ⟨by rfl,rfl⟩,fun _ => rfl⟩ ?_
     try simp only [nz]
     refine wpAnyIn_take (i:=8) (v:=undef) rfl rfl (by kernel_rfl) (by kernel_rfl) (by kernel_rfl) (fun _ _ _ h => h) ⟨Or.inr ⟨by rfl,rfl⟩,fun _ => rfl⟩ ?_
     try simp only [nz]
     refine wpAnyIn_take (i:=9) (v:=undef) rfl rfl (by kernel_rfl) (by kernel_rfl) (by kernel_rfl) (fun _ _ _ h => h) ⟨Or.inr ⟨by rfl,rfl⟩,fun _ => rfl⟩ ?_
     try simp only [nz]
     refine wpAnyIn_take (i:=10) (v:=undef) rfl rfl (by kernel_rfl) (by kernel_rfl) (by kernel_rfl) (fun _ _ _ h => h) ⟨Or.inr ⟨by rfl,rfl⟩,fun _ => rfl⟩ ?_
     try simp only [nz]
     refine wpAnyIn_take (i:=11) (v:=undef) rfl rfl (by kernel_rfl) (by kernel_rfl) (by kernel_rfl) (fun _ _ _ h => h) ⟨Or.inr ⟨by rfl,rfl⟩,fun _ => rfl⟩ ?_
     try simp only [nz]
     refine wpAnyIn_take (i:=12) (v:=undef) rfl rfl (by kernel_rfl) (by kernel_rfl) (by kernel_rfl) (fun _ _ _ h => h) ⟨Or.inr ⟨by rfl,rfl⟩,fun _ => rfl⟩ ?_
     try simp only [nz]
     refine wpAnyIn_take (i:=13) (v:=undef) rfl rfl (by kernel_rfl) (by kernel_rfl) (by kernel_rfl) (fun _ _ _ h => h) ⟨Or.inr ⟨by rfl,rfl⟩,fun _ => rfl⟩ ?_
     try simp only [nz]
     refine wpAnyIn_take (i:=14) (v:=undef) rfl rfl (by kernel_rfl) (by kernel_rfl) (by kernel_rfl) (fun _ _ _ h => h) ⟨Or.inr ⟨by rfl,rfl⟩,fun _ => rfl⟩ ?_
     try simp only [nz]
     refine wpAnyIn_take (i:=15) (v:=.bool true) rfl rfl (by kernel_rfl) (by kernel_rfl) (by kernel_rfl) (fun _ _ _ h => h) ⟨Or.inl ⟨by rfl,fun w => by go_simp⟩,fun _ => rfl⟩ ?_
     try simp only [nz]
     refine wpAnyIn_done (by kernel_rfl) ?_ _
     gi_wp2
     have kz:=k5d.trans k6
     exact ⟨from_up kz.non (by omega),kz.up (by omega),rfl,q,hq,by rw [hsn,hms]; first | exact hqp | exact hqp.trans (List.prefix_append _ _)⟩
 case done =>
  rintro D ys X hD rfl ⟨h1,⟨ra,rn,rc,h2,h3,h4,h5,h6⟩,h7,h8⟩ hK
  have e3:=h7.cell
  have e4:=h2.cell
  have hxs:=h8.size
  obtain ⟨⟨k,hk⟩,hml⟩:=mst_ok C ys
  have hRok : ∀ c ∈ (mst ys C).2,CgOk c:=fun c hc => hC c (by rw [hk] at hc; exact List.mem_of_mem_drop hc)
  gi_wp2
  refine ⟨trivial,(fun h => by cases h),?_⟩
  refine (tellSet_in (n:=n - 1) (M:=M) (Jx:=Jx) (mst ys C).1 (mst ys C).2 hRok (fun c hc => hN8 c (by rw [hk] at hc; exact List.mem_of_mem_drop hc)) ra rn rc X (by omega) hJ h3 (fun g off e => h4 _ e) h5 h6 (by omega) hY h1).mono ?_
  rintro e w6 ⟨k6,hor⟩
  have hK6:=k6.non.same D _ (by omega) hK rfl
  rcases hor with ⟨rfl,hJ6⟩ | ⟨rfl,q,hq,hqp⟩
  ·gi_wp2
   refine ⟨by simp,.inl ⟨_,_,rfl,run_takeDeferred hK6,?_⟩⟩
   exact ⟨_,results_none rfl _ _ _,⟨_,rfl⟩,.inl ⟨_,rfl,hJ.putObj _ hJ6 (by omega) hK6 rfl⟩⟩
  ·gi_wp2
   refine ⟨by simp,.inl ⟨_,_,rfl,run_takeDeferred hK6,?_⟩⟩
   exact ⟨_,results_none rfl _ _ _,⟨_,rfl⟩,.inr ⟨q,hqp,hJx.putObj _ hq (by omega) hK6 rfl⟩⟩
 case stop =>
  rintro D c pre X hD hSp ⟨rfl,q,h5,h6⟩ hK
  gi_wp2
  refine ⟨by simp,.inl ⟨_,_,rfl,run_takeDeferred hK,?_⟩⟩
  refine ⟨_,results_none rfl _ _ _,⟨_,rfl⟩,?_⟩
  exact .inr ⟨q,h6.trans (mst_pre C hSp),hJx.putObj _ h5 (by omega) hK rfl⟩
end Go.Proofs.YtgajjphjkbnaeaaGreat
