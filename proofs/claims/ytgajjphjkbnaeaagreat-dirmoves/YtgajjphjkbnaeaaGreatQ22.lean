/- DlAll2, DlRow, PSpan, VwCmp, VwFind: in one text. -/
import Derived.Test.YtgajjphjkbnaeaaGreatQ21
import Derived.Test.YtgajjphjkbnaeaaGreatQ14
import Derived.Test.YtgajjphjkbnaeaaGreatQ13
import Derived.Test.YtgajjphjkbnaeaaGreatQ11
import Derived.Test.YtgajjphjkbnaeaaGreatQ3
import Derived.Test.YtgajjphjkbnaeaaGreatQ7
import Derived.Lib.Bytealg
import Derived.Deep.LoopGhost
namespace Go.Proofs.YtgajjphjkbnaeaaGreat
open Go.RowKit
set_option linter.unusedVariables false
set_option maxHeartbeats 32000000
set_option maxRecDepth 100000
set_option linter.unusedSimpArgs false
open Go.Proofs
open Go.RowKit Go.Sort Go.Shelf Go.Maps
theorem sorted_is {L : List Cg} (hL : LOk L) {ps : List CgK} (hp : (ps.map CgK.c).Perm L) (hs : ps.Pairwise fun x y => ¬ cmpP y.1.pl x.1.pl = -1) : ps.map CgK.c = L:=by
 have hnd : (ps.map CgK.c).Nodup:=hp.nodup_iff.2 (rise_nodup hL.rise)
 refine rise_ext ?_ hL.rise fun x => hp.mem_iff
 have h1 : (ps.map CgK.c).Pairwise fun x y => ¬ cmpP y.pl x.pl = -1:=List.pairwise_map.2 hs
 refine List.Pairwise.imp_of_mem (fun {x y} hx hy h => ?_) (h1.and hnd)
 refine cmp_other h.1 fun e => h.2 ?_
 exact rise_one hL.rise (hp.mem_iff.1 hx) (hp.mem_iff.1 hy) e.symm
theorem collect_any (g : Nat) (lb : Array Value) (eg : ∀ args w,(callFunc g args).run Tryz.prog w = .ok (.enter g args) w) (L : List Cg) (N : Nat) (hN : N ≤ 2000) (w : World)
  (hseq : SeqStopsK Fence.wide 2 Tryz.prog g lb (fun x : CgK => #[.agg (cgC x.1)]) KeepsWalks (fun ys => (ys.map (·.1)).Perm L) (fun _ => True) N w) :
  Calls Tryz.prog 140 #[.func (.func g) #[] lb] w fun e w' => ∃ (v : Value) (ps : List CgK),e = .returned v ∧ (ps.map CgK.c).Perm L ∧ w'.ownsRow w.heap.size 114 46 v ps.length (ps.flatMap ckL) ∧ Below w.heap.size w w':=by
 have h:=appendSeq_any g lb eg L N hN w hseq
 go_enter Tryz.func140,Tryz.ntmps140
 go_wp2_with fail
 refine h.mono ?_
 rintro e w5 ⟨v5,ps,rfl,hp,ho5,hb5⟩
 go_wp2
 go_ret
 exact ⟨_,ps,rfl,hp,ho5,hb5⟩
theorem sortedFunc_any (g : Nat) (lb : Array Value) (eg : ∀ args w,(callFunc g args).run Tryz.prog w = .ok (.enter g args) w) (L : List Cg) (hL : LOk L) (hN : L.length ≤ 2000) (w : World)
  (hseq : SeqStopsK Fence.wide 2 Tryz.prog g lb (fun x : CgK => #[.agg (cgC x.1)]) KeepsWalks (fun ys => (ys.map (·.1)).Perm L) (fun _ => True) L.length w) :
  Calls Tryz.prog 123 #[.func (.func g) #[] lb,.func (.func 125) #[] #[]] w fun e w' => ∃ v,e = .returned v ∧ w'.ownsRow w.heap.size 114 46 v L.length (L.flatMap cgL) ∧ Below w.heap.size w w':=by
 have h:=collect_any g lb eg L L.length hN w hseq
 go_enter Tryz.func123,Tryz.ntmps123
 go_wp2_with fail
 refine h.mono ?_
 rintro e w5 ⟨v5,ps,rfl,hp,ho5,hb5⟩
 have hlen : Hid (ps.length = L.length):=by unfold Hid; have:=hp.length_eq; simpa using this
 obtain ⟨a5,c5,rfl⟩:=own_shape ho5
 have hs:=sortG_any ho5 (by rw [hlen.out]; omega)
 have HO5 : Hid _:=ho5
 have HP : Hid _:=hp
 have hlo : ∀ k,(Value.slice a5 ps.length c5).ownBlock = some k → w.heap.size ≤ k:=fun k hk => (World.ownsRow.lt ho5 k hk).1
 clear ho5 hp h hseq
 go_wp2_with fail
 refine hs.mono ?_
 rintro e w6 ⟨rfl,L',hp',hs',ho6,hg6⟩
 have he:=sorted_is hL ((hp'.map CgK.c).trans HP.out) hs'
 have hb6 : Below w.heap.size w w6:=hb5.trans ⟨hg6.os,hg6.tape,hg6.output,hg6.size,fun k hk => hg6.block k (Nat.lt_of_lt_of_le hk hb5.size) (fun e => by have:=hlo k e.symm; omega)⟩
 clear hs
 have ho7 : w6.ownsRow w.heap.size 114 46 (.slice a5 ps.length c5) L.length (L.flatMap cgL):=by
  have e1 : L'.length = L.length:=by rw [hp'.length_eq,hlen.out]
  have e2 : L'.flatMap ckL = L.flatMap cgL:=by rw [← he,List.flatMap_map]; rfl
  rw [e1,e2] at ho6
  exact ho6
 have HO7 : Hid _:=ho7
 have HB6 : Hid _:=hb6
 clear ho7 ho6 he hg6 hb6 hp' hs'
 go_wp2
 go_ret
 exact ⟨_,rfl,HO7.out,HB6.out⟩
theorem dall_any {w : World} {p b : Nat} {v : Value} {s : Dl} (h : DlAt w p b v s) (hN : s.L.length ≤ 2000) : Calls Tryz.prog 107 #[.pointer (some ⟨p,0,none⟩)] w fun e w' =>
  ∃ u,e = .returned u ∧ w'.ownsRow w.heap.size 114 46 u s.L.length (s.L.flatMap cgL) ∧ Below w.heap.size w w':=by
 have c1:=h.c1
 have al : ∀ (A : World) (o : Obj),Below A.heap.size A (A.alloc o):=fun A o => (Below.refl _ A).alloc (Nat.le_refl _) o
 have hb1:=al w (.cells #[.map (some b)] 98)
 have hc1 : (w.alloc (.cells #[.map (some b)] 98)).cell? ⟨w.heap.size,0,none⟩ = some (.map (some b)):=by
  rw [cell_of_row _ _ _ _ _ (0,0) (heap_alloc_new w _)]; rfl
 have hm1:=h.mp.keep (hb1.block b h.mp.lt)
 have hlt1 : w.heap.size < (w.alloc (.cells #[.map (some b)] 98)).heap.size:=by simp
 have hv:=values_any w b
 obtain ⟨w1,hw1⟩ : ∃ w1,w.alloc (.cells #[.map (some b)] 98) = w1:=⟨_,rfl⟩
 rw [hw1] at hb1 hc1 hm1 hlt1 hv
 have eg : ∀ args w,(callFunc 142 args).run Tryz.prog w = .ok (.enter 142 args) w:=enters_of Tryz.func142 (by kernel_rfl) rfl
 have hs:=sortedFunc_any _ #[.pointer (some ⟨w.heap.size,0,none⟩)] eg s.L h.ok.L hN w1 (values_stops 2 (by decide) w.heap.size b s.L h.ok.L w1 hlt1 hc1 hm1)
 clear hw1
 go_enter Tryz.func107,Tryz.ntmps107
 go_wp2_with fail
 refine hv.mono ?_
 rintro e w2 ⟨rfl,rfl⟩
 go_wp2_with fail
 refine hs.mono ?_
 rintro e w3 ⟨u,rfl,ho3,hb3⟩
 go_wp2
 go_ret
 refine ⟨_,rfl,?_,thenB hb1 hb3⟩
 obtain ⟨h1,h2 | ⟨g,cap,cur,h2,h3,h4⟩⟩:=ho3
 ·exact ⟨h1,.inl h2⟩
 ·exact ⟨h1,.inr ⟨g,cap,cur,h2,by omega,h4⟩⟩
open Go.RowKit Go.Maps
theorem DlN.all {B : Nat} {w0 w : World} {p b : Nat} {s : Dl} (h : DlN B w0 w p b s) (hN : s.L.length ≤ 1000) : Calls Tryz.prog 107 #[.pointer (some ⟨p,0,none⟩)] w fun e w' =>
  ∃ u,e = .returned u ∧ w'.ownsRow w.heap.size 114 46 u s.L.length (s.L.flatMap cgL) ∧ Below w.heap.size w w':=by
 obtain ⟨v,h1,h2⟩:=h.d
 exact dall_any h1 (by omega)
def spOk (i k : Int) : Bool:=!(i == 0) && decide (1 ≤ k) && decide (k ≤ 3)
def spE (i k : Int) : Int:=if spOk i k then 0 else 30
def spF (i k : Int) : ByteArray:=if spOk i k then strOfNums (keyL i k []) else ⟨#[]⟩
def spT (i k : Int) : ByteArray:=if spOk i k then strOfNums (keyL i (k + 1) []) else ⟨#[]⟩
theorem spOk_no {i k : Int} (h : spOk i k = false) : spE i k = 30 ∧ spF i k = ⟨#[]⟩ ∧ spT i k = ⟨#[]⟩:=by
 unfold spE spF spT; rw [h]; exact ⟨rfl,rfl,rfl⟩
theorem spOk_yes {i k : Int} (h : spOk i k = true) : spE i k = 0 ∧ spF i k = strOfNums (keyL i k []) ∧ spT i k = strOfNums (keyL i (k + 1) []):=by
 unfold spE spF spT; rw [h]; exact ⟨rfl,rfl,rfl⟩
theorem results_tmp3 {fn : Func} {p q r : Tmp} (h : fn.results = #[.tmp p,.tmp q,.tmp r]) (tmps : Array Value) (P : Program) (w : World) :
  (results fn tmps).run P w = .ok (.tuple #[tmps.getD p undef,tmps.getD q undef,tmps.getD r undef]) w:=by
 simp [results,h]
theorem span_any (w : World) (i k : Int) (h0 : 0 ≤ i) (h1 : i ≤ 4294967295) (k0 : -9223372036854775808 ≤ k) (k1 : k ≤ 9223372036854775807) :
  Calls Tryz.prog 86 #[.int .u32 i,.int .i64 k] w fun e w' => e = .returned (.tuple #[.string (spF i k),.string (spT i k),.int .i64 (spE i k)]) ∧ Below w.heap.size w w':=by
 by_cases hi : i = 0
 ·obtain ⟨e1,e2,e3⟩:=spOk_no (i:=i) (k:=k) (by simp [spOk,hi])
  rw [e1,e2,e3]
  have hi' : (i == 0) = true:=by simpa using hi
  go_enter Tryz.func86,Tryz.ntmps86
  go_wp2
  refine bodyPost_ret (results_tmp3 rfl _ _ _) rfl ?_
  exact ⟨rfl,Below.refl _ _⟩
 ·have hi' : (i == 0) = false:=by simpa using hi
  by_cases hk1 : k < 1
  ·obtain ⟨e1,e2,e3⟩:=spOk_no (i:=i) (k:=k) (by simp [spOk]; omega)
   rw [e1,e2,e3]
   go_enter Tryz.func86,Tryz.ntmps86
   go_wp2
   refine bodyPost_ret (results_tmp3 rfl _ _ _) rfl ?_
   exact ⟨rfl,Below.refl _ _⟩
  ·by_cases hk3 : 3 < k
   ·obtain ⟨e1,e2,e3⟩:=spOk_no (i:=i) (k:=k) (by simp [spOk]; omega)
    rw [e1,e2,e3]
    go_enter Tryz.func86,Tryz.ntmps86
    go_wp2
    refine bodyPost_ret (results_tmp3 rfl _ _ _) rfl ?_
    exact ⟨rfl,Below.refl _ _⟩
   ·obtain ⟨e1,e2,e3⟩:=spOk_yes (i:=i) (k:=k) (by simp [spOk,hi]; omega)
    rw [e1,e2,e3]
    go_enter Tryz.func86,Tryz.ntmps86
    go_wp2_with fail
    refine (keyOf_any _ _ _ _ [] h0 h1 (Rd.nil _) Byt.nil (by simp)).mono ?_
    rintro e w1 ⟨rfl,hb1⟩
    go_wp2_with fail
    refine (keyOf_any _ _ _ _ [] h0 h1 (Rd.nil _) Byt.nil (by simp)).mono ?_
    rintro e w2 ⟨rfl,hb2⟩
    go_wp2
    refine bodyPost_ret (results_tmp3 rfl _ _ _) rfl ?_
    exact ⟨rfl,thenB hb1 hb2⟩
theorem cmpB_is : ∀ (a b : List UInt8),Lib.compareBytes a b = if Op.bytesLess a b = true then -1 else if (a == b) = true then 0 else 1
 | [],[] => by simp [Lib.compareBytes,Op.bytesLess]
 | [],y :: b => by simp [Lib.compareBytes,Op.bytesLess]
 | x :: a,[] => by simp [Lib.compareBytes,Op.bytesLess]
 | x :: a,y :: b => by
  unfold Lib.compareBytes Op.bytesLess
  by_cases h1 : x < y
  ·simp [h1]
  ·by_cases h2 : y < x
   ·have hne : ¬ x = y:=fun e => by subst e; exact h1 h2
    simp [h1,h2,hne]
   ·have he : x = y:=by
     have h3 : ¬ x.toNat < y.toNat:=h1
     have h4 : ¬ y.toNat < x.toNat:=h2
     exact UInt8.toNat_inj.1 (by omega)
    subst he
    rw [cmpB_is a b]
    simp
theorem cmpB_S (a b : ByteArray) : Lib.compareBytes a.data.toList b.data.toList = cmpS a b:=by
 unfold cmpS
 rw [cmpB_is,ByteArray.toList_eq,ByteArray.toList_eq]
theorem compareString_any (w : World) (a b : ByteArray) : Calls Tryz.prog 134 #[.string a,.string b] w fun e w' => e = .returned (.int .i64 (cmpS a b)) ∧ w' = w:=by
 rw [← cmpB_S]
 go_enter Tryz.func134,Tryz.ntmps134
 go_wp2
 rw [run_callFunc_extern Tryz.func157 (by kernel_rfl) (by kernel_rfl) (by kernel_rfl) (e:=Extern.BytealgCompare.compare) (by kernel_rfl),Lib.run_compareString]
 simp only [Result.andThen]
 rw [Oper.upon_value]
 go_wp2
 go_ret
 exact ⟨rfl,rfl⟩
theorem compareS_any (w : World) (a b : ByteArray) : Calls Tryz.prog 120 #[.string a,.string b] w fun e w' => e = .returned (.int .i64 (cmpS a b)) ∧ w' = w:=by
 have c:=compareString_any w a b
 go_enter Tryz.func120,Tryz.ntmps120
 go_wp2_with fail
 refine c.mono ?_
 rintro e w' ⟨rfl,rfl⟩
 go_wp2
 go_ret
 exact ⟨rfl,rfl⟩
theorem compareName_any (w : World) (c : Cg) (s : ByteArray) : Calls Tryz.prog 102 #[.agg (cgC c),.string s] w fun e w' => e = .returned (.int .i64 (cmpS c.pl.name s)) ∧ Below w.heap.size w w':=by
 have hc1:=CgAt.laid w c
 have hb1 : Below w.heap.size w (w.alloc (.cells (cgC c) 114)):=(Below.refl _ w).alloc (Nat.le_refl _) _
 obtain ⟨w1,hw1⟩ : ∃ w1,w.alloc (.cells (cgC c) 114) = w1:=⟨_,rfl⟩
 rw [hw1] at hc1 hb1
 have c2:=hc1.c2
 have cc:=compareS_any w1 c.pl.name s
 go_enter Tryz.func102,Tryz.ntmps102
 go_wp2_with fail
 refine cc.mono ?_
 rintro e w' ⟨rfl,rfl⟩
 go_wp2
 go_ret
 exact ⟨rfl,hb1⟩
theorem RdC.range {w : World} {a : Option Addr} {n c : Nat} {B : List Cg} (h : RdC w (.slice a n c) B) (hB : ∀ c ∈ B,CgOk c) : B.length = n ∧ (0 < n → ∃ g off,a = some ⟨g,off,none⟩ ∧ g < w.heap.size ∧ ∀ i,i < n → w.rangeAt g (off + i * 46) (cgL (B.getD i cg0))):=by
 obtain ⟨a',c',e,_,h2⟩:=h
 simp only [Value.slice.injEq] at e
 obtain ⟨rfl,rfl,rfl⟩:=e
 refine ⟨rfl,fun hp => ?_⟩
 obtain ⟨g,off,e1,e2,e3⟩:=h2 hp
 refine ⟨g,off,e1,e2,fun i hi j u hu => ?_⟩
 have hk : CgOk (B.getD i cg0):=hB _ (by rw [List.getD_eq_getElem?_getD,List.getElem?_eq_getElem hi]; exact List.getElem_mem _)
 have hj : j < 46:=by have:=(List.getElem?_eq_some_iff.1 hu).1; rwa [cgL_len hk.pt.ch.1] at this
 have:=e3 (i * 46 + j) u (by rw [flat_at hB hi j hj]; exact hu)
 rw [Nat.add_assoc]
 exact this
def lessN (k : ByteArray) (c : Cg) : Bool:=Op.bytesLess c.pl.name.toList k.toList
def fnN (C : List Cg) (k : ByteArray) : Nat:=C.countP (lessN k)
def fnB (C : List Cg) (k : ByteArray) : Bool :=
 match C[fnN C k]? with
 | some c => c.pl.name.toList == k.toList
 | none => false
theorem countP_at {α : Type} (f : α → Bool) : ∀ (l : List α) (i : Nat),i ≤ l.length → (∀ t x,t < i → l[t]? = some x → f x = true) → (∀ t x,i ≤ t → l[t]? = some x → f x = false) → l.countP f = i
 | [],i,hi,_,_ => by simp at hi; simp [hi]
 | a :: r,0,_,_,h2 => by
  rw [List.countP_eq_zero]
  intro x hx
  obtain ⟨t,ht,rfl⟩:=List.getElem_of_mem hx
  have:=h2 t _ (Nat.zero_le _) (List.getElem?_eq_getElem ht)
  simp [this]
 | a :: r,i + 1,hi,h1,h2 => by
  have ha : f a = true:=h1 0 a (Nat.succ_pos _) rfl
  rw [List.countP_cons_of_pos ha,countP_at f r i (by simpa using hi) (fun t x ht hx => h1 (t + 1) x (by omega) (by simpa using hx)) (fun t x ht hx => h2 (t + 1) x (by omega) (by simpa using hx))]
theorem fnN_le (C : List Cg) (k : ByteArray) : fnN C k ≤ C.length:=List.countP_le_length
theorem cmpN_neg {c : Cg} {k : ByteArray} (h : lessN k c = true) : cmpS c.pl.name k = -1:=by unfold lessN at h; unfold cmpS; rw [if_pos h]
theorem cmpN_pos {c : Cg} {k : ByteArray} (h : lessN k c = false) : cmpS c.pl.name k = if (c.pl.name.toList == k.toList) = true then 0 else 1:=by unfold lessN at h; unfold cmpS; rw [if_neg (by simp only [h]; simp)]
def SortN (C : List Cg) (k : ByteArray) : Prop:=∀ (i j : Nat) (x y : Cg),i ≤ j → C[i]? = some x → C[j]? = some y → lessN k y = true → lessN k x = true
theorem bsearchN_any (w0 : World) (a : Option Addr) (n cap : Nat) (C : List Cg) (k : ByteArray) (hC : ∀ c ∈ C,CgOk c) (hP : RdC w0 (.slice a n cap) C) (hnc : n ≤ cap) (hcm : cap ≤ maxLen) (hS : SortN C k) (hsm : n ≤ 1000000) :
  Calls Tryz.prog 101 #[.slice a n cap,.string k,.func (.func 102) #[] #[]] w0 fun e w' =>
   e = .returned (.tuple #[.int .i64 (fnN C k : Nat),.bool (fnB C k)]) ∧ Below w0.heap.size w0 w':=by
 obtain ⟨hl,hI⟩:=hP.range hC
 have HI : Hid _:=hI
 have HS : Hid _:=hS
 have HC : Hid _:=hC
 unfold maxLen at hcm
 clear hI hS hP hC
 generalize hF : fnN C k = F
 generalize hFB : fnB C k = FB
 have HF : Hid (fnN C k = F):=hF
 have HFB : Hid (fnB C k = FB):=hFB
 clear hF hFB
 go_enter Tryz.func101,Tryz.ntmps101
 go_wp2
 go_loopg [9,10,11] n (fun kx s9 s10 _ wr => ∃ lo hi : Nat,s9 = .int .i64 lo ∧ s10 = .int .i64 hi ∧ lo ≤ hi ∧ hi ≤ n ∧ hi - lo ≤ kx ∧ Hid (Below w0.heap.size w0 wr) ∧
  Hid ((∀ t x,t < lo → C[t]? = some x → lessN k x = true) ∧ (∀ t x,hi ≤ t → C[t]? = some x → lessN k x = false)))
 case atStart =>
  have I0 : Hid ((∀ t x,t < 0 → C[t]? = some x → lessN k x = true) ∧ (∀ t x,n ≤ t → C[t]? = some x → lessN k x = false)) :=
   ⟨fun t x ht _ => absurd ht (Nat.not_lt_zero _),fun t x ht hx => by have:=(List.getElem?_eq_some_iff.1 hx).1; omega⟩
  exact ⟨0,n,rfl,rfl,Nat.zero_le _,Nat.le_refl _,by omega,Below.refl _ _,I0⟩
 case round =>
  obtain ⟨lo,hi,rfl,rfl,hlh,hin,hg,HB,I⟩:=hrel
  by_cases hlt : lo < hi
  ·have hmid : (lo + hi) / 2 < n:=by omega
   obtain ⟨b,off,rfl,hb,hcs⟩:=HI.out (by omega)
   have hx : C[(lo + hi) / 2]? = some (C.getD ((lo + hi) / 2) cg0):=by rw [List.getD_eq_getElem?_getD,List.getElem?_eq_getElem (by omega)]; rfl
   have hok : CgOk (C.getD ((lo + hi) / 2) cg0):=HC.out _ (List.mem_of_getElem? hx)
   have hrg : wr.rangeAt b (off + (lo + hi) / 2 * 46) (cgL (C.getD ((lo + hi) / 2) cg0)):=fun j u hu => (HB.out.cell (p:=⟨b,off + (lo + hi) / 2 * 46 + j,none⟩) hb).trans (hcs _ hmid j u hu)
   obtain ⟨c,hce⟩ : ∃ c,C.getD ((lo + hi) / 2) cg0 = c:=⟨_,rfl⟩
   rw [hce] at hx hok hrg
   have HLD : Hid _:=range_load hrg hok
   have HX : Hid (C[(lo + hi) / 2]? = some c):=hx
   have hc:=compareName_any wr c k
   clear hcs hx hce hrg
   cases hy : lessN k c with
   | true =>
    rw [cmpN_neg hy] at hc
    go_wp2_with (refine wpList_loadG rfl 114 _ rfl _ rfl _ HLD.out ?_)
    refine hc.mono ?_
    rintro e w2 ⟨rfl,hb2⟩
    have HB2 : Hid (Below w0.heap.size w0 w2):=HB.out.trans (hb2.mono HB.out.size)
    clear hb2 hc HLD
    go_wp2
    go_roundg (hi - ((lo + hi) / 2 + 1))
    case measure => omega
    case rel =>
     have I2 : Hid ((∀ t x,t < (lo + hi) / 2 + 1 → C[t]? = some x → lessN k x = true) ∧ (∀ t x,hi ≤ t → C[t]? = some x → lessN k x = false)):=⟨fun t x ht hx => HS.out t ((lo + hi) / 2) x _ (by omega) hx HX.out hy,I.out.2⟩
     exact ⟨(lo + hi) / 2 + 1,hi,by rw [show ((lo : Int) + (hi : Int)) / 2 + 1 = (((lo + hi) / 2 + 1 : Nat) : Int) by omega],rfl,by omega,hin,Nat.le_refl _,HB2,I2⟩
   | false =>
    rw [cmpN_pos hy] at hc
    have hz : ¬ (if (c.pl.name.toList == k.toList) = true then (0 : Int) else 1) < 0:=by split <;> decide
    generalize (if (c.pl.name.toList == k.toList) = true then (0 : Int) else 1) = z at *
    go_wp2_with (refine wpList_loadG rfl 114 _ rfl _ rfl _ HLD.out ?_)
    refine hc.mono ?_
    rintro e w2 ⟨rfl,hb2⟩
    have HB2 : Hid (Below w0.heap.size w0 w2):=HB.out.trans (hb2.mono HB.out.size)
    clear hb2 hc HLD
    go_wp2
    go_roundg ((lo + hi) / 2 - lo)
    case measure => omega
    case rel =>
     have I2 : Hid ((∀ t x,t < lo → C[t]? = some x → lessN k x = true) ∧ (∀ t x,(lo + hi) / 2 ≤ t → C[t]? = some x → lessN k x = false)):=⟨I.out.1,fun t x ht hx => by
      cases hq : lessN k x with
      | false => rfl
      | true => rw [HS.out ((lo + hi) / 2) t _ x ht HX.out hx hq] at hy; cases hy⟩
     exact ⟨lo,(lo + hi) / 2,rfl,by rw [show ((lo : Int) + (hi : Int)) / 2 = (((lo + hi) / 2 : Nat) : Int) by omega],by omega,by omega,Nat.le_refl _,HB2,I2⟩
  ·obtain rfl : hi = lo:=by omega
   have ecnt : F = hi:=by
    rw [← HF.out]
    exact countP_at _ C hi (by omega) I.out.1 I.out.2
   by_cases hn : hi < n
   ·obtain ⟨b,off,rfl,hb,hcs⟩:=HI.out (by omega)
    have hx : C[hi]? = some (C.getD hi cg0):=by rw [List.getD_eq_getElem?_getD,List.getElem?_eq_getElem (by omega)]; rfl
    have hok : CgOk (C.getD hi cg0):=HC.out _ (List.mem_of_getElem? hx)
    have hrg : wr.rangeAt b (off + hi * 46) (cgL (C.getD hi cg0)):=fun j u hu => (HB.out.cell (p:=⟨b,off + hi * 46 + j,none⟩) hb).trans (hcs _ hn j u hu)
    obtain ⟨c,hce⟩ : ∃ c,C.getD hi cg0 = c:=⟨_,rfl⟩
    rw [hce] at hx hok hrg
    have HLD : Hid _:=range_load hrg hok
    have hc:=compareName_any wr c k
    have hy:=I.out.2 hi _ (Nat.le_refl _) hx
    rw [cmpN_pos hy] at hc
    have eFB : FB = (c.pl.name.toList == k.toList):=by
     rw [← HFB.out]; unfold fnB; rw [HF.out,ecnt,hx]
    clear hcs hx hy hce hrg
    subst ecnt
    cases hq : (c.pl.name.toList == k.toList) with
    | true =>
     rw [hq] at hc eFB
     subst eFB
     simp only [if_true] at hc
     go_wp2_with (refine wpList_loadG rfl 114 _ rfl _ rfl _ HLD.out ?_)
     refine hc.mono ?_
     rintro e w2 ⟨rfl,hb2⟩
     have HB2 : Hid (Below w0.heap.size w0 w2):=HB.out.trans (hb2.mono HB.out.size)
     clear hb2 hc HLD
     go_wp2
     go_ret2
     exact ⟨rfl,HB2.out⟩
    | false =>
     rw [hq] at hc eFB
     subst eFB
     simp only [Bool.false_eq_true,if_false] at hc
     go_wp2_with (refine wpList_loadG rfl 114 _ rfl _ rfl _ HLD.out ?_)
     refine hc.mono ?_
     rintro e w2 ⟨rfl,hb2⟩
     have HB2 : Hid (Below w0.heap.size w0 w2):=HB.out.trans (hb2.mono HB.out.size)
     clear hb2 hc HLD
     go_wp2
     go_ret2
     exact ⟨rfl,HB2.out⟩
   ·have eFB : FB = false:=by
     rw [← HFB.out]; unfold fnB; rw [HF.out,ecnt,List.getElem?_eq_none (by omega)]
    subst ecnt
    subst eFB
    go_wp2
    go_ret2
    exact ⟨rfl,HB.out⟩
end Go.Proofs.YtgajjphjkbnaeaaGreat
