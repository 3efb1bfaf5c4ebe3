/- VwDel, VwDel2: in one text. -/
import Derived.Test.YtgajjphjkbnaeaaGreatQ22
import Derived.Test.YtgajjphjkbnaeaaGreatQ21
import Derived.Deep.RegionLaw
import Derived.ArgAppend
namespace Go.Proofs.YtgajjphjkbnaeaaGreat
open Go.RowKit
set_option linter.unusedVariables false
set_option maxHeartbeats 32000000
set_option maxRecDepth 100000
set_option linter.unusedSimpArgs false
def keepE (ino : Int) (c : Cg) : Bool:=decide (c.pl.ino = ino) && decide (c.pl.part = 2)
def kept (ino : Int) (L : List Cg) : List Cg:=L.filter (keepE ino)
theorem entries1_any {w : World} {b : Nat} {ino : Int} (hb : w.cell? ⟨b,0,none⟩ = some (.int .u32 ino)) (c : Cg) : Calls Tryz.prog 108 #[.agg (cgC c),.pointer (some ⟨b,0,none⟩)] w fun e w' => e = .returned (.bool (!keepE ino c)) ∧ Below w.heap.size w w':=by
 have hc1:=CgAt.laid w c
 have hb1 : Below w.heap.size w (w.alloc (.cells (cgC c) 114)):=(Below.refl _ w).alloc (Nat.le_refl _) _
 have hlt : b < w.heap.size:=by
  unfold World.cell? at hb
  cases hq : w.heap[b]? with
  | none => simp [hq] at hb
  | some o => exact (Array.getElem?_eq_some_iff.1 hq).1
 have hbb:=(hb1.cell (p:=⟨b,0,none⟩) hlt).trans hb
 obtain ⟨w1,hw1⟩ : ∃ w1,w.alloc (.cells (cgC c) 114) = w1:=⟨_,rfl⟩
 rw [hw1] at hc1 hb1 hbb
 have c0:=hc1.c0
 have c1:=hc1.c1
 unfold keepE
 by_cases h1 : c.pl.ino = ino
 ·by_cases h2 : c.pl.part = 2
  ·go_enter Tryz.func108,Tryz.ntmps108
   go_wp2
   go_ret
   exact ⟨by simp [h1,h2],hb1⟩
  ·go_enter Tryz.func108,Tryz.ntmps108
   go_wp2
   go_ret
   exact ⟨by simp [h1,h2],hb1⟩
 ·go_enter Tryz.func108,Tryz.ntmps108
  go_wp2
  go_ret
  exact ⟨by simp [h1],hb1⟩
def goesI (ino : Int) (L : List Cg) : Int:=if L.all (keepE ino) then -1 else ((L.takeWhile (keepE ino)).length : Nat)
theorem indexFunc_any {w : World} {b : Nat} {ino : Int} (hb : w.cell? ⟨b,0,none⟩ = some (.int .u32 ino)) (hlb : b < w.heap.size) (a : Option Addr) (n cap : Nat) (L : List Cg) (hL : ∀ c ∈ L,CgOk c) (hrd : RdC w (.slice a n cap) L) (hnc : n ≤ cap) (hcm : cap ≤ maxLen) :
  Calls Tryz.prog 122 #[.slice a n cap,.func (.func 108) #[] #[.pointer (some ⟨b,0,none⟩)]] w fun e w' => e = .returned (.int .i64 (goesI ino L)) ∧ Below w.heap.size w w':=by
 obtain ⟨hl,hI⟩:=hrd.range hL
 unfold maxLen at hcm
 go_enter Tryz.func122,Tryz.ntmps122
 go_wp2_with fail
 go_loopw [5,8] (fun _ t wr => ∃ (i : Nat),i ≤ n ∧ t = .int .i64 i ∧ Hid (∀ c ∈ L.take i,keepE ino c = true) ∧ Hid (Below w.heap.size w wr)) (fun _ t _ => n - (intOf t).toNat)
 case atStart => exact ⟨0,Nat.zero_le _,rfl,fun c hc => by simp at hc,Below.refl _ _⟩
 case round =>
  obtain ⟨i,hi,rfl,HK,HB⟩:=hrel
  by_cases hlt : i < n
  ·have hltI : (i : Int) < n:=by omega
   obtain ⟨g,off,rfl,hg,hcs⟩:=hI (by omega)
   have hx : L[i]? = some (L.getD i cg0):=by rw [List.getD_eq_getElem?_getD,List.getElem?_eq_getElem (by omega)]; rfl
   have hok : CgOk (L.getD i cg0):=hL _ (List.mem_of_getElem? hx)
   have hrg : wr.rangeAt g (off + i * 46) (cgL (L.getD i cg0)):=fun j u hu => (HB.out.cell (p:=⟨g,off + i * 46 + j,none⟩) hg).trans (hcs _ hlt j u hu)
   have ht : L.take (i + 1) = L.take i ++ [L.getD i cg0]:=by rw [List.take_add_one,hx]; rfl
   obtain ⟨c,hce⟩ : ∃ c,L.getD i cg0 = c:=⟨_,rfl⟩
   rw [hce] at hok hrg ht hx
   have HLD : Hid _:=range_load hrg hok
   have ce:=entries1_any (w:=wr) ((HB.out.cell (p:=⟨b,0,none⟩) hlb).trans hb) c
   clear hcs hce hrg
   cases hk : keepE ino c
   ·rw [hk] at ce
    have HG : Hid (goesI ino L = i):=by
     unfold Hid goesI
     have hd : L = L.take i ++ c :: L.drop (i + 1):=by
      have:=List.take_append_drop (i + 1) L
      rw [ht,List.append_assoc] at this
      exact this.symm
     rw [if_neg (fun h => by rw [List.all_eq_true] at h; have:=h c (List.mem_of_getElem? hx); rw [hk] at this; cases this)]
     congr 1
     rw [hd,List.takeWhile_append_of_pos HK.out]
     simp [hk]; omega
    go_wp2_with (refine wpList_loadG rfl 114 _ rfl _ rfl _ HLD.out ?_)
    refine ce.mono ?_
    rintro e w2 ⟨rfl,hb2⟩
    clear ce
    have HB2 : Hid (Below w.heap.size w w2):=HB.out.trans (hb2.mono HB.out.size)
    clear hb2 HLD
    go_wp2
    go_ret
    exact ⟨by rw [HG.out]; rfl,HB2.out⟩
   ·rw [hk] at ce
    have HK2 : Hid (∀ c ∈ L.take (i + 1),keepE ino c = true):=fun d hd => by
     rw [ht] at hd
     rcases List.mem_append.1 hd with hd | hd
     ·exact HK.out d hd
     ·rw [List.mem_singleton] at hd; rw [hd]; exact hk
    go_wp2_with (refine wpList_loadG rfl 114 _ rfl _ rfl _ HLD.out ?_)
    refine ce.mono ?_
    rintro e w2 ⟨rfl,hb2⟩
    clear ce
    have HB2 : Hid (Below w.heap.size w w2):=HB.out.trans (hb2.mono HB.out.size)
    clear hb2 HLD
    go_wp2_with fail
    go_roundw
    case rel => exact ⟨i + 1,by omega,by go_num,HK2,HB2⟩
    case measure => simp [intOf]; omega
  ·obtain rfl : i = n:=by omega
   have hltI : ¬ (i : Int) < i:=by omega
   have HG : Hid (goesI ino L = -1):=by
    unfold Hid goesI
    rw [if_pos (by rw [List.all_eq_true]; intro c hc; exact HK.out c (by rw [List.take_of_length_le (by omega)]; exact hc))]
   go_wp2
   go_ret
   exact ⟨by rw [HG.out]; rfl,HB.out⟩
theorem wpList_store_in {w : World} {ops : Array Oper} {rest : List Oper} {o : Oper} {a : Act} {Q : Exit → Act → World → Prop} (hg : o.guard = none) (x y : Operand) (ho : o.op = .store 114 x y)
  (g k : Nat) (c : Cg) (cur : Array Value) (hx : a.eval x = .pointer (some ⟨g,k,none⟩)) (hy : a.eval y = .agg (cgC c)) (hc : c.pt.bytes.length = 32) (hrow : w.heap[g]? = some (.cells cur 114 (0,0))) (hk : k + 46 ≤ cur.size)
  (h : wpList Tryz.prog ops Q rest (a.put o.dst undef) (w.setRow g (cur.toList.take k ++ cgL c ++ cur.toList.drop (k + 46)).toArray)) : wpList Tryz.prog ops Q (o :: rest) a w:=by
 have hcs:=cgC_size hc
 refine wpList_store_mid hg _ x y ho g k (cgC c) hx hy (fun j hj => ?_) (by rw [hcs]; exact size_cg) (one_cg c) ?_
 ·rw [hcs] at hj
  refine ⟨?_,frozen_of_row w g _ cur _ hrow⟩
  rw [cell_of_row _ _ _ _ _ (0,0) hrow,Array.getElem?_eq_getElem (by omega)]; rfl
 ·have e : w.setCells g k (cgC c).toList = w.setRow g (cur.toList.take k ++ cgL c ++ cur.toList.drop (k + 46)).toArray:=by
   rw [setCells_row Tryz.prog w g k 114 (cgC c).toList cur hrow (by rw [Array.length_toList,hcs]; exact hk) (fun u hu => one_cgL c u (by simpa [cgC] using hu))]
   rw [Array.length_toList,hcs]
   rfl
  rw [e]; exact h
structure DfS (w W : World) (base g n cap : Nat) (ino : Int) (L : List Cg) (i j : Nat) : Prop where
 row : ∃ cs,W.heap[g]? = some (.cells cs 114 (0,0)) ∧ cs.size = cap * 46 ∧ cs.toList.take (i * 46) = (kept ino (L.take j)).flatMap cgL ∧ (cs.toList.drop (j * 46)).take ((n - j) * 46) = (L.drop j).flatMap cgL
 i : i = (kept ino (L.take j)).length
 bel : Below base w W
theorem DfS.below {w W W' : World} {base g n cap : Nat} {ino : Int} {L : List Cg} {i j : Nat} (h : DfS w W base g n cap ino L i j) (hbase : base ≤ w.heap.size) (hb : Below W.heap.size W W') : DfS w W' base g n cap ino L i j:=by
 obtain ⟨cs,h1,h2⟩:=h.row
 exact ⟨⟨cs,(hb.block g (Array.getElem?_eq_some_iff.1 h1).1).trans h1,h2⟩,h.i,h.bel.trans (hb.mono (Nat.le_trans hbase h.bel.size))⟩
theorem kept_len (ino : Int) (L : List Cg) : (kept ino L).length ≤ L.length:=List.length_filter_le _ _
theorem kept_snoc (ino : Int) (L : List Cg) (c : Cg) : kept ino (L ++ [c]) = kept ino L ++ (if keepE ino c then [c] else []):=by
 unfold kept
 rw [List.filter_append]
 cases h : keepE ino c <;> simp [h]
theorem DfS.range {w W : World} {base g n cap : Nat} {ino : Int} {L : List Cg} {i j : Nat} (h : DfS w W base g n cap ino L i j) (hL : ∀ c ∈ L,CgOk c) (hn : L.length = n) (hj : j < n) : W.rangeAt g (j * 46) (cgL (L.getD j cg0)):=by
 obtain ⟨cs,h1,h2,_,h4⟩:=h.row
 intro t u hu
 have hok : CgOk (L.getD j cg0):=hL _ (by rw [List.getD_eq_getElem?_getD,List.getElem?_eq_getElem (by omega)]; exact List.getElem_mem _)
 have ht : t < 46:=by have:=(List.getElem?_eq_some_iff.1 hu).1; rwa [cgL_len hok.pt.ch.1] at this
 rw [cell_of_row _ _ _ _ _ (0,0) h1,← Array.getElem?_toList]
 have e:=flat_at (L:=L.drop j) (fun c hc => hL c (List.mem_of_mem_drop hc)) (i:=0) (by rw [List.length_drop]; omega) t ht
 rw [← h4,Nat.zero_mul,Nat.zero_add,List.getElem?_take_of_lt (by have : 1 * 46 ≤ (n - j) * 46:=Nat.mul_le_mul_right 46 (by omega); omega),List.getElem?_drop] at e
 rw [e,← hu]
 congr 2
 rw [List.getD_eq_getElem?_getD,List.getD_eq_getElem?_getD,List.getElem?_drop,Nat.add_zero]
theorem take_getD {L : List Cg} {j : Nat} (hj : j < L.length) : L.take (j + 1) = L.take j ++ [L.getD j cg0]:=by
 rw [List.take_add_one,List.getElem?_eq_getElem hj,List.getD_eq_getElem?_getD,List.getElem?_eq_getElem hj]; rfl
theorem DfS.skip {w W : World} {base g n cap : Nat} {ino : Int} {L : List Cg} {i j : Nat} (h : DfS w W base g n cap ino L i j) (hL : ∀ c ∈ L,CgOk c) (hn : L.length = n) (hj : j < n) (hk : keepE ino (L.getD j cg0) = false) : DfS w W base g n cap ino L i (j + 1):=by
 obtain ⟨cs,h1,h2,h3,h4⟩:=h.row
 have e : kept ino (L.take (j + 1)) = kept ino (L.take j):=by rw [take_getD (by omega),kept_snoc,hk]; simp
 refine ⟨⟨cs,h1,h2,by rw [e]; exact h3,?_⟩,by rw [e]; exact h.i,h.bel⟩
 have h5:=congrArg (List.drop 46) h4
 rw [List.drop_take,List.drop_drop] at h5
 rw [show (j + 1) * 46 = j * 46 + 46 by omega,show (n - (j + 1)) * 46 = (n - j) * 46 - 46 by omega,h5]
 have h6:=flatC_drop (xs:=L.drop j) (fun c hc => hL c (List.mem_of_mem_drop hc)) 1
 rw [Nat.one_mul,List.drop_drop] at h6
 exact h6
theorem DfS.put {w W : World} {base g n cap : Nat} {ino : Int} {L : List Cg} {i j : Nat} (h : DfS w W base g n cap ino L i j) (hL : ∀ c ∈ L,CgOk c) (hn : L.length = n) (hj : j < n) (hnc : n ≤ cap) (hg : base ≤ g) (hk : keepE ino (L.getD j cg0) = true) {cur : Array Value} (hcur : W.heap[g]? = some (.cells cur 114 (0,0))) :
  DfS w (W.setRow g (cur.toList.take (i * 46) ++ cgL (L.getD j cg0) ++ cur.toList.drop (i * 46 + 46)).toArray) base g n cap ino L (i + 1) (j + 1) ∧ i * 46 + 46 ≤ cur.size:=by
 obtain ⟨cs,h1,h2,h3,h4⟩:=h.row
 have hcc : cs = cur:=by rw [h1] at hcur; simpa using hcur
 subst hcc
 have hok : CgOk (L.getD j cg0):=hL _ (by rw [List.getD_eq_getElem?_getD,List.getElem?_eq_getElem (by omega)]; exact List.getElem_mem _)
 have hcl:=cgL_len hok.pt.ch.1
 have hij : i ≤ j:=by
  have:=kept_len ino (L.take j)
  rw [h.i]; rw [List.length_take] at this; omega
 have hfit : i * 46 + 46 ≤ cs.size:=by
  rw [h2]
  have : (i + 1) * 46 ≤ cap * 46:=Nat.mul_le_mul_right 46 (by omega)
  omega
 have e : kept ino (L.take (j + 1)) = kept ino (L.take j) ++ [L.getD j cg0]:=by rw [take_getD (by omega),kept_snoc,hk]; simp
 have hlt : (cs.toList.take (i * 46)).length = i * 46:=by rw [List.length_take,Array.length_toList]; omega
 refine ⟨⟨⟨_,setRow_heap W g cs _ _ _ h1,?_,?_,?_⟩,by rw [e,List.length_append]; simp; exact h.i,below_setRow h.bel hg _⟩,hfit⟩
 ·rw [List.size_toArray,List.length_append,List.length_append,hlt,hcl,List.length_drop,Array.length_toList]; omega
 ·rw [e,List.flatMap_append,← h3]
  show ((cs.toList.take (i * 46) ++ cgL (L.getD j cg0)) ++ _).take _ = _
  rw [List.take_append_of_le_length (by rw [List.length_append,hlt,hcl]; omega),List.take_of_length_le (by rw [List.length_append,hlt,hcl]; omega)]
  simp
 ·have hdr : (cs.toList.take (i * 46) ++ cgL (L.getD j cg0) ++ cs.toList.drop (i * 46 + 46)).drop ((j + 1) * 46) = cs.toList.drop ((j + 1) * 46):=by
   rw [List.drop_append,List.drop_of_length_le (by rw [List.length_append,hlt,hcl]; have : (i + 1) * 46 ≤ (j + 1) * 46:=Nat.mul_le_mul_right 46 (by omega); omega),List.nil_append,List.length_append,hlt,hcl,List.drop_drop]
   congr 1
   have : (i + 1) * 46 ≤ (j + 1) * 46:=Nat.mul_le_mul_right 46 (by omega)
   omega
  rw [show ((cs.toList.take (i * 46) ++ cgL (L.getD j cg0) ++ cs.toList.drop (i * 46 + 46)).toArray).toList = (cs.toList.take (i * 46) ++ cgL (L.getD j cg0) ++ cs.toList.drop (i * 46 + 46)) from rfl,hdr]
  have h5:=congrArg (List.drop 46) h4
  rw [List.drop_take,List.drop_drop] at h5
  rw [show (j + 1) * 46 = j * 46 + 46 by omega,show (n - (j + 1)) * 46 = (n - j) * 46 - 46 by omega,h5]
  have h6:=flatC_drop (xs:=L.drop j) (fun c hc => hL c (List.mem_of_mem_drop hc)) 1
  rw [Nat.one_mul,List.drop_drop] at h6
  exact h6
theorem run_clear_cg (P : Program) (w : World) (t e ty : TypeId) (z : Value) (ht : P.underlying t = some (.slice e)) (hv : ∀ w,(zeroValue e).run P w = .ok z w) (g o n c : Nat) (cur : Array Value) (hn : 0 < n) (h1 : ∀ u ∈ (Builtin.zeroCells z.cells n).toList,u.oneCell' = true)
  (hg : w.heap[g]? = some (.cells cur e (0,0))) (hfit : o + (Builtin.zeroCells z.cells n).toList.length ≤ cur.size) :
  (Builtin.clear_ #[t] ty #[.slice (some ⟨g,o,none⟩) n c]).run P w = .ok (.tuple #[]) (w.setRow g (cur.toList.take o ++ (Builtin.zeroCells z.cells n).toList ++ cur.toList.drop (o + (Builtin.zeroCells z.cells n).toList.length)).toArray):=by
 have hst:=run_storeCells_at P g o e (Builtin.zeroCells z.cells n).toList 0 cur w hg (by simpa using hfit) h1
 simp only [Nat.add_zero] at hst
 obtain ⟨m,rfl⟩ : ∃ m,n = m + 1:=⟨n - 1,by omega⟩
 simp [Builtin.clear_,run_underlying ht,hv]
 simp at hst
 rw [hst]
 rfl
theorem zg_len (n : Nat) : (Builtin.zeroCells (Value.agg (cgC cg0)).cells n).toList.length = n * 46:=by
 have hs:=cgC_size cg0_ok.pt.ch.1
 simp [Builtin.zeroCells,Value.cells,hs]
theorem zg_one (n : Nat) : ∀ u ∈ (Builtin.zeroCells (Value.agg (cgC cg0)).cells n).toList,u.oneCell' = true:=by
 intro u hu
 have hz : ∀ v ∈ (cgC cg0).toList,v.oneCell' = true:=fun v hv => one_cgL _ v (by simpa [cgC] using hv)
 obtain ⟨t,ht,rfl⟩:=List.mem_iff_getElem.1 hu
 have hs:=cgC_size cg0_ok.pt.ch.1
 have hlt : t % 46 < 46:=Nat.mod_lt _ (by decide)
 have e : (Builtin.zeroCells (Value.agg (cgC cg0)).cells n).toList[t] = (cgC cg0)[t % 46]!:=by
  simp [Builtin.zeroCells,Value.cells,hs]
 rw [e,getElem!_pos _ _ (by rw [hs]; exact hlt)]
 exact hz _ (by simp)
theorem goes_none {ino : Int} {L : List Cg} (h : goesI ino L = -1) : kept ino L = L:=by
 unfold goesI at h
 split at h
 ·rename_i ha
  unfold kept
  rw [List.filter_eq_self]
  exact fun c hc => List.all_eq_true.1 ha c hc
 ·omega
theorem goes_some {ino : Int} {L : List Cg} (h : ¬ goesI ino L = -1) : ∃ i : Nat,goesI ino L = i ∧ i < L.length ∧ kept ino (L.take (i + 1)) = L.take i ∧ (L.take i).length = i:=by
 unfold goesI at h ⊢
 split at h
 ·exact absurd rfl h
 ·rename_i ha
  rw [if_neg ha]
  have hne : ∃ c ∈ L,keepE ino c = false:=by
   have hf : L.all (keepE ino) = false:=by simpa using ha
   obtain ⟨c,hc,hk⟩:=List.all_eq_false.1 hf
   exact ⟨c,hc,by simpa using hk⟩
  clear ha h
  suffices H : ∀ L : List Cg,(∃ c ∈ L,keepE ino c = false) → (L.takeWhile (keepE ino)).length < L.length ∧ kept ino (L.take ((L.takeWhile (keepE ino)).length + 1)) = L.take (L.takeWhile (keepE ino)).length by
   obtain ⟨h1,h2⟩:=H L hne
   exact ⟨_,rfl,h1,h2,by rw [List.length_take]; omega⟩
  intro L
  induction L with
  | nil => rintro ⟨c,hc,_⟩; cases hc
  | cons x L ih =>
   intro hx
   cases hk : keepE ino x
   ·simp [hk,kept]
   ·obtain ⟨c,hc,hcf⟩:=hx
    rcases List.mem_cons.1 hc with rfl | hc
    ·rw [hk] at hcf; cases hcf
    ·obtain ⟨h1,h2⟩:=ih ⟨c,hc,hcf⟩
     simp only [List.takeWhile_cons,hk,if_true,List.length_cons,List.take_succ_cons]
     refine ⟨by omega,?_⟩
     unfold kept at h2 ⊢
     rw [List.filter_cons_of_pos hk,h2]
theorem deleteFunc_any {w : World} {b base : Nat} {ino : Int} (hb : w.cell? ⟨b,0,none⟩ = some (.int .u32 ino)) (hlb : b < base) (hbase : base ≤ w.heap.size) (L : List Cg) (hL : ∀ c ∈ L,CgOk c) (u : Value) (hu : w.ownsRow base 114 46 u L.length (L.flatMap cgL)) :
  Calls Tryz.prog 106 #[u,.func (.func 108) #[] #[.pointer (some ⟨b,0,none⟩)]] w fun e w' =>
   ∃ a c,e = .returned (.slice a (kept ino L).length c) ∧ RdC w' (.slice a (kept ino L).length c) (kept ino L) ∧ (kept ino L).length ≤ c ∧ c ≤ maxLen ∧ (∀ ad,a = some ad → base ≤ ad.block ∧ ad.block < w'.heap.size) ∧ Below base w w':=by
 have hz:=zeroCg
 have len0 : cg0.pt.bytes.length = 32:=cg0_ok.pt.ch.1
 have hrd:=rdC_own hu
 obtain ⟨a,cap,rfl⟩:=own_shape hu
 have hcap : L.length ≤ cap ∧ cap ≤ maxLen:=by
  obtain ⟨_,⟨h2,h3⟩ | ⟨g,cap',cur,e1,_,_,h5,h6,_⟩⟩:=hu
  ·simp only [Value.slice.injEq,true_and] at h2; unfold maxLen; omega
  ·simp only [Value.slice.injEq,true_and] at e1; obtain ⟨_,rfl⟩:=e1; exact ⟨h5,h6⟩
 obtain ⟨hnc,hcm⟩:=hcap
 have ci:=indexFunc_any hb (by omega) a L.length cap L hL hrd hnc hcm
 have hlow : ∀ ad,a = some ad → base ≤ ad.block ∧ ad.block < w.heap.size:=by
  intro ad e
  obtain ⟨_,⟨h2,h3⟩ | ⟨g,cap',cur,e1,hge,h4,_⟩⟩:=hu
  ·simp only [Value.slice.injEq] at h2; rw [h2.1] at e; cases e
  ·simp only [Value.slice.injEq] at e1; rw [e1.1] at e; cases e; exact ⟨hge,(Array.getElem?_eq_some_iff.1 h4).1⟩
 obtain ⟨n,hn⟩ : ∃ n,L.length = n:=⟨_,rfl⟩
 have HN : Hid (L.length = n):=hn
 by_cases hgo : goesI ino L = -1
 ·have HKp : Hid (kept ino L = L):=goes_none hgo
  rw [hgo] at ci
  rw [hn] at ci
  rw [hn]
  have HR : Hid (RdC w (.slice a n cap) L):=by rw [← hn]; exact hrd
  rw [hn] at hnc
  clear hrd hu hn hgo
  go_enter Tryz.func106,Tryz.ntmps106
  go_wp2_with fail
  refine ci.mono ?_
  rintro e w1 ⟨rfl,hb1⟩
  clear ci
  go_wp2
  go_ret
  exact ⟨a,cap,by rw [HKp.out,HN.out]; rfl,by rw [HKp.out,HN.out]; exact HR.out.below hb1,by rw [HKp.out,HN.out]; exact hnc,hcm,fun ad e => ⟨(hlow ad e).1,Nat.lt_of_lt_of_le (hlow ad e).2 hb1.size⟩,hb1.mono hbase⟩
 ·obtain ⟨i0,hi0,hlt0,hkt,htl⟩:=goes_some hgo
  obtain ⟨h1,⟨h2,h3⟩ | ⟨g,cap',cur,e1,hgb,hrow,h5,h6,h7,h8⟩⟩:=hu
  ·omega
  simp only [Value.slice.injEq,true_and] at e1
  obtain ⟨rfl,rfl⟩:=e1
  rw [hi0] at ci
  have HS0 : Hid (DfS w w base g n cap ino L i0 (i0 + 1)):=by
   have hmn : i0 * 46 ≤ L.length * 46:=Nat.mul_le_mul_right 46 (by omega)
   refine ⟨⟨cur,hrow,h7,?_,?_⟩,by rw [hkt,htl],Below.refl _ _⟩
   ·rw [hkt,← flatX_take hL,← h8,List.take_take,Nat.min_eq_left hmn]
   ·rw [← flatC_drop hL,← h8,List.drop_take,hn]
    congr 1
    rw [Nat.sub_mul]
  rw [hn] at ci hnc hlt0
  rw [hn]
  unfold maxLen at hcm
  clear hrd h8 h7 h6 h5 hrow h1 hn hgo hi0 hkt htl
  go_enter Tryz.func106,Tryz.ntmps106
  go_wp2_with fail
  refine ci.mono ?_
  rintro e w1 ⟨rfl,hb1⟩
  clear ci
  have HS1 : Hid (DfS w w1 base g n cap ino L i0 (i0 + 1)):=HS0.out.below hbase hb1
  have hi0I : ¬ (i0 : Int) = -1:=by omega
  have hi0B : ((i0 : Int) == -1) = false:=by simp
  go_wp2_with fail
  go_loopw [5,6,7] (fun s5 s6 _ wr => ∃ (i j : Nat),s5 = .int .i64 i ∧ s6 = .int .i64 j ∧ j ≤ n ∧ i < j ∧ Hid (DfS w wr base g n cap ino L i j)) (fun _ t _ _ => n - (intOf t).toNat)
  case atStart => exact ⟨i0,i0 + 1,rfl,by go_num,by omega,by omega,HS1⟩
  case round =>
   obtain ⟨i,j,rfl,rfl,hj,hij,HS⟩:=hrel
   by_cases hlt : j < n
   ·have hltI : (j : Int) < n:=by omega
    have hrg:=HS.out.range hL HN.out hlt
    have hok : CgOk (L.getD j cg0):=hL _ (by rw [List.getD_eq_getElem?_getD,List.getElem?_eq_getElem (by rw [HN.out]; exact hlt)]; exact List.getElem_mem _)
    have HLD : Hid _:=range_load hrg hok
    have HL : Hid ((L.getD j cg0).pt.bytes.length = 32):=hok.pt.ch.1
    have hn3:=CgAt.laid wr cg0
    have hb3:=alloc_row (A:=wr) (.cells (cgC cg0) 114) (cgC (L.getD j cg0))
    have hc3:=hn3.setRow (L.getD j cg0)
    obtain ⟨w3,hw3⟩ : ∃ w3,(wr.alloc (.cells (cgC cg0) 114)).setRow wr.heap.size (cgC (L.getD j cg0)) = w3:=⟨_,rfl⟩
    rw [hw3] at hb3 hc3
    have hS3:=HS.out.below hbase hb3
    have ce:=entries1_any (w:=w3) ((hS3.bel.cell (p:=⟨b,0,none⟩) hlb).trans hb) (L.getD j cg0)
    have l3 : Hid _:=hc3.load HL.out
    obtain ⟨c,hce⟩ : ∃ c,L.getD j cg0 = c:=⟨_,rfl⟩
    have HCE : Hid (L.getD j cg0 = c):=hce
    rw [hce] at HLD HL hw3 hc3 ce l3 hok
    clear hce hrg
    go_wp2_with (first
     | (refine wpList_loadG rfl 114 _ rfl _ rfl _ HLD.out ?_)
     | (refine wpList_loadG rfl 114 _ rfl _ rfl _ l3.out ?_)
     | (refine wpList_storeG rfl _ _ rfl wr.heap.size c cg0 rfl rfl HL.out len0 hn3 ?_; rw [hw3]))
    refine ce.mono ?_
    rintro e w4 ⟨rfl,hb4⟩
    clear ce
    have hS4:=hS3.below hbase hb4
    have hc4:=hc3.below hb4
    cases hk : keepE ino c
    ·have HS5 : Hid (DfS w w4 base g n cap ino L i (j + 1)):=hS4.skip hL HN.out hlt (by rw [HCE.out]; exact hk)
     clear hS4 hS3
     go_wp2_with fail
     go_roundw
     case rel => exact ⟨i,j + 1,rfl,by go_num,by omega,by omega,HS5⟩
     case measure => simp [intOf]; omega
    ·obtain ⟨cs,hcs,hrest⟩:=hS4.row
     clear hrest
     obtain ⟨hS5,hfit⟩:=hS4.put hL HN.out hlt hnc hgb (by rw [HCE.out]; exact hk) hcs
     rw [HCE.out] at hS5
     obtain ⟨w5,hw5⟩ : ∃ w5,w4.setRow g (cs.toList.take (i * 46) ++ cgL c ++ cs.toList.drop (i * 46 + 46)).toArray = w5:=⟨_,rfl⟩
     rw [hw5] at hS5
     have HS5 : Hid (DfS w w5 base g n cap ino L (i + 1) (j + 1)):=hS5
     have l4 : Hid _:=hc4.load HL.out
     have hiI : (i : Int) < n:=by omega
     clear hS4 hS3 hS5
     go_wp2_with (first
      | (refine wpList_loadG rfl 114 _ rfl _ rfl _ l4.out ?_)
      | (refine wpList_store_in rfl _ _ rfl g (i * 46) c cs rfl rfl HL.out hcs hfit ?_; rw [hw5]))
     go_roundw
     case rel => exact ⟨i + 1,j + 1,by go_num,by go_num,by omega,by omega,HS5⟩
     case measure => simp [intOf]; omega
   ·obtain rfl : j = n:=by omega
    have hltI : ¬ (j : Int) < j:=by omega
    obtain ⟨cs,hcs,hsz,htk,_⟩:=HS.out.row
    have hkl:=HS.out.i
    have hall : L.take j = L:=List.take_of_length_le (by rw [HN.out]; exact Nat.le_refl _)
    rw [hall] at htk hkl
    have hfz : i * 46 + (j - i) * 46 ≤ cs.size:=by rw [hsz,← Nat.add_mul]; exact Nat.mul_le_mul_right 46 (by omega)
    have hcl : ∀ ty,(Builtin.clear_ #[173] ty #[.slice (some ⟨g,i * 46,none⟩) (j - i) (cap - i)]).run Tryz.prog wr = .ok (.tuple #[]) _:=fun ty => run_clear_cg Tryz.prog wr _ _ ty _ Tryz.underlying173 hz g (i * 46) (j - i) (cap - i) cs (by omega) (zg_one (j - i)) hcs (by rw [zg_len]; exact hfz)
    rw [zg_len] at hcl
    have hR2 : RdC (wr.setRow g (cs.toList.take (i * 46) ++ (Builtin.zeroCells (Value.agg (cgC cg0)).cells (j - i)).toList ++ cs.toList.drop (i * 46 + (j - i) * 46)).toArray) (.slice (some ⟨g,0,none⟩) (kept ino L).length cap) (kept ino L):=by
     refine ⟨_,_,rfl,(fun e => by cases e),fun hp => ⟨g,0,rfl,by have:=(Array.getElem?_eq_some_iff.1 hcs).1; simpa [World.setRow] using this,fun t x hx => ?_⟩⟩
     rw [cell_of_row _ _ _ _ _ (0,0) (setRow_heap wr g cs _ _ _ hcs),Nat.zero_add,List.getElem?_toArray,List.append_assoc]
     rw [← htk] at hx
     rw [List.getElem?_append_left (List.getElem?_eq_some_iff.1 hx).1]
     exact hx
    have hB2 : Below base w (wr.setRow g (cs.toList.take (i * 46) ++ (Builtin.zeroCells (Value.agg (cgC cg0)).cells (j - i)).toList ++ cs.toList.drop (i * 46 + (j - i) * 46)).toArray):=below_setRow HS.out.bel hgb _
    have hsw : g < (wr.setRow g (cs.toList.take (i * 46) ++ (Builtin.zeroCells (Value.agg (cgC cg0)).cells (j - i)).toList ++ cs.toList.drop (i * 46 + (j - i) * 46)).toArray).heap.size:=by have:=(Array.getElem?_eq_some_iff.1 hcs).1; simpa [World.setRow] using this
    obtain ⟨W2,hW2⟩ : ∃ W2,wr.setRow g (cs.toList.take (i * 46) ++ (Builtin.zeroCells (Value.agg (cgC cg0)).cells (j - i)).toList ++ cs.toList.drop (i * 46 + (j - i) * 46)).toArray = W2:=⟨_,rfl⟩
    rw [hW2] at hcl hR2 hB2 hsw
    have HR2 : Hid _:=hR2
    have HKL : Hid (i = (kept ino L).length):=hkl
    have hiI : (i : Int) ≤ j:=by omega
    have hjI : (j : Int) ≤ cap:=by omega
    have hiC : (i : Int) ≤ cap:=by omega
    have hne : ¬ cap = i:=by omega
    clear hR2 hkl htk hall hcs hW2 hsz hfz
    go_wp2_with fail
    go_ret
    refine ⟨some ⟨g,0,none⟩,cap,by rw [← HKL.out]; rfl,HR2.out,by rw [← HKL.out]; omega,by unfold maxLen; omega,fun ad e => by cases e; exact ⟨hgb,hsw⟩,hB2⟩
end Go.Proofs.YtgajjphjkbnaeaaGreat
