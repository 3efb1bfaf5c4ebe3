/- PtLay, PtTrim, PtJoin: in one text. -/
import Derived.Test.YtgajjphjkbnaeaaGreatQ1
import Derived.Test.YtgajjphjkbnaeaaGreatQ5
import Derived.Shelf.RegionOpen
import Derived.Deep.RegionHeld3
namespace Go.Proofs.YtgajjphjkbnaeaaGreat
open Go.RowKit
set_option linter.unusedVariables false
set_option maxHeartbeats 32000000
set_option maxRecDepth 100000
set_option linter.unusedSimpArgs false
open Go.RowKit Go.Shelf
attribute [local go_sem] Oper.semAt_some
def ranB (b : List Int) (p : Pt) (l : List Run) : List Int:=(List.range 32).map fun i => if inRuns i l then p.bytes.getD i 0 else b.getD i 0
theorem ranB_len (b : List Int) (p : Pt) (l : List Run) : (ranB b p l).length = 32:=by simp [ranB]
theorem ranB_nil {b : List Int} (h : b.length = 32) (p : Pt) : ranB b p [] = b:=by
 unfold ranB
 conv => rhs; rw [ch_eq h]
 exact List.map_congr_left fun i _ => by simp [inRuns]
def frB (b : List Int) (p : Pt) : List Int:=if p.fresh then zeroC else b
theorem frB_len {b : List Int} (h : b.length = 32) (p : Pt) : (frB b p).length = 32:=by unfold frB; split; exact ch_zero.1; exact h
theorem ranB_all {b : List Int} (p : Pt) (l : List Run) (h : ∀ i,i < 32 → inRuns i l = p.mask.testBit i) : ranB (frB b p) p l = layB b p:=by
 unfold ranB layB
 refine List.map_congr_left fun i hi => ?_
 rw [h i (List.mem_range.1 hi)]
 unfold layAt frB
 split
 ·rfl
 ·split
  ·exact zeroC_get i
  ·rfl
theorem ranB_next (b : List Int) (p : Pt) (hp : p.bytes.length = 32) (l : List Run) (r : Run) :
  ((bytesV (ranB b p l)).toList.take r.1.1 ++ (((p.bytes.drop r.1.1).take (r.1.2 - r.1.1)).map (Value.int .u8) ++ (bytesV (ranB b p l)).toList.drop (r.1.1 + (((p.bytes.drop r.1.1).take (r.1.2 - r.1.1)).map (Value.int .u8)).length))).toArray = bytesV (ranB b p (l ++ [r])):=by
 obtain ⟨⟨f,t⟩,hft,ht⟩:=r
 dsimp only at hft ht ⊢
 have hl : (((p.bytes.drop f).take (t - f)).map (Value.int .u8)).length = t - f:=by simp; omega
 rw [hl,show f + (t - f) = t from by omega]
 apply Array.ext'
 unfold bytesV
 simp only []
 apply List.ext_getElem?
 intro i
 have hR : ∀ L : List Run,∀ i,((ranB b p L).map (Value.int .u8))[i]? = if i < 32 then some (.int .u8 (if inRuns i L then p.bytes.getD i 0 else b.getD i 0)) else none:=by
  intro L i
  unfold ranB
  rw [List.map_map,List.getElem?_map]
  by_cases hi : i < 32
  ·rw [List.getElem?_range hi,if_pos hi]; rfl
  ·rw [List.getElem?_eq_none (by simpa using hi),if_neg hi]; rfl
 rw [hR]
 by_cases c1 : i < f
 ·rw [List.getElem?_append_left (by simp [ranB_len]; omega),List.getElem?_take,if_pos c1,hR,inRuns_snoc]
  have : inRun i ⟨(f,t),hft,ht⟩ = false:=by unfold inRun; simp; omega
  rw [this,Bool.or_false]
 ·rw [List.getElem?_append_right (by simp [ranB_len]; omega)]
  have e1 : (List.take f ((ranB b p l).map (Value.int .u8))).length = f:=by simp [ranB_len]; omega
  rw [e1]
  by_cases c2 : i < t
  ·rw [List.getElem?_append_left (by rw [hl]; omega),List.getElem?_map,List.getElem?_take,if_pos (by omega),List.getElem?_drop,show f + (i - f) = i from by omega,if_pos (by omega),inRuns_snoc]
   have : inRun i ⟨(f,t),hft,ht⟩ = true:=by unfold inRun; simp; omega
   rw [this,Bool.or_true,if_pos rfl,List.getElem?_eq_getElem (by omega)]
   simp [List.getElem?_eq_getElem (show i < p.bytes.length by omega)]
  ·rw [List.getElem?_append_right (by rw [hl]; omega),hl,List.getElem?_drop,show t + (i - f - (t - f)) = i from by omega,hR,inRuns_snoc]
   have : inRun i ⟨(f,t),hft,ht⟩ = false:=by unfold inRun; simp; omega
   rw [this,Bool.or_false]
theorem block_kept {W W' : World} {row : Option Nat} {g : Nat} {cs : Array Value} {t : TypeId} {fr : Nat × Nat} (h : W.heap[g]? = some (.cells cs t fr)) (hg : W.grownBy W' row) (hrow : ∀ r,row = some r → ∃ o : Obj,W.heap[r]? = some o ∧ o.isCells = false) : W'.heap[g]? = some (.cells cs t fr) :=
 (grownBy_keeps_cells hg hrow h rfl).trans h
theorem setObj_other (W : World) (l k : Nat) (o : Obj) (h : l ≠ k) : (W.putObj l o).heap[k]? = W.heap[k]?:=by
 simp [World.putObj,Array.getElem?_setIfInBounds,h]
theorem setRow_size (W : World) (g : Nat) (cs : Array Value) : (W.setRow g cs).heap.size = W.heap.size:=by simp [World.setRow]
theorem copy_run {W : World} {g h : Nat} {b : List Int} {p : Pt} {l : List Run} (hc : ChAt W g (ranB b p l)) (hp : PtAt W h p) (hpl : p.bytes.length = 32) (r : Run) :
  ∃ W5,(Builtin.copy_ #[152,152] 3 #[.slice (some ⟨g,r.1.1,none⟩) (r.1.2 - r.1.1) (32 - r.1.1),.slice (some ⟨h,2 + r.1.1,none⟩) (r.1.2 - r.1.1) (32 - r.1.1)]).run Tryz.prog W.drew = .ok (.int .i64 ((r.1.2 - r.1.1 : Nat) : Int)) W5 ∧
   ChAt W5 g (ranB b p (l ++ [r])) ∧ (∀ k,k ≠ g → W5.heap[k]? = W.heap[k]?) ∧ Below g W W5 ∧ KeepsOthers W W5:=by
 have hnx:=ranB_next b p hpl l r
 obtain ⟨⟨f,t⟩,hft,ht⟩:=r
 dsimp only at hft ht hnx ⊢
 have hl : (((p.bytes.drop f).take (t - f)).map (Value.int .u8)).length = t - f:=by simp; omega
 have hrun:=run_copy_row (P:=Tryz.prog) W.drew 152 152 3 5 g f (t - f) (32 - f) ⟨h,2 + f,none⟩ (t - f) (32 - f) (bytesV (ranB b p l)) 90 (((p.bytes.drop f).take (t - f)).map (Value.int .u8)) Tryz.underlying152 (by kernel_rfl) hc.row (by rw [hl]; simp)
  (fun j v hj => by
   have hj' : j < t - f:=by
    rcases Nat.lt_or_ge j (t - f) with h | h
    ·exact h
    ·rw [List.getElem?_eq_none (by rw [hl]; exact h)] at hj; cases hj
   rw [Addr.add_mid,show 2 + f + j = 2 + (f + j) from by omega]
   refine (hp.byte hpl (i:=f + j) (by omega)).trans ?_
   rw [← hj,List.getElem?_map,List.getElem?_take,if_pos hj',List.getElem?_drop,List.getElem?_eq_getElem (by omega)]
   simp [List.getElem?_eq_getElem (show f + j < p.bytes.length by omega)])
  (by rw [hl,bytesV_size,ranB_len]; omega) (ints_oneCell _ _)
 rw [List.append_assoc,hnx,hl] at hrun
 refine ⟨_,hrun,⟨setRow_heap _ g _ _ _ _ hc.row⟩,fun k hk => setRow_other W.drew g k _ (by omega),?_,?_⟩
 ·exact below_setRow (w:=W.drew) (w0:=W) ⟨rfl,rfl,rfl,Nat.le_refl _,fun k _ => rfl⟩ (Nat.le_refl _) _
 ·refine ⟨Nat.le_of_eq (setRow_size W.drew g _).symm,fun k o hk ho => ?_⟩
  by_cases hkg : k = g
  ·subst hkg; rw [hc.row] at hk; cases hk; cases ho
  ·exact (setRow_other W.drew g k _ (by omega)).trans hk
theorem lay_any (w : World) (b : List Int) (p : Pt) (hb : Ch b) (hp : PtOk p) : Calls Tryz.prog 110 #[.agg (bytesV b),.agg (ptC p)] w fun e w' => e = .returned (.agg (bytesV (layB b p))) ∧ Below w.heap.size w w':=by
 have hzc:=zeroCh
 have HX : Hid (b.length = 32):=hb.1
 have HZ : Hid (zeroC.length = 32):=ch_zero.1
 have HP : Hid (p.bytes.length = 32):=hp.ch.1
 refine (callsIn_wide (n:=3)).1 ?_
 refine callsIn_of_wp_marks Tryz.func110 rfl trivial ?_ rfl
 refine wpIn_wide.2 ?_
 simp only [Tryz.ntmps110,List.size_toArray,List.length_cons,List.length_nil,Nat.reduceAdd,Nat.reduceSub,Array.replicate_succ,Array.replicate_zero,List.push_toArray,List.append_toArray,List.nil_append,List.cons_append]
 obtain ⟨w1,hw1⟩ : ∃ w1,((w.alloc (.cells (bytesV b) 90)).alloc (.cells (ptC p) 112)).alloc (.cells (bytesV zeroC) 90) = w1:=⟨_,rfl⟩
 have hB1 : Below w.heap.size w w1:=by rw [← hw1]; exact (((Below.refl _ w).alloc (Nat.le_refl _) _).alloc (by simp) _).alloc (by simp; omega) _
 have hs1 : w1.heap.size = w.heap.size + 3:=by rw [← hw1]; simp
 have al : ∀ (A : World) (o : Obj),Below A.heap.size A (A.alloc o):=fun A o => (Below.refl _ A).alloc (Nat.le_refl _) o
 have hc1 : ChAt w1 w.heap.size b:=by rw [← hw1]; exact ((ChAt.laid w b).below (al _ _)).below (al _ _)
 have hp1 : PtAt w1 (w.heap.size + 1) p:=by rw [← hw1]; have:=(PtAt.laid (w.alloc (.cells (bytesV b) 90)) p).below (al _ (.cells (bytesV zeroC) 90)); rwa [World.size_alloc] at this
 have hr1 : ChAt w1 (w.heap.size + 1 + 1) zeroC:=by rw [← hw1]; have:=ChAt.laid ((w.alloc (.cells (bytesV b) 90)).alloc (.cells (ptC p) 112)) zeroC; rwa [World.size_alloc,World.size_alloc] at this
 clear al
 have c0:=hp1.c0
 have c1:=hp1.c1
 obtain ⟨w2,hw2,hB2,hs2,hc2,hp2,hr2⟩ : ∃ w2,(if p.fresh then w1.setRow w.heap.size (bytesV zeroC) else w1) = w2 ∧ Below w.heap.size w w2 ∧ w2.heap.size = w.heap.size + 3 ∧ ChAt w2 w.heap.size (frB b p) ∧ PtAt w2 (w.heap.size + 1) p ∧ ChAt w2 (w.heap.size + 1 + 1) zeroC:=by
  refine ⟨_,rfl,?_⟩
  unfold frB
  cases p.fresh
  ·exact ⟨hB1,hs1,hc1,hp1,hr1⟩
  ·exact ⟨below_setRow hB1 (Nat.le_refl _) _,by simpa [World.setRow] using hs1,hc1.setRow _,⟨by rw [← hp1.row]; exact setRow_other _ _ _ _ (by omega)⟩,⟨by rw [← hr1.row]; exact setRow_other _ _ _ _ (by omega)⟩⟩
 have HB : Hid (PtOk p):=hp
 have HS : Hid (w2.heap.size = w.heap.size + 3):=hs2
 clear hs1 hs2
 cases hf : p.fresh
 ·rw [hf] at c0 hw2
  rw [if_neg (by decide)] at hw2
  have c0':=hp2.c0
  have c1':=hp2.c1
  subst hw2
  go_wp2_with fail
  refine (runs_any w1 p.mask).mono ?_
  rintro e w3 ⟨rfl,hw3⟩
  have hseq:=runs_stops 2 (by decide) w1.heap.size p.mask HB.out.lt w3 (by rw [hw3]; exact heap_alloc_new w1 _)
  have hb23 : Below w1.heap.size w1 w3:=by rw [hw3]; exact (Below.refl _ w1).alloc (Nat.le_refl _) _
  have hs3 : w3.heap.size = w.heap.size + 4:=by rw [hw3,World.size_alloc,HS.out]
  have hc3:=hc2.below hb23
  have hp3:=hp2.below hb23
  have hr3:=hr2.below hb23
  have hB3 : Below w.heap.size w w3:=hB2.trans (hb23.mono (by have:=HS.out; omega))
  have HT : Hid (w3.heap.size = w.heap.size + 4):=hs3
  clear hw3 c0 c1 hc2 hp2 hr2 hB2 hb23 hs3 hzc
  go_wp2_with fail
  refine (wpIn_wide (n:=3)).1 ?_
  refine wpIn_rangeFunc_ownG rfl (by decide) (gf:=147) (lb:=#[.pointer (some ⟨w1.heap.size,0,none⟩)]) rfl trivial (fun args w => rfl) hseq (fun h k => k.trans h) (fun W l o o' hl h _ _ => by
    show (W.putObj l o').heap[w1.heap.size]? = _
    have:=HS.out; have:=HT.out
    exact setObj_other W l w1.heap.size o' (by omega)) (Below.refl _ _) (fun _ => rfl)
   (fun pre W => (ChAt W w.heap.size (ranB (frB b p) p pre) ∧ PtAt W (w.heap.size + 1) p ∧ ChAt W (w.heap.size + 1 + 1) zeroC) ∧ Below w.heap.size w W)
   (fun _ _ _ => False)
   (OwnFrom.and (Own.from (fun s A B row hs hg hr => ⟨⟨block_kept hs.1.row hg hr⟩,⟨block_kept hs.2.1.row hg hr⟩,⟨block_kept hs.2.2.row hg hr⟩⟩) _) (ownFrom_below (Nat.le_refl _) (by have:=HT.out; omega)))
   (fun _ _ _ _ _ hs _ _ => hs)
   ⟨⟨by rw [ranB_nil (frB_len HX.out p)]; exact hc3,hp3,hr3⟩,hB3⟩
   (fun x => { tmps:=#[Value.agg (bytesV b),Value.agg (ptC p),Value.pointer (some ⟨w.heap.size,0,none⟩),Value.pointer (some ⟨w.heap.size + 1,0,none⟩),Value.pointer (some ⟨w.heap.size + 1 + 1,0,none⟩),Value.int .i64 (x.1.1 : Int),Value.int .i64 (x.1.2 : Int),Value.pointer (some ⟨w.heap.size + 1,0,none⟩),Value.bool false,undef,Value.pointer (some ⟨w.heap.size + 1,1,none⟩),Value.int .u32 (p.mask : Int),.func (.func 147) #[] #[.pointer (some ⟨w1.heap.size,0,none⟩)],Value.int .i64 (x.1.1 : Int),Value.int .i64 (x.1.2 : Int),undef,undef,undef,undef,undef,undef,undef,undef,undef],defers:=[] }) ?assign1 ?body1 ?done1 ?stop1
  case assign1 =>
   intro l x W K hK
   unfold runV
   gi_wp2
   exact hK
  case body1 =>
   rintro l pre x W ⟨⟨hcW,hpW,hrW⟩,hB⟩ _
   obtain ⟨W5,hcp,hc5,ho5,hb5,hk5⟩:=copy_run hcW hpW HP.out x
   have hx1:=x.2.1
   have hx2:=x.2.2
   have HC : Hid (ChAt W5 w.heap.size (ranB (frB b p) p (pre ++ [x]))):=hc5
   have HO : Hid (∀ k,k ≠ w.heap.size → W5.heap[k]? = W.heap[k]?):=ho5
   clear hc5 ho5
   obtain ⟨⟨f,t⟩,hft,ht⟩:=x
   dsimp only at hx1 hx2 hcp ⊢
   have hmx : Tryz.prog.follows .mixedOrders = true:=by kernel_rfl
   have i1 : (f : Int) ≤ (t : Int):=by omega
   have i2 : (t : Int) ≤ 32:=by omega
   have i3 : (f : Int) ≤ 32:=by omega
   have i4 : (f : Int) < 32:=by omega
   gi_wp2
   refine wpIn_region_any hmx ?_
   refine wpAny_inRound rfl (by kernel_rfl) _ _ _ _ ?_
   change wpAnyIn _ _ _ _ _ _ _ _ _ (World.drew _)
   refine wpAnyIn_take (i:=0) (v:=.int .i64 (f : Int)) rfl rfl (by kernel_rfl) (by kernel_rfl) (by kernel_rfl) (fun _ _ _ h => h) ⟨Or.inl ⟨by rfl,fun w => by go_simp <;> (intro e; omega)⟩,fun _ => rfl⟩ ?_
   simp only [nz]
   refine wpAnyIn_take (i:=1) (v:=.int .i64 (t : Int)) rfl rfl (by kernel_rfl) (by kernel_rfl) (by kernel_rfl) (fun _ _ _ h => h) ⟨Or.inl ⟨by rfl,fun w => by go_simp <;> (intro e; omega)⟩,fun _ => rfl⟩ ?_
   simp only [nz]
   refine wpAnyIn_take (i:=2) (v:=.slice (some ⟨w.heap.size,f,none⟩) (t - f) (32 - f)) rfl rfl (by kernel_rfl) (by kernel_rfl) (by kernel_rfl) (fun _ _ _ h => h) ⟨Or.inl ⟨by rfl,fun w => by go_simp <;> (intro e; omega)⟩,fun _ => rfl⟩ ?_
   simp only [nz]
   refine wpAnyIn_take (i:=3) (v:=.pointer (some ⟨w.heap.size + 1,2,none⟩)) rfl rfl (by kernel_rfl) (by kernel_rfl) (by kernel_rfl) (fun _ _ _ h => h) ⟨Or.inl ⟨by rfl,fun w => by go_simp <;> (intro e; omega)⟩,fun _ => rfl⟩ ?_
   simp only [nz]
   refine wpAnyIn_take (i:=4) (v:=.int .i64 (f : Int)) rfl rfl (by kernel_rfl) (by kernel_rfl) (by kernel_rfl) (fun _ _ _ h => h) ⟨Or.inl ⟨by rfl,fun w => by go_simp <;> (intro e; omega)⟩,fun _ => rfl⟩ ?_
   simp only [nz]
   refine wpAnyIn_take (i:=5) (v:=.int .i64 (t : Int)) rfl rfl (by kernel_rfl) (by kernel_rfl) (by kernel_rfl) (fun _ _ _ h => h) ⟨Or.inl ⟨by rfl,fun w => by go_simp <;> (intro e; omega)⟩,fun _ => rfl⟩ ?_
   simp only [nz]
   refine wpAnyIn_take (i:=6) (v:=.slice (some ⟨w.heap.size + 1,2 + f,none⟩) (t - f) (32 - f)) rfl rfl (by kernel_rfl) (by kernel_rfl) (by kernel_rfl) (fun _ _ _ h => h) ⟨Or.inl ⟨by rfl,fun w => by go_simp <;> (intro e; omega)⟩,fun _ => rfl⟩ ?_
   simp only [nz]
   refine wpAnyIn_ready (rs:=[7]) (by kernel_rfl) (by simp) ?_
   refine AllReadyIn.cons rfl (fun K hK => ?_) AllReadyIn.nil
   go_simp
   refine hK _ _ ?_
   clear hK K
   refine wpAnyIn_done (by kernel_rfl) ?_ _
   gi_wp2
   exact ⟨hk5.from _,HO.out _ (by have:=HS.out; omega),⟨HC.out,⟨(HO.out _ (by omega)).trans hpW.row⟩,⟨(HO.out _ (by omega)).trans hrW.row⟩⟩,hB.trans hb5⟩
  case done1 =>
   rintro D ys W hD hys ⟨⟨hcW,hpW,hrW⟩,hB⟩ hK
   rw [ranB_all p ys hys] at hcW
   have HL : Hid ((layB b p).length = 32):=layB_len b p
   go_wp2_with (first
    | (refine wpList_loadG rfl 90 _ rfl _ rfl _ (hcW.load HL.out) ?_)
    | (refine wpList_storeC rfl _ _ rfl (w.heap.size + 1 + 1) (layB b p) zeroC rfl rfl HL.out HZ.out hrW ?_))
   have hK' : (W.setRow (w.heap.size + 1 + 1) (bytesV (layB b p))).heap[D]? = some (.deferred (some [])):=(setRow_other W _ D _ (by intro e; subst e; rw [hrW.row] at hK; cases hK)).trans hK
   have hr5 : ChAt (W.setRow (w.heap.size + 1 + 1) (bytesV (layB b p))) (w.heap.size + 1 + 1) (layB b p):=hrW.setRow _
   have hB5 : Below w.heap.size w (W.setRow (w.heap.size + 1 + 1) (bytesV (layB b p))):=below_setRow hB (by omega) _
   generalize W.setRow (w.heap.size + 1 + 1) (bytesV (layB b p)) = W5 at *
   refine ⟨by simp,.inl ⟨_,_,rfl,run_takeDeferred hK',?_⟩⟩
   have hr6 : ChAt (W5.putObj D (.deferred none)) (w.heap.size + 1 + 1) (layB b p):=⟨block_kept hr5.row (grownBy_putObj' W5 D _) (fun r e => by cases e; exact ⟨_,hK',rfl⟩)⟩
   refine ⟨.agg (bytesV (layB b p)),?_,rfl,hB5.trans (belowK_b (w:=w) (Nat.le_refl _) W5 D _ _ (by have:=HT.out; omega) hK' rfl rfl)⟩
   exact results_cell_row rfl _ _ _ _ (bytesV (layB b p)) _ _ rfl hr6.row Tryz.underlying90 rfl (by rw [bytesV_size,HL.out]; exact size_ch)
  case stop1 =>
   rintro D c pre W _ _ h _
   exact h.elim
 ·rw [hf] at c0 hw2
  rw [if_pos rfl] at hw2
  have c0':=hp2.c0
  have c1':=hp2.c1
  go_wp2_with (first
   | (refine wpList_buildBy rfl 90 _ rfl _ rfl [] (by kernel_rfl) (bytesV zeroC) built_ch0 ?_)
   | (refine wpList_storeC rfl _ _ rfl w.heap.size zeroC b rfl rfl HZ.out HX.out hc1 ?_; rw [hw2]))
  refine (runs_any w2 p.mask).mono ?_
  rintro e w3 ⟨rfl,hw3⟩
  have hseq:=runs_stops 2 (by decide) w2.heap.size p.mask HB.out.lt w3 (by rw [hw3]; exact heap_alloc_new w2 _)
  have hb23 : Below w2.heap.size w2 w3:=by rw [hw3]; exact (Below.refl _ w2).alloc (Nat.le_refl _) _
  have hs3 : w3.heap.size = w.heap.size + 4:=by rw [hw3,World.size_alloc,HS.out]
  have hc3:=hc2.below hb23
  have hp3:=hp2.below hb23
  have hr3:=hr2.below hb23
  have hB3 : Below w.heap.size w w3:=hB2.trans (hb23.mono (by have:=HS.out; omega))
  have HT : Hid (w3.heap.size = w.heap.size + 4):=hs3
  clear hw3 c0 c1 hc2 hp2 hr2 hB2 hb23 hs3 hzc
  go_wp2_with fail
  refine (wpIn_wide (n:=3)).1 ?_
  refine wpIn_rangeFunc_ownG rfl (by decide) (gf:=147) (lb:=#[.pointer (some ⟨w2.heap.size,0,none⟩)]) rfl trivial (fun args w => rfl) hseq (fun h k => k.trans h) (fun W l o o' hl h _ _ => by
    show (W.putObj l o').heap[w2.heap.size]? = _
    have:=HS.out; have:=HT.out
    exact setObj_other W l w2.heap.size o' (by omega)) (Below.refl _ _) (fun _ => rfl)
   (fun pre W => (ChAt W w.heap.size (ranB (frB b p) p pre) ∧ PtAt W (w.heap.size + 1) p ∧ ChAt W (w.heap.size + 1 + 1) zeroC) ∧ Below w.heap.size w W)
   (fun _ _ _ => False)
   (OwnFrom.and (Own.from (fun s A B row hs hg hr => ⟨⟨block_kept hs.1.row hg hr⟩,⟨block_kept hs.2.1.row hg hr⟩,⟨block_kept hs.2.2.row hg hr⟩⟩) _) (ownFrom_below (Nat.le_refl _) (by have:=HT.out; omega)))
   (fun _ _ _ _ _ hs _ _ => hs)
   ⟨⟨by rw [ranB_nil (frB_len HX.out p)]; exact hc3,hp3,hr3⟩,hB3⟩
   (fun x => { tmps:=#[Value.agg (bytesV b),Value.agg (ptC p),Value.pointer (some ⟨w.heap.size,0,none⟩),Value.pointer (some ⟨w.heap.size + 1,0,none⟩),Value.pointer (some ⟨w.heap.size + 1 + 1,0,none⟩),Value.int .i64 (x.1.1 : Int),Value.int .i64 (x.1.2 : Int),Value.pointer (some ⟨w.heap.size + 1,0,none⟩),Value.bool true,Value.agg (bytesV zeroC),Value.pointer (some ⟨w.heap.size + 1,1,none⟩),Value.int .u32 (p.mask : Int),.func (.func 147) #[] #[.pointer (some ⟨w2.heap.size,0,none⟩)],Value.int .i64 (x.1.1 : Int),Value.int .i64 (x.1.2 : Int),undef,undef,undef,undef,undef,undef,undef,undef,undef],defers:=[] }) ?assign2 ?body2 ?done2 ?stop2
  case assign2 =>
   intro l x W K hK
   unfold runV
   gi_wp2
   exact hK
  case body2 =>
   rintro l pre x W ⟨⟨hcW,hpW,hrW⟩,hB⟩ _
   obtain ⟨W5,hcp,hc5,ho5,hb5,hk5⟩:=copy_run hcW hpW HP.out x
   have hx1:=x.2.1
   have hx2:=x.2.2
   have HC : Hid (ChAt W5 w.heap.size (ranB (frB b p) p (pre ++ [x]))):=hc5
   have HO : Hid (∀ k,k ≠ w.heap.size → W5.heap[k]? = W.heap[k]?):=ho5
   clear hc5 ho5
   obtain ⟨⟨f,t⟩,hft,ht⟩:=x
   dsimp only at hx1 hx2 hcp ⊢
   have hmx : Tryz.prog.follows .mixedOrders = true:=by kernel_rfl
   have i1 : (f : Int) ≤ (t : Int):=by omega
   have i2 : (t : Int) ≤ 32:=by omega
   have i3 : (f : Int) ≤ 32:=by omega
   have i4 : (f : Int) < 32:=by omega
   gi_wp2
   refine wpIn_region_any hmx ?_
   refine wpAny_inRound rfl (by kernel_rfl) _ _ _ _ ?_
   change wpAnyIn _ _ _ _ _ _ _ _ _ (World.drew _)
   refine wpAnyIn_take (i:=0) (v:=.int .i64 (f : Int)) rfl rfl (by kernel_rfl) (by kernel_rfl) (by kernel_rfl) (fun _ _ _ h => h) ⟨Or.inl ⟨by rfl,fun w => by go_simp <;> (intro e; omega)⟩,fun _ => rfl⟩ ?_
   simp only [nz]
   refine wpAnyIn_take (i:=1) (v:=.int .i64 (t : Int)) rfl rfl (by kernel_rfl) (by kernel_rfl) (by kernel_rfl) (fun _ _ _ h => h) ⟨Or.inl ⟨by rfl,fun w => by go_simp <;> (intro e; omega)⟩,fun _ => rfl⟩ ?_
   simp only [nz]
   refine wpAnyIn_take (i:=2) (v:=.slice (some ⟨w.heap.size,f,none⟩) (t - f) (32 - f)) rfl rfl (by kernel_rfl) (by kernel_rfl) (by kernel_rfl) (fun _ _ _ h => h) ⟨Or.inl ⟨by rfl,fun w => by go_simp <;> (intro e; omega)⟩,fun _ => rfl⟩ ?_
   simp only [nz]
   refine wpAnyIn_take (i:=3) (v:=.pointer (some ⟨w.heap.size + 1,2,none⟩)) rfl rfl (by kernel_rfl) (by kernel_rfl) (by kernel_rfl) (fun _ _ _ h => h) ⟨Or.inl ⟨by rfl,fun w => by go_simp <;> (intro e; omega)⟩,fun _ => rfl⟩ ?_
   simp only [nz]
   refine wpAnyIn_take (i:=4) (v:=.int .i64 (f : Int)) rfl rfl (by kernel_rfl) (by kernel_rfl) (by kernel_rfl) (fun _ _ _ h => h) ⟨Or.inl ⟨by rfl,fun w => by go_simp <;> (intro e; omega)⟩,fun _ => rfl⟩ ?_
   simp only [nz]
   refine wpAnyIn_take (i:=5) (v:=.int .i64 (t : Int)) rfl rfl (by kernel_rfl) (by kernel_rfl) (by kernel_rfl) (fun _ _ _ h => h) ⟨Or.inl ⟨by rfl,fun w => by go_simp <;> (intro e; omega)⟩,fun _ => rfl⟩ ?_
   simp only [nz]
   refine wpAnyIn_take (i:=6) (v:=.slice (some ⟨w.heap.size + 1,2 + f,none⟩) (t - f) (32 - f)) rfl rfl (by kernel_rfl) (by kernel_rfl) (by kernel_rfl) (fun _ _ _ h => h) ⟨Or.inl ⟨by rfl,fun w => by go_simp <;> (intro e; omega)⟩,fun _ => rfl⟩ ?_
   simp only [nz]
   refine wpAnyIn_ready (rs:=[7]) (by kernel_rfl) (by simp) ?_
   refine AllReadyIn.cons rfl (fun K hK => ?_) AllReadyIn.nil
   go_simp
   refine hK _ _ ?_
   clear hK K
   refine wpAnyIn_done (by kernel_rfl) ?_ _
   gi_wp2
   exact ⟨hk5.from _,HO.out _ (by have:=HS.out; omega),⟨HC.out,⟨(HO.out _ (by omega)).trans hpW.row⟩,⟨(HO.out _ (by omega)).trans hrW.row⟩⟩,hB.trans hb5⟩
  case done2 =>
   rintro D ys W hD hys ⟨⟨hcW,hpW,hrW⟩,hB⟩ hK
   rw [ranB_all p ys hys] at hcW
   have HL : Hid ((layB b p).length = 32):=layB_len b p
   go_wp2_with (first
    | (refine wpList_loadG rfl 90 _ rfl _ rfl _ (hcW.load HL.out) ?_)
    | (refine wpList_storeC rfl _ _ rfl (w.heap.size + 1 + 1) (layB b p) zeroC rfl rfl HL.out HZ.out hrW ?_))
   have hK' : (W.setRow (w.heap.size + 1 + 1) (bytesV (layB b p))).heap[D]? = some (.deferred (some [])):=(setRow_other W _ D _ (by intro e; subst e; rw [hrW.row] at hK; cases hK)).trans hK
   have hr5 : ChAt (W.setRow (w.heap.size + 1 + 1) (bytesV (layB b p))) (w.heap.size + 1 + 1) (layB b p):=hrW.setRow _
   have hB5 : Below w.heap.size w (W.setRow (w.heap.size + 1 + 1) (bytesV (layB b p))):=below_setRow hB (by omega) _
   generalize W.setRow (w.heap.size + 1 + 1) (bytesV (layB b p)) = W5 at *
   refine ⟨by simp,.inl ⟨_,_,rfl,run_takeDeferred hK',?_⟩⟩
   have hr6 : ChAt (W5.putObj D (.deferred none)) (w.heap.size + 1 + 1) (layB b p):=⟨block_kept hr5.row (grownBy_putObj' W5 D _) (fun r e => by cases e; exact ⟨_,hK',rfl⟩)⟩
   refine ⟨.agg (bytesV (layB b p)),?_,rfl,hB5.trans (belowK_b (w:=w) (Nat.le_refl _) W5 D _ _ (by have:=HT.out; omega) hK' rfl rfl)⟩
   exact results_cell_row rfl _ _ _ _ (bytesV (layB b p)) _ _ rfl hr6.row Tryz.underlying90 rfl (by rw [bytesV_size,HL.out]; exact size_ch)
  case stop2 =>
   rintro D c pre W _ _ h _
   exact h.elim
theorem setCells_row (P : Program) (w : World) (g o : Nat) (e : TypeId) (vs : List Value) (cur : Array Value) (hg : w.heap[g]? = some (.cells cur e (0,0))) (hfit : o + vs.length ≤ cur.size) (h1 : ∀ u ∈ vs,u.oneCell' = true) :
  w.setCells g o vs = w.setRow g (cur.toList.take o ++ vs ++ cur.toList.drop (o + vs.length)).toArray:=by
 have a1:=run_storeCells_at P g o e vs 0 cur w hg (by simpa using hfit) h1
 have a2:=run_storeCells_cells (P:=P) g o vs 0 w (fun j hj => by rw [cell_of_row _ _ _ _ _ (0,0) hg,Array.getElem?_eq_getElem (by omega)]; rfl) (fun j hj => frozen_of_row w g _ _ _ hg) h1
 rw [a1] at a2
 simp only [Nat.add_zero,Result.ok.injEq,true_and] at a2
 exact a2.symm
theorem wpList_storeM {w : World} {ops : Array Oper} {rest : List Oper} {o : Oper} {a : Act} {Q : Exit → Act → World → Prop} (hg : o.guard = none) (x y : Operand) (ho : o.op = .store 90 x y)
  (g : Nat) (b : List Int) (p : Pt) (hx : a.eval x = .pointer (some ⟨g,2,none⟩)) (hy : a.eval y = .agg (bytesV b)) (hb : b.length = 32) (hp : p.bytes.length = 32) (hat : PtAt w g p)
  (h : wpList Tryz.prog ops Q rest (a.put o.dst undef) (w.setRow g (ptC ⟨p.fresh,p.mask,b⟩))) : wpList Tryz.prog ops Q (o :: rest) a w:=by
 refine wpList_store_mid hg 90 x y ho g 2 (bytesV b) hx hy (fun j hj => ?_) (by rw [bytesV_size,hb]; exact size_ch) (one_bytes b) ?_
 ·rw [bytesV_size,hb] at hj
  exact ⟨by rw [hat.byte hp hj]; rfl,hat.frozen _⟩
 ·have e : w.setCells g 2 (bytesV b).toList = w.setRow g (ptC ⟨p.fresh,p.mask,b⟩):=by
   rw [setCells_row Tryz.prog w g 2 112 (bytesV b).toList (ptC p) hat.row (by rw [ptC_size hp,Array.length_toList,bytesV_size,hb]; decide) (fun u hu => (Array.all_eq_true_iff_forall_mem.1 (one_bytes b)) u (by simpa using hu))]
   congr 1
   apply Array.ext'
   have hd : (ptC p).toList.drop (2 + (bytesV b).toList.length) = []:=List.drop_of_length_le (by rw [Array.length_toList,ptC_size hp,Array.length_toList,bytesV_size,hb]; omega)
   simp only [hd,List.append_nil]
   simp [ptC,bytesV]
  rw [e]; exact h
theorem trim_any (w : World) (p : Pt) (hp : PtOk p) : Calls Tryz.prog 167 #[.agg (ptC p)] w fun e w' => e = .returned (.agg (ptC (trimP p))) ∧ Below w.heap.size w w':=by
 have hz:=zeroPt
 have HP : Hid (p.bytes.length = 32):=hp.ch.1
 have HZ : Hid (zeroC.length = 32):=ch_zero.1
 have hT:=trimP_ok hp
 have HT : Hid ((trimP p).bytes.length = 32):=hT.ch.1
 obtain ⟨w1,hw1⟩ : ∃ w1,(w.alloc (.cells (ptC p) 112)).alloc (.cells (ptC pt0) 112) = w1:=⟨_,rfl⟩
 have hB1 : Below w.heap.size w w1:=by rw [← hw1]; exact ((Below.refl _ w).alloc (Nat.le_refl _) _).alloc (by simp) _
 have hp1 : PtAt w1 w.heap.size p:=by rw [← hw1]; exact (PtAt.laid w p).below ((Below.refl _ _).alloc (Nat.le_refl _) _)
 have hr1 : PtAt w1 (w.heap.size + 1) pt0:=by rw [← hw1]; have:=PtAt.laid (w.alloc (.cells (ptC p) 112)) pt0; rwa [World.size_alloc] at this
 have hl1 : Hid _:=hp1.load HP.out
 go_enter Tryz.func167,Tryz.ntmps167
 go_wp2_with (first
  | (refine wpList_buildBy rfl 90 _ rfl _ rfl [] (by kernel_rfl) (bytesV zeroC) built_ch0 ?_)
  | (refine wpList_loadG rfl 112 _ rfl _ rfl _ hl1.out ?_))
 refine (lay_any _ zeroC p ch_zero hp).mono ?_
 rintro e w2 ⟨rfl,hb2⟩
 have hp2:=hp1.below hb2
 have hr2:=hr1.below hb2
 have HL : Hid ((layB zeroC p).length = 32):=layB_len _ _
 have hp3 : PtAt (w2.setRow w.heap.size (ptC (trimP p))) w.heap.size (trimP p):=hp2.setRow _
 have hr3 : PtAt (w2.setRow w.heap.size (ptC (trimP p))) (w.heap.size + 1) pt0:=⟨(setRow_other _ _ _ _ (by omega)).trans hr2.row⟩
 have hB3 : Below w.heap.size w (w2.setRow w.heap.size (ptC (trimP p))):=below_setRow (hB1.trans (hb2.mono hB1.size)) (Nat.le_refl _) _
 obtain ⟨w3,hw3⟩ : ∃ w3,w2.setRow w.heap.size (ptC (trimP p)) = w3:=⟨_,rfl⟩
 rw [hw3] at hp3 hr3 hB3
 have hl3 : Hid _:=hp3.load HT.out
 go_wp2_with (first
  | (refine wpList_storeM rfl _ _ rfl w.heap.size (layB zeroC p) p rfl rfl HL.out HP.out hp2 ?_; rw [show (⟨p.fresh,p.mask,layB zeroC p⟩ : Pt) = trimP p from rfl,hw3])
  | (refine wpList_loadG rfl 112 _ rfl _ rfl _ hl3.out ?_)
  | (refine wpList_storeP rfl _ _ rfl (w.heap.size + 1) (trimP p) pt0 rfl rfl HT.out HZ.out hr3 ?_))
 refine ret_pt rfl (w.heap.size + 1) (trimP p) HT.out rfl (hr3.setRow _) rfl ⟨rfl,?_⟩
 exact below_setRow hB3 (by omega) _
theorem PtAt.load0 {w : World} {g : Nat} {p : Pt} (h : PtAt w g p) : (Instr.loadAt 4 (.pointer (some ⟨g,0,none⟩))).run Tryz.prog w = .ok (.bool p.fresh) w:=by
 have c:=h.c0
 have u:=Tryz.underlying4
 go_simp
theorem PtAt.load1 {w : World} {g : Nat} {p : Pt} (h : PtAt w g p) : (Instr.loadAt 30 (.pointer (some ⟨g,1,none⟩))).run Tryz.prog w = .ok (.int .u32 (p.mask : Int)) w:=by
 have c:=h.c1
 have u:=Tryz.underlying30
 go_simp
theorem field_pt (W : World) (p : Pt) (h : p.bytes.length = 32) : (Instr.field 112 (.agg (ptC p)) 2).run Tryz.prog W = .ok (.agg (bytesV p.bytes)) W:=by
 have h2 : ∀ (f : Bool) (m : Nat) (g : Nat → Int),(Instr.field 112 (.agg (ptC ⟨f,m,(List.range 32).map g⟩)) 2).run Tryz.prog W = .ok (.agg (bytesV ((List.range 32).map g))) W:=by intro f m g; kernel_rfl
 obtain ⟨f,m,b⟩:=p
 dsimp only at h ⊢
 rw [ch_eq h]; exact h2 f m _
theorem yields_build {ops : Array Oper} {S : World → Prop} {op : Oper} {a : Act} (hw : Region.wanted op (yielded ops a.tmps) = true) (t : TypeId) (parts : Array (Nat × Operand)) (ho : op.op = .build t parts)
  (vs : List (Nat × Value)) (hp : (parts.map fun (i,x) => (i,a.eval x)).toList = vs) (cells : Array Value) (hf : Tryz.prog.built t vs = some cells) : YieldsIf Tryz.prog ops S op (.agg cells) a :=
 .inl ⟨hw,fun w hw' => by
  unfold execOp
  simp only [ho,Sem.run_bind,run_build (P:=Tryz.prog) w t _ cells (by rw [hp]; exact hf),Result.andThen_ok,Sem.run_pure]⟩
structure JoinS (w : World) (a b : Pt) (W : World) : Prop where
 a : PtAt W w.heap.size a
 b : PtAt W (w.heap.size + 1) b
 r : ∃ r,r.bytes.length = 32 ∧ PtAt W (w.heap.size + 1 + 1) r
 bel : Below w.heap.size w W
theorem JoinS.below {w : World} {a b : Pt} {W W' : World} (h : JoinS w a b W) (hb : Below W.heap.size W W') : JoinS w a b W':=by
 obtain ⟨r,h1,h2⟩:=h.r
 exact ⟨h.a.below hb,h.b.below hb,⟨r,h1,h2.below hb⟩,h.bel.trans (hb.mono h.bel.size)⟩
theorem joins_laid (w : World) (a b : Pt) : JoinS w a b (((w.alloc (.cells (ptC a) 112)).alloc (.cells (ptC b) 112)).alloc (.cells (ptC pt0) 112)):=by
 have al : ∀ (A : World) (o : Obj),Below A.heap.size A (A.alloc o):=fun A o => (Below.refl _ A).alloc (Nat.le_refl _) o
 have h2:=(PtAt.laid (w.alloc (.cells (ptC a) 112)) b).below (al _ (.cells (ptC pt0) 112))
 have h3:=PtAt.laid ((w.alloc (.cells (ptC a) 112)).alloc (.cells (ptC b) 112)) pt0
 rw [World.size_alloc] at h2
 rw [World.size_alloc,World.size_alloc] at h3
 exact ⟨((PtAt.laid w a).below (al _ _)).below (al _ _),h2,⟨pt0,ch_zero.1,h3⟩,(((Below.refl _ w).alloc (Nat.le_refl _) _).alloc (by simp) _).alloc (by simp; omega) _⟩
theorem join_any (w : World) (a b : Pt) (ha : PtOk a) (hb : PtOk b) : Calls Tryz.prog 168 #[.agg (ptC a),.agg (ptC b)] w fun e w' => e = .returned (.agg (ptC (joinP a b))) ∧ Below w.heap.size w w':=by
 have hz:=zeroPt
 have HA : Hid (a.bytes.length = 32):=ha.ch.1
 have HB : Hid (b.bytes.length = 32):=hb.ch.1
 have HZ : Hid (zeroC.length = 32):=ch_zero.1
 have hS1:=joins_laid w a b
 obtain ⟨w1,hw1⟩ : ∃ w1,(((w.alloc (.cells (ptC a) 112)).alloc (.cells (ptC b) 112)).alloc (.cells (ptC pt0) 112)) = w1:=⟨_,rfl⟩
 rw [hw1] at hS1
 have c0:=hS1.b.c0
 cases hf : b.fresh
 ·rw [hf] at c0
  have HJ : Hid (joinP a b = ⟨a.fresh,a.mask ||| b.mask,layB (trimP a).bytes b⟩):=by unfold Hid joinP; rw [hf]; rfl
  have hor:=u32_or_nat a.mask b.mask ha.lt hb.lt
  have hT:=trimP_ok ha
  have HTl : Hid ((trimP a).bytes.length = 32):=hT.ch.1
  have HL : Hid ((layB (trimP a).bytes b).length = 32):=layB_len _ _
  have tr:=fun W => trim_any W a ha
  have ly:=fun W => lay_any W (trimP a).bytes b hT.ch hb
  have hfl:=fun W => field_pt W (trimP a) HTl.out
  rw [HJ.out]
  go_enter Tryz.func168,Tryz.ntmps168
  go_wp2_with fail
  refine wp_region_noPanic ?_
  refine wp_region_held_drew (S:=fun W => JoinS w a b W) (by kernel_rfl) ⟨⟨hS1.a.row⟩,⟨hS1.b.row⟩,(by obtain ⟨r,h1,h2⟩:=hS1.r; exact ⟨r,h1,⟨h2.row⟩⟩),hS1.bel.drew⟩ (fun hHeld => ?_)
  refine tk 0 (.pointer (some ⟨w.heap.size,0,none⟩)) rfl ?_
  simp only [nz]
  refine wpAnyH_take (i:=1) (v:=.bool a.fresh) rfl (by kernel_rfl) (by kernel_rfl) (by kernel_rfl) (fun _ _ _ h => h) (yields_load (by rfl) _ _ rfl _ rfl _ (fun W h => h.a.load0)) (by assumption) ?_
  simp only [nz]
  refine tk 2 (.pointer (some ⟨w.heap.size,1,none⟩)) rfl ?_
  simp only [nz]
  refine wpAnyH_take (i:=3) (v:=.int .u32 (a.mask : Int)) rfl (by kernel_rfl) (by kernel_rfl) (by kernel_rfl) (fun _ _ _ h => h) (yields_load (by rfl) _ _ rfl _ rfl _ (fun W h => h.a.load1)) (by assumption) ?_
  simp only [nz]
  refine tk 4 (.pointer (some ⟨w.heap.size + 1,1,none⟩)) rfl ?_
  simp only [nz]
  refine wpAnyH_take (i:=5) (v:=.int .u32 (b.mask : Int)) rfl (by kernel_rfl) (by kernel_rfl) (by kernel_rfl) (fun _ _ _ h => h) (yields_load (by rfl) _ _ rfl _ rfl _ (fun W h => h.b.load1)) (by assumption) ?_
  simp only [nz]
  refine tk 6 (.int .u32 ((a.mask ||| b.mask : Nat) : Int)) rfl ?_
  simp only [nz]
  refine wpAnyH_take (i:=7) (v:=.agg (ptC a)) rfl (by kernel_rfl) (by kernel_rfl) (by kernel_rfl) (fun _ _ _ h => h) (yields_load (by rfl) _ _ rfl _ rfl _ (fun W h => h.a.load HA.out)) (by assumption) ?_
  simp only [nz]
  refine wpAnyH_take (i:=10) (v:=.agg (ptC b)) rfl (by kernel_rfl) (by kernel_rfl) (by kernel_rfl) (fun _ _ _ h => h) (yields_load (by rfl) _ _ rfl _ rfl _ (fun W h => h.b.load HB.out)) (by assumption) ?_
  simp only [nz]
  refine rd 8 rfl (fun K hK => ?_)
  go_simp
  go_wp2_with (go_at_call 167; refine (tr _).mono ?_; rintro e w2 ⟨rfl,hb2⟩)
  refine hK.out _ _ (hHeld.below hb2) (fun hHeld2 => ?_)
  clear hK K
  refine tk 9 (.agg (bytesV (trimP a).bytes)) rfl ?_
  simp only [nz]
  refine rd 11 rfl (fun K hK => ?_)
  go_simp
  go_wp2_with (go_at_call 110; refine (ly _).mono ?_; rintro e w3 ⟨rfl,hb3⟩)
  refine hK.out _ _ (hHeld2.below hb3) (fun hHeld3 => ?_)
  clear hK K
  refine wpAnyH_take (i:=12) (v:=.agg (ptC ⟨a.fresh,a.mask ||| b.mask,layB (trimP a).bytes b⟩)) rfl (by kernel_rfl) (by kernel_rfl) (by kernel_rfl) (fun _ _ _ h => h) (yields_build (by rfl) 112 _ rfl [(0,.bool a.fresh),(1,.int .u32 ((a.mask ||| b.mask : Nat) : Int)),(2,.agg (bytesV (layB (trimP a).bytes b)))] (by kernel_rfl) _ (built_pt a.fresh (a.mask ||| b.mask) HL.out)) (by assumption) ?_
  try simp only [nz]
  obtain ⟨r0,hr0,hat0⟩:=hHeld3.r
  refine rd 13 rfl (fun K hK => ?_)
  rw [if_pos (by rfl)]
  refine wp_store_row 112 _ _ rfl (w.heap.size + 1 + 1) (ptC ⟨a.fresh,a.mask ||| b.mask,layB (trimP a).bytes b⟩) rfl rfl 112 (ptC r0) hat0.row (by rw [ptC_size HL.out]; exact size_pt) (by rw [ptC_size hr0]; exact (ptC_size (p:=⟨a.fresh,a.mask ||| b.mask,layB (trimP a).bytes b⟩) HL.out).symm) (one_pt _) ?_
  have hr9:=hat0.setRow ⟨a.fresh,a.mask ||| b.mask,layB (trimP a).bytes b⟩
  have hB9:=below_setRow hHeld3.bel (show w.heap.size ≤ w.heap.size + 1 + 1 by omega) (ptC ⟨a.fresh,a.mask ||| b.mask,layB (trimP a).bytes b⟩)
  refine hK.out _ _ ⟨⟨(setRow_other _ _ _ _ (by omega)).trans hHeld3.a.row⟩,⟨(setRow_other _ _ _ _ (by omega)).trans hHeld3.b.row⟩,⟨_,HL.out,hr9⟩,hB9⟩ (fun hHeld4 => ?_)
  clear hK K
  refine wpAnyH_done (by kernel_rfl) ?_ _
  refine NoPanic.normal ?_
  go_wp2_with fail
  exact ret_pt rfl (w.heap.size + 1 + 1) _ HL.out rfl hr9 rfl ⟨rfl,hB9⟩
 ·rw [hf] at c0
  have HJ : Hid (joinP a b = trimP b):=by unfold Hid joinP; rw [hf]; rfl
  have hT:=trimP_ok hb
  have HTl : Hid ((trimP b).bytes.length = 32):=hT.ch.1
  have hl1 : Hid _:=hS1.b.load HB.out
  obtain ⟨r0,hr0,hat0⟩:=hS1.r
  have HR : Hid (r0.bytes.length = 32):=hr0
  clear hr0
  rw [HJ.out]
  go_enter Tryz.func168,Tryz.ntmps168
  go_wp2_with (refine wpList_loadG rfl 112 _ rfl _ rfl _ hl1.out ?_)
  refine (trim_any w1 b hb).mono ?_
  rintro e w2 ⟨rfl,hb2⟩
  have hat2:=hat0.below hb2
  have hB2 : Below w.heap.size w w2:=hS1.bel.trans (hb2.mono hS1.bel.size)
  go_wp2_with (refine wpList_storeP rfl _ _ rfl (w.heap.size + 1 + 1) (trimP b) r0 rfl rfl HTl.out HR.out hat2 ?_)
  exact ret_pt rfl (w.heap.size + 1 + 1) _ HTl.out rfl (hat2.setRow _) rfl ⟨rfl,below_setRow hB2 (by omega) _⟩
end Go.Proofs.YtgajjphjkbnaeaaGreat
