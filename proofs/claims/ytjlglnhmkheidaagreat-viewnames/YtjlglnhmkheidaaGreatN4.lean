/- VwCks, VwRef: in one text. -/
import Derived.Test.YtjlglnhmkheidaaGreatVwGet
import Derived.Test.YtjlglnhmkheidaaGreatD3
import Derived.Test.YtjlglnhmkheidaaGreatJDecode
import Derived.Test.YtjlglnhmkheidaaGreatP4
import Derived.Test.YtjlglnhmkheidaaGreatP2
import Derived.Test.YtjlglnhmkheidaaGreatT4
import Derived.Deep.CutRange
import Derived.Deep.CutBlock
namespace Go.Proofs.YtjlglnhmkheidaaGreat
open Go.RowKit
set_option linter.unusedVariables false
set_option linter.unusedSimpArgs false
set_option maxRecDepth 4000

theorem trim_of {p : Pt} (hl : p.bytes.length = 32) (h : ∀ i, i < 32 → p.mask.testBit i = false → p.bytes.getD i 0 = 0) : trimP p = p := by
  have hb : (trimP p).bytes = p.bytes := ch_ext (layB_len _ _) hl fun i hi => by
    rw [trimP_get p hi]
    cases hm : p.mask.testBit i
    · rw [h i hi hm]; rfl
    · rfl
  obtain ⟨f, m, b⟩ := p
  unfold trimP at hb ⊢
  dsimp only at hb ⊢
  rw [hb]
theorem trim_zero {p : Pt} (h : trimP p = p) (i : Nat) (hi : i < 32) (hm : p.mask.testBit i = false) : p.bytes.getD i 0 = 0 := by
  have := trimP_get p hi
  rw [h, hm] at this
  simpa using this
theorem trim_len {p : Pt} (h : trimP p = p) : p.bytes.length = 32 := by
  rw [← h]
  exact layB_len _ _
theorem trim_trim (p : Pt) : trimP (trimP p) = trimP p := trim_of (layB_len _ _) fun i hi hm => by
  rw [trimP_get p hi]
  rw [show p.mask.testBit i = false from hm]
  rfl
theorem trim_join (a b : Pt) : trimP (joinP a b) = joinP a b := by
  unfold joinP
  cases hf : b.fresh
  · rw [if_neg (by simp)]
    refine trim_of (layB_len _ _) fun i hi hm => ?_
    dsimp only at hm ⊢
    rw [Nat.testBit_or, Bool.or_eq_false_iff] at hm
    rw [layB_get _ _ hi]
    unfold layAt
    rw [hm.2, hf]
    have := trimP_get a hi
    rw [hm.1] at this
    simpa using this
  · rw [if_pos rfl]
    exact trim_trim b

theorem ck_cases {c : Cg} (h : ckOk c = true) : plOk c.pl = true ∧ (if c.gone then cgEq c (goneC c.pl) else if c.pl.part = 1 then recOk c else if c.pl.part = 2 then entOk c else datOk c) = true := by
  unfold ckOk at h
  cases hp : plOk c.pl
  · rw [hp] at h; cases h
  · rw [hp, if_pos rfl] at h; exact ⟨rfl, h⟩
theorem dat_trim {c : Cg} (h : datOk c = true) : trimP c.pt = c.pt ∧ c = dataC c.pl c.pt := by
  unfold datOk at h
  have e := cgEq_iff.1 h
  have e2 : c.pt = trimP c.pt := congrArg Cg.pt e
  exact ⟨e2.symm, by rw [← e2] at e; exact e⟩
theorem dat_of {p : Pl} {q : Pt} (h : trimP q = q) : datOk (dataC p q) = true := by
  unfold datOk
  refine cgEq_iff.2 ?_
  show dataC p q = dataC p (trimP q)
  rw [h]
theorem join_ck {a b : Cg} (h : (joinX a b).2 = 0) : ckOk (joinX a b).1 = true := by
  unfold joinX at h ⊢
  cases ha : ckOk a
  · rw [ha] at h; cases h
  cases hb : ckOk b
  · rw [ha, hb] at h; cases h
  cases hp : plEq a.pl b.pl
  · rw [ha, hb, hp] at h; cases h
  rw [ha, hb, hp] at h
  simp only [if_true] at h ⊢
  have epl := plEq_iff.1 hp
  obtain ⟨pa, ca⟩ := ck_cases ha
  obtain ⟨pb, cb⟩ := ck_cases hb
  cases hg : b.gone
  · rw [hg] at h cb
    simp only [Bool.false_eq_true, if_false] at h cb ⊢
    by_cases h1 : b.pl.part = 1
    · rw [if_pos h1] at h ⊢
      unfold jRX at h ⊢
      cases hf : b.fresh
      · rw [hf] at h
        simp only [Bool.false_eq_true, if_false] at h ⊢
        cases hga : a.gone
        · rw [hga] at h
          simp only [Bool.false_eq_true, if_false] at h ⊢
          cases hr : recOk (recJ a b)
          · rw [hr] at h; cases h
          · simp only [if_true]
            have q1 : (recJ a b).pl = a.pl := by unfold recJ recI; split <;> rfl
            have q2 : (recJ a b).gone = false := by unfold recJ recI; split <;> exact hga
            unfold ckOk
            rw [q1, pa, q2]
            simp only [if_true, Bool.false_eq_true, if_false]
            rw [if_pos (by rw [epl]; exact h1)]
            exact hr
        · rw [hga] at h; cases h
      · simp only [if_true]; exact hb
    · rw [if_neg h1] at h cb ⊢
      by_cases h2 : b.pl.part = 2
      · rw [if_pos h2]; exact hb
      · rw [if_neg h2] at cb ⊢
        obtain ⟨t1, t2⟩ := dat_trim cb
        have hok : ∀ q : Pt, trimP q = q → ckOk (dataC b.pl q) = true := fun q hq => by
          unfold ckOk
          rw [show (dataC b.pl q).pl = b.pl from rfl, pb, show (dataC b.pl q).gone = false from rfl]
          simp only [if_true, Bool.false_eq_true, if_false]
          rw [if_neg h1, if_neg h2]
          exact dat_of hq
        unfold jDX
        cases hga : a.gone
        · simp only [Bool.false_eq_true, if_false]
          unfold joC
          rw [t2]
          exact hok _ (trim_join a.pt b.pt)
        · simp only [if_true]
          have e : frP b = dataC b.pl ⟨true, b.pt.mask, b.pt.bytes⟩ := (congrArg frP t2).trans rfl
          rw [e]
          exact hok _ (trim_of (p := ⟨true, b.pt.mask, b.pt.bytes⟩) (show b.pt.bytes.length = 32 from trim_len t1) fun i hi hm => trim_zero (p := b.pt) t1 i hi hm)
  · simp only [if_true]; exact hb

/-- Every change may be. -/
def CksOk (s : Dl) : Prop := ∀ c ∈ s.L, ckOk c = true
theorem CksOk.put {s : Dl} (hs : CksOk s) (c : Cg) : CksOk (putS s c) := by
  by_cases h0 : (putX s c).2 = 0
  · unfold putS
    rw [if_pos h0]
    intro x hx
    rcases setL_mem.1 hx with rfl | ⟨hx, _⟩
    · unfold putX behX at h0 ⊢
      cases hc : ckOk c
      · rw [hc] at h0; cases h0
      · rw [hc] at h0
        simp only [if_true] at h0 ⊢
        cases hi : isX s c.pl
        · rw [hi] at h0
          simp only [Bool.false_eq_true, if_false] at h0 ⊢
          split at h0
          · cases h0
          · rename_i hm
            rw [if_neg hm]; exact hc
        · rw [hi] at h0
          simp only [if_true] at h0 ⊢
          exact join_ck h0
    · exact hs x hx
  · unfold putS
    rw [if_neg h0]
    exact hs
theorem CksOk.names {s : Dl} (hs : CksOk s) : ∀ c ∈ s.L, c.pl.name.size ≤ 8 := fun c hc => plOk_size (ck_cases (hs c hc)).1

/-- What a change makes of what stands, in the document's order. -/
def refW (x : It) (is : Bool) (c : Cg) : It × Bool × Int :=
  if c.gone then (it0, false, 0) else if c.pl.part = 2 then (leadI c, true, 0) else if c.pl.part = 3 then (laidI x c, true, 0) else if c.fresh then (freshI c, true, 0) else if is then (⟨x.kind, wM c x.mode, wL c x.links, wS c x.size, x.lead, x.bytes⟩, true, 0) else (it0, false, 3)
def refA (c : Cg) : Bool := c.gone || c.fresh || c.pl.part == 2 || c.pt.fresh
def refT (l : List (ByteArray × ByteArray)) (p : Pl) (c : Cg) (ch : Bool) : It × Bool × Int :=
  if ch then (if refA c then refW it0 false c else if stE l p ≠ 0 then (it0, false, stE l p) else refW (stI l p) (stB l p) c) else (stI l p, stB l p, stE l p)
def refG (l : List (ByteArray × ByteArray)) (s : Dl) (q : Pl) : It × Bool × Int := if plOk q then refT l q (wasX s q) (isX s q) else (it0, false, 30)

theorem stI_one {l : List (ByteArray × ByteArray)} {q : Pl} (h1 : q.part = 1) : (stI l q).lead = 0 ∧ (stI l q).bytes = zeroC := by
  unfold stI
  cases stB l q
  · exact ⟨rfl, rfl⟩
  · rw [if_pos rfl]
    unfold decI
    split
    · rw [h1, rdI_1]; exact ⟨rfl, rfl⟩
    · exact ⟨rfl, rfl⟩
theorem ch_ref (l : List (ByteArray × ByteArray)) (c : Cg) (h : ckOk c = true) : chL l c = refT l c.pl c true := by
  obtain ⟨hp, hc⟩ := ck_cases h
  unfold chL chR refT refW refA
  rw [if_pos rfl]
  cases hg : c.gone
  · rw [hg] at hc
    simp only [Bool.false_eq_true, if_false, Bool.false_or] at hc ⊢
    by_cases h1 : c.pl.part = 1
    · rw [if_pos h1] at hc
      have n2 : ¬ c.pl.part = 2 := by omega
      have n3 : ¬ c.pl.part = 3 := by omega
      have b2 : (c.pl.part == 2) = false := by simp [n2]
      unfold recOk at hc
      cases hf : c.fresh
      · rw [hf] at hc
        simp only [Bool.false_eq_true, if_false] at hc
        have hpt : c.pt.fresh = false := by
          unfold fieldsOk at hc
          split at hc
          · cases hc
          · split at hc
            · cases hc
            · have e := cgEq_iff.1 (Bool.and_eq_true_iff.1 hc).1
              rw [e]; rfl
        obtain ⟨e1, e2⟩ := stI_one (l := l) h1
        by_cases he : stE l c.pl = 0
        · cases hB : stB l c.pl
          · simp [hpt, n2, n3, he]
          · simp [hpt, n2, n3, he, withI, e1, e2]
        · simp [hpt, n2, n3, he]
      · simp only [if_true, Bool.true_or]
        rw [if_neg n2, if_neg n3]
    · rw [if_neg h1] at hc
      by_cases h2 : c.pl.part = 2
      · rw [if_pos h2] at hc
        unfold entOk at hc
        have e := cgEq_iff.1 (Bool.and_eq_true_iff.1 hc).1
        have hf : c.fresh = false := by rw [e]; rfl
        have b2 : (c.pl.part == 2) = true := by simp [h2]
        rw [hf, b2, if_pos h2, if_pos h2]
        simp only [Bool.false_eq_true, if_false, Bool.true_or, if_true, Bool.or_true]
      · rw [if_neg h2] at hc
        obtain ⟨t1, t2⟩ := dat_trim hc
        have hf : c.fresh = false := by rw [t2]; rfl
        have h3 : c.pl.part = 3 := by rcases plOk_part hp with e | e | e <;> omega
        have b2 : (c.pl.part == 2) = false := by simp [h2]
        cases hpf : c.pt.fresh
        · by_cases he : stE l c.pl = 0
          · simp [hf, h3, he]
          · simp [hf, h3, he]
        · simp [hf, h3]
  · simp only [if_true, Bool.true_or]
theorem st_bad0 {l : List (ByteArray × ByteArray)} {q : Pl} (h : plOk q = false) : stE l q = 30 := by unfold stE; rw [h]; rfl
theorem vg_ref (l : List (ByteArray × ByteArray)) {s : Dl} (hs : DlOk s) (hc : CksOk s) (q : Pl) : vgR l s q = refG l s q := by
  unfold vgR refG
  cases hi : isX s q
  · cases hk : plOk q
    · have e1 : stB l q = false := by unfold stB; rw [hk]; rfl
      rw [st_bad0 hk]
      unfold stI
      rw [e1]
      rfl
    · unfold refT; rfl
  · have hpl := was_pl hs hi
    have hm : wasX s q ∈ s.L := by
      unfold isX at hi
      unfold wasX
      cases hgl : getL s.L q with
      | none => rw [hgl] at hi; cases hi
      | some c => exact ((getL_some hs.L.rise).1 hgl).1
    have hk := hc _ hm
    have hp : plOk q = true := by rw [← hpl]; exact (ck_cases hk).1
    rw [hp, if_pos rfl, if_pos rfl, ch_ref l _ hk, hpl]

set_option maxRecDepth 100000

theorem ret_itemR3 {fn : Func} {Rr : Ending → World → Prop} {a : Act} {w : World} {p u x : Tmp} (h : fn.results = #[.cell p 49, .tmp u, .tmp x]) (g : Nat) (y : It) (hy : y.bytes.length = 32) (hp : a.tmps.getD p undef = .pointer (some ⟨g, 0, none⟩)) (v : Value) (hu : a.tmps.getD u undef = v) (v' : Value) (hx : a.tmps.getD x undef = v')
    (hg : ItAt 49 w g y) (hd : a.defers = []) (hR : Rr (.returned (.tuple #[.agg (itC y), v, v'])) w) : bodyPost Tryz.prog fn Rr .ret a w := by
  refine bodyPost_ret ?_ hd hR
  have hp' : a.tmps[p]?.getD undef = .pointer (some ⟨g, 0, none⟩) := by simpa using hp
  have hu' : a.tmps[u]?.getD undef = v := by simpa using hu
  have hx' : a.tmps[x]?.getD undef = v' := by simpa using hx
  have hl := run_loadVar_row (P := Tryz.prog) w g _ 49 (itC y) _ _ hg.row Tryz.underlying49 rfl (by rw [itC_size hy]; exact size_itemR)
  simp [results, h, hp', hu', hx', asAddr, hl, Result.andThen]
theorem built_inodeR (k m l s : Int) : Tryz.prog.built 49 [(0, .agg #[.int .i64 k, .int .i64 m, .int .i64 l, .int .i64 s])] = some (itC ⟨k, m, l, s, 0, zeroC⟩) := by kernel_rfl
theorem built_leadR (t : Int) : Tryz.prog.built 49 [(1, .int .u32 t)] = some (itC ⟨0, 0, 0, 0, t, zeroC⟩) := by kernel_rfl
theorem built_chunkR {b : List Int} (hb : b.length = 32) : Tryz.prog.built 49 [(2, .agg (bytesV b))] = some (itC ⟨0, 0, 0, 0, 0, b⟩) := by
  have h : ∀ f : Nat → Int, Tryz.prog.built 49 [(2, .agg (bytesV ((List.range 32).map f)))] = some (itC ⟨0, 0, 0, 0, 0, (List.range 32).map f⟩) := by intro f; kernel_rfl
  rw [ch_eq hb]; exact h _
theorem itSet1 (x : It) (m : Int) : (itC x).setIfInBounds 1 (.int .i64 m) = itC ⟨x.kind, m, x.links, x.size, x.lead, x.bytes⟩ := by unfold itC; simp
theorem itSet2 (x : It) (m : Int) : (itC x).setIfInBounds 2 (.int .i64 m) = itC ⟨x.kind, x.mode, m, x.size, x.lead, x.bytes⟩ := by unfold itC; simp
theorem itSet3 (x : It) (m : Int) : (itC x).setIfInBounds 3 (.int .i64 m) = itC ⟨x.kind, x.mode, x.links, m, x.lead, x.bytes⟩ := by unfold itC; simp

/-- Three variables: an item, a change, an item. -/
structure RwS (w W : World) (y : It) (c : Cg) : Prop where
  i : ItAt 49 W w.heap.size y
  c : CgAt W (w.heap.size + 1) c
  r : ItAt 49 W (w.heap.size + 1 + 1) it0
  bel : Below w.heap.size w W
theorem rw_laid (w : World) (x : It) (c : Cg) : RwS w (((w.alloc (.cells (itC x) 49)).alloc (.cells (cgC c) 56)).alloc (.cells (itC it0) 49)) x c := by
  have al : ∀ (A : World) (o : Obj), Below A.heap.size A (A.alloc o) := fun A o => (Below.refl _ A).alloc (Nat.le_refl _) o
  refine ⟨((ItAt.laid _ w x).below (al _ _)).below (al _ _), ?_, ?_, (((Below.refl _ w).alloc (Nat.le_refl _) _).alloc (by simp) _).alloc (by simp; omega) _⟩
  · have h := (CgAt.laid (w.alloc (.cells (itC x) 49)) c).below (al _ (.cells (itC it0) 49))
    rwa [World.size_alloc] at h
  · have h := ItAt.laid 49 ((w.alloc (.cells (itC x) 49)).alloc (.cells (cgC c) 56)) it0
    rwa [World.size_alloc, World.size_alloc] at h
theorem RwS.set {w W : World} {y : It} {c : Cg} (h : RwS w W y c) (j : Nat) (v : Value) (y' : It) (hy : (itC y).setIfInBounds j v = itC y') : RwS w (W.setCell ⟨w.heap.size, j, none⟩ v) y' c := by
  refine ⟨⟨?_⟩, ⟨(heap_setCell_other W ⟨w.heap.size, j, none⟩ _ v (by show w.heap.size + 1 ≠ w.heap.size; omega)).trans h.c.row⟩, ⟨(heap_setCell_other W ⟨w.heap.size, j, none⟩ _ v (by show w.heap.size + 1 + 1 ≠ w.heap.size; omega)).trans h.r.row⟩, h.bel.setCell (p := ⟨w.heap.size, j, none⟩) (Nat.le_refl _) v⟩
  have := heap_setCell_same W w.heap.size j _ _ v h.i.row
  rw [← hy]
  exact this

set_option maxHeartbeats 8000000 in
theorem rwth_any (w : World) (x : It) (hx : ItOk x) (is : Bool) (c : Cg) (hc : CgOk c) : Calls Tryz.prog 70 #[.agg (itC x), .bool is, .agg (cgC c)] w fun e w' =>
    e = .returned (.tuple #[.agg (itC (refW x is c).1), .bool (refW x is c).2.1, .int .i64 (refW x is c).2.2]) ∧ Below w.heap.size w w' := by
  have hzR := zeroItemR
  have len0 := ch_zero.1
  have HX : Hid (x.bytes.length = 32) := hx.ch.1
  have HCL : Hid (c.pt.bytes.length = 32) := hc.pt.ch.1
  have hS := rw_laid w x c
  obtain ⟨w1, hw1⟩ : ∃ w1, (((w.alloc (.cells (itC x) 49)).alloc (.cells (cgC c) 56)).alloc (.cells (itC it0) 49)) = w1 := ⟨_, rfl⟩
  rw [hw1] at hS
  have HS : Hid (RwS w w1 x c) := hS
  have x1 := hS.c.c1
  have x4 := hS.c.c4
  have hr := hS.r
  have hB := hS.bel
  have fin : ∀ (W : World) (y : It), RwS w W y c → ∀ z : It, Below w.heap.size w (W.setRow (w.heap.size + 1 + 1) (itC z)) := fun W y h z => below_setRow h.bel (by omega) _
  have FIN : Hid _ := fin
  have HE : Hid (refW x is c = if c.gone then (it0, false, 0) else if c.pl.part = 2 then (leadI c, true, 0) else if c.pl.part = 3 then (laidI x c, true, 0) else if c.fresh then (freshI c, true, 0) else if is then (⟨x.kind, wM c x.mode, wL c x.links, wS c x.size, x.lead, x.bytes⟩, true, 0) else (it0, false, 3)) := rfl
  generalize refW x is c = R at *
  clear hS fin
  go_enter Tryz.func70, Tryz.ntmps70
  cases hg : c.gone
  rotate_left
  · rw [hg] at x4
    go_wp2_with (first | (refine wpList_buildBy rfl 49 _ rfl _ rfl [] (by kernel_rfl) (itC it0) built_zeroR ?_) | (refine wpList_storeR rfl _ _ rfl (w.heap.size + 1 + 1) it0 it0 rfl rfl len0 len0 hr ?_))
    exact ret_itemR3 rfl (w.heap.size + 1 + 1) it0 len0 rfl _ rfl _ rfl (hr.setRow _) rfl ⟨by rw [HE.out, hg]; rfl, FIN.out _ _ HS.out _⟩
  rw [hg] at x4
  by_cases h2 : c.pl.part = 2
  · have b2 : (c.pl.part == 2) = true := by simp [h2]
    have x11 := HS.out.c.c11
    go_wp2_with (first | (refine wpList_buildBy rfl 49 _ rfl _ rfl [(1, .int .u32 c.to)] (by kernel_rfl) (itC (leadI c)) (built_leadR _) ?_) | (refine wpList_storeR rfl _ _ rfl (w.heap.size + 1 + 1) (leadI c) it0 rfl rfl len0 len0 hr ?_))
    exact ret_itemR3 rfl (w.heap.size + 1 + 1) (leadI c) len0 rfl _ rfl _ rfl (hr.setRow _) rfl ⟨by rw [HE.out, hg, if_neg (by simp), if_pos h2]; rfl, FIN.out _ _ HS.out _⟩
  have b2 : (c.pl.part == 2) = false := by simp [h2]
  by_cases h3 : c.pl.part = 3
  · have b3 : (c.pl.part == 3) = true := by simp [h3]
    have lb : Hid _ := HS.out.i.loadC HX.out
    have lp : Hid _ := HS.out.c.loadT HCL.out
    have cl := rlay_any w1 x.bytes c.pt hx.ch hc.pt
    go_wp2_with (first | (refine wpList_loadG rfl 43 _ rfl _ rfl _ lb.out ?_) | (refine wpList_loadG rfl 54 _ rfl _ rfl _ lp.out ?_))
    refine cl.mono ?_
    rintro e w2 ⟨rfl, hb2⟩
    clear cl
    have hr2 := hr.below hb2
    have hL := layB_len x.bytes c.pt
    have HL : Hid ((laidI x c).bytes.length = 32) := hL
    go_wp2_with (first | (refine wpList_buildBy rfl 49 _ rfl _ rfl [(2, .agg (bytesV (layB x.bytes c.pt)))] (by kernel_rfl) (itC (laidI x c)) (built_chunkR hL) ?_) | (refine wpList_storeR rfl _ _ rfl (w.heap.size + 1 + 1) (laidI x c) it0 rfl rfl HL.out len0 hr2 ?_))
    exact ret_itemR3 rfl (w.heap.size + 1 + 1) (laidI x c) HL.out rfl _ rfl _ rfl (hr2.setRow _) rfl ⟨by rw [HE.out, hg, if_neg (by simp), if_neg h2, if_pos h3]; rfl, below_setRow (thenB HS.out.bel hb2) (by omega) _⟩
  have b3 : (c.pl.part == 3) = false := by simp [h3]
  have x5 := HS.out.c.c5
  cases hf : c.fresh
  rotate_left
  · rw [hf] at x5
    have li : Hid _ := HS.out.c.loadI
    go_wp2_with (first | (refine wpList_loadG rfl 42 _ rfl _ rfl _ li.out ?_) | (refine wpList_buildBy rfl 49 _ rfl _ rfl [(0, .agg #[.int .i64 c.kind, .int .i64 c.mode, .int .i64 c.links, .int .i64 c.size])] (by kernel_rfl) (itC (freshI c)) (built_inodeR _ _ _ _) ?_) | (refine wpList_storeR rfl _ _ rfl (w.heap.size + 1 + 1) (freshI c) it0 rfl rfl len0 len0 hr ?_))
    exact ret_itemR3 rfl (w.heap.size + 1 + 1) (freshI c) len0 rfl _ rfl _ rfl (hr.setRow _) rfl ⟨by rw [HE.out, hg, if_neg (by simp), if_neg h2, if_neg h3, hf]; rfl, FIN.out _ _ HS.out _⟩
  rw [hf] at x5
  cases is
  · go_wp2_with (first | (refine wpList_buildBy rfl 49 _ rfl _ rfl [] (by kernel_rfl) (itC it0) built_zeroR ?_) | (refine wpList_storeR rfl _ _ rfl (w.heap.size + 1 + 1) it0 it0 rfl rfl len0 len0 hr ?_))
    exact ret_itemR3 rfl (w.heap.size + 1 + 1) it0 len0 rfl _ rfl _ rfl (hr.setRow _) rfl ⟨by rw [HE.out, hg, if_neg (by simp), if_neg h2, if_neg h3, hf]; rfl, FIN.out _ _ HS.out _⟩
  have HE2 : Hid (R = (⟨x.kind, wM c x.mode, wL c x.links, wS c x.size, x.lead, x.bytes⟩, true, 0)) := by unfold Hid; rw [HE.out, hg, if_neg (by simp), if_neg h2, if_neg h3, hf]; rfl
  have x6 := HS.out.c.c6
  have x8 := HS.out.c.c8
  have f1 := HS.out.i.fr 1
  have i1 := HS.out.i.c1
  clear HE hg hf
  obtain ⟨b1, hb1⟩ : ∃ b1, (bits .and .i64 c.fields 1 != 0) = b1 := ⟨_, rfl⟩
  have HM : Hid (wM c x.mode = if b1 then c.mode else x.mode) := by unfold Hid wM bF; rw [hb1]
  go_upto_if 45 with fail
  try rw [hb1]
  go_cut [] from 46 to 50 (fun wx => Hid (RwS w wx ⟨x.kind, wM c x.mode, x.links, x.size, x.lead, x.bytes⟩ c))
  case first =>
    cases b1
    · go_wp2_with fail
      go_meet
      case rel => rw [HM.out]; exact HS
    · go_wp2_with fail
      go_meet
      case rel => rw [HM.out]; exact HS.out.set 1 _ _ (itSet1 _ _)
  case rest =>
    have HS1 : Hid _ := hcut.out
    obtain ⟨w2, rfl⟩ : ∃ w2, w2 = wc := ⟨_, rfl⟩
    clear x1 x4 x5 x6 x8 f1 i1 hr hB HS b2 b3 h2 h3 hcut hb1 hw1
    have y6 := HS1.out.c.c6
    have y9 := HS1.out.c.c9
    have g2 := HS1.out.i.fr 2
    have j2 := HS1.out.i.c2
    obtain ⟨b2, hb2⟩ : ∃ b2, (bits .and .i64 c.fields 2 != 0) = b2 := ⟨_, rfl⟩
    have HL : Hid (wL c x.links = if b2 then c.links else x.links) := by unfold Hid wL bF; rw [hb2]
    go_upto_if 54 with fail
    try rw [hb2]
    go_cut [] from 55 to 59 (fun wx => Hid (RwS w wx ⟨x.kind, wM c x.mode, wL c x.links, x.size, x.lead, x.bytes⟩ c))
    case first =>
      cases b2
      · go_wp2_with fail
        go_meet
        case rel => rw [HL.out]; exact HS1
      · go_wp2_with fail
        go_meet
        case rel => rw [HL.out]; exact HS1.out.set 2 _ _ (itSet2 _ _)
    case rest =>
      have HS2 : Hid _ := hcut.out
      obtain ⟨w3, rfl⟩ : ∃ w3, w3 = wc := ⟨_, rfl⟩
      clear y6 y9 g2 j2 HS1 hcut hb2
      have z6 := HS2.out.c.c6
      have z10 := HS2.out.c.c10
      have k3 := HS2.out.i.fr 3
      have m3 := HS2.out.i.c3
      obtain ⟨b4, hb4⟩ : ∃ b4, (bits .and .i64 c.fields 4 != 0) = b4 := ⟨_, rfl⟩
      have HZ : Hid (wS c x.size = if b4 then c.size else x.size) := by unfold Hid wS bF; rw [hb4]
      go_upto_if 63 with fail
      try rw [hb4]
      go_cut [] from 64 to 68 (fun wx => Hid (RwS w wx ⟨x.kind, wM c x.mode, wL c x.links, wS c x.size, x.lead, x.bytes⟩ c))
      case first =>
        cases b4
        · go_wp2_with fail
          go_meet
          case rel => rw [HZ.out]; exact HS2
        · go_wp2_with fail
          go_meet
          case rel => rw [HZ.out]; exact HS2.out.set 3 _ _ (itSet3 _ _)
      case rest =>
        have HS3 : Hid _ := hcut.out
        obtain ⟨w4, rfl⟩ : ∃ w4, w4 = wc := ⟨_, rfl⟩
        clear z6 z10 k3 m3 HS2 hcut hb4
        obtain ⟨y, hy⟩ : ∃ y : It, (⟨x.kind, wM c x.mode, wL c x.links, wS c x.size, x.lead, x.bytes⟩ : It) = y := ⟨_, rfl⟩
        have HY : Hid (y.bytes.length = 32) := by rw [← hy]; exact HX.out
        rw [hy] at HS3 HE2
        clear hy
        have ly : Hid _ := HS3.out.i.loadR HY.out
        have hr := HS3.out.r
        go_wp2_with (first | (refine wpList_loadG rfl 49 _ rfl _ rfl _ ly.out ?_) | (refine wpList_storeR rfl _ _ rfl (w.heap.size + 1 + 1) y it0 rfl rfl HY.out len0 hr ?_))
        exact ret_itemR3 rfl (w.heap.size + 1 + 1) y HY.out rfl _ rfl _ rfl (hr.setRow _) rfl ⟨by rw [HE2.out]; rfl, FIN.out _ _ HS3.out _⟩

set_option maxHeartbeats 2000000 in
theorem refAll_any (w : World) (c : Cg) (hc : CgOk c) : Calls Tryz.prog 25 #[.agg (cgC c)] w fun e w' => e = .returned (.bool (refA c)) ∧ Below w.heap.size w w' := by
  have hb1 : Below w.heap.size w (w.alloc (.cells (cgC c) 56)) := (Below.refl _ w).alloc (Nat.le_refl _) _
  have hc1 := CgAt.laid w c
  obtain ⟨w1, hw1⟩ : ∃ w1, w.alloc (.cells (cgC c) 56) = w1 := ⟨_, rfl⟩
  rw [hw1] at hb1 hc1
  have x1 := hc1.c1
  have x4 := hc1.c4
  have x5 := hc1.c5
  have x12 := hc1.c12
  have HE : Hid (refA c = (c.gone || c.fresh || c.pl.part == 2 || c.pt.fresh)) := rfl
  generalize refA c = R at *
  clear hc1
  go_enter Tryz.func25, Tryz.ntmps25
  cases h1 : c.gone
  · cases h2 : c.fresh
    · cases h3 : (c.pl.part == 2)
      · rw [h1] at x4
        rw [h2] at x5
        go_wp2
        go_ret
        exact ⟨by rw [HE.out, h1, h2, h3]; rfl, hb1⟩
      · rw [h1] at x4
        rw [h2] at x5
        go_wp2
        go_ret
        exact ⟨by rw [HE.out, h1, h2, h3]; rfl, hb1⟩
    · rw [h1] at x4
      rw [h2] at x5
      go_wp2
      go_ret
      exact ⟨by rw [HE.out, h1, h2]; rfl, hb1⟩
  · rw [h1] at x4
    go_wp2
    go_ret
    exact ⟨by rw [HE.out, h1]; rfl, hb1⟩

end Go.Proofs.YtjlglnhmkheidaaGreat
