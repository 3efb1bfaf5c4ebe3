/- WIn, WMathP, WIn2, WIn3, WMake, WIn4, WIn5, WLive: in one text. -/
import Derived.Test.YtckcdmkgmbicfaaGreatMW9
import Derived.Test.YtckcdmkgmbicfaaGreatMW10
import Derived.Test.YtckcdmkgmbicfaaGreatMW1
import Derived.Test.YtckcdmkgmbicfaaGreatMW6
namespace Go.Proofs.YtckcdmkgmbicfaaGreat
open Go.RowKit
set_option linter.unusedVariables false
set_option linter.unusedSimpArgs false
set_option maxRecDepth 4000

/-- What lies below B, and in the blocks of X, has not changed. -/
structure KeepX (B : Nat) (X : List Nat) (w w' : World) : Prop where
  os : w'.os = w.os
  tape : w'.tape = w.tape
  output : w'.output = w.output
  size : w.heap.size ≤ w'.heap.size
  block : ∀ k, k < w.heap.size → (k < B ∨ k ∈ X) → w'.heap[k]? = w.heap[k]?

theorem KeepX.refl (B : Nat) (X : List Nat) (w : World) : KeepX B X w w := ⟨rfl, rfl, rfl, Nat.le_refl _, fun _ _ _ => rfl⟩
theorem KeepX.trans {B : Nat} {X : List Nat} {a b c : World} (h : KeepX B X a b) (k : KeepX B X b c) : KeepX B X a c :=
  ⟨k.os.trans h.os, k.tape.trans h.tape, k.output.trans h.output, Nat.le_trans h.size k.size, fun i hi hb => (k.block i (Nat.lt_of_lt_of_le hi h.size) hb).trans (h.block i hi hb)⟩
theorem KeepX.of_below {B : Nat} {X : List Nat} {w w' : World} (h : Below w.heap.size w w') : KeepX B X w w' := ⟨h.os, h.tape, h.output, h.size, fun k hk _ => h.block k hk⟩
theorem KeepX.of_sole {B : Nat} {X S : List Nat} {w w' : World} (h : Sole S w w') (hs : ∀ k ∈ S, B ≤ k ∧ k ∉ X) : KeepX B X w w' := ⟨h.os, h.tape, h.output, h.size, fun k hk hb => h.block k hk (fun hm => by
  obtain ⟨h1, h2⟩ := hs k hm
  rcases hb with hb | hb
  · omega
  · exact h2 hb)⟩
theorem KeepX.below {B : Nat} {X : List Nat} {w w' : World} (h : KeepX B X w w') (hB : B ≤ w.heap.size) : Below B w w' := ⟨h.os, h.tape, h.output, h.size, fun k hk => h.block k (by omega) (.inl hk)⟩

/-- The records, in the document's words. -/
def rcs (D : List Rr) : List Rc := D.map fun r => ⟨r.at_, r.group⟩
def usedR : List Rc → Nat
  | [] => 0
  | x :: l => piecesN (layL x.grp).length + usedR l
def fromR (nx : Nat) (rs : List Rc) : Nat := match rs with
  | [] => nx
  | r :: _ => r.num

theorem usedR_flat : ∀ {D : List Rr} {N : Nat}, (∀ r ∈ D, RrOk N r) → (D.flatMap Rr.blocks).length = usedR (rcs D)
  | [], N, _ => rfl
  | r :: D, N, h => by
    rw [List.flatMap_cons, List.length_append, usedR_flat (fun x hx => h x (List.mem_cons_of_mem _ hx)), (h r List.mem_cons_self).len]
    rfl
theorem rcs_app (D E : List Rr) : rcs (D ++ E) = rcs D ++ rcs E := by unfold rcs; rw [List.map_append]
theorem rcs_drop (D : List Rr) (i : Nat) : rcs (D.drop i) = (rcs D).drop i := by unfold rcs; rw [List.map_drop]
theorem rcs_take (D : List Rr) (i : Nat) : rcs (D.take i) = (rcs D).take i := by unfold rcs; rw [List.map_take]
theorem rcs_len (D : List Rr) : (rcs D).length = D.length := by unfold rcs; rw [List.length_map]

theorem li_used {N T : Nat} {K New G D : List Rr} {l : Lo} (h : LI N T K New G D l) (hok : ∀ r ∈ K ++ New, RrOk N r) : usedN l.there = usedR (rcs D) := by
  have hfl : l.there.flatMap Tm.blocks = D.flatMap Rr.blocks := by
    have := congrArg (List.flatMap (fun x : Nat × List Nat => x.2)) h.there
    rw [List.flatMap_map, List.flatMap_map] at this
    exact this
  rw [used_flat, hfl]
  exact usedR_flat (fun r hr => hok r (by rw [h.all]; exact List.mem_append_right _ hr))
theorem li_from {N T : Nat} {K New G D : List Rr} {l : Lo} (h : LI N T K New G D l) : l.first = fromR l.next (rcs D) := by
  obtain ⟨h1, h2⟩ := li_first h
  cases hD : D with
  | nil => rw [h1 hD]; rfl
  | cons r D' => rw [h2 r D' hD]; rfl
theorem which_rcs : ∀ (L : List Tm) (D : List Rr) (to : Nat), L.map (fun t => (t.at_, t.blocks)) = D.map (fun r => (r.at_, r.blocks)) → (∀ i, whichR (rcs D) to = some i → whichT to L = i ∧ i < L.length) ∧ (whichR (rcs D) to = none → whichT to L = L.length)
  | [], [], to, _ => ⟨(fun i h => by cases h), fun _ => rfl⟩
  | [], r :: D, to, h => by simp at h
  | x :: L, [], to, h => by simp at h
  | x :: L, r :: D, to, h => by
    simp only [List.map_cons, List.cons.injEq, Prod.mk.injEq] at h
    obtain ⟨⟨h1, _⟩, h2⟩ := h
    obtain ⟨i1, i2⟩ := which_rcs L D to h2
    have e : whichR (rcs (r :: D)) to = if r.at_ = to then some 0 else (whichR (rcs D) to).map (· + 1) := by
      unfold whichR rcs
      rw [List.map_cons, List.findIdx?_cons]
      simp only [beq_iff_eq]
    have e2 : whichT to (x :: L) = if x.at_ = to then 0 else whichT to L + 1 := rfl
    rw [e, e2, h1]
    by_cases hr : r.at_ = to
    · rw [if_pos hr, if_pos hr]
      exact ⟨(fun i hi => by cases hi; exact ⟨rfl, by simp⟩), fun h => by cases h⟩
    · rw [if_neg hr, if_neg hr]
      refine ⟨fun i hi => ?_, fun hn => ?_⟩
      · rw [Option.map_eq_some_iff] at hi
        obtain ⟨j, hj, rfl⟩ := hi
        obtain ⟨a, b⟩ := i1 j hj
        exact ⟨by rw [a], by simp; omega⟩
      · rw [Option.map_eq_none_iff] at hn
        rw [i2 hn]
        rfl

structure LogIn (B : Nat) (X : List Nat) (w : World) (q p : Nat) (f : Int) (N : Nat) (s : St) (l : Lo) (T : Nat) (K New G D : List Rr) : Prop where
  at_ : ∃ bs bp tv fv, LoAt B w q p f N tv fv l ∧ DiskAt w p bs bp s ∧ B ≤ bs ∧ B ≤ bp ∧ ∀ k ∈ [p, bs, bp] ++ q :: (tv.ownBlock.toList ++ fv.ownBlock.toList), k ∉ X
  lq : B ≤ q
  lp : B ≤ p
  sz : B ≤ w.heap.size
  xs : ∀ k ∈ X, k < w.heap.size
  on : OnD s f N
  run : Run (calmS s) f N T K New G D l
  hD : D ≠ [] → l.next = chainE T (K ++ New)
  n4 : 4 ≤ N
  n1 : N ≤ 1000

theorem LogIn.own {B : Nat} {w : World} {q p bs bp : Nat} {f : Int} {N : Nat} {tv fv : Value} {l : Lo} (h : LoAt B w q p f N tv fv l) (hq : B ≤ q) (hp : B ≤ p) (h1 : B ≤ bs) (h2 : B ≤ bp) : ∀ k ∈ [p, bs, bp] ++ q :: (tv.ownBlock.toList ++ fv.ownBlock.toList), B ≤ k := fun k hk => by
  rcases List.mem_append.1 hk with hk | hk
  · simp only [List.mem_cons, List.mem_nil_iff, or_false] at hk
    rcases hk with rfl | rfl | rfl <;> assumption
  · rcases List.mem_cons.1 hk with rfl | hk
    · exact hq
    · rcases List.mem_append.1 hk with hk | hk
      · rw [Option.mem_toList] at hk; exact (World.ownsRow.lt h.there k hk).1
      · rw [Option.mem_toList] at hk; exact (World.ownsRow.lt h.free k hk).1

/-- Behind a call of its own. -/
theorem LogIn.turn {B : Nat} {X : List Nat} {w w' : World} {q p bs bp : Nat} {f : Int} {N : Nat} {tv fv tv' fv' : Value} {l l' : Lo} {s' : St} (h : LoAt B w q p f N tv fv l) (hq : B ≤ q) (hp : B ≤ p) (h1 : B ≤ bs) (h2 : B ≤ bp) (hX : ∀ k ∈ [p, bs, bp] ++ q :: (tv.ownBlock.toList ++ fv.ownBlock.toList), k ∉ X) (hxs : ∀ k ∈ X, k < w.heap.size) (hl : LoAt B w' q p f N tv' fv' l') (hd : DiskAt w' p bs bp s') (ht : ∀ k, tv'.ownBlock = some k → tv.ownBlock = some k ∨ w.heap.size ≤ k) (hf : ∀ k, fv'.ownBlock = some k → fv.ownBlock = some k ∨ w.heap.size ≤ k) (hS : Sole ([p, bs, bp] ++ q :: (tv.ownBlock.toList ++ fv.ownBlock.toList)) w w') :
    (∃ bs bp tv fv, LoAt B w' q p f N tv fv l' ∧ DiskAt w' p bs bp s' ∧ B ≤ bs ∧ B ≤ bp ∧ ∀ k ∈ [p, bs, bp] ++ q :: (tv.ownBlock.toList ++ fv.ownBlock.toList), k ∉ X) ∧ KeepX B X w w' := by
  refine ⟨⟨bs, bp, tv', fv', hl, hd, h1, h2, fun k hk hx => ?_⟩, KeepX.of_sole hS (fun k hk => ⟨LogIn.own h hq hp h1 h2 k hk, hX k hk⟩)⟩
  have hlt := hxs k hx
  rcases List.mem_append.1 hk with hk | hk
  · exact hX k (List.mem_append_left _ hk) hx
  · rcases List.mem_cons.1 hk with rfl | hk
    · exact hX _ (List.mem_append_right _ List.mem_cons_self) hx
    · rcases List.mem_append.1 hk with hk | hk
      · rw [Option.mem_toList] at hk
        rcases ht k hk with e | e
        · exact hX k (List.mem_append_right _ (List.mem_cons_of_mem _ (List.mem_append_left _ (Option.mem_toList.2 e)))) hx
        · omega
      · rw [Option.mem_toList] at hk
        rcases hf k hk with e | e
        · exact hX k (List.mem_append_right _ (List.mem_cons_of_mem _ (List.mem_append_right _ (Option.mem_toList.2 e)))) hx
        · omega

/-- Others' calls make memory; X may grow by what is new. -/
theorem LogIn.below {B : Nat} {X : List Nat} {w w' : World} {q p : Nat} {f : Int} {N : Nat} {s : St} {l : Lo} {T : Nat} {K New G D : List Rr} (h : LogIn B X w q p f N s l T K New G D) (hb : Below w.heap.size w w') (X' : List Nat) (hX : ∀ k ∈ X', (k ∈ X ∨ w.heap.size ≤ k) ∧ k < w'.heap.size) : LogIn B X' w' q p f N s l T K New G D := by
  obtain ⟨⟨bs, bp, tv, fv, h1, h2, h3, h4, h5⟩, hq, hp, hz, hxs, hon, hrun, hD, hn4, hn1⟩ := h
  have hlt : ∀ k ∈ [p, bs, bp] ++ q :: (tv.ownBlock.toList ++ fv.ownBlock.toList), k < w.heap.size := fun k hk => by
    rcases List.mem_append.1 hk with hk | hk
    · have := h2.lt
      simp only [List.mem_cons, List.mem_nil_iff, or_false] at hk
      rcases hk with rfl | rfl | rfl <;> omega
    · rcases List.mem_cons.1 hk with rfl | hk
      · exact (Array.getElem?_eq_some_iff.1 h1.row).1
      · rcases List.mem_append.1 hk with hk | hk
        · rw [Option.mem_toList] at hk; exact (World.ownsRow.lt h1.there k hk).2
        · rw [Option.mem_toList] at hk; exact (World.ownsRow.lt h1.free k hk).2
  refine ⟨⟨bs, bp, tv, fv, h1.below hb, h2.below hb, h3, h4, fun k hk hx => ?_⟩, hq, hp, Nat.le_trans hz hb.size, fun k hk => (hX k hk).2, hon, hrun, hD, hn4, hn1⟩
  rcases (hX k hx).1 with e | e
  · exact h5 k hk e
  · have := hlt k hk; omega

/-- Others write into blocks of other types. -/
theorem LogIn.others {B : Nat} {X : List Nat} {w w' : World} {q p : Nat} {f : Int} {N : Nat} {s : St} {l : Lo} {T : Nat} {K New G D : List Rr} (h : LogIn B X w q p f N s l T K New G D) {S : List Nat} (hS : Sole S w w') (hk : ∀ k ∈ S, ∃ cs t fr, w.heap[k]? = some (.cells cs t fr) ∧ t ≠ 69 ∧ t ≠ 77 ∧ t ≠ 94 ∧ t ≠ 84 ∧ t ≠ 3) : LogIn B X w' q p f N s l T K New G D := by
  obtain ⟨⟨bs, bp, tv, fv, h1, h2, h3, h4, h5⟩, hq, hp, hz, hxs, hon, hrun, hD, hn4, hn1⟩ := h
  have hrow : ∀ {base n m : Nat} {e : TypeId} {v : Value} {xs : List Value}, w.ownsRow base e m v n xs → (∀ t : TypeId, t ≠ 69 → t ≠ 77 → t ≠ 94 → t ≠ 84 → t ≠ 3 → t ≠ e) → ∀ k, v.ownBlock = some k → k ∉ S := fun ho he k hv hm => by
    obtain ⟨cs, t, fr, hc, t1, t2, t3, t4, t5⟩ := hk k hm
    obtain ⟨_, ⟨rfl, _⟩ | ⟨g, c, cur, rfl, _, hg, _⟩⟩ := ho
    · cases hv
    · simp only [Value.ownBlock, Option.some.injEq] at hv
      subst hv
      rw [hc] at hg
      simp only [Option.some.injEq, Obj.cells.injEq] at hg
      exact he t t1 t2 t3 t4 t5 hg.2.1
  have hqS : q ∉ S := fun hm => by
    obtain ⟨cs, t, fr, hc, t1, t2, t3, t4, t5⟩ := hk q hm
    rw [h1.row] at hc
    simp only [Option.some.injEq, Obj.cells.injEq] at hc
    exact t2 hc.2.1.symm
  have hdS : ∀ k ∈ [p, bs, bp], k ∉ S := fun k hkk hm => by
    obtain ⟨cs, t, fr, hc, t1, t2, t3, t4, t5⟩ := hk k hm
    exact not_disk h2 hc t1 hkk
  refine ⟨⟨bs, bp, tv, fv, ⟨(hS.block q (Array.getElem?_eq_some_iff.1 h1.row).1 hqS).trans h1.row, own_keep h1.there hS.size (fun k hk' hl => hS.block k hl (hrow h1.there (fun t a b c d e => c) k hk')), own_keep h1.free hS.size (fun k hk' hl => hS.block k hl (hrow h1.free (fun t a b c d e => d) k hk')), fun x hx => own_keep (h1.each x hx) hS.size (fun k hk' hl => hS.block k hl (hrow (h1.each x hx) (fun t a b c d e => e) k hk'))⟩, h2.other hS (hdS p (by simp)) (hdS bs (by simp)) (hdS bp (by simp)), h3, h4, h5⟩, hq, hp, Nat.le_trans hz hS.size, fun k hx => Nat.lt_of_lt_of_le (hxs k hx) hS.size, hon, hrun, hD, hn4, hn1⟩

theorem rest_mem {V : Nat → Pc} {N : Nat} {K : List Rr} {L : List Fv} {Kw : List Wm} (hp : (L.map fun x => (x.p, x.blk)).Perm ((idxL V N).map fun i => (V i, i))) (hk : Kw.map whOf = K.map Rr.wh) : (∀ i, i ∈ restL (Kw.flatMap Wm.blocks) L ↔ i < N ∧ (V i).kind ≠ 0 ∧ ∀ r ∈ K, i ∉ r.blocks) ∧ (restL (Kw.flatMap Wm.blocks) L).Nodup := by
  have hD : Kw.flatMap Wm.blocks = K.flatMap Rr.blocks := by
    have := congrArg (List.flatMap (fun w : Wh => w.blocks)) hk
    rw [List.flatMap_map, List.flatMap_map] at this
    exact this
  have hblk : (L.map Fv.blk).Perm (idxL V N) := by
    have := hp.map Prod.snd
    rw [List.map_map, List.map_map] at this
    have e1 : (Prod.snd ∘ fun i => (V i, i)) = fun i : Nat => i := rfl
    rw [e1, List.map_id'] at this
    exact this
  have hidx : ∀ i, i ∈ idxL V N ↔ i < N ∧ (V i).kind ≠ 0 := fun i => by
    unfold idxL
    rw [List.mem_filter, List.mem_range]
    simp
  refine ⟨fun i => ?_, ?_⟩
  · unfold restL
    rw [List.mem_filter, hblk.mem_iff, hidx, hD]
    simp only [List.mem_flatMap, not_exists, not_and, decide_eq_true_eq, and_assoc]
  · unfold restL
    have h1 : (L.map Fv.blk).Nodup := hblk.nodup_iff.2 (by unfold idxL; exact List.nodup_range.filter _)
    exact h1.filter _

/-- Open. -/
theorem left_open {s : St} {f : Int} {N M U : Nat} {G D : List Rr} {fr : Nat} (h : Left s f N M U G D fr) (hon : s.off = false) (hN : 0 < N) (hM : M ≤ 4611686018427387904) {L : List Fv} {Kw : List Wm} (hp : (L.map fun x => (x.p, x.blk)).Perm ((idxL (viewP s f) N).map fun i => (viewP s f i, i))) (hs : L.Pairwise leF) (hk : Kw.map whOf = keepL (L.map fdOf) (tailK (viewP s f) N)) :
    Kw.map whOf = (G ++ D).map Rr.wh ∧ firstK fr Kw = G.length ∧ tailK (viewP s f) N = U ∧ keepE (L.map fdOf) (tailK (viewP s f) N) = chainE U (G ++ D) ∧
    (((openOut f U s (restL (Kw.flatMap Wm.blocks) L)).1 = 0 ∧ OnD (openOut f U s (restL (Kw.flatMap Wm.blocks) L)).2 f N ∧ (openOut f U s (restL (Kw.flatMap Wm.blocks) L)).2.armed = s.armed ∧ (∀ i, (openOut f U s (restL (Kw.flatMap Wm.blocks) L)).2.pend i = none) ∧ Left (openOut f U s (restL (Kw.flatMap Wm.blocks) L)).2 f N M U G D fr ∧ Run (calmS (openOut f U s (restL (Kw.flatMap Wm.blocks) L)).2) f N U (G ++ D) [] G D (logL N fr U (chainE U (G ++ D)) Kw)) ∨
     ((openOut f U s (restL (Kw.flatMap Wm.blocks) L)).1 = 20 ∧ s.armed = true ∧ (openOut f U s (restL (Kw.flatMap Wm.blocks) L)).2.off = true ∧ (openOut f U s (restL (Kw.flatMap Wm.blocks) L)).2.armed = false ∧ (∀ i, (openOut f U s (restL (Kw.flatMap Wm.blocks) L)).2.pend i = none) ∧ ((∀ i, s.pend i = none) → Left (openOut f U s (restL (Kw.flatMap Wm.blocks) L)).2 f N M U G D fr))) := by
  have hU := h.fi.tail
  obtain ⟨k1, k2⟩ := fi_found h.fi hp hs
  rw [k1] at hk
  have hfk := first_pick h.fi.ok h.fi.chain hk h.begins
  obtain ⟨hR, hRn⟩ := rest_mem hp hk
  refine ⟨hk, hfk, hU, k2, ?_⟩
  have hum := h.um
  have hz : PcOk (zeroP U) := zeroP_ok (by omega)
  have hond : OnD s f N := ⟨hon, h.f0, h.fn⟩
  have hUr := run_opened (s := calmS s) (K := G ++ D) hN hond.calm (good_calm h.good) h.un (by omega : U < 18446744073709551616) h.fi hp hs (by rw [hk]; exact k1.symm) fr
  generalize restL (Kw.flatMap Wm.blocks) L = R at *
  have hL : ∀ x ∈ R.map (fun b => (b, zeroP U)), x.1 < N ∧ PcOk x.2 := fun x hx => by
    obtain ⟨b, hb, rfl⟩ := List.mem_map.1 hx
    exact ⟨((hR b).1 hb).1, hz⟩
  have hnd : ((R.map (fun b => (b, zeroP U))).map Prod.fst).Nodup := by
    rw [List.map_map]
    have : (Prod.fst ∘ fun b : Nat => (b, zeroP U)) = fun b => b := rfl
    rw [this, List.map_id']
    exact hRn
  have hc := wrS_calm (R.map fun b => (b, zeroP U)) hond.calm hL hnd
  obtain ⟨c1, c2, c3, c4, c5⟩ := hc
  rcases wrS_on (R.map fun b => (b, zeroP U)) hond h.good hL with ⟨a1, a2, a3, a4, a5⟩ | ⟨a1, a2, a3, a4, a5, a6, a7, a8⟩
  · rw [← wipe_wr] at a1 a2 a3 a4 a5 c1 c2 c3 c4 c5
    rw [← wipe_wr] at a5
    have hgc : Good (wipeN f U (calmS s) R).2 := by rw [← a5]; exact good_calm a3
    have hoc : openOut f U (calmS s) R = (0, allSafe (wipeN f U (calmS s) R).2) := by
      unfold openOut
      rw [if_pos c1]
      exact calm_bar c2
    have hrun := hUr hgc (by rw [hoc]; exact good_allSafeW hgc)
    rw [hoc] at hrun
    generalize hs1 : (wipeN f U s R).2 = s1 at *
    have hop : openOut f U s R = barOut s1 := by unfold openOut; rw [if_pos a1, hs1]
    rw [hop]
    unfold barOut
    rw [a2.on]
    have hsf : s1.safe = s.safe := by rw [← a5] at c3; exact c3
    have hb1 : s1.blocks = s.blocks := by
      have hb : (wipeN f U s R).2.blocks = s.blocks := by rw [wipe_wr]; exact wrS_blocks _ _ _
      rw [hs1] at hb
      exact hb
    have hin : ∀ i ∈ R, s1.pend (f + (i : Nat)) = some (encP (zeroP U)) := fun i hi2 => by
      have := c4 (i, zeroP U) (List.mem_map.2 ⟨i, hi2, rfl⟩)
      rw [← a5] at this
      exact this
    have hout : ∀ i : Nat, i ∉ R → s1.pend (f + i) = s.pend (f + i) := fun i hi2 => by
      have := c5 (f + i) (fun x hx e => hi2 (by
        obtain ⟨b, hb, rfl⟩ := List.mem_map.1 hx
        have : i = b := by simp only at e; omega
        rw [this]; exact hb))
      rw [← a5] at this
      exact this
    cases hd : due s1
    · refine .inl ⟨rfl, ⟨?_, h.f0, ?_⟩, ?_, allSafe_pend a3, ?_, ?_⟩
      · show (allSafe s1).off = false
        unfold allSafe; rw [settleN_off]; exact a2.on
      · show f + N ≤ (allSafe s1).blocks
        unfold allSafe; rw [settleN_blocks]; exact a2.fn
      · show (allSafe s1).armed = s.armed
        unfold allSafe; rw [settleN_armed]; exact a4
      · refine h.wiped (by omega) (good_allSafeW a3) ?_ (fun i hi => ?_)
        · show (allSafe s1).blocks = s.blocks
          unfold allSafe; rw [settleN_blocks]; exact hb1
        · have hsn : seen (allSafe s1) (f + i) = seen s1 (f + i) := by unfold seen; rw [allSafe_pend a3]; exact allSafe_safe a3 _
          show seen (allSafe s1) (f + i) = _ ∨ _
          by_cases hi2 : i ∈ R
          · right
            show _ ∧ _ ∧ seen (allSafe s1) (f + i) = _
            exact ⟨((hR i).1 hi2).2.2, ((hR i).1 hi2).2.1, by rw [hsn]; unfold seen; rw [hin i hi2]; rfl⟩
          · left; rw [hsn]; unfold seen; rw [hout i hi2, hsf]
      · show Run (calmS (allSafe s1)) f N U (G ++ D) [] G D _
        rw [calm_allSafe, a5]
        have := hrun.2.2.2
        rw [hfk, List.take_left, List.drop_left] at this
        exact this
    · refine .inr ⟨rfl, by rw [← a4]; simp [due] at hd; exact hd.1, rfl, rfl, cut_pend a3 _, fun hpn => ?_⟩
      refine h.wiped (by omega) (good_cutW a3 _) ?_ (fun i hi => ?_)
      · show (cutSt s1 s1.mask).blocks = s.blocks
        rw [cut_blocks]
        exact hb1
      · have hsn : seen (cutSt s1 s1.mask) (f + i) = (cutSt s1 s1.mask).safe (f + i) := by unfold seen; rw [cut_pend a3]; rfl
        have hss : seen s (f + i) = s.safe (f + i) := by unfold seen; rw [hpn]; rfl
        show seen (cutSt s1 s1.mask) (f + i) = _ ∨ _
        rcases cut_safe a3 s1.mask (f + i) with q | ⟨c, q1, q2⟩
        · left; rw [hsn, q, hsf, hss]
        · by_cases hi2 : i ∈ R
          · right
            rw [hin i hi2] at q1
            simp only [Option.some.injEq] at q1
            show _ ∧ _ ∧ seen (cutSt s1 s1.mask) (f + i) = _
            exact ⟨((hR i).1 hi2).2.2, ((hR i).1 hi2).2.1, by rw [hsn, q2, ← q1]⟩
          · exfalso
            rw [hout i hi2, hpn] at q1
            cases q1
  · have hbl := wrS_blocks f (R.map fun b => (b, zeroP U)) s
    rw [← wipe_wr] at a1 a3 a4 a5 a6 a7 a8 hbl
    have hop : openOut f U s R = wipeN f U s R := by unfold openOut; rw [if_neg (by rw [a1]; decide)]
    rw [hop]
    refine .inr ⟨a1, a2, a5, a6, a7, fun hpn => h.wiped (by omega) a3 hbl (fun i hi => ?_)⟩
    have hsn : seen (wipeN f U s R).2 (f + i) = (wipeN f U s R).2.safe (f + i) := by unfold seen; rw [a7]; rfl
    have hss : seen s (f + i) = s.safe (f + i) := by unfold seen; rw [hpn]; rfl
    rw [hsn, hss]
    rcases a8 (f + i) with q | ⟨c, q1, q2⟩ | ⟨x, hx, q1, q2⟩
    · exact .inl q
    · rw [hpn] at q1; cases q1
    · obtain ⟨b, hb, rfl⟩ := List.mem_map.1 hx
      have : i = b := by simp only at q1; omega
      subst this
      exact .inr ⟨((hR i).1 hb).2.2, ((hR i).1 hb).2.1, q2⟩

/-- What a cut leaves of a log: what was safe, and the first ones of the others. -/
theorem run_left {s s' : St} {f : Int} {N T : Nat} {K New G D : List Rr} {l : Lo} (hS : SI (safeV s f) N T K) (hn : NI N T K New) (hli : LI N T K New G D l) (hbd : RunBd N T K New G D l) (hf0 : 0 ≤ f) (hfn : f + N ≤ s.blocks) (hg : Good s') (hb : s'.blocks = s.blocks) (hun : ∀ i : Nat, i < N → unE (seen s' (f + i)) = 0) (hV : Shows N (safeV s f) (viewP s' f) New) : ∃ U G' k, Left s' f N l.next U G' (D.take k) l.first ∧ D.length - New.length ≤ k ∧ k ≤ D.length := by
  obtain ⟨U, G', k, h1, h2, h3, h4, h5⟩ := left_of hS hn hli hbd.ce hV
  have hfr : l.first ≤ l.next := by
    obtain ⟨f1, f2⟩ := li_first hli
    cases hD : D with
    | nil => rw [f1 hD]; exact Nat.le_refl _
    | cons r D' =>
      rw [f2 r D' hD]
      have hr : r ∈ K ++ New := by rw [hli.all, hD]; exact List.mem_append_right _ List.mem_cons_self
      have := hbd.fins r hr
      have := hbd.ats r hr
      omega
  refine ⟨U, G', k, ⟨hg, hf0, by rw [hb]; exact hfn, hun, h1, h5, Nat.le_trans h2 hbd.tail, hfr, shows_bd hS hV hbd.t (fun r hr => ?_) (fun n hn' => ⟨?_, hbd.tails n hn'⟩)⟩, h3, h4⟩
  · have := hbd.fins r (List.mem_append_left _ hr)
    have := hbd.ats r (List.mem_append_left _ hr)
    omega
  · have := hbd.fins n (List.mem_append_right _ hn')
    have := hbd.ats n (List.mem_append_right _ hn')
    omega

/-- A cut while a log is there. -/
theorem run_cut_left {s s' : St} {f : Int} {N T : Nat} {K New G D : List Rr} {l : Lo} (h : Run s f N T K New G D l) (hg : Good s') (hb : s'.blocks = s.blocks) (hp : ∀ i, s'.pend i = none) (hs : ∀ i, s'.safe i = s.safe i ∨ ∃ c, s.pend i = some c ∧ s'.safe i = c) : ∃ U G' k, Left s' f N l.next U G' (D.take k) l.first ∧ D.length - New.length ≤ k ∧ k ≤ D.length := by
  obtain ⟨h1, h2⟩ := run_cut h hp hs
  exact run_left h.si h.ni h.li (run_bd h) h.calm.f0 h.calm.fn hg hb h2 h1

/-- A barrier, the disk armed or not. -/
theorem bar_on {s : St} {f : Int} {N T : Nat} {K New G D : List Rr} {l : Lo} (hon : OnD s f N) (hg : Good s) (h : Run (calmS s) f N T K New G D l) :
    ((barOut s).1 = 0 ∧ OnD (barOut s).2 f N ∧ (barOut s).2.armed = s.armed ∧ ∃ U K' G', Run (calmS (barOut s).2) f N U K' [] G' D l ∧ chainE U K' = chainE T (K ++ New)) ∨
    ((barOut s).1 = 20 ∧ s.armed = true ∧ (barOut s).2.off = true ∧ (barOut s).2.armed = false ∧ (∀ i, (barOut s).2.pend i = none) ∧ ∃ U G' k, Left (barOut s).2 f N l.next U G' (D.take k) l.first ∧ D.length - New.length ≤ k ∧ k ≤ D.length) := by
  unfold barOut
  rw [hon.on]
  cases hd : due s
  · have hr := run_sync h (by rw [← calm_allSafe]; exact good_calm (good_allSafeW hg)) (by rw [← calm_allSafe]; exact OnD.calm ⟨by unfold allSafe; rw [settleN_off]; exact hon.on, hon.f0, by unfold allSafe; rw [settleN_blocks]; exact hon.fn⟩) (allSafe_pend (good_calm hg))
    rw [← calm_allSafe] at hr
    exact .inl ⟨rfl, ⟨by show (allSafe s).off = false; unfold allSafe; rw [settleN_off]; exact hon.on, hon.f0, by show f + N ≤ (allSafe s).blocks; unfold allSafe; rw [settleN_blocks]; exact hon.fn⟩, by show (allSafe s).armed = s.armed; unfold allSafe; rw [settleN_armed], hr⟩
  · refine .inr ⟨rfl, by simp [due] at hd; exact hd.1, rfl, rfl, cut_pend hg _, ?_⟩
    exact run_cut_left h (good_cutW hg _) (cut_blocks _ _) (cut_pend hg _) (fun i => cut_safe hg s.mask i)

/-- A log: its next number, how many of its records are safe, its records. -/
def LogV (B : Nat) (X : List Nat) (w : World) (q p : Nat) (f : Int) (N : Nat) (arm : Bool) (nx dn : Nat) (rs : List Rc) : Prop :=
  ∃ s l T K New G D, LogIn B X w q p f N s l T K New G D ∧ s.armed = arm ∧ l.next = nx ∧ D.length - New.length = dn ∧ rcs D = rs

/-- What is left of a log on its disk: what an Open will find. -/
def LeftV (B : Nat) (X : List Nat) (w : World) (p : Nat) (f : Int) (N : Nat) (off arm : Bool) (M fr nx : Nat) (rs : List Rc) : Prop :=
  ∃ bs bp s U G D, DiskAt w p bs bp s ∧ B ≤ p ∧ B ≤ bs ∧ B ≤ bp ∧ (∀ k ∈ [p, bs, bp], k ∉ X) ∧ B ≤ w.heap.size ∧ (∀ k ∈ X, k < w.heap.size) ∧ s.off = off ∧ s.armed = arm ∧ (∀ i, s.pend i = none) ∧ Left s f N M U G D fr ∧ max fr (chainE U (G ++ D)) = nx ∧ 4 ≤ N ∧ N ≤ 1000 ∧ rcs D = rs

theorem LogV.below {B : Nat} {X : List Nat} {w w' : World} {q p : Nat} {f : Int} {N : Nat} {arm : Bool} {nx dn : Nat} {rs : List Rc} (h : LogV B X w q p f N arm nx dn rs) (hb : Below w.heap.size w w') (X' : List Nat) (hX : ∀ k ∈ X', (k ∈ X ∨ w.heap.size ≤ k) ∧ k < w'.heap.size) : LogV B X' w' q p f N arm nx dn rs := by
  obtain ⟨s, l, T, K, New, G, D, h1, h2⟩ := h
  exact ⟨s, l, T, K, New, G, D, h1.below hb X' hX, h2⟩
theorem LogV.others {B : Nat} {X : List Nat} {w w' : World} {q p : Nat} {f : Int} {N : Nat} {arm : Bool} {nx dn : Nat} {rs : List Rc} (h : LogV B X w q p f N arm nx dn rs) {S : List Nat} (hS : Sole S w w') (hk : ∀ k ∈ S, ∃ cs t fr, w.heap[k]? = some (.cells cs t fr) ∧ t ≠ 69 ∧ t ≠ 77 ∧ t ≠ 94 ∧ t ≠ 84 ∧ t ≠ 3) : LogV B X w' q p f N arm nx dn rs := by
  obtain ⟨s, l, T, K, New, G, D, h1, h2⟩ := h
  exact ⟨s, l, T, K, New, G, D, h1.others hS hk, h2⟩
theorem LogV.lens {B : Nat} {X : List Nat} {w : World} {q p : Nat} {f : Int} {N : Nat} {arm : Bool} {nx dn : Nat} {rs : List Rc} (h : LogV B X w q p f N arm nx dn rs) : dn ≤ rs.length ∧ rs.length ≤ N ∧ (∀ r ∈ rs, r.num < nx) ∧ q < w.heap.size ∧ usedR rs ≤ N ∧ (∀ r ∈ rs, TextsOk r.grp) := by
  obtain ⟨s, l, T, K, New, G, D, h1, h2, rfl, rfl, rfl⟩ := h
  have hb := run_bd h1.run
  have ht := congrArg List.length h1.run.li.there
  rw [List.length_map, List.length_map] at ht
  have hu := li_used h1.run.li h1.run.ok
  have h3 := hb.used
  have hDm : ∀ r ∈ D, r ∈ K ++ New := fun r hr => by rw [h1.run.li.all]; exact List.mem_append_right _ hr
  refine ⟨by rw [rcs_len]; omega, by rw [rcs_len, ← ht]; exact hb.len, fun r hr => ?_, ?_, by omega, fun r hr => ?_⟩
  · unfold rcs at hr
    obtain ⟨x, hx, rfl⟩ := List.mem_map.1 hr
    have h5 := hb.fins x (hDm x hx)
    have h6 := hb.ats x (hDm x hx)
    show x.at_ < _
    omega
  · obtain ⟨bs, bp, tv, fv, h4, _⟩ := h1.at_
    exact (Array.getElem?_eq_some_iff.1 h4.row).1
  · unfold rcs at hr
    obtain ⟨x, hx, rfl⟩ := List.mem_map.1 hr
    exact (h1.run.ok x (hDm x hx)).texts

theorem next_v {B : Nat} {X : List Nat} {w : World} {q p : Nat} {f : Int} {N : Nat} {arm : Bool} {nx dn : Nat} {rs : List Rc} (h : LogV B X w q p f N arm nx dn rs) : Calls Tryz.prog 13 #[ptrW q] w fun e w' => e = .returned (.int .u64 nx) ∧ w' = w := by
  obtain ⟨s, l, T, K, New, G, D, h1, h2, rfl, rfl, rfl⟩ := h
  obtain ⟨bs, bp, tv, fv, h4, _⟩ := h1.at_
  exact lnext_any h4
theorem from_v {B : Nat} {X : List Nat} {w : World} {q p : Nat} {f : Int} {N : Nat} {arm : Bool} {nx dn : Nat} {rs : List Rc} (h : LogV B X w q p f N arm nx dn rs) : Calls Tryz.prog 18 #[ptrW q] w fun e w' => e = .returned (.int .u64 (fromR nx rs)) ∧ w' = w := by
  obtain ⟨s, l, T, K, New, G, D, h1, h2, rfl, rfl, rfl⟩ := h
  obtain ⟨bs, bp, tv, fv, h4, _⟩ := h1.at_
  have := lfrom_any h4
  rw [li_from h1.run.li] at this
  exact this

theorem let_v {B : Nat} {X : List Nat} {w : World} {q p : Nat} {f : Int} {N : Nat} {arm : Bool} {nx dn : Nat} {rs : List Rc} (h : LogV B X w q p f N arm nx dn rs) (hnx : nx ≤ 4611686018427387904) (to : Nat) : Calls Tryz.prog 28 #[ptrW q, .int .u64 to] w fun e w' => KeepX B X w w' ∧
    if to = nx then e = .returned (.int .i64 0) ∧ LogV B X w' q p f N arm nx 0 [] else match whichR rs to with
      | some i => e = .returned (.int .i64 0) ∧ LogV B X w' q p f N arm nx (dn - i) (rs.drop i)
      | none => e = .returned (.int .i64 1) ∧ LogV B X w' q p f N arm nx dn rs := by
  obtain ⟨s, l, T, K, New, G, D, h1, h2, rfl, rfl, rfl⟩ := h
  obtain ⟨bs, bp, tv, fv, h4, h5, h6, h7, h8⟩ := h1.at_
  have hb := run_bd h1.run
  have n1 := h1.n1
  have hus := hb.used
  have hpost : ∀ (i : Nat) (w' : World), LoMoves B w w' q p f N tv fv (l.drop_ i) → KeepX B X w w' ∧ LogIn B X w' q p f N s (l.drop_ i) T K New (G ++ D.take i) (D.drop i) := fun i w' hm => by
    obtain ⟨⟨tv', fv', m1, m2, m3⟩, m4⟩ := hm
    have hdis : DiskAt w' p bs bp s := by
      refine h5.other m4 ?_ ?_ ?_
      all_goals
        intro hmem
        rcases List.mem_cons.1 hmem with e | e
        · exact not_disk h5 h4.row (by decide) (by rw [← e]; simp)
        · rcases List.mem_append.1 e with e | e
          · rw [Option.mem_toList] at e; exact own_not_disk h5 h4.there (by decide) _ e (by simp)
          · rw [Option.mem_toList] at e; exact own_not_disk h5 h4.free (by decide) _ e (by simp)
    obtain ⟨t1, t2⟩ := LogIn.turn h4 h1.lq h1.lp h6 h7 h8 h1.xs m1 hdis m2 m3 (m4.mono (fun k hk => List.mem_append_right _ hk))
    exact ⟨t2, ⟨t1, h1.lq, h1.lp, Nat.le_trans h1.sz t2.size, fun k hk => Nat.lt_of_lt_of_le (h1.xs k hk) t2.size, h1.on, run_let h1.run i, fun hd => h1.hD (fun e => hd (by rw [e]; simp)), h1.n4, h1.n1⟩⟩
  have hth := h1.run.li.there
  have htl := congrArg List.length hth
  rw [List.length_map, List.length_map] at htl
  have hlen := hb.len
  have heach : ∀ x ∈ l.there, x.blocks.length ≤ 1000 := fun x hx => by have := (hb.each x hx).1; omega
  have hats : ∀ x ∈ l.there, x.at_ ≤ 4611686018427387904 := fun x hx => by have := (hb.each x hx).2; omega
  by_cases hto : to = l.next
  · refine (let_all h4 h1.sz (by omega) (by omega) heach hats to l.there.length hto rfl).mono ?_
    rintro e w' ⟨rfl, hm⟩
    obtain ⟨p1, p2⟩ := hpost _ w' hm
    rw [if_pos hto]
    refine ⟨p1, rfl, s, _, T, K, New, _, _, p2, h2, rfl, ?_, ?_⟩
    · rw [List.length_drop]; omega
    · rw [htl, List.drop_length]; rfl
  · obtain ⟨w1, w2⟩ := which_rcs l.there D to hth
    simp only [if_neg hto]
    cases hw : whichR (rcs D) to with
    | some i =>
      obtain ⟨e1, e2⟩ := w1 i hw
      refine (let_some h4 h1.sz (by omega) (by omega) heach hats to i hto e1 e2).mono ?_
      rintro e w' ⟨rfl, hm⟩
      obtain ⟨p1, p2⟩ := hpost _ w' hm
      exact ⟨p1, rfl, s, _, T, K, New, _, _, p2, h2, rfl, by rw [List.length_drop]; omega, rcs_drop D i⟩
    | none =>
      refine (let_none h4 (by omega) to hto (w2 hw)).mono ?_
      rintro e w' ⟨rfl, hm⟩
      exact ⟨KeepX.of_below hm, rfl, s, l, T, K, New, G, D, h1.below hm X (fun k hk => ⟨.inl hk, Nat.lt_of_lt_of_le (h1.xs k hk) hm.size⟩), h2, rfl, rfl, rfl⟩

theorem left_v {B : Nat} {X : List Nat} {w w' : World} {q p bs bp : Nat} {f : Int} {N : Nat} {tv fv : Value} {l : Lo} {S : List Nat} {s' : St} {M U fr : Nat} {G D : List Rr} (h : LoAt B w q p f N tv fv l) (hp : B ≤ p) (h1 : B ≤ bs) (h2 : B ≤ bp) (hz : B ≤ w.heap.size) (hxs : ∀ k ∈ X, k < w.heap.size) (hX : ∀ k ∈ [p, bs, bp], k ∉ X) (hs : w.heap.size ≤ w'.heap.size) (hd : DiskAt w' p bs bp s') (ho : s'.off = true) (ha : s'.armed = false) (hpn : ∀ i, s'.pend i = none) (hl : Left s' f N M U G D fr) (hn4 : 4 ≤ N) (hn1 : N ≤ 1000) : ∃ nx, LeftV B X w' p f N true false M fr nx (rcs D) :=
  ⟨_, bs, bp, s', U, G, D, hd, hp, h1, h2, hX, Nat.le_trans hz hs, fun k hk => Nat.lt_of_lt_of_le (hxs k hk) hs, ho, ha, hpn, hl, rfl, hn4, hn1, rfl⟩

theorem sync_v {B : Nat} {X : List Nat} {w : World} {q p : Nat} {f : Int} {N : Nat} {arm : Bool} {nx dn : Nat} {rs : List Rc} (h : LogV B X w q p f N arm nx dn rs) : Calls Tryz.prog 14 #[ptrW q] w fun e w' => KeepX B X w w' ∧
    ((e = .returned (.int .i64 0) ∧ LogV B X w' q p f N arm nx rs.length rs) ∨ (arm = true ∧ e = .returned (.int .i64 20) ∧ ∃ k nx', dn ≤ k ∧ k ≤ rs.length ∧ LeftV B X w' p f N true false nx (fromR nx rs) nx' (rs.take k))) := by
  obtain ⟨s, l, T, K, New, G, D, h1, h2, rfl, rfl, rfl⟩ := h
  obtain ⟨bs, bp, tv, fv, h4, h5, h6, h7, h8⟩ := h1.at_
  refine (lsync_any h4 h5).mono ?_
  rintro e w' ⟨rfl, hd, hS⟩
  obtain ⟨t1, t2⟩ := LogIn.turn h4 h1.lq h1.lp h6 h7 h8 h1.xs (h4.disk h5 hS) hd (fun k hk => .inl hk) (fun k hk => .inl hk) (hS.mono (fun k hk => List.mem_append_left _ hk))
  refine ⟨t2, ?_⟩
  rcases bar_on h1.on h5.good h1.run with ⟨b1, b2, b3, U, K', G', b4, b5⟩ | ⟨b1, b2, b3, b4, b5, U, G', k, b6, b7, b8⟩
  · left
    rw [b1]
    refine ⟨rfl, _, l, U, K', [], G', D, ⟨t1, h1.lq, h1.lp, Nat.le_trans h1.sz t2.size, fun k hk => Nat.lt_of_lt_of_le (h1.xs k hk) t2.size, b2, b4, fun hD => ?_, h1.n4, h1.n1⟩, by rw [b3, h2], rfl, by rw [rcs_len]; simp, rfl⟩
    rw [List.append_nil, b5]
    exact h1.hD hD
  · right
    rw [b1]
    obtain ⟨nx', hl⟩ := left_v (S := []) h4 h1.lp h6 h7 h1.sz h1.xs (fun k hk => h8 k (List.mem_append_left _ hk)) t2.size hd b3 b4 b5 b6 h1.n4 h1.n1
    rw [li_from h1.run.li, rcs_take] at hl
    exact ⟨by rw [← h2]; exact b2, rfl, k, nx', b7, by rw [rcs_len]; exact b8, hl⟩

theorem long_parts {g : List ByteArray} (h : longB g = false) : g.length ≤ 255 ∧ lenG g ≤ 4096 ∧ ∀ x ∈ g, x.size ≤ 255 := by
  unfold longB at h
  simp only [Bool.or_eq_false_iff, decide_eq_false_iff_not, Nat.not_lt, List.any_eq_false, decide_eq_true_eq] at h
  exact ⟨h.1.1, h.1.2, h.2⟩
theorem lay_lenG : ∀ (l : List ByteArray), (∀ x ∈ l, x.size ≤ 255) → (layL l).length + l.length = lenG l
  | [], _ => rfl
  | x :: l, h => by
    have ih := lay_lenG l (fun y hy => h y (List.mem_cons_of_mem _ hy))
    have hx := h x List.mem_cons_self
    show (textB x ++ layL l).length + (l.length + 1) = (2 + x.size) + lenG l
    rw [List.length_append, ← ih]
    have : (textB x).length = 1 + x.size := by unfold textB; rw [if_neg (by omega), List.length_cons, strB_length]; omega
    omega
theorem long_pieces {g : List ByteArray} (h : longB g = false) : piecesN (layL g).length ≤ 9 := by
  obtain ⟨h1, h2, h3⟩ := long_parts h
  have := lay_lenG g h3
  unfold piecesN
  split <;> omega

theorem textB_byt (x : ByteArray) : Byt (textB x) := by
  unfold textB
  split
  · exact fun z hz => by cases hz
  · intro z hz
    rcases List.mem_cons.1 hz with rfl | hz
    · omega
    · exact strB_byt x z hz
theorem lay_byt : ∀ (l : List ByteArray), Byt (layL l)
  | [] => fun z hz => by cases hz
  | x :: l => fun z hz => by
    rcases List.mem_append.1 (show z ∈ textB x ++ layL l from hz) with h | h
    · exact textB_byt x z h
    · exact lay_byt l z h

theorem fromR_app (nx : Nat) (rs : List Rc) (g : List ByteArray) (m : Nat) : fromR m (rs ++ [⟨nx, g⟩]) = fromR nx rs := by
  cases rs <;> rfl

set_option maxHeartbeats 1000000 in
theorem append_v {B : Nat} {X : List Nat} {w : World} {q p : Nat} {f : Int} {N : Nat} {arm : Bool} {nx dn : Nat} {rs : List Rc} (h : LogV B X w q p f N arm nx dn rs) (hnx : nx ≤ 4611686018427380000) {Bt : List Nat} {v : Value} {g : List ByteArray} (hr : RdT Bt w v g) (hlong : longB g = false) :
    Calls Tryz.prog 27 #[ptrW q, v] w fun e w' => KeepX B X w w' ∧
      ((¬ piecesN (layL g).length + usedR rs + 2 ≤ N ∧ e = .returned (.tuple #[.int .u64 0, .int .i64 5]) ∧ LogV B X w' q p f N arm nx dn rs) ∨
       (piecesN (layL g).length + usedR rs + 2 ≤ N ∧
         ((e = .returned (.tuple #[.int .u64 nx, .int .i64 0]) ∧ LogV B X w' q p f N arm (nx + piecesN (layL g).length) dn (rs ++ [⟨nx, g⟩])) ∨
          (arm = true ∧ e = .returned (.tuple #[.int .u64 0, .int .i64 20]) ∧ ∃ k nx', dn ≤ k ∧ k ≤ rs.length + 1 ∧ LeftV B X w' p f N true false (nx + piecesN (layL g).length) (fromR nx rs) nx' (List.take k (rs ++ [(⟨nx, g⟩ : Rc)])))))) := by
  obtain ⟨s, l, T, K, New, G, D, h1, h2, rfl, rfl, rfl⟩ := h
  obtain ⟨bs, bp, tv, fv, h4, h5, h6, h7, h8⟩ := h1.at_
  have hb := run_bd h1.run
  have n1 := h1.n1
  have hus := hb.used
  have hlen := hb.len
  obtain ⟨l1, l2, l3⟩ := long_parts hlong
  have hpc := long_pieces hlong
  have hlay := lay_lenG g l3
  have heach : ∀ x ∈ l.there, x.blocks.length ≤ 1000 := fun x hx => by have := (hb.each x hx).1; omega
  have hU := li_used h1.run.li h1.run.ok
  have hxl : (layL g).length ≤ 65535 := by omega
  by_cases hroom : piecesN (layL g).length + usedR (rcs D) + 2 ≤ N
  · have hfb := h5.good.b1
    have hfn := h1.on.fn
    have hfl : piecesN (layL g).length ≤ l.free.length := by omega
    have htl : tailS l.tail (l.free.take (piecesN (layL g).length)) ≤ l.next := by
      obtain ⟨_, _, t3⟩ := tailS_ge (l.free.take (piecesN (layL g).length)) l.tail
      rcases t3 with e | ⟨x, hx, e⟩
      · rw [e]; exact hb.tail
      · rw [e]; exact (hb.free x (List.mem_of_mem_take hx)).2
    refine (app_done h4 h1.sz h5 (by omega) h1.on.f0 (by omega) (by omega) heach (fun x hx => ⟨(hb.free x hx).1, by have := (hb.free x hx).2; omega⟩) (by omega) (by omega) hr l1 (fun x hx => by have := l3 x hx; omega) hlong hxl (lay_byt g) (by omega) hfl).mono ?_
    intro e w' hdone
    unfold AppDone at hdone
    have hkind : (if l.grown then 1 else 2 : Nat) < 256 := by split <;> decide
    have hpk : ∀ i, i < piecesN (layL g).length → PcOk (appPc (if l.grown then 1 else 2) (tailS l.tail (l.free.take (piecesN (layL g).length))) l.next (layL g) i) := fun i hi =>
      ⟨hkind, by show tailS _ _ < _; omega, by show l.next < _; omega, by show i < 256; omega, by show (layL g).length < 65536; omega, fun z hz => lay_byt g z (List.mem_of_mem_drop (List.mem_of_mem_take hz)), by show ((layL g).drop (i * 488) |>.take 488).length ≤ 488; rw [List.length_take]; omega⟩
    have hLm : ∀ x ∈ appL (if l.grown then 1 else 2) (tailS l.tail (l.free.take (piecesN (layL g).length))) l.next (layL g) (l.free.take (piecesN (layL g).length)), ∃ j, j < piecesN (layL g).length ∧ x = (((l.free.take (piecesN (layL g).length)).map Sl.block).getD j 0, appPc (if l.grown then 1 else 2) (tailS l.tail (l.free.take (piecesN (layL g).length))) l.next (layL g) j) := fun x hx => by
      unfold appL at hx
      obtain ⟨j, hj, e⟩ := List.mem_map.1 hx
      have hj := List.mem_range.1 hj
      refine ⟨j, by rw [List.length_take] at hj; omega, ?_⟩
      rw [← e]
      simp only [List.getD_eq_getElem?_getD, List.getElem?_map, List.getElem?_eq_getElem hj, Option.map_some, Option.getD_some]
    have hL : ∀ x ∈ appL (if l.grown then 1 else 2) (tailS l.tail (l.free.take (piecesN (layL g).length))) l.next (layL g) (l.free.take (piecesN (layL g).length)), x.1 < N ∧ PcOk x.2 := fun x hx => by
      obtain ⟨j, hj, rfl⟩ := hLm x hx
      refine ⟨?_, hpk j hj⟩
      have hm : ((l.free.take (piecesN (layL g).length)).map Sl.block).getD j 0 ∈ (l.free.take (piecesN (layL g).length)).map Sl.block := getD_mem (by rw [List.length_map, List.length_take]; omega)
      obtain ⟨y, hy, e⟩ := List.mem_map.1 hm
      show ((l.free.take (piecesN (layL g).length)).map Sl.block).getD j 0 < N
      rw [← e]
      exact (hb.free y (List.mem_of_mem_take hy)).1
    have hnoError := wrS_on _ h1.on h5.good hL
    have hruns := fun tm t1 t2 hgd => run_append h1.run g l3 hfl tm t1 t2 hpk hgd
    obtain ⟨PL, hPL⟩ : ∃ PL, appL (if l.grown then 1 else 2) (tailS l.tail (l.free.take (piecesN (layL g).length))) l.next (layL g) (l.free.take (piecesN (layL g).length)) = PL := ⟨_, rfl⟩
    rw [hPL] at hdone hnoError
    simp only [hPL] at hruns hLm
    rcases hnoError with ⟨a1, a2, a3, a4, a5⟩ | ⟨a1, a2, a3, a4, a5, a6, a7, a8⟩
    · rcases hdone with ⟨d1, _⟩ | ⟨d1, rfl, tm, d2, d3, ⟨tv', fv', m1, m2, m3⟩, m4, m5⟩
      · exact absurd a1 d1
      · obtain ⟨t1, t2⟩ := LogIn.turn h4 h1.lq h1.lp h6 h7 h8 h1.xs m1 m4 m2 m3 m5
        have hrr := (hruns tm d2 d3 (by rw [← a5]; exact good_calm a3)).2
        rw [← a5] at hrr
        refine ⟨t2, .inr ⟨hroom, .inl ⟨rfl, _, _, T, K, _, G, _, ⟨t1, h1.lq, h1.lp, Nat.le_trans h1.sz t2.size, fun k hk => Nat.lt_of_lt_of_le (h1.xs k hk) t2.size, a2, hrr, fun _ => hrr.li.grown1 rfl, h1.n4, h1.n1⟩, by rw [a4, h2], rfl, ?_, ?_⟩⟩⟩
        · rw [List.length_append, List.length_append]; simp
        · rw [rcs_app]; rfl
    · rcases hdone with ⟨d1, rfl, ⟨tv', fv', m1, m2, m3⟩, m4, m5⟩ | ⟨d1, _⟩
      · obtain ⟨t1, t2⟩ := LogIn.turn h4 h1.lq h1.lp h6 h7 h8 h1.xs m1 m4 m2 m3 m5
        obtain ⟨x1, x2, x3⟩ := li_append h1.run.li h1.run.ni h1.run.ov g l3 hfl ⟨l.next, (l.free.take (piecesN (layL g).length)).map Sl.block, none, 0⟩ rfl rfl
        have hpca := pc_app l g
        have hrb : (appR l g).blocks = (l.free.take (piecesN (layL g).length)).map Sl.block := rfl
        have hcw := wrS_calm PL h1.on.calm (by rw [← hPL]; exact hL) (by rw [← hPL, appL_fst, ← hrb]; exact (x1.ok _ (List.mem_append_right _ (by simp))).nodup)
        have hgd : Good (wrS f PL (calmS s)).2 := by
          rcases wrS_on (s := calmS s) PL ⟨h1.on.on, h1.on.f0, h1.on.fn⟩ (good_calm h5.good) (by rw [← hPL]; exact hL) with ⟨_, _, q, _⟩ | ⟨_, q, _⟩
          · exact q
          · cases q
        have hrun' := (hruns ⟨l.next, (l.free.take (piecesN (layL g).length)).map Sl.block, none, 0⟩ rfl rfl hgd).2
        have hbd' := run_bd hrun'
        have hcase : ∀ i : Nat, i < N → unE (seen (wrS f PL s).2 (f + i)) = 0 ∧ (viewP (wrS f PL s).2 f i = safeV s f i ∨ viewP (wrS f PL s).2 f i = viewP s f i ∨ ∃ j, j < (appR l g).blocks.length ∧ (appR l g).blocks.getD j 0 = i ∧ viewP (wrS f PL s).2 f i = (appR l g).pc j) := fun i hi => by
          have hsn : seen (wrS f PL s).2 (f + i) = (wrS f PL s).2.safe (f + i) := by unfold seen; rw [a7]; rfl
          unfold viewP
          rw [hsn]
          rcases a8 (f + i) with q | ⟨c, q1, q2⟩ | ⟨x, hx, q1, q2⟩
          · rw [q]
            exact ⟨h1.run.unS i hi, .inl rfl⟩
          · have hse : seen s (f + i) = c := by unfold seen; rw [q1]; rfl
            rw [q2]
            refine ⟨?_, .inr (.inl ?_)⟩
            · have := h1.run.un i hi
              have h9 : seen (calmS s) (f + i) = c := hse
              rw [h9] at this
              exact this
            · rw [hse]
          · obtain ⟨j, hj, rfl⟩ := hLm x hx
            rw [q2]
            refine ⟨(enc_view (hpk j hj)).1, .inr (.inr ⟨j, by rw [hrb, List.length_map, List.length_take]; omega, ?_, ?_⟩)⟩
            · rw [hrb]; simp only at q1; omega
            · rw [(enc_view (hpk j hj)).2]; exact hpca j
        have hshow : Shows N (safeV s f) (viewP (wrS f PL s).2 f) (New ++ [appR l g]) := fun i hi => by
          rcases (hcase i hi).2 with q | q | ⟨j, hj, q1, q2⟩
          · exact .inl q
          · rw [q]
            rcases h1.run.now.shows i hi with e | ⟨n, hn, j, hj, e1, e2⟩
            · exact .inl e
            · exact .inr ⟨n, List.mem_append_left _ hn, j, hj, e1, e2⟩
          · exact .inr ⟨appR l g, List.mem_append_right _ (by simp), j, hj, q1, q2⟩
        obtain ⟨U, G', k, b6, b7, b8⟩ := run_left (s := s) (s' := (wrS f PL s).2) h1.run.si x1 x3 ⟨hbd'.ce, hbd'.t, hbd'.tail, hbd'.fins, hbd'.ats, hbd'.tails, hbd'.free, hbd'.used, hbd'.len, hbd'.each⟩ h1.on.f0 h1.on.fn a3 a4 (fun i hi => (hcase i hi).1) hshow
        obtain ⟨nx', hl⟩ := left_v (S := []) h4 h1.lp h6 h7 h1.sz h1.xs (fun k hk => h8 k (List.mem_append_left _ hk)) t2.size m4 a5 a6 a7 b6 h1.n4 h1.n1
        rw [rcs_take, rcs_app] at hl
        rw [li_from x3, rcs_app] at hl
        refine ⟨t2, .inr ⟨hroom, .inr ⟨by rw [← h2]; exact a2, by rw [a1], k, nx', ?_, ?_, ?_⟩⟩⟩
        · rw [List.length_append, List.length_append] at b7; simp at b7; omega
        · rw [List.length_append] at b8; simp at b8; rw [rcs_len]; omega
        · have e1 : rcs [appR l g] = [⟨l.next, g⟩] := rfl
          rw [e1, fromR_app] at hl
          exact hl
      · rw [a1] at d1; cases d1
  · refine (app_full h4 (by omega) (by omega) heach hr l1 (fun x hx => by have := l3 x hx; omega) hlong (by omega) (by omega)).mono ?_
    rintro e w' ⟨rfl, hbel⟩
    exact ⟨KeepX.of_below hbel, .inl ⟨hroom, rfl, s, l, T, K, New, G, D, h1.below hbel X (fun k hk => ⟨.inl hk, Nat.lt_of_lt_of_le (h1.xs k hk) hbel.size⟩), h2, rfl, rfl, rfl⟩⟩

set_option maxHeartbeats 1000000 in
theorem make_nil (w : World) (f c : Int) : Calls Tryz.prog 11 #[.pointer none, .int .i64 f, .int .i64 c] w fun e w' => e = .returned (.tuple #[.pointer none, .int .i64 1]) ∧ Below w.heap.size w w' := by
  have cr := ringOn_nil w f c
  unfold ring0 at cr
  go_enter Tryz.func11, Tryz.ntmps11
  go_wp2_with fail
  refine cr.mono ?_
  rintro e1 w1 ⟨rfl, hb1⟩
  clear cr
  go_wp2
  go_ret2
  exact ⟨rfl, hb1.alloc hb1.size _⟩

/-- What Make tells where a log may be. -/
def MakeOut (w : World) (p bs bp : Nat) (s : St) (f : Int) (N : Nat) (e : Ending) (w' : World) : Prop :=
  DiskAt w' p bs bp (makeOut f N s).2 ∧ Sole [p, bs, bp] w w' ∧
    if (makeOut f N s).1 = 0 then ∃ q tv fv, e = .returned (.tuple #[.pointer (some ⟨q, 0, none⟩), .int .i64 0]) ∧ w.heap.size ≤ q ∧ LoAt w.heap.size w' q p f N tv fv ⟨[], zeroSl N, 0, 0, false⟩
    else e = .returned (.tuple #[.pointer none, .int .i64 (makeOut f N s).1])

theorem zeroSl_succ (i : Nat) : (zeroSl (i + 1)).flatMap slC = (zeroSl i).flatMap slC ++ slC ⟨i, 0⟩ := by
  unfold zeroSl
  rw [List.range_succ, List.map_append, List.flatMap_append]
  simp

set_option maxHeartbeats 3000000 in
theorem make_ok {w : World} {p bs bp : Nat} {s : St} (h : DiskAt w p bs bp s) (f : Int) (N : Nat) (hf0 : 0 ≤ f) (hN4 : 4 ≤ N) (hfn : f + N ≤ s.blocks) (ho : s.off = false) :
    Calls Tryz.prog 11 #[ptr p, .int .i64 f, .int .i64 N] w fun e w' => MakeOut w p bs bp s f N e w' := by
  have hb1 := h.good.b1
  have hE : ringE s f N = 0 := by unfold ringE; rw [if_neg (by omega), ho]; rfl
  have cr := ringOn_any h f N (by omega) (by omega) (by omega) (by omega)
  rw [hE, if_pos rfl] at cr
  obtain ⟨iS, hiS, hz0, hz1, hz2⟩ := info_parts Tryz.infoSl
  have hlt := h.lt
  have HD : Hid (DiskAt w p bs bp s) := h
  unfold ringV at cr
  unfold ptr at *
  clear h hE
  go_enter Tryz.func11, Tryz.ntmps11
  go_wp2_with fail
  refine cr.mono ?_
  rintro e1 w1 ⟨rfl, hbw1⟩
  clear cr
  have hs1 := hbw1.size
  obtain ⟨w2, hw2⟩ : ∃ w2, w1.alloc (.cells #[.pointer (some ⟨p, 0, none⟩), .int .i64 f, .int .i64 N] 71) = w2 := ⟨_, rfl⟩
  have hB2 : Below w1.heap.size w1 w2 := by rw [← hw2]; exact (Below.refl _ w1).alloc (Nat.le_refl _) _
  have hg2 : w2.heap[w1.heap.size]? = some (.cells #[.pointer (some ⟨p, 0, none⟩), .int .i64 f, .int .i64 N] 71 (0, 0)) := by rw [← hw2]; exact heap_alloc_new w1 _
  have hlt2 : w1.heap.size < w2.heap.size := (Array.getElem?_eq_some_iff.1 hg2).1
  have r0 : w2.cell? ⟨w1.heap.size, 0, none⟩ = some (.pointer (some ⟨p, 0, none⟩)) := by rw [cell_of_row _ _ 0 _ _ (0, 0) hg2]; rfl
  have r1 : w2.cell? ⟨w1.heap.size, 1, none⟩ = some (.int .i64 f) := by rw [cell_of_row _ _ 1 _ _ (0, 0) hg2]; rfl
  have r2 : w2.cell? ⟨w1.heap.size, 2, none⟩ = some (.int .i64 N) := by rw [cell_of_row _ _ 2 _ _ (0, 0) hg2]; rfl
  obtain ⟨w3, hw3⟩ : ∃ w3, w2.alloc (.cells #[.pointer (some ⟨p, 0, none⟩), .int .i64 f, .int .i64 N, .slice none 0 0, .slice none 0 0, .int .u64 0, .int .u64 0, .bool false] 77) = w3 := ⟨_, rfl⟩
  have hB3 : Below w2.heap.size w2 w3 := by rw [← hw3]; exact (Below.refl _ w2).alloc (Nat.le_refl _) _
  have HG3 : Hid (w3.heap[w2.heap.size]? = some (.cells #[.pointer (some ⟨p, 0, none⟩), .int .i64 f, .int .i64 N, .slice none 0 0, .slice none 0 0, .int .u64 0, .int .u64 0, .bool false] 77 (0, 0))) := by rw [← hw3]; exact heap_alloc_new w2 _
  have hlt3 : w2.heap.size < w3.heap.size := (Array.getElem?_eq_some_iff.1 HG3.out).1
  have HB3 : Hid (w3.heap[w1.heap.size]? = some (.cells #[.pointer (some ⟨p, 0, none⟩), .int .i64 f, .int .i64 N] 71 (0, 0))) := (hB3.block _ hlt2).trans hg2
  have hb13 : Below w.heap.size w w3 := thenB hbw1 (thenB hB2 hB3)
  clear hg2
  go_wp2
  clear r0 r1 r2
  go_loopw [11, 12, 28] (fun _ _ t wr => ∃ (i : Nat) (s' : St) (aF : Option Addr) (cF : Nat), i ≤ N ∧ t = .int .i64 i ∧ Hid (DiskAt wr p bs bp s') ∧ s'.blocks = s.blocks ∧ Hid (makeN f N s 0 = makeN f (N - i) s' i) ∧
      Hid (wr.heap[w2.heap.size]? = some (.cells #[.pointer (some ⟨p, 0, none⟩), .int .i64 f, .int .i64 N, .slice none 0 0, .slice aF i cF, .int .u64 0, .int .u64 0, .bool false] 77 (0, 0))) ∧ Hid (wr.heap[w1.heap.size]? = some (.cells #[.pointer (some ⟨p, 0, none⟩), .int .i64 f, .int .i64 N] 71 (0, 0))) ∧
      Hid (wr.ownsRow (w2.heap.size + 1) 84 2 (.slice aF i cF) i ((zeroSl i).flatMap slC)) ∧ Sole [p, bs, bp] w wr ∧ w2.heap.size < wr.heap.size) (fun _ _ t _ => N - (RowKit.intOf t).toNat)
  case atStart => exact ⟨0, s, none, 0, Nat.zero_le _, rfl, HD.out.below hb13, rfl, rfl, HG3, HB3, World.ownsRow_nil _ _ _ _, Sole.of_below hb13 _, hlt3⟩
  case round =>
    obtain ⟨i, s', aF, cF, hi, rfl, HDr, hbl, HM, HG, HB, HO, hSr, hsr⟩ := hrel
    by_cases hil : i < N
    · have hiI : (i : Int) < N := by omega
      have r0 : wr.cell? ⟨w1.heap.size, 0, none⟩ = some (.pointer (some ⟨p, 0, none⟩)) := by rw [cell_of_row _ _ 0 _ _ (0, 0) HB.out]; rfl
      have r1 : wr.cell? ⟨w1.heap.size, 1, none⟩ = some (.int .i64 f) := by rw [cell_of_row _ _ 1 _ _ (0, 0) HB.out]; rfl
      have r2 : wr.cell? ⟨w1.heap.size, 2, none⟩ = some (.int .i64 N) := by rw [cell_of_row _ _ 2 _ _ (0, 0) HB.out]; rfl
      have cw := rwrite_any HDr.out f N i (by omega) (by omega) (zeroP 0) (zeroP_ok (by omega)) (.slice none 0 0) (Rd.nil _)
      have HS : Hid (makeN f (N - i) s' i = if (writeOut s' (f + i) (encP (zeroP 0))).1 = 0 then makeN f (N - (i + 1)) (writeOut s' (f + i) (encP (zeroP 0))).2 (i + 1) else writeOut s' (f + i) (encP (zeroP 0))) := by
        unfold Hid
        rw [show N - i = (N - (i + 1)) + 1 from by omega]
        rfl
      have hob : (writeOut s' (f + i) (encP (zeroP 0))).2.blocks = s'.blocks := writeOut_blocks _ _ _
      have HWo : Hid (writeOut s' (f + (i : Int)) (encP (zeroP 0)) = writeOut s' (f + i) (encP (zeroP 0))) := rfl
      generalize hO : writeOut s' (f + (i : Int)) (encP (zeroP 0)) = O at *
      obtain ⟨Oe, Os⟩ := O
      unfold ringV pcV zeroP ptr at cw
      dsimp only at cw HS hob
      have hsz0 : (((0 : Nat) : Int)) = 0 := rfl
      rw [hsz0] at cw
      clear hO HWo
      go_wp2_with fail
      refine cw.mono ?_
      rintro e2 X1 ⟨rfl, hd1, hS1⟩
      clear cw r0 r1 r2
      have HD1 : Hid (DiskAt X1 p bs bp Os) := hd1
      have hsX := hS1.size
      by_cases h0 : Oe = 0
      · subst h0
        rw [if_pos rfl] at HS
        have hG1 := (hS1.block w2.heap.size hsr (by simp; omega)).trans HG.out
        have hB1 := (hS1.block w1.heap.size (by omega) (by simp; omega)).trans HB.out
        have hO1 := own_keep HO.out hS1.size (fun q hq hl => hS1.block q hl (by have := (World.ownsRow.lt HO.out q hq).1; simp; omega))
        have c4 : X1.cell? ⟨w2.heap.size, 4, none⟩ = some (.slice aF i cF) := by rw [cell_of_row _ _ 4 _ _ (0, 0) hG1]; rfl
        obtain ⟨X2, hX2⟩ : ∃ X2, X1.alloc (.cells #[.int .i64 (i : Int), .int .u64 0] 84) = X2 := ⟨_, rfl⟩
        have hBX2 : Below X1.heap.size X1 X2 := by rw [← hX2]; exact (Below.refl _ X1).alloc (Nat.le_refl _) _
        have hgX2 : X2.heap[X1.heap.size]? = some (.cells #[.int .i64 (i : Int), .int .u64 0] 84 (0, 0)) := by rw [← hX2]; exact heap_alloc_new X1 _
        have hO2 := own_keep hO1 hBX2.size (fun q _ hl => hBX2.block q hl)
        have hG2 := (hBX2.block w2.heap.size (by omega)).trans hG1
        have hsX2 := hBX2.size
        have hne : ∀ q, (Value.slice aF i cF).ownBlock = some q → w2.heap.size + 1 ≤ q := fun q hq => (World.ownsRow.lt hO2 q hq).1
        have HN : ∀ X3, X2.grownBy X3 (Value.slice aF i cF).ownBlock → X3.heap[w2.heap.size]? = some (.cells (#[.pointer (some ⟨p, 0, none⟩), .int .i64 f, .int .i64 N, .slice none 0 0, .slice aF i cF, .int .u64 0, .int .u64 0, .bool false] : Array Value) 77 (0, 0)) := fun X3 hg => (hg.block w2.heap.size (by omega) (fun e => by have := hne _ e.symm; omega)).trans hG2
        go_wp2_with (at_builtin; refine wpList_append_own_at X2 rfl _ _ 75 rfl (w2.heap.size + 1) 84 iS _ 2 16 Tryz.underlying75 hiS hz0 hz1 hz2 rfl (by decide) _ i ((zeroSl i).flatMap slC) rfl hO2 ⟨X1.heap.size, 0, none⟩ 1 1 (slC ⟨i, 0⟩) rfl rfl (rowAdd hgX2) (by simp [slC, Value.oneCell']) (by unfold maxLen; omega) (by omega) (by omega) ?_; intro v3 X3 hown3 hg3 _ hat3; obtain ⟨a3, c3, rfl⟩ := own_shape hown3; have hG3 := HN X3 hg3; have c43 : X3.cell? ⟨w2.heap.size, 4, none⟩ = some (.slice aF i cF) := by { rw [cell_of_row _ _ 4 _ _ (0, 0) hG3]; rfl }; have f43 := frozen_of_row X3 w2.heap.size 4 _ _ hG3)
        have hs3 := hg3.size
        have hG4 := heap_setCell_same X3 w2.heap.size 4 _ _ (.slice a3 (i + 1) c3) hG3
        simp only [List.setIfInBounds_toArray, List.set_cons_zero, List.set_cons_succ] at hG4
        have hS23 : Sole (Value.slice aF i cF).ownBlock.toList X2 X3 := ⟨hg3.os, hg3.tape, hg3.output, hg3.size, fun j hj hn => hg3.block j hj (fun e => hn (by rw [Option.mem_toList]; exact e.symm))⟩
        have hS3 : Sole [p, bs, bp] w X3 := ((hSr.trans hS1).trans (Sole.of_below hBX2 _)).after hS23 (fun k hk => .inr (by rw [Option.mem_toList] at hk; have := hne k hk; omega))
        obtain ⟨X4, hX4⟩ : ∃ X4, X3.setCell ⟨w2.heap.size, 4, none⟩ (.slice a3 (i + 1) c3) = X4 := ⟨_, rfl⟩
        have hS34 : Sole [w2.heap.size] X3 X4 := by rw [← hX4]; exact Sole.setCell _ _ (by simp)
        have hs4 : X4.heap.size = X3.heap.size := by rw [← hX4]; simp [World.setCell]
        rw [hX4] at hG4
        have HG4 : Hid _ := hG4
        have HB4 : Hid (X4.heap[w1.heap.size]? = some (.cells #[.pointer (some ⟨p, 0, none⟩), .int .i64 f, .int .i64 N] 71 (0, 0))) :=
          (hS34.block w1.heap.size (by omega) (by simp; omega)).trans ((hg3.block w1.heap.size (by omega) (fun e => by have := hne _ e.symm; omega)).trans ((hBX2.block w1.heap.size (by omega)).trans hB1))
        have HO4 : Hid (X4.ownsRow (w2.heap.size + 1) 84 2 (.slice a3 (i + 1) c3) (i + 1) ((zeroSl (i + 1)).flatMap slC)) := by
          unfold Hid
          rw [zeroSl_succ]
          exact own_keep hown3 hS34.size (fun q hq hl => hS34.block q hl (by have := (World.ownsRow.lt hown3 q hq).1; simp; omega))
        have hS4 : Sole [p, bs, bp] w X4 := hS3.after hS34 (fun k hk => .inr (by simp only [List.mem_singleton] at hk; omega))
        have HD4 : Hid (DiskAt X4 p bs bp Os) := by
          have h2 := HD1.out.below hBX2
          have h3 := h2.other hS23 (by rw [Option.mem_toList]; intro e; have := hne _ e; omega) (by rw [Option.mem_toList]; intro e; have := hne _ e; omega) (by rw [Option.mem_toList]; intro e; have := hne _ e; omega)
          exact h3.other hS34 (by simp; omega) (by simp; omega) (by simp; omega)
        have HM4 : Hid (makeN f N s 0 = makeN f (N - (i + 1)) Os (i + 1)) := by unfold Hid; rw [HM.out, HS.out]
        have hob' : Os.blocks = s.blocks := hob.trans hbl
        have hs5 : w2.heap.size < X4.heap.size := by omega
        clear hG1 hG2 hG3 hG4 hown3 hg3 hat3 hO1 hO2 hgX2 HN c4 c43 f43
        go_wp2
        go_roundw
        case rel => rw [hX4]; exact ⟨i + 1, Os, a3, c3, by omega, by go_num, HD4, hob', HM4, HG4, HB4, HO4, hS4, hs5⟩
        case measure => simp [RowKit.intOf]; omega
      · rw [if_neg h0] at HS
        have h0' : (Oe != 0) = true := by simpa using h0
        have HMo : Hid (makeOut f N s = (Oe, Os)) := by
          unfold Hid makeOut
          rw [HM.out, HS.out, if_neg h0]
        go_wp2
        go_ret2
        unfold MakeOut
        rw [HMo.out]
        refine ⟨HD1.out, hSr.trans hS1, ?_⟩
        rw [if_neg h0]
        rfl
    · obtain rfl : i = N := by omega
      have HM0 : Hid (makeN f i s 0 = (0, s')) := by unfold Hid; rw [HM.out, Nat.sub_self]; rfl
      have cb := disk_Barrier HDr.out
      have HMo : Hid (makeOut f i s = barOut s') := by unfold Hid makeOut; rw [HM0.out, if_pos rfl]
      generalize hO : barOut s' = O at *
      obtain ⟨Oe, Os⟩ := O
      dsimp only at cb
      unfold ptr at cb
      have HGr := HG.out
      clear hO
      go_wp2_with fail
      refine cb.mono ?_
      rintro e2 X1 ⟨rfl, hd1, hS1⟩
      clear cb
      have hsX := hS1.size
      by_cases h0 : Oe = 0
      · subst h0
        have hL : LoAt w.heap.size X1 w2.heap.size p f i (.slice none 0 0) (.slice aF i cF) ⟨[], zeroSl i, 0, 0, false⟩ := by
          refine ⟨(hS1.block w2.heap.size hsr (by simp; omega)).trans HGr, World.ownsRow_nil _ _ _ _, ?_, fun x hx => by cases hx⟩
          have hzl : (zeroSl i).length = i := by simp [zeroSl]
          show X1.ownsRow w.heap.size _ 2 (.slice aF i cF) (zeroSl i).length ((zeroSl i).flatMap slC)
          rw [hzl]
          exact own_mono (own_keep HO.out hS1.size (fun q hq hl => hS1.block q hl (by have := (World.ownsRow.lt HO.out q hq).1; simp; omega))) (by omega)
        go_wp2
        go_ret2
        unfold MakeOut
        rw [HMo.out]
        refine ⟨hd1, hSr.trans hS1, ?_⟩
        rw [if_pos rfl]
        exact ⟨w2.heap.size, _, _, rfl, by omega, hL⟩
      · have h0' : (Oe != 0) = true := by simpa using h0
        go_wp2
        go_ret2
        unfold MakeOut
        rw [HMo.out]
        refine ⟨hd1, hSr.trans hS1, ?_⟩
        rw [if_neg h0]
        rfl

theorem run_calmed {s : St} {f : Int} {N T : Nat} {K New G D : List Rr} {l : Lo} (h : Run s f N T K New G D l) : Run (calmS s) f N T K New G D l :=
  ⟨⟨h.calm.on, rfl, h.calm.f0, h.calm.fn⟩, good_calm h.good, h.un, h.unS, h.si, h.ni, h.ov, h.li, h.now⟩

/-- Make on a disk that is on and not armed. -/
theorem make_v {B : Nat} {X : List Nat} {w : World} {p bs bp : Nat} {s : St} (hd : DiskAt w p bs bp s) (hon : s.off = false) (hun : s.armed = false) (f : Int) (N : Nat) (hf0 : 0 ≤ f) (hN4 : 4 ≤ N) (hN1 : N ≤ 1000) (hfn : f + N ≤ s.blocks) (hp : B ≤ p) (h1 : B ≤ bs) (h2 : B ≤ bp) (hz : B ≤ w.heap.size) (hX : ∀ k ∈ X, k < w.heap.size ∧ k ∉ [p, bs, bp]) :
    Calls Tryz.prog 11 #[ptr p, .int .i64 f, .int .i64 N] w fun e w' => KeepX B X w w' ∧ ∃ q, e = .returned (.tuple #[ptrW q, .int .i64 0]) ∧ w.heap.size ≤ q ∧ LogV B X w' q p f N false 0 0 [] := by
  refine (make_ok hd f N hf0 hN4 hfn hon).mono ?_
  rintro e w' ⟨hd', hS, hm⟩
  have hc : Calm s f N := ⟨hon, hun, hf0, hfn⟩
  have hg1 : Good (makeN f N s 0).2 := by
    rw [make_wr]
    rcases wrS_on ((List.range' 0 N).map fun b => (b, zeroP 0)) ⟨hon, hf0, hfn⟩ hd.good (fun x hx => by
      obtain ⟨b, hb, rfl⟩ := List.mem_map.1 hx
      rw [List.mem_range'_1] at hb
      exact ⟨by omega, zeroP_ok (by decide)⟩) with ⟨_, _, q, _⟩ | ⟨_, q, _⟩
    · exact q
    · rw [hun] at q; cases q
  obtain ⟨r1, r2⟩ := run_make hc hg1 hd'.good false
  rw [if_pos r1] at hm
  obtain ⟨q, tv, fv, rfl, hq, hl⟩ := hm
  have hsz := hS.size
  have hlt := hd.lt
  refine ⟨KeepX.of_sole hS (fun k hk => ⟨?_, fun hx => (hX k hx).2 hk⟩), q, rfl, hq, _, _, 0, [], [], [], [], ⟨⟨bs, bp, tv, fv, hl.mono hz, hd', h1, h2, fun k hk hx => ?_⟩, by omega, hp, by omega, fun k hk => by have := (hX k hk).1; omega, ⟨r2.calm.on, hf0, r2.calm.fn⟩, run_calmed r2, fun h => absurd rfl h, hN4, hN1⟩, r2.calm.un, rfl, rfl, rfl⟩
  · simp only [List.mem_cons, List.mem_nil_iff, or_false] at hk
    rcases hk with rfl | rfl | rfl <;> assumption
  · obtain ⟨x1, x2⟩ := hX k hx
    rcases List.mem_append.1 hk with hk | hk
    · exact x2 hk
    · rcases List.mem_cons.1 hk with rfl | hk
      · omega
      · rcases List.mem_append.1 hk with hk | hk
        · rw [Option.mem_toList] at hk; have := (World.ownsRow.lt hl.there k hk).1; omega
        · rw [Option.mem_toList] at hk; have := (World.ownsRow.lt hl.free k hk).1; omega

theorem GApart.drop {K : List Wm} (h : GApart K) {i : Nat} : GApart (K.drop i) := List.Pairwise.sublist (List.drop_sublist i K) h

/-- The records that an Open gives back. -/
def RecsV (base : Nat) (w : World) (rv : Value) (rs : List Rc) : Prop :=
  ∃ Kd : List Wm, Kd.map (fun x => (⟨x.at_, x.group⟩ : Rc)) = rs ∧ w.ownsRow base 64 2 rv Kd.length (Kd.flatMap rcC) ∧ (∀ x ∈ Kd, WmAt base w x) ∧ GApart Kd

theorem open_core {w : World} {p bs bp : Nat} {s : St} (hd : DiskAt w p bs bp s) {f : Int} {N M U fr : Nat} {G D : List Rr} (h : Left s f N M U G D fr) (hon : s.off = false) (hN4 : 4 ≤ N) (hM : M ≤ 4611686018427387904) :
    Calls Tryz.prog 12 #[ptr p, .int .i64 f, .int .i64 N, .int .u64 fr] w fun e w' => Sole [p, bs, bp] w w' ∧
      ((∃ q tv fv rv s' l', e = .returned (.tuple #[ptrW q, rv, .int .i64 0]) ∧ w.heap.size ≤ q ∧ LoAt w.heap.size w' q p f N tv fv l' ∧ DiskAt w' p bs bp s' ∧ OnD s' f N ∧ s'.armed = s.armed ∧ (∀ i, s'.pend i = none) ∧ Left s' f N M U G D fr ∧ Run (calmS s') f N U (G ++ D) [] G D l' ∧ l'.next = max fr (chainE U (G ++ D)) ∧ RecsV w.heap.size w' rv (rcs D)) ∨
       (s.armed = true ∧ e = .returned (.tuple #[.pointer none, .slice none 0 0, .int .i64 20]) ∧ ∃ s', DiskAt w' p bs bp s' ∧ s'.off = true ∧ s'.armed = false ∧ (∀ i, s'.pend i = none) ∧ ((∀ i, s.pend i = none) → Left s' f N M U G D fr))) := by
  have hfrm := h.frm
  refine (open_ok hd f N fr hN4 ⟨h.f0, h.fn, hon, h.un⟩ (fun i hi => ⟨fun hk => by have := (h.bd i hi).1 hk; omega, by have := (h.bd i hi).2; omega⟩) (by omega)).mono ?_
  rintro e w' ⟨L, Kw, hp, hs, hk, hd', hS, hm⟩
  obtain ⟨k1, k2, k3, k4, k5⟩ := left_open h hon (by omega) hM hp hs hk
  rw [k3] at hd' hm k4
  refine ⟨hS, ?_⟩
  rcases k5 with ⟨o1, o2, o3, o4, o5, o6⟩ | ⟨o1, o2, o3, o4, o5, o6⟩
  · rw [if_pos o1] at hm
    obtain ⟨q, tv, fv, rv, rfl, hq, hl, hr, hw, hg⟩ := hm
    rw [k4] at hl
    refine .inl ⟨q, tv, fv, rv, _, _, rfl, hq, hl, hd', o2, o3, o4, o5, o6, rfl, Kw.drop (firstK fr Kw), ?_, hr, fun x hx => hw x (List.mem_of_mem_drop hx), hg.drop⟩
    have e1 := congrArg (List.drop G.length) k1
    rw [← List.map_drop, ← List.map_drop, List.drop_left] at e1
    have e2 := congrArg (List.map (fun x : Wh => (⟨x.at_, x.group⟩ : Rc))) e1
    rw [List.map_map, List.map_map] at e2
    rw [k2]
    exact e2
  · rw [if_neg (by rw [o1]; decide)] at hm
    exact .inr ⟨o2, by rw [hm, o1], _, hd', o3, o4, o5, o6⟩

/-- Open on what is left. -/
theorem open_left {B : Nat} {X : List Nat} {w : World} {p : Nat} {f : Int} {N : Nat} {arm : Bool} {M fr nx : Nat} {rs : List Rc} (h : LeftV B X w p f N false arm M fr nx rs) (hM : M ≤ 4611686018427387904) :
    Calls Tryz.prog 12 #[ptr p, .int .i64 f, .int .i64 N, .int .u64 fr] w fun e w' => KeepX B X w w' ∧
      ((∃ q rv, e = .returned (.tuple #[ptrW q, rv, .int .i64 0]) ∧ w.heap.size ≤ q ∧ LogV B X w' q p f N arm nx rs.length rs ∧ RecsV w.heap.size w' rv rs ∧ LeftV B X w' p f N false arm M fr nx rs) ∨
       (arm = true ∧ e = .returned (.tuple #[.pointer none, .slice none 0 0, .int .i64 20]) ∧ LeftV B X w' p f N true false M fr nx rs)) := by
  obtain ⟨bs, bp, s, U, G, D, hd, hp, h1, h2, hX, hz, hxs, hoff, harm, hpn, hl, hnx, hN4, hN1, rfl⟩ := h
  refine (open_core hd hl hoff hN4 hM).mono ?_
  rintro e w' ⟨hS, hc⟩
  have hsz := hS.size
  refine ⟨KeepX.of_sole hS (fun k hk => ⟨?_, hX k hk⟩), ?_⟩
  · simp only [List.mem_cons, List.mem_nil_iff, or_false] at hk
    rcases hk with rfl | rfl | rfl <;> assumption
  · rcases hc with ⟨q, tv, fv, rv, s', l', rfl, hq, hlo, hd', on', arm', pn', left', run', next', recs'⟩ | ⟨a1, rfl, s', hd', off', arm', pn', left'⟩
    · refine .inl ⟨q, rv, rfl, hq, ⟨s', l', U, G ++ D, [], G, D, ⟨⟨bs, bp, tv, fv, hlo.mono hz, hd', h1, h2, fun k hk hx => ?_⟩, by omega, hp, by omega, fun k hk => by have := hxs k hk; omega, on', run', fun hD => ?_, hN4, hN1⟩, by rw [arm', harm], by rw [next', hnx], by rw [rcs_len]; simp, rfl⟩, recs', ⟨bs, bp, s', U, G, D, hd', hp, h1, h2, hX, by omega, fun k hk => by have := hxs k hk; omega, on'.on, by rw [arm', harm], pn', left', hnx, hN4, hN1, rfl⟩⟩
      · have := hxs k hx
        rcases List.mem_append.1 hk with hk | hk
        · exact hX k hk hx
        · rcases List.mem_cons.1 hk with rfl | hk
          · omega
          · rcases List.mem_append.1 hk with hk | hk
            · rw [Option.mem_toList] at hk; have := (World.ownsRow.lt hlo.there k hk).1; omega
            · rw [Option.mem_toList] at hk; have := (World.ownsRow.lt hlo.free k hk).1; omega
      · rw [next', List.append_nil]
        rcases hl.begins with ⟨e, _⟩ | ⟨r, D', rfl, e⟩
        · exact absurd e hD
        · have hm : r ∈ G ++ r :: D' := List.mem_append_right _ List.mem_cons_self
          have h3 := (chainE_ge hl.fi.ok hl.fi.chain).2 r hm
          have h4 := (hl.fi.ok r hm).finlt
          rw [e]
          omega
    · exact .inr ⟨by rw [← harm]; exact a1, rfl, bs, bp, s', U, G, D, hd', hp, h1, h2, hX, by omega, fun k hk => by have := hxs k hk; omega, off', arm', pn', left' hpn, hnx, hN4, hN1, rfl⟩

/-- Open on a disk that is not armed, the log still there. -/
theorem open_v {B : Nat} {X : List Nat} {w : World} {q p : Nat} {f : Int} {N : Nat} {nx dn : Nat} {rs : List Rc} (h : LogV B X w q p f N false nx dn rs) (hnx : nx ≤ 4611686018427387904) :
    Calls Tryz.prog 12 #[ptr p, .int .i64 f, .int .i64 N, .int .u64 (fromR nx rs)] w fun e w' => KeepX B X w w' ∧
      (∃ tv fv l, LoAt B w' q p f N tv fv l ∧ l.next = nx) ∧ ∃ q rv, e = .returned (.tuple #[ptrW q, rv, .int .i64 0]) ∧ w.heap.size ≤ q ∧ LogV B X w' q p f N false nx rs.length rs ∧ RecsV w.heap.size w' rv rs := by
  obtain ⟨s, l, T, K, New, G, D, h1, h2, rfl, rfl, rfl⟩ := h
  obtain ⟨bs, bp, tv, fv, h4, h5, h6, h7, h8⟩ := h1.at_
  have hbd := run_bd h1.run
  obtain ⟨G', f1, f2, f3, f4⟩ := run_fi h1.run
  have hge := chainE_ge f1.ok f1.chain
  have hch := hbd.ce
  obtain ⟨e1, e2⟩ := li_first h1.run.li
  have hfr := li_from h1.run.li
  have hbeg : Begins (tailK (viewP (calmS s) f) N) G' D l.first := by
    cases hD : D with
    | nil =>
      refine .inl ⟨rfl, ?_⟩
      rw [e1 hD]
      rw [hD, List.append_nil] at f2
      omega
    | cons r D' => exact .inr ⟨r, D', rfl, e2 r D' hD⟩
  have hfm : l.first ≤ l.next := by
    cases hD : D with
    | nil => rw [e1 hD]; exact Nat.le_refl _
    | cons r D' =>
      rw [e2 r D' hD]
      have hr : r ∈ K ++ New := by rw [h1.run.li.all, hD]; exact List.mem_append_right _ List.mem_cons_self
      have := hbd.fins r hr
      have := hbd.ats r hr
      omega
  have hleft : Left s f N l.next (tailK (viewP (calmS s) f) N) G' D l.first := ⟨h5.good, h1.on.f0, h1.on.fn, h1.run.un, f1, hbeg, Nat.le_trans f3 hbd.tail, hfm, shows_bd h1.run.si h1.run.now.shows hbd.t (fun r hr => by
    have := hbd.fins r (List.mem_append_left _ hr)
    have := hbd.ats r (List.mem_append_left _ hr)
    omega) (fun n hn => ⟨by
    have := hbd.fins n (List.mem_append_right _ hn)
    have := hbd.ats n (List.mem_append_right _ hn)
    omega, hbd.tails n hn⟩)⟩
  have hmax : max l.first (chainE (tailK (viewP (calmS s) f) N) (G' ++ D)) = l.next := by
    rw [f2]
    cases hD : D with
    | nil => rw [e1 hD]; omega
    | cons r D' => rw [h1.hD (by rw [hD]; simp)]; have := h1.hD (by rw [hD]; simp); omega
  rw [← hfr]
  refine (open_core h5 hleft h1.on.on h1.n4 hnx).mono ?_
  rintro e w' ⟨hS, hc⟩
  have hsz := hS.size
  have hz := h1.sz
  refine ⟨KeepX.of_sole hS (fun k hk => ⟨LogIn.own h4 h1.lq h1.lp h6 h7 k (List.mem_append_left _ hk), h8 k (List.mem_append_left _ hk)⟩), ⟨tv, fv, l, h4.disk h5 hS, rfl⟩, ?_⟩
  rcases hc with ⟨q, tv, fv, rv, s', l', rfl, hq, hlo, hd', on', arm', pn', left', run', next', recs'⟩ | ⟨a1, _⟩
  · refine ⟨q, rv, rfl, hq, ⟨s', l', _, G' ++ D, [], G', D, ⟨⟨bs, bp, tv, fv, hlo.mono hz, hd', h6, h7, fun k hk hx => ?_⟩, by omega, h1.lp, by omega, fun k hk => by have := h1.xs k hk; omega, on', run', fun hD => ?_, h1.n4, h1.n1⟩, by rw [arm', h2], by rw [next', hmax], by rw [rcs_len]; simp, rfl⟩, recs'⟩
    · have := h1.xs k hx
      rcases List.mem_append.1 hk with hk | hk
      · exact h8 k (List.mem_append_left _ hk) hx
      · rcases List.mem_cons.1 hk with rfl | hk
        · omega
        · rcases List.mem_append.1 hk with hk | hk
          · rw [Option.mem_toList] at hk; have := (World.ownsRow.lt hlo.there k hk).1; omega
          · rw [Option.mem_toList] at hk; have := (World.ownsRow.lt hlo.free k hk).1; omega
    · rw [next', hmax, List.append_nil, f2]
      exact h1.hD hD
  · rw [h2] at a1; cases a1

theorem cut_nothing {s : St} (h : Good s) (i : Int) : (cutSt s ⟨#[]⟩).safe i = s.safe i := by
  have hs : ∀ k, surv ⟨#[]⟩ k = false := fun k => by unfold surv; rw [decide_eq_false (show ¬ k < (⟨#[]⟩ : ByteArray).size from Nat.not_lt_zero k)]; rfl
  have : ∀ ks k, (settleN (surv ⟨#[]⟩) s ks k).safe = s.safe := by
    intro ks k
    induction k with
    | zero => rfl
    | succ k ih => unfold settleN settleSt; rw [hs]; exact ih
  show (settleN (surv ⟨#[]⟩) s (keysOf s.pend) (keysOf s.pend).length).safe i = s.safe i
  rw [this]

/-- Cut while a log is there. -/
theorem cut_v {B : Nat} {X : List Nat} {w : World} {q p : Nat} {f : Int} {N : Nat} {arm : Bool} {nx dn : Nat} {rs : List Rc} (h : LogV B X w q p f N arm nx dn rs) (mask : ByteArray) (hmask : mask.size ≤ maxLen) :
    Calls Tryz.prog 10 #[ptr p, .string mask] w fun e w' => e = .returned (.tuple #[]) ∧ KeepX B X w w' ∧ ∃ k nx', dn ≤ k ∧ k ≤ rs.length ∧ LeftV B X w' p f N true false nx (fromR nx rs) nx' (rs.take k) := by
  obtain ⟨s, l, T, K, New, G, D, h1, h2, rfl, rfl, rfl⟩ := h
  obtain ⟨bs, bp, tv, fv, h4, h5, h6, h7, h8⟩ := h1.at_
  refine (disk_Cut_on h5 mask hmask h1.on.on).mono ?_
  rintro e w' ⟨rfl, hd, hS⟩
  obtain ⟨U, G', k, b6, b7, b8⟩ := run_cut_left h1.run hd.good (cut_blocks s mask) (cut_pend h5.good mask) (fun i => cut_safe h5.good mask i)
  obtain ⟨nx', hl⟩ := left_v (S := []) h4 h1.lp h6 h7 h1.sz h1.xs (fun k hk => h8 k (List.mem_append_left _ hk)) hS.size hd rfl rfl (cut_pend h5.good mask) b6 h1.n4 h1.n1
  rw [li_from h1.run.li, rcs_take] at hl
  exact ⟨rfl, KeepX.of_sole hS (fun k hk => ⟨LogIn.own h4 h1.lq h1.lp h6 h7 k (List.mem_append_left _ hk), h8 k (List.mem_append_left _ hk)⟩), k, nx', b7, by rw [rcs_len]; exact b8, hl⟩

/-- Cut so that nothing else survives. -/
theorem cut_none_v {B : Nat} {X : List Nat} {w : World} {q p : Nat} {f : Int} {N : Nat} {arm : Bool} {nx dn : Nat} {rs : List Rc} (h : LogV B X w q p f N arm nx dn rs) (hdn : 0 < dn) :
    Calls Tryz.prog 10 #[ptr p, .string ⟨#[]⟩] w fun e w' => e = .returned (.tuple #[]) ∧ KeepX B X w w' ∧ ∃ nx', LeftV B X w' p f N true false nx (fromR nx rs) nx' (rs.take dn) := by
  obtain ⟨s, l, T, K, New, G, D, h1, h2, rfl, rfl, rfl⟩ := h
  obtain ⟨bs, bp, tv, fv, h4, h5, h6, h7, h8⟩ := h1.at_
  refine (disk_Cut_on h5 ⟨#[]⟩ (by decide) h1.on.on).mono ?_
  rintro e w' ⟨rfl, hd, hS⟩
  have hbd := run_bd h1.run
  have hsn : ∀ i, seen (cutSt s ⟨#[]⟩) i = s.safe i := fun i => by unfold seen; rw [cut_pend h5.good, cut_nothing h5.good]; rfl
  have hv : viewP (cutSt s ⟨#[]⟩) f = safeV s f := by funext i; unfold viewP safeV; rw [hsn]
  obtain ⟨e1, e2⟩ := li_first h1.run.li
  have hK : K = G ++ D.take (D.length - New.length) := by
    have ha := h1.run.li.all
    have hl := congrArg List.length ha
    rw [List.length_append, List.length_append] at hl
    have := congrArg (List.take K.length) ha
    rw [List.take_left, List.take_append, List.take_of_length_le (by omega : G.length ≤ K.length)] at this
    rw [this]
    congr 2
    omega
  have hbeg : Begins T G (D.take (D.length - New.length)) l.first := by
    cases hD : D with
    | nil => rw [hD] at hdn; simp at hdn
    | cons r D' =>
      obtain ⟨j, hj⟩ : ∃ j, (r :: D').length - New.length = j + 1 := ⟨(r :: D').length - New.length - 1, by rw [hD] at hdn; omega⟩
      rw [hj, List.take_succ_cons]
      exact .inr ⟨r, _, rfl, e2 r D' hD⟩
  have hfm : l.first ≤ l.next := by
    cases hD : D with
    | nil => rw [e1 hD]; exact Nat.le_refl _
    | cons r D' =>
      rw [e2 r D' hD]
      have hr : r ∈ K ++ New := by rw [h1.run.li.all, hD]; exact List.mem_append_right _ List.mem_cons_self
      have := hbd.fins r hr
      have := hbd.ats r hr
      omega
  have hleft : Left (cutSt s ⟨#[]⟩) f N l.next T G (D.take (D.length - New.length)) l.first := ⟨hd.good, h1.on.f0, by rw [cut_blocks]; exact h1.on.fn, fun i hi => by rw [hsn]; exact h1.run.unS i hi, by rw [hv, ← hK]; exact si_fi h1.run.si, hbeg, hbd.t, hfm, by
    rw [hv]
    exact shows_bd (New := []) h1.run.si (fun i hi => .inl rfl) hbd.t (fun r hr => by
      have := hbd.fins r (List.mem_append_left _ hr)
      have := hbd.ats r (List.mem_append_left _ hr)
      omega) (fun n hn => by cases hn)⟩
  obtain ⟨nx', hl⟩ := left_v (S := []) h4 h1.lp h6 h7 h1.sz h1.xs (fun k hk => h8 k (List.mem_append_left _ hk)) hS.size hd rfl rfl (cut_pend h5.good _) hleft h1.n4 h1.n1
  rw [li_from h1.run.li, rcs_take] at hl
  exact ⟨rfl, KeepX.of_sole hS (fun k hk => ⟨LogIn.own h4 h1.lq h1.lp h6 h7 k (List.mem_append_left _ hk), h8 k (List.mem_append_left _ hk)⟩), nx', hl⟩

/-- The next number behind the last record. -/
theorem LeftV.last {B : Nat} {X : List Nat} {w : World} {p : Nat} {f : Int} {N : Nat} {off arm : Bool} {M fr nx : Nat} {rs : List Rc} {r : Rc} (h : LeftV B X w p f N off arm M fr nx (rs ++ [r])) : nx = r.num + piecesN (layL r.grp).length := by
  obtain ⟨bs, bp, s, U, G, D, hd, hp, h1, h2, hX, hz, hxs, hoff, harm, hpn, hl, hnx, hN4, hN1, hD⟩ := h
  obtain ⟨E, y, rfl⟩ : ∃ E y, D = E ++ [y] := by
    rcases List.eq_nil_or_concat D with e | ⟨E, y, e⟩
    · rw [e] at hD; simp [rcs] at hD
    · exact ⟨E, y, by rw [e]; simp⟩
  rw [rcs_app] at hD
  have hy := (List.append_inj' hD rfl).2
  have e : (⟨y.at_, y.group⟩ : Rc) = r := by simpa [rcs] using hy
  have hm : y ∈ G ++ (E ++ [y]) := by simp
  have hok := hl.fi.ok y hm
  have h3 : chainE U (G ++ (E ++ [y])) = y.fin := by rw [← List.append_assoc, chainE_app]; rfl
  have h4 : y.fin = r.num + piecesN (layL r.grp).length := by
    unfold Rr.fin
    rw [hok.len, ← e]
    rfl
  have hge := (chainE_ge hl.fi.ok hl.fi.chain).2 y hm
  have hfl := hok.finlt
  have hfr : fr ≤ y.at_ := by
    rcases hl.begins with ⟨e, _⟩ | ⟨z, D', e, e2⟩
    · simp at e
    · rw [e2]
      have hz2 : y ∈ z :: D' := by rw [← e]; simp
      rcases List.mem_cons.1 hz2 with e3 | hz2
      · rw [e3]; exact Nat.le_refl _
      · have hpr := chain_pair hl.fi.ok hl.fi.chain
        rw [e] at hpr
        have h5 := (List.pairwise_cons.1 (List.pairwise_append.1 hpr).2.1).1 y hz2
        have h6 := (hl.fi.ok z (by rw [e]; exact List.mem_append_right _ List.mem_cons_self)).finlt
        omega
  rw [← hnx, h3, ← h4]
  omega

/-- Power. -/
theorem power_v {B : Nat} {X : List Nat} {w : World} {p : Nat} {f : Int} {N : Nat} {off arm : Bool} {M fr nx : Nat} {rs : List Rc} (h : LeftV B X w p f N off arm M fr nx rs) :
    Calls Tryz.prog 25 #[ptr p] w fun e w' => e = .returned (.tuple #[]) ∧ KeepX B X w w' ∧ LeftV B X w' p f N false arm M fr nx rs := by
  obtain ⟨bs, bp, s, U, G, D, hd, hp, h1, h2, hX, hz, hxs, hoff, harm, hpn, hl, hnx, hN4, hN1, rfl⟩ := h
  refine (disk_Power hd).mono ?_
  rintro e w' ⟨rfl, hd', hS⟩
  have hsz := hS.size
  exact ⟨rfl, KeepX.of_sole hS (fun k hk => by simp only [List.mem_singleton] at hk; subst hk; exact ⟨hp, hX _ (by simp)⟩), bs, bp, _, U, G, D, hd', hp, h1, h2, hX, by omega, fun k hk => by have := hxs k hk; omega, rfl, harm, hpn, hl.same hd'.good rfl (fun i => rfl), hnx, hN4, hN1, rfl⟩

theorem flatR (K : List Wm) : ∀ (i j : Nat) (x : Wm) (v : Value), K[i]? = some x → (rcC x)[j]? = some v → (K.flatMap rcC)[i * 2 + j]? = some v := by
  induction K with
  | nil => intro i j x v h; simp at h
  | cons y K ih =>
    intro i j x v h hv
    have hj : j < 2 := (List.getElem?_eq_some_iff.1 hv).1
    rw [List.flatMap_cons]
    cases i with
    | zero =>
      simp only [List.getElem?_cons_zero, Option.some.injEq] at h
      subst h
      rw [Nat.zero_mul, Nat.zero_add, List.getElem?_append_left (by exact hj)]
      exact hv
    | succ i =>
      have e4 : (rcC y).length = 2 := rfl
      rw [List.getElem?_append_right (by omega), e4, show (i + 1) * 2 + j - 2 = i * 2 + j from by omega]
      exact ih i j x v (by simpa using h) hv
/-- What an Open gave back, as the law's 'known' wants it. -/
theorem recs_own {base : Nat} {w : World} {rv : Value} {rs : List Rc} (h : RecsV base w rv rs) : ∃ a cap S, rv = .slice a rs.length cap ∧ rs.length ≤ cap ∧ cap ≤ maxLen ∧ (0 < rs.length → ∃ b off gs, a = some ⟨b, off, none⟩ ∧ RecsOwn w b off gs rs S) ∧ ∀ k ∈ S, base ≤ k ∧ k < w.heap.size ∧ ∃ cur, w.heap[k]? = some (.cells cur 9 (0, 0)) := by
  obtain ⟨Kd, rfl, ho, hw, hg⟩ := h
  have hlen : (Kd.map (fun x => (⟨x.at_, x.group⟩ : Rc))).length = Kd.length := List.length_map _
  have hgo : ∀ x ∈ Kd, 0 < x.group.length → ∃ k, x.gv = .slice (some ⟨k, 0, none⟩) x.group.length x.gc ∧ x.gv.ownBlock = some k ∧ base ≤ k ∧ ∃ cur, w.heap[k]? = some (.cells cur 9 (0, 0)) := fun x hx hp => by
    obtain ⟨_, ⟨e, hn⟩ | ⟨g, c, cur, e, hb, hgc, _⟩⟩ := (hw x hx).g
    · omega
    · refine ⟨g, ?_, by rw [e]; rfl, hb, cur, hgc⟩
      have e' : Value.slice x.ga x.group.length x.gc = Value.slice (some ⟨g, 0, none⟩) x.group.length c := e
      simp only [Value.slice.injEq] at e'
      show Value.slice x.ga x.group.length x.gc = _
      rw [e'.1]
  obtain ⟨hx, ⟨e, hn⟩ | ⟨g, cap, cur, e, hb, hgc, h5, h6, h7, h8⟩⟩ := id ho
  · refine ⟨none, 0, [], by rw [hlen, hn]; exact e, by rw [hlen, hn]; exact Nat.le_refl _, Nat.zero_le _, fun hp => by rw [hlen, hn] at hp; omega, fun k hk => by cases hk⟩
  · refine ⟨some ⟨g, 0, none⟩, cap, Kd.flatMap (fun x => if 0 < x.group.length then x.gv.ownBlock.toList else []), by rw [hlen]; exact e, by rw [hlen]; exact h5, h6, fun _ => ⟨g, 0, fun i => ((Kd[i]?).bind fun x => x.gv.ownBlock).getD 0, rfl, ⟨(Array.getElem?_eq_some_iff.1 hgc).1, fun hm => ?_, fun i x hi => ?_, fun i x hi hp => ?_, fun i j x y hij hi hj hpi hpj he => ?_⟩⟩, fun k hk => ?_⟩
    · obtain ⟨x, hx, hk⟩ := List.mem_flatMap.1 hm
      split at hk
      · rename_i hp
        obtain ⟨k, _, e2, _, cur2, e3⟩ := hgo x hx hp
        rw [e2] at hk
        simp at hk
        rw [hk, e3] at hgc
        simp only [Option.some.injEq, Obj.cells.injEq] at hgc
        exact absurd hgc.2.1 (by decide)
      · cases hk
    · rw [List.getElem?_map, Option.map_eq_some_iff] at hi
      obtain ⟨y, hy, rfl⟩ := hi
      have hym := List.mem_of_getElem? hy
      have hcell : ∀ j u, (rcC y)[j]? = some u → w.cell? ⟨g, i * 2 + j, none⟩ = some u := fun j u hu => by
        have hf : (Kd.flatMap rcC)[i * 2 + j]? = some u := flatR Kd i j y u hy hu
        rw [← h8] at hf
        rw [cell_of_row _ _ _ _ _ (0, 0) hgc, ← Array.getElem?_toList]
        have hlt : i * 2 + j < Kd.length * 2 := by
          have := (List.getElem?_eq_some_iff.1 hf).1
          rw [List.length_take] at this
          omega
        rw [List.getElem?_take_of_lt hlt] at hf
        exact hf
      have c0 := hcell 0 _ rfl
      have c1 := hcell 1 _ rfl
      rw [Nat.add_zero] at c0
      have z1 : 0 + i * 2 = i * 2 := by omega
      rw [z1]
      refine ⟨c0, _, c1, ?_⟩
      have hr := (rdT_own (hw y hym).g).1
      refine hr.mono (fun k hk => ?_)
      unfold ownB at hk
      simp only [List.mem_singleton]
      rw [hy]
      show k = (y.gv.ownBlock).getD 0
      cases ho2 : y.gv.ownBlock with
      | none => rw [ho2] at hk; cases hk
      | some z => rw [ho2] at hk; simpa using hk
    · rw [List.getElem?_map, Option.map_eq_some_iff] at hi
      obtain ⟨y, hy, rfl⟩ := hi
      have hym := List.mem_of_getElem? hy
      obtain ⟨k, e1, e2, e3, e4⟩ := hgo y hym hp
      have hk : ((Kd[i]?).bind fun x => x.gv.ownBlock).getD 0 = k := by rw [hy]; show y.gv.ownBlock.getD 0 = k; rw [e2]; rfl
      show ((Kd[i]?).bind fun x => x.gv.ownBlock).getD 0 ∈ _ ∧ ∃ cur, w.heap[((Kd[i]?).bind fun x => x.gv.ownBlock).getD 0]? = _
      rw [hk]
      exact ⟨List.mem_flatMap.2 ⟨y, hym, by rw [if_pos hp, e2]; simp⟩, e4⟩
    · rw [List.getElem?_map, Option.map_eq_some_iff] at hi hj
      obtain ⟨y, hy, rfl⟩ := hi
      obtain ⟨z, hz, rfl⟩ := hj
      obtain ⟨k1, _, e2, _⟩ := hgo y (List.mem_of_getElem? hy) hpi
      obtain ⟨k2, _, f2, _⟩ := hgo z (List.mem_of_getElem? hz) hpj
      have he : ((Kd[i]?).bind fun x => x.gv.ownBlock).getD 0 = ((Kd[j]?).bind fun x => x.gv.ownBlock).getD 0 := he
      rw [hy, hz] at he
      have he : y.gv.ownBlock.getD 0 = z.gv.ownBlock.getD 0 := he
      rw [e2, f2] at he
      have he : k1 = k2 := he
      obtain ⟨i1, i2⟩ := List.getElem?_eq_some_iff.1 hy
      obtain ⟨j1, j2⟩ := List.getElem?_eq_some_iff.1 hz
      have hpw := List.pairwise_iff_getElem.1 hg
      rcases Nat.lt_or_gt_of_ne hij with hl | hl
      · have := hpw i j i1 j1 hl k1 (by rw [i2]; exact e2)
        rw [j2, f2, he] at this
        exact this rfl
      · have := hpw j i j1 i1 hl k2 (by rw [j2]; exact f2)
        rw [i2, e2, he] at this
        exact this rfl
    · obtain ⟨x, hx, hkk⟩ := List.mem_flatMap.1 hk
      split at hkk
      · rename_i hp
        obtain ⟨k2, _, e2, e3, cur2, e4⟩ := hgo x hx hp
        rw [e2] at hkk
        simp at hkk
        subst hkk
        exact ⟨e3, (Array.getElem?_eq_some_iff.1 e4).1, cur2, e4⟩
      · cases hkk

theorem pieces_of {g : List ByteArray} {n : Nat} (h : ∀ x ∈ g, x.size ≤ 255) (hn : lenG g = n) (h1 : n ≤ 400) : piecesN (layL g).length = 1 := by
  have := lay_lenG g h
  unfold piecesN
  split <;> omega

/-- A row of texts that was just made. -/
theorem rdT_row {W : World} {g : Nat} {cs : Array Value} {l : List ByteArray} (hg : W.heap[g]? = some (.cells cs 9 (0, 0))) (hc : cs.toList = strC l) (hl : l.length ≤ maxLen) : RdT [g] W (.slice (some ⟨g, 0, none⟩) l.length l.length) l := by
  refine ⟨some ⟨g, 0, none⟩, l.length, rfl, Nat.le_refl _, hl, (fun h => by cases h), fun _ => ⟨g, 0, rfl, (Array.getElem?_eq_some_iff.1 hg).1, by simp, fun i x hi => ?_⟩⟩
  rw [cell_of_row _ _ _ _ _ (0, 0) hg, ← Array.getElem?_toList, hc]
  unfold strC
  rw [Nat.zero_add, List.getElem?_map, hi]
  rfl
theorem rdT_nil (B : List Nat) (W : World) : RdT B W (.slice none 0 0) [] := ⟨none, 0, rfl, Nat.le_refl _, Nat.zero_le _, fun _ => rfl, fun h => by cases h⟩

theorem append_one {B : Nat} {X : List Nat} {w : World} {q p : Nat} {f : Int} {N : Nat} {nx dn : Nat} {rs : List Rc} (h : LogV B X w q p f N false nx dn rs) (hnx : nx ≤ 4611686018427380000) {Bt : List Nat} {v : Value} {g : List ByteArray} (hr : RdT Bt w v g) (hlong : longB g = false) (hroom : piecesN (layL g).length + usedR rs + 2 ≤ N) :
    Calls Tryz.prog 27 #[ptrW q, v] w fun e w' => e = .returned (.tuple #[.int .u64 nx, .int .i64 0]) ∧ KeepX B X w w' ∧ LogV B X w' q p f N false (nx + piecesN (layL g).length) dn (rs ++ [⟨nx, g⟩]) := by
  refine (append_v h hnx hr hlong).mono ?_
  rintro e w' ⟨hk, ⟨n, _⟩ | ⟨_, ⟨rfl, hl⟩ | ⟨a, _⟩⟩⟩
  · exact absurd hroom n
  · exact ⟨rfl, hk, hl⟩
  · cases a
theorem sync_one {B : Nat} {X : List Nat} {w : World} {q p : Nat} {f : Int} {N : Nat} {nx dn : Nat} {rs : List Rc} (h : LogV B X w q p f N false nx dn rs) : Calls Tryz.prog 14 #[ptrW q] w fun e w' => e = .returned (.int .i64 0) ∧ KeepX B X w w' ∧ LogV B X w' q p f N false nx rs.length rs := by
  refine (sync_v h).mono ?_
  rintro e w' ⟨hk, ⟨rfl, hl⟩ | ⟨a, _⟩⟩
  · exact ⟨rfl, hk, hl⟩
  · cases a

def gA : List ByteArray := [⟨#[97]⟩, ⟨#[98]⟩]
def gC : List ByteArray := [⟨#[99]⟩]
theorem pA : piecesN (layL gA).length = 1 := pieces_of (n := 6) (fun x hx => by simp [gA] at hx; rcases hx with rfl | rfl <;> decide) rfl (by decide)
theorem pC : piecesN (layL gC).length = 1 := pieces_of (n := 3) (fun x hx => by simp [gC] at hx; subst hx; decide) rfl (by decide)
theorem pN : piecesN (layL []).length = 1 := rfl

set_option maxRecDepth 100000 in
set_option maxHeartbeats 8000000 in
theorem live_any (w : World) : Calls Tryz.prog 8 #[] w fun e w' => e = .returned (.bool true) ∧ Below w.heap.size w w' := by
  have c1 := disk_New w 40 (by decide) (by decide)
  unfold ptr at c1
  go_enter Tryz.func8, Tryz.ntmps8
  go_wp2_with fail
  refine c1.mono ?_
  rintro f1 w1 ⟨rfl, d1, b1, s1⟩
  clear c1
  have c2 := make_v (B := w.heap.size) (X := []) d1 rfl rfl 4 30 (by decide) (by decide) (by decide) (by decide) (by omega) (by omega) (by omega) (by omega) (fun k hk => by cases hk)
  unfold ptr ptrW at c2
  go_wp2_with fail
  refine c2.mono ?_
  rintro f2 w2 ⟨k2, q, rfl, q2, l2⟩
  clear c2
  have K2 : Hid (Below w.heap.size w w2) := b1.trans (k2.below (by omega))
  have S1 := k2.size
  clear d1 b1 k2
  have B2 := (Below.refl _ w2).alloc (Nat.le_refl _) (.cells #[Value.string ⟨#[97]⟩, Value.string ⟨#[98]⟩] 9)
  have l2' := l2.below B2 [] (fun k hk => by cases hk)
  have c3 := append_one l2' (by decide) (rdT_row (l := gA) (heap_alloc_new w2 (.cells #[Value.string ⟨#[97]⟩, Value.string ⟨#[98]⟩] 9)) rfl (by decide)) rfl (by rw [pA]; decide)
  rw [pA] at c3
  have S2 := B2.size
  unfold ptrW at c3
  have K2' : Hid (Below w.heap.size w _) := K2.out.trans (B2.mono (by omega))
  clear l2 l2' K2
  go_wp2_with fail
  refine c3.mono ?_
  rintro f3 w3 ⟨rfl, k3, l3⟩
  have K3 : Hid (Below w.heap.size w w3) := K2'.out.trans (k3.below (by omega))
  have S3 := k3.size
  clear c3 k3 K2' B2
  have c4 := append_one l3 (by decide) (rdT_nil [] w3) rfl (by show piecesN (layL []).length + usedR ([] ++ [⟨0, gA⟩]) + 2 ≤ 30; rw [pN]; show 1 + (piecesN (layL gA).length + 0) + 2 ≤ 30; rw [pA]; decide)
  rw [pN] at c4
  unfold ptrW at c4
  clear l3
  go_wp2_with fail
  refine c4.mono ?_
  rintro f4 w4 ⟨rfl, k4, l4⟩
  have K4 : Hid (Below w.heap.size w w4) := K3.out.trans (k4.below (by omega))
  have S4 := k4.size
  clear c4 k4 K3
  have c5 := sync_one l4
  unfold ptrW at c5
  clear l4
  go_wp2_with fail
  refine c5.mono ?_
  rintro f5 w5 ⟨rfl, k5, l5⟩
  have K5 : Hid (Below w.heap.size w w5) := K4.out.trans (k5.below (by omega))
  have S5 := k5.size
  clear c5 k5 K4
  have c6 := let_v l5 (by decide) 1
  rw [show whichR ([] ++ [(⟨0, gA⟩ : Rc)] ++ [⟨0 + 1, []⟩]) 1 = some 1 from rfl] at c6
  simp only [show ¬ (1 : Nat) = 0 + 1 + 1 from by decide, if_false] at c6
  unfold ptrW at c6
  clear l5
  go_wp2_with fail
  refine c6.mono ?_
  rintro f6 w6 ⟨k6, rfl, l6⟩
  have l6' : LogV w.heap.size [] w6 q (w.heap.size + 2) 4 30 false 2 1 [⟨1, []⟩] := l6
  have K6 : Hid (Below w.heap.size w w6) := K5.out.trans (k6.below (by omega))
  have S6 := k6.size
  have B6 := (Below.refl _ w6).alloc (Nat.le_refl _) (.cells #[Value.string ⟨#[99]⟩] 9)
  have c7 := append_one (l6'.below B6 [] (fun k hk => by cases hk)) (by decide) (rdT_row (l := gC) (heap_alloc_new w6 (.cells #[Value.string ⟨#[99]⟩] 9)) rfl (by decide)) rfl (by rw [pC]; show 1 + (piecesN (layL []).length + 0) + 2 ≤ 30; rw [pN]; decide)
  rw [pC] at c7
  have S6' := B6.size
  unfold ptrW at c7
  have K6' : Hid (Below w.heap.size w _) := K6.out.trans (B6.mono (by omega))
  clear c6 k6 K5 l6 l6' K6
  go_wp2_with fail
  refine c7.mono ?_
  rintro f7 w7 ⟨rfl, k7, l7⟩
  have K7 : Hid (Below w.heap.size w w7) := K6'.out.trans (k7.below (by omega))
  have S7 := k7.size
  clear c7 k7 K6' B6
  have c8 := cut_none_v l7 (by decide)
  unfold ptr at c8
  clear l7
  go_wp2_with fail
  refine c8.mono ?_
  rintro f8 w8 ⟨rfl, k8, nx, l8⟩
  have l8' : LeftV w.heap.size [] w8 (w.heap.size + 2) 4 30 true false 3 1 nx ([] ++ [⟨1, []⟩]) := l8
  have hnx : nx = 2 := l8'.last
  have K8 : Hid (Below w.heap.size w w8) := K7.out.trans (k8.below (by omega))
  have S8 := k8.size
  clear c8 k8 K7 l8
  have c9 := power_v l8'
  unfold ptr at c9
  clear l8'
  go_wp2_with fail
  refine c9.mono ?_
  rintro f9 w9 ⟨rfl, k9, l9⟩
  have K9 : Hid (Below w.heap.size w w9) := K8.out.trans (k9.below (by omega))
  have S9 := k9.size
  clear c9 k9 K8
  subst hnx
  have c10 := open_left l9 (by decide)
  unfold ptr ptrW at c10
  clear l9
  go_wp2_with fail
  refine c10.mono ?_
  rintro f10 w10 ⟨k10, ⟨m, rv, rfl, hm, l10, r10, _⟩ | ⟨a, _⟩⟩
  case inr => cases a
  have K10 : Hid (Below w.heap.size w w10) := K9.out.trans (k10.below (by omega))
  clear c10 k10 K9
  obtain ⟨a, cap, S, rfl, z1, z2, z3, _⟩ := recs_own r10
  obtain ⟨b, off, gs, rfl, ro⟩ := z3 (by decide)
  obtain ⟨x0, g, x1, x2⟩ := ro.each 0 ⟨1, []⟩ rfl
  obtain ⟨ga, gc, rfl, _⟩ := x2
  have y0 : w10.cell? ⟨b, off, none⟩ = some (.int .u64 1) := x0
  have y1 : w10.cell? ⟨b, off + 1, none⟩ = some (.slice ga 0 gc) := x1
  have hcap : 1 ≤ cap := z1
  have cn := next_v l10
  have cf := from_v l10
  unfold ptrW at cn cf
  rw [show fromR 2 ([] ++ [(⟨1, []⟩ : Rc)]) = 1 from rfl] at cf
  clear x0 x1 ro r10 l10 z1 z3
  go_wp2_with first
    | (refine cn.mono ?_; rintro e11 w11 ⟨rfl, rfl⟩)
    | (refine cf.mono ?_; rintro e12 w12 ⟨rfl, rfl⟩)
  go_ret
  exact ⟨rfl, K10.out⟩

end Go.Proofs.YtckcdmkgmbicfaaGreat
