/- The contract of the law's live. -/
import Derived.Test.YtjlglnhmkheidaaGreatV8
import Derived.Test.YtjlglnhmkheidaaGreatV3
namespace Go.Proofs.YtjlglnhmkheidaaGreat
open Go.RowKit Go.Shelf
set_option linter.unusedVariables false
set_option linter.unusedSimpArgs false
set_option maxRecDepth 100000
attribute [local go_sem] Oper.semAt_some

/-- A function that has loops over iterators. -/
theorem calls_marks {P : Program} {f : FuncId} {fn : Func} {c : Code} {args : Array Value} {w : World} {R : Ending → World → Prop} (hf : P.funcs[f]? = some fn) (hb : fn.body = some c)
    (h : c.wp P (bodyPostM Fence.wide 9 P fn R) { tmps := args ++ Array.replicate (fn.ntmps - args.size) undef, defers := [] } w) : Calls P f args w R := (callsIn_wide (n := 9)).1 (callsIn_of_wp_marks hf hb trivial (wpIn_wide.2 h) rfl)

theorem so_of {w : World} {gr g : Nat} (h : w.heap[gr]? = some (.cells #[.string k1, .string v1] 90 (0, 0))) (hs : w.heap[g]? = some (.cells #[.slice (some ⟨gr, 0, none⟩) 1 1, .int .i64 (-1)] 37 (0, 0))) : SoAt w g (some ⟨gr, 0, none⟩) 1 1 l0 := by
  refine ⟨hs, rfl, Nat.le_refl _, by unfold maxLen; omega, fun _ => ⟨gr, 0, rfl, (Array.getElem?_eq_some_iff.1 h).1, fun i p hp => ?_⟩⟩
  obtain ⟨hi, he⟩ := List.getElem?_eq_some_iff.1 hp
  have h0 : i = 0 := by have : l0.length = 1 := rfl; omega
  subst h0
  subst he
  exact ⟨by rw [cell_of_row _ _ _ _ _ (0, 0) h]; rfl, by rw [cell_of_row _ _ _ _ _ (0, 0) h]; rfl⟩
theorem lq_L : (putS (newS 9) bC).L.length = 1 := by kernel_rfl
theorem lq_P : (putS (newS 9) bC).pus.length = 1 := by kernel_rfl
theorem lq_L2 : (putS (putS (newS 9) bC) gC).L.length = 2 := by kernel_rfl
theorem bl_b : Tryz.prog.built 56 [(0, plV bP), (5, .int .u32 3)] = some (cgC bC) := built_ent bP 3
theorem bl_g : Tryz.prog.built 56 [(0, plV aP), (1, .bool true)] = some (cgC gC) := built_gone aP

def joinS (l : List ByteArray) : ByteArray := l.foldl (· ++ ·) ⟨#[]⟩
theorem lq_8 : ∀ c ∈ (putS (putS (newS 9) bC) gC).L, c.pl.name.size ≤ 8 := fun c hc => of_decide_eq_true (List.all_eq_true.1 (show ((putS (putS (newS 9) bC) gC).L.all fun c => decide (c.pl.name.size ≤ 8)) = true by kernel_rfl) c hc)
theorem hl3 : l0.length + (putS (putS (newS 9) bC) gC).L.length = 3 := by kernel_rfl
theorem joinS_b : joinS [⟨#[98]⟩] = ⟨#[98]⟩ := by kernel_rfl
theorem joinS_snoc (l : List ByteArray) (x : ByteArray) : joinS (l ++ [x]) = joinS l ++ x := by unfold joinS; rw [List.foldl_append]; rfl

set_option maxHeartbeats 8000000 in
theorem live_any (w : World) : Calls Tryz.prog 9 #[] w fun e w' => e = .returned (.bool true) ∧ Below w.heap.size w w' := by
  refine calls_marks Tryz.func9 rfl ?_
  simp only [Tryz.ntmps9, List.size_toArray, List.length_cons, List.length_nil, Nat.reduceAdd, Nat.reduceSub, Array.replicate_succ, Array.replicate_zero, List.push_toArray, List.append_toArray, List.nil_append, List.cons_append]
  have hb1 : Below w.heap.size w (w.alloc (.cells #[.bool false] 4)) := (Below.refl _ w).alloc (Nat.le_refl _) _
  have hx1 : (w.alloc (.cells #[.bool false] 4)).heap[w.heap.size]? = some (.cells #[.bool false] 4 (0, 0)) := heap_alloc_new w _
  obtain ⟨w1, hw1⟩ : ∃ w1, w.alloc (.cells #[.bool false] 4) = w1 := ⟨_, rfl⟩
  rw [hw1] at hb1 hx1
  have cn := DlN.new w1 9 (by decide)
  go_wp2_with fail
  refine cn.mono ?_
  rintro e w2 ⟨p, b, rfl, hd2, _⟩
  clear cn
  have hb12 := hd2.bel
  go_wp2_with (refine wpList_buildBy rfl 56 _ rfl _ rfl [(0, plV bP), (5, .int .u32 3)] (by kernel_rfl) (cgC bC) bl_b ?_)
  have hb23 : Below w2.heap.size w2 (w2.alloc (.cells #[.int .u32 1, .int .i64 2, .string ⟨#[97]⟩, .int .u32 0] 26)) := (Below.refl _ w2).alloc (Nat.le_refl _) _
  have hp3 : PlAt (w2.alloc (.cells #[.int .u32 1, .int .i64 2, .string ⟨#[97]⟩, .int .u32 0] 26)) w2.heap.size aP := ⟨heap_alloc_new w2 _⟩
  obtain ⟨w3, hw3⟩ : ∃ w3, w2.alloc (.cells #[.int .u32 1, .int .i64 2, .string ⟨#[97]⟩, .int .u32 0] 26) = w3 := ⟨_, rfl⟩
  rw [hw3] at hb23 hp3
  rw [hw3]
  clear hw3
  have hd3 := hd2.below hb23
  have hx3 := (hb23.block _ (by have := hb12.size; have := (Array.getElem?_eq_some_iff.1 hx1).1; omega)).trans ((hb12.block _ (Array.getElem?_eq_some_iff.1 hx1).1).trans hx1)
  have cp := hd3.put bC bC_ok (by decide) (by decide)
  rw [lq1] at cp
  refine cp.mono ?_
  rintro e w4 ⟨rfl, hd4, hk4⟩
  clear cp
  have hp4 := hp3.keepD hd3 hk4
  have hx4 := hk4.row hd3 hx3 (by decide) (by decide)
  clear hp3 hx3 hx1 hd3 hk4
  go_wp2_with fail
  have hb45 : Below w4.heap.size w4 ((w4.alloc (.cells #[.string ⟨#[0, 0, 0, 1, 2, 97, 0, 0, 0, 0, 0, 0, 0, 0]⟩, .string ⟨#[0, 0, 0, 2]⟩] 90)).alloc (.cells #[.slice (some ⟨w4.heap.size, 0, none⟩) 1 1, .int .i64 (-1)] 37)) := ((Below.refl _ w4).alloc (Nat.le_refl _) _).alloc (by simp) _
  have hr5 : ((w4.alloc (.cells #[.string ⟨#[0, 0, 0, 1, 2, 97, 0, 0, 0, 0, 0, 0, 0, 0]⟩, .string ⟨#[0, 0, 0, 2]⟩] 90)).alloc (.cells #[.slice (some ⟨w4.heap.size, 0, none⟩) 1 1, .int .i64 (-1)] 37)).heap[w4.heap.size]? = some (.cells #[.string k1, .string v1] 90 (0, 0)) := by
    rw [Below.heap_alloc _ _ _ (by simp)]
    exact heap_alloc_new w4 _
  have hs5 : ((w4.alloc (.cells #[.string ⟨#[0, 0, 0, 1, 2, 97, 0, 0, 0, 0, 0, 0, 0, 0]⟩, .string ⟨#[0, 0, 0, 2]⟩] 90)).alloc (.cells #[.slice (some ⟨w4.heap.size, 0, none⟩) 1 1, .int .i64 (-1)] 37)).heap[w4.heap.size + 1]? = some (.cells #[.slice (some ⟨w4.heap.size, 0, none⟩) 1 1, .int .i64 (-1)] 37 (0, 0)) := by
    have := heap_alloc_new (w4.alloc (.cells #[.string ⟨#[0, 0, 0, 1, 2, 97, 0, 0, 0, 0, 0, 0, 0, 0]⟩, .string ⟨#[0, 0, 0, 2]⟩] 90)) (.cells #[.slice (some ⟨w4.heap.size, 0, none⟩) 1 1, .int .i64 (-1)] 37)
    rwa [World.size_alloc] at this
  obtain ⟨w5, hw5⟩ : ∃ w5, (w4.alloc (.cells #[.string ⟨#[0, 0, 0, 1, 2, 97, 0, 0, 0, 0, 0, 0, 0, 0]⟩, .string ⟨#[0, 0, 0, 2]⟩] 90)).alloc (.cells #[.slice (some ⟨w4.heap.size, 0, none⟩) 1 1, .int .i64 (-1)] 37) = w5 := ⟨_, rfl⟩
  rw [hw5] at hb45 hs5 hr5
  rw [hw5]
  clear hw5
  refine (vnew_any w5 (w4.heap.size + 1) p).mono ?_
  rintro e w6 ⟨rfl, hv6, hb56⟩
  have hb46 := thenB hb45 hb56
  have hd6 := hd4.below hb46
  have hp6 := hp4.below hb46
  have hr6 := (hb56.block _ (Array.getElem?_eq_some_iff.1 hr5).1).trans hr5
  have hq6 := (hb56.block _ (Array.getElem?_eq_some_iff.1 hs5).1).trans hs5
  have hx6 := (hb46.block _ (Array.getElem?_eq_some_iff.1 hx4).1).trans hx4
  clear hp4 hx4 hs5 hr5 hd4
  obtain ⟨g, hg⟩ : ∃ g, w4.heap.size + 1 = g := ⟨_, rfl⟩
  rw [hg] at hv6 hq6
  obtain ⟨v, hv⟩ : ∃ v, w5.heap.size = v := ⟨_, rfl⟩
  rw [hv] at hv6
  rw [hv]
  obtain ⟨gr, hgr⟩ : ∃ gr, w4.heap.size = gr := ⟨_, rfl⟩
  rw [hgr] at hr6 hq6
  have hs6 := so_of hr6 hq6
  have lp6 : Hid _ := hp6.loadG
  have cg := vget_any hv6 hd6 hs6 aP aP_ok
  rw [lqv] at cg
  go_wp2_with (refine wpList_loadG rfl 26 _ rfl _ rfl _ lp6.out ?_)
  refine cg.mono ?_
  rintro e w7 ⟨rfl, hb67⟩
  clear cg
  have hn8 := ItAt.laid 45 w7 it0
  have hb78 := alloc_row (A := w7) (.cells (itC it0) 45) (itC ⟨0, 0, 0, 0, 2, zeroC⟩)
  have hi8 := hn8.setRow ⟨0, 0, 0, 0, 2, zeroC⟩
  obtain ⟨w8, hw8⟩ : ∃ w8, (w7.alloc (.cells (itC it0) 45)).setRow w7.heap.size (itC ⟨0, 0, 0, 0, 2, zeroC⟩) = w8 := ⟨_, rfl⟩
  rw [hw8] at hb78 hi8
  have hb68 := thenB hb67 hb78
  have hp8 := hp6.below hb68
  have hd8 := hd6.below hb68
  have hv8 := hv6.below hb68
  have hr8 := (hb68.block _ (Array.getElem?_eq_some_iff.1 hr6).1).trans hr6
  have hq8 := (hb68.block _ (Array.getElem?_eq_some_iff.1 hq6).1).trans hq6
  have hx8 := (hb68.block _ (Array.getElem?_eq_some_iff.1 hx6).1).trans hx6
  have lp8 : Hid _ := hp8.loadG
  have len0 := ch_zero.1
  have hz := zeroItem
  have cp := vput_any hv8 hd8 gC gC_ok (by rw [lq_L]; decide) (by rw [lq_P]; decide)
  rw [lq9] at cp
  clear lp6 hp6 hd6 hv6 hs6 hr6 hq6 hx6
  go_wp2_with (first
    | (refine wpList_storeI rfl _ _ rfl w7.heap.size ⟨0, 0, 0, 0, 2, zeroC⟩ it0 rfl rfl len0 len0 hn8 ?_; rw [hw8])
    | (refine wpList_loadG rfl 26 _ rfl _ rfl _ lp8.out ?_)
    | (refine wpList_buildBy rfl 56 _ rfl _ rfl [(0, plV aP), (1, .bool true)] (by kernel_rfl) (cgC gC) bl_g ?_))
  refine cp.mono ?_
  rintro e w9 ⟨rfl, hd9, hk9⟩
  clear cp
  have hv9 := hv8.keepD hd8 hk9
  have hi9 := hi8.keepD hd8 hk9
  have hr9 := hk9.row hd8 hr8 (by decide) (by decide)
  have hq9 := hk9.row hd8 hq8 (by decide) (by decide)
  have hx9 := hk9.row hd8 hx8 (by decide) (by decide)
  clear lp8 hp8 hd8 hv8 hr8 hq8 hx8 hi8 hn8 hk9
  go_wp2_with fail
  have hb9a : Below w9.heap.size w9 (w9.alloc (.cells #[.string ⟨#[]⟩] 9)) := (Below.refl _ w9).alloc (Nat.le_refl _) _
  have hna : (w9.alloc (.cells #[.string ⟨#[]⟩] 9)).heap[w9.heap.size]? = some (.cells #[.string ⟨#[]⟩] 9 (0, 0)) := heap_alloc_new w9 _
  obtain ⟨wa, hwa⟩ : ∃ wa, w9.alloc (.cells #[.string ⟨#[]⟩] 9) = wa := ⟨_, rfl⟩
  rw [hwa] at hb9a hna
  rw [hwa]
  clear hwa
  have hra := (hb9a.block _ (Array.getElem?_eq_some_iff.1 hr9).1).trans hr9
  have hqa := (hb9a.block _ (Array.getElem?_eq_some_iff.1 hq9).1).trans hq9
  have hsz9 : w9.heap.size < wa.heap.size := (Array.getElem?_eq_some_iff.1 hna).1
  have HXG : Hid (g ∉ [w9.heap.size]) := fun h => by
    have := (Array.getElem?_eq_some_iff.1 hq9).1
    rw [List.mem_singleton] at h
    omega
  have HXA : Hid (∀ ad, 0 < 1 → some (⟨gr, 0, none⟩ : Addr) = some ad → ad.block ∉ [w9.heap.size]) := fun ad _ e h => by
    have := (Array.getElem?_eq_some_iff.1 hr9).1
    cases e
    rw [List.mem_singleton] at h
    dsimp only at h
    omega
  have cn := vnames_any [w9.heap.size] (hv9.below hb9a) (hd9.below hb9a) (so_of hra hqa) (by rw [lq_L2]; decide) lq_8 1 (by decide) (by decide) (fun x hx => by rw [List.mem_singleton] at hx; rw [hx]; exact hsz9) HXG.out HXA.out
  rw [lqa] at cn
  refine cn.mono ?_
  rintro e wb ⟨lb, rfl, hseq, hbab⟩
  clear cn
  have HSQ : Hid _ := hseq
  clear hseq
  have cs := some_any wb 72 lb
  go_wp2_with fail
  refine cs.mono ?_
  rintro e wc ⟨rfl, rfl⟩
  clear cs
  go_wp2_with fail
  have hnc := (hbab.block _ hsz9).trans hna
  have hic := (hi9.below hb9a).below hbab
  have hxc := (hbab.block _ (Nat.lt_of_lt_of_le (Array.getElem?_eq_some_iff.1 hx9).1 (Nat.le_of_lt hsz9))).trans ((hb9a.block _ (Array.getElem?_eq_some_iff.1 hx9).1).trans hx9)
  have hszc : w9.heap.size < wc.heap.size := Nat.lt_of_lt_of_le hsz9 hbab.size
  have hBc : Below w1.heap.size w1 wc := hd9.bel.trans ((thenB hb9a hbab).mono hd9.le)
  have hsz1 : w1.heap.size ≤ w9.heap.size := hd9.bel.size
  have hx1l : w.heap.size < w1.heap.size := by rw [← hw1]; simp
  have hi9l : w7.heap.size < w9.heap.size := (Array.getElem?_eq_some_iff.1 hi9.row).1
  refine (wpIn_wide (n := 9)).1 ?_
  refine range_own2 (gf := 72) (lb := lb) rfl (enters_of Tryz.func72 (by kernel_rfl) rfl) (HSQ.out _) (Below.refl _ _) (Nat.le_refl _) (fun _ => rfl)
    (fun pre X => Boxed X w9.heap.size 9 (.string (joinS pre)) ∧ BelX [w9.heap.size] wc.heap.size wc X ∧ (joinS pre).size ≤ pre.length * 8)
    (fun c pre X => False)
    ?ownI ?ownX ?abI ?abX ⟨hnc, BelX.refl _ _ _, Nat.zero_le _⟩
    (fun x t => (t.setIfInBounds 9 (.string x)).setIfInBounds 10 (.int .i64 0))
    ?assign ?body ?done ?stop
  case assign =>
    rintro l' x X K hK
    have hE : ∀ A B : Act, A = B → K A X → K B X := fun A B h k => h ▸ k
    unfold actOf nmE
    simp only [id]
    gi_wp2
    refine hE _ _ ?_ hK
    unfold actOf nmE
    first | rfl | (simp; done) | go_simp
  case ownI => exact OwnFrom.and (fun s X X' row hs hg hr => own_box (β := Unit) _ _ _ _ () X X' row hs hg hr) ((own_belX (Nat.le_refl _) (Nat.le_refl _)).and (own_pure _ _))
  case ownX => exact fun c => own_pure _ _
  case abI =>
    rintro s X b cs ty v ⟨h1, h2, h3⟩ hb ht e
    exact ⟨(heap_setCell_other X ⟨b, 0, none⟩ _ v (by show w9.heap.size ≠ b; omega)).trans h1, h2.setCell (p := ⟨b, 0, none⟩) (by show wc.heap.size ≤ b; omega) v, h3⟩
  case abX => exact fun c s X b cs ty v h => h.elim
  case body =>
    rintro l' pre x X hV hl ⟨h1, h2, h3⟩ hlen
    have hx : x.size ≤ 8 := hV x rfl
    rw [hl3] at hlen
    have hsum : ¬ 9223372036854775807 < (joinS pre).size + x.size := by omega
    have hpos : (joinS pre ++ x).size ≤ (pre ++ [x]).length * 8 := by
      rw [ByteArray.size_append, List.length_append, Nat.add_mul]
      simp only [List.length_cons, List.length_nil, Nat.zero_add, Nat.one_mul]
      omega
    have hc := h1.cell
    have hf := h1.frozen
    unfold actOf nmE
    gi_wp2
    exact ⟨(KeepsOthers.setCell _ _ _).from _, KpN.setX _ _ (by unfold TV; simp) (by omega), by rw [joinS_snoc]; exact h1.set _, h2.trans (BelX.setX _ (by simp) _), by rw [joinS_snoc]; exact hpos⟩
  case stop => exact fun D c pre W hD hS hf _ => hf.elim
  case done =>
    rintro D ys X hD rfl ⟨h1, h2, h3⟩ hK
    have hiX : ItAt 45 X w7.heap.size ⟨0, 0, 0, 0, 2, zeroC⟩ := ⟨(h2.block _ (by omega) (by rw [List.mem_singleton]; omega)).trans hic.row⟩
    have c4 : X.cell? ⟨w7.heap.size, 4, none⟩ = some (.int .u32 2) := by rw [cell_of_row _ _ _ _ _ (0, 0) hiX.row]; rfl
    have bx : Boxed X w.heap.size 4 (.bool false) := (h2.block _ (by omega) (by rw [List.mem_singleton]; omega)).trans hxc
    have hc := h1.cell
    rw [joinS_b] at hc
    have xc := bx.cell
    have xf := bx.frozen
    have hbX : Below w.heap.size w (X.setCell ⟨w.heap.size, 0, none⟩ (.bool true)) := by
      have q1 : Below w.heap.size w wc := thenB hb1 hBc
      have q2 : Below w.heap.size wc X := ⟨h2.os, h2.tape, h2.output, h2.size, fun k hk => h2.block k (by omega) (by rw [List.mem_singleton]; omega)⟩
      exact (q1.trans q2).setCell (p := ⟨w.heap.size, 0, none⟩) (Nat.le_refl _) _
    have HBX : Hid _ := hbX
    clear hiX h1 hbX
    go_wp2_with fail
    have hK' : (X.setCell ⟨w.heap.size, 0, none⟩ (.bool true)).heap[D]? = some (.deferred (some [])) := (heap_setCell_other X ⟨w.heap.size, 0, none⟩ D _ (by show D ≠ w.heap.size; omega)).trans hK
    refine ⟨by simp, .inl ⟨_, _, rfl, run_takeDeferred hK', ?_⟩⟩
    have hc5 := cell_kept (bx.set (.bool true)).cell (grownBy_putObj' _ D (.deferred none)) (fun q e => by cases e; exact ⟨_, hK', rfl⟩)
    refine ⟨.bool true, ?_, rfl, HBX.out.trans (belowK_b (w := w) (Nat.le_refl _) _ D _ _ (by omega) hK' rfl rfl)⟩
    simp [results, Tryz.f9, go_sem, hc5]

end Go.Proofs.YtjlglnhmkheidaaGreat
