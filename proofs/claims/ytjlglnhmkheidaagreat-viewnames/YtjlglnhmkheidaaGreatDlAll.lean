/- maps.Values, slices.Collect at changes; All. -/
import Derived.Test.YtjlglnhmkheidaaGreatDlSort
import Derived.Test.YtjlglnhmkheidaaGreatDlPut2
import Derived.RangeFuncBox
import Derived.RangeFuncNested
import Derived.Sort.MapsRangeIn
import Derived.Shelf.AbstractIn
import Derived.RangeFuncMany
import Derived.RangeFuncLeaves
import Derived.OwnWalkIn
import Derived.TacticsInMore
import Derived.RegionIn
import Derived.LoopNIn
import Derived.LoopIn
namespace Go.Proofs.YtjlglnhmkheidaaGreat
open Go.Proofs
open Go.RowKit Go.Sort Go.Shelf Go.Maps
set_option linter.unusedVariables false
set_option linter.unusedSimpArgs false
set_option maxRecDepth 100000
attribute [local go_sem] Oper.semAt_some

section
variable {F : Fence} {n : Nat} {ops : Array Oper} {rest : List Oper} {o : Oper} {a : Act} {w : World} {Q : Exit → Act → World → Prop}
/-- A load whose outcome is told, in a round. -/
theorem wpListIn_loadS (hg : o.guard = none) (ty : TypeId) (x : Operand) (ho : o.op = .load ty x) (q : Addr) (hx : a.eval x = .pointer (some q)) (v : Value) (hl : (Instr.loadAt ty (.pointer (some q))).run Tryz.prog w = .ok v w)
    (h : wpListIn F n Tryz.prog ops Q rest (a.put o.dst v) w) : wpListIn F n Tryz.prog ops Q (o :: rest) a w := by
  refine wpListIn_plain hg fun K' hK' => ?_
  unfold Oper.wpIn
  refine ⟨by simp [Oper.about, ho], ?_⟩
  rw [Oper.semAt_plain F _ _ (by rw [ho]; intro c hc; cases hc)]
  simp [execOp, ho, hx, hl, Result.andThen]
  exact hK' _ _ h
/-- A row is stored. -/
theorem wpListIn_storeS (hgd : o.guard = none) (ty : TypeId) (x y : Operand) (ho : o.op = .store ty x y)
    (g : Nat) (cells : Array Value) (hx : a.eval x = .pointer (some ⟨g, 0, none⟩)) (hy : a.eval y = .agg cells)
    (t : TypeId) (old : Array Value) (hg : w.heap[g]? = some (.cells old t (0, 0))) (hi : (Tryz.prog.info? ty).map (·.size) = some cells.size) (hold : old.size = cells.size) (h1 : cells.all (·.oneCell') = true)
    (h : wpListIn F n Tryz.prog ops Q rest (a.put o.dst undef) (w.setRow g cells)) : wpListIn F n Tryz.prog ops Q (o :: rest) a w := by
  refine wpListIn_plain hgd fun K' hK' => ?_
  unfold Oper.wpIn
  refine ⟨by simp [Oper.about, ho], ?_⟩
  rw [Oper.semAt_plain F _ _ (by rw [ho]; intro c hc; cases hc)]
  simp [execOp, ho, hx, hy, Instr.storeAt, Instr.sureAddr, run_storeVar_row w g t ty old cells hg hi hold h1, Result.andThen]
  exact hK' _ _ h
/-- A slice is built. -/
theorem wpListIn_buildS {w' : World} {v : Value} (hgd : o.guard = none) (t : TypeId) (m : Nat) (parts : Array (Nat × Operand)) (ho : o.op = .buildSlice t m parts) (vs : Array (Nat × Value)) (hp : (parts.map fun (i, x) => (i, a.eval x)) = vs) (hr : (Instr.buildSlice t m vs).run Tryz.prog w = .ok v w')
    (h : wpListIn F n Tryz.prog ops Q rest (a.put o.dst v) w') : wpListIn F n Tryz.prog ops Q (o :: rest) a w := by
  refine wpListIn_plain hgd fun K' hK' => ?_
  unfold Oper.wpIn
  refine ⟨by simp [Oper.about, ho], ?_⟩
  rw [Oper.semAt_plain F _ _ (by rw [ho]; intro c hc; cases hc)]
  simp only [execOp, ho, hp, Sem.run_bind, hr, Result.andThen_ok, Sem.run_pure]
  exact hK' _ _ h
end

theorem slice_cg (c : Cg) (hc : c.pt.bytes.length = 32) (w : World) : (Instr.buildSlice 23 1 #[(0, .agg (cgC c))]).run Tryz.prog w = .ok (.slice (some ⟨w.heap.size, 0, none⟩) 1 1) (w.alloc (.cells (cgC c) 56)) := by
  have h : ∀ (p : Pl) (g f : Bool) (n k m l s t : Int) (pf : Bool) (pm : Nat) (d : Nat → Int), (Instr.buildSlice 23 1 #[(0, .agg (cgC ⟨p, g, f, n, k, m, l, s, t, ⟨pf, pm, (List.range 32).map d⟩⟩))]).run Tryz.prog w = .ok (.slice (some ⟨w.heap.size, 0, none⟩) 1 1) (w.alloc (.cells (cgC ⟨p, g, f, n, k, m, l, s, t, ⟨pf, pm, (List.range 32).map d⟩⟩) 56)) := by intros; kernel_rfl
  obtain ⟨p, g, f, n, k, m, l, s, t, pt⟩ := c
  dsimp only at hc
  rw [pt_eq hc]; exact h _ _ _ _ _ _ _ _ _ _ _ _

theorem values_any (w : World) (b : Nat) : Calls Tryz.prog 52 #[.map (some b)] w fun e w' => e = .returned (.func (.func 88) #[] #[.pointer (some ⟨w.heap.size, 0, none⟩)]) ∧ w' = w.alloc (.cells #[.map (some b)] 127) := by
  go_enter Tryz.func52, Tryz.ntmps52
  go_wp2
  go_ret
  exact ⟨rfl, rfl⟩

theorem rise_nodup {L : List Cg} (h : Rise L) : L.Nodup := List.Pairwise.imp (R := fun x y : Cg => cmpP x.pl y.pl = -1) (fun {x y} hxy (e : x = y) => cmp_ne hxy (by rw [e])) h

/-- What has come, and what is left. -/
structure Came (L : List Cg) (left : Lit → Bool) (ps : List CgK) : Prop where
  rest : ∃ R : List Cg, (ps.map (·.1) ++ R).Perm L ∧ ∀ c ∈ L, left (kyL c.pl) = true ↔ c ∈ R

theorem Came.start {es : List (Lit × DataW Value)} {L : List Cg} (hp : es.Perm (L.map entG)) : Came L (Maps.has (.map es : DataW Value)) [] :=
  ⟨L, List.Perm.refl _, fun c hc => ⟨fun _ => hc, fun _ => by
    rw [has_eq]
    exact List.any_eq_true.2 ⟨entG c, hp.mem_iff.2 (List.mem_map.2 ⟨c, hc, rfl⟩), (same_key (kyL_str c.pl)).2 rfl⟩⟩⟩
theorem Came.step {L : List Cg} (hL : LOk L) {left : Lit → Bool} {ps : List CgK} (h : Came L left ps) {c : Cg} (hc : c ∈ L) (hl : left (kyL c.pl) = true) : Came L (fun z => left z && !z.sameKey (kyL c.pl)) (ps ++ [⟨c, hL.ok c hc⟩]) := by
  obtain ⟨R, h1, h2⟩ := h.rest
  have hcR := (h2 c hc).1 hl
  obtain ⟨R1, R2, rfl⟩ := List.append_of_mem hcR
  have hnd : (ps.map (·.1) ++ (R1 ++ c :: R2)).Nodup := h1.nodup_iff.2 (rise_nodup hL.rise)
  refine ⟨R1 ++ R2, ?_, fun d hd => ?_⟩
  · rw [List.map_append, List.map_cons, List.map_nil, List.append_assoc]
    refine List.Perm.trans (List.Perm.append_left _ ?_) h1
    show (c :: (R1 ++ R2)).Perm _
    exact List.perm_middle.symm
  · rw [Bool.and_eq_true, h2 d hd]
    have hnd2 : (R1 ++ c :: R2).Nodup := (List.nodup_append.1 hnd).2.1
    have hcn : c ∉ R1 ++ R2 := by
      have := (List.perm_middle.nodup_iff.1 hnd2)
      exact (List.nodup_cons.1 this).1
    constructor
    · rintro ⟨hd1, hd2⟩
      have hne : d ≠ c := fun e => by
        rw [e, (same_key (kyL_str c.pl)).2 rfl] at hd2; cases hd2
      rcases List.mem_append.1 hd1 with hx | hx
      · exact List.mem_append_left _ hx
      · rcases List.mem_cons.1 hx with hx | hx
        · exact absurd hx hne
        · exact List.mem_append_right _ hx
    · intro hd1
      have hne : d ≠ c := fun e => hcn (by rw [← e]; exact hd1)
      refine ⟨?_, ?_⟩
      · rcases List.mem_append.1 hd1 with hx | hx
        · exact List.mem_append_left _ hx
        · exact List.mem_append_right _ (List.mem_cons_of_mem _ hx)
      · cases hs : (kyL d.pl).sameKey (kyL c.pl)
        · rfl
        · exact absurd (rise_one hL.rise hd hc (kyL_inj (hL.ok d hd).pl (hL.ok c hc).pl ((same_key (kyL_str c.pl)).1 hs))) hne
theorem Came.all {L : List Cg} {left : Lit → Bool} {ps : List CgK} (h : Came L left ps) (hl : ∀ k, left k = false) : (ps.map (·.1)).Perm L := by
  obtain ⟨R, h1, h2⟩ := h.rest
  have hR : R = [] := by
    cases R with
    | nil => rfl
    | cons c R =>
      have hc : c ∈ L := h1.mem_iff.1 (by simp)
      have := (h2 c hc).2 (by simp)
      rw [hl] at this; cases this
  rw [hR, List.append_nil] at h1
  exact h1
theorem Came.len {L : List Cg} {left : Lit → Bool} {ps : List CgK} (h : Came L left ps) : ps.length ≤ L.length := by
  obtain ⟨R, h1, _⟩ := h.rest
  have := h1.length_eq
  simp at this
  omega
theorem came_at {es : List (Lit × DataW Value)} {L : List Cg} (hp : es.Perm (L.map entG)) {kl : Lit} (hk : WideAt.IsKeyLit kl) {v : Value} (h : ∀ zd, DataW.atKey (.map es : DataW Value) kl zd = .held v) : ∃ c ∈ L, kl = kyL c.pl ∧ v = .agg (cgC c) := by
  have h1 := h .nil
  unfold DataW.atKey at h1
  dsimp only at h1
  cases hf : es.find? (fun p => p.1.sameKey kl) with
  | none => rw [hf] at h1; cases h1
  | some p =>
    rw [hf] at h1
    dsimp only at h1
    obtain ⟨c, hc, e⟩ := List.mem_map.1 (hp.mem_iff.1 (List.mem_of_find?_eq_some hf))
    have hs := (same_key hk).1 (List.find?_some (p := fun p : Lit × DataW Value => p.1.sameKey kl) hf)
    refine ⟨c, hc, ?_, ?_⟩
    · rw [← hs, ← e]; rfl
    · rw [← e] at h1
      simp only [entG, DataW.held.injEq] at h1
      exact h1.symm

set_option maxHeartbeats 4000000 in
theorem values_stops (n : Nat) (hn : 1 ≤ n) (Bm b : Nat) (L : List Cg) (hL : LOk L) (w : World) (hBm : Bm < w.heap.size) (hm : w.cell? ⟨Bm, 0, none⟩ = some (.map (some b))) (hmp : MpAt w b L) :
    SeqStopsK Fence.wide n Tryz.prog 88 #[.pointer (some ⟨Bm, 0, none⟩)] (fun x : CgK => #[.agg (cgC x.1)]) KeepsWalks (fun ys => (ys.map (·.1)).Perm L) (fun _ => True) L.length w := fun l J Jx W hW hJ hJx hY h0 => by
  have hm' := (hW.cell (p := ⟨Bm, 0, none⟩) hBm).trans hm
  have hmpW := hmp.keep (hW.block b hmp.lt)
  obtain ⟨es, hown, hp⟩ := hmpW
  have hz := zeroCg
  refine callsIn_of_wp Tryz.func88 rfl trivial ?_ rfl
  simp only [Tryz.ntmps88, List.size_toArray, List.length_cons, List.length_nil, Nat.reduceAdd, Nat.reduceSub, Array.replicate_succ, Array.replicate_zero, List.push_toArray, List.append_toArray, List.nil_append, List.cons_append]
  gi_wp2_with (first
    | (gi_at_range; refine wpListIn_range_own _ rfl _ 127 rfl 26 56 keyedP Tryz.underlying127 _ b _ _ rfl hown ?_; intro w0 hrg0 hg0 hs0)
    | gi_in)
  try go_frame
  gi_loopw [4] (fun _ wr => ∃ (left : Lit → Bool) (cnt : Nat) (ps : List CgK), wr.ranges Tryz.prog 26 hR b W.heap.size L.length (.map es) left cnt ∧ Came L left ps ∧ J ps wr)
    (fun _ wr => wr.rangeLeft b W.heap.size)
  case atStart =>
    exact ⟨_, _, [], hrg0, Came.start hp, hJ [] W w0 none h0 hg0 (fun r e => by cases e)⟩
  case round =>
    obtain ⟨left, cnt, ps, hrg, hC, hJs⟩ := hrel
    gi_wp2_with (first
      | (gi_at_next; refine wpListIn_next_ranges _ rfl _ rfl 26 keyedP hR (fun v : Value => v) (fun v : Value => v) (fun key kl hk => ⟨key, rfl⟩) (fun v y hv => ⟨v, rfl⟩) b W.heap.size L.length _ _ _ rfl hrg ?_ ?_)
      | gi_in)
    · intro hc0 hl0
      gi_wp2
      go_end0
      exact ⟨⟨_, rfl⟩, .inl ⟨ps, hC.all hl0, hJs⟩⟩
    · intro x c kl yd yp w2 cnt2 hkey hlk hv hat hrg2 hlt hg2 hs2 hen
      obtain rfl : yd = DataW.held c := by
        simp only [hR, Option.some.injEq, Prod.mk.injEq] at hv
        exact hv.1.symm
      obtain ⟨cg, hcg, rfl, rfl⟩ := came_at hp (keyedP.key hkey) hat
      have hck := hL.ok cg hcg
      have HL : Hid (cg.pt.bytes.length = 32) := hck.pt.ch.1
      have hC2 := hC.step hL hcg hlk
      have hlen : ps.length < L.length := by have := hC2.len; simp at this; omega
      have hJ2 : J ps w2 := hJ ps wr w2 (some W.heap.size) hJs hg2 (fun r e => by cases e; exact ⟨Nat.le_refl _, hrg.iter_walk⟩)
      have hn2 := CgAt.laid w2 cg0
      have hb3 := alloc_row (A := w2) (.cells (cgC cg0) 56) (cgC cg)
      have hx3 := hn2.setRow cg
      obtain ⟨w3, hw3⟩ : ∃ w3, (w2.alloc (.cells (cgC cg0) 56)).setRow w2.heap.size (cgC cg) = w3 := ⟨_, rfl⟩
      rw [hw3] at hb3 hx3
      have hg3 : w2.grownBy w3 none := ⟨hb3.os, hb3.tape, hb3.output, hb3.size, fun k hk _ => hb3.block k hk⟩
      have hk3 : KeepsWalks w2 w3 := ⟨hb3.size, fun k o hk _ => (hb3.block k (Array.getElem?_eq_some_iff.1 hk).1).trans hk⟩
      have hJ3 : J ps w3 := hJ ps w2 w3 none hJ2 hg3 (fun r e => by cases e)
      have hrg3 := hrg2.of_walks hk3
      obtain ⟨fn, tmps, assign, body, hyi, hRR⟩ := hY ps ⟨cg, hck⟩ w3 hJ3 hlen
      dsimp only at hyi
      have hl3 : Hid _ := hx3.load HL.out
      clear hs2 hrg2 hJ2 hv hat hkey
      gi_wp2_with (first
        | (refine wpListIn_storeS rfl 56 _ _ rfl w2.heap.size (cgC cg) rfl rfl 56 (cgC cg0) hn2.row (by rw [cgC_size HL.out]; exact size_cg) (by rw [cgC_size HL.out, cgC_size len0]) (one_cg _) ?_; rw [hw3])
        | (refine wpListIn_loadS rfl 56 _ rfl _ rfl _ hl3.out ?_))
      refine hRR.mono ?_
      rintro e W3 (⟨rfl, hJ4, hk4⟩ | ⟨rfl, hJx4⟩)
      · gi_wp2
        have hrg4 := hrg3.of_walks hk4
        go_roundw
        case rel => exact ⟨_, cnt2, ps ++ [⟨cg, hck⟩], hrg4, hC2, hJ4⟩
        case measure => rw [hrg4.left_eq, hrg.left_eq]; exact hlt
      · gi_wp2
        refine bodyPost_ret (results_none rfl _ _ _) rfl ?_
        exact ⟨⟨_, rfl⟩, .inr ⟨_, trivial, hJx4⟩⟩

theorem info_cg : (Tryz.prog.info? 56).map (fun i => (i.zero, i.size, i.bytes)) = some (some (.agg (cgC cg0)), 46, 136) := by kernel_rfl

set_option maxHeartbeats 4000000 in
theorem appendSeq_any (g : Nat) (lb : Array Value) (eg : ∀ args w, (callFunc g args).run Tryz.prog w = .ok (.enter g args) w) (L : List Cg) (N : Nat) (hN : N ≤ 1000) (w : World)
    (hseq : SeqStopsK Fence.wide 2 Tryz.prog g lb (fun x : CgK => #[.agg (cgC x.1)]) KeepsWalks (fun ys => (ys.map (·.1)).Perm L) (fun _ => True) N w) :
    Calls Tryz.prog 111 #[.slice none 0 0, .func (.func g) #[] lb] w fun e w' => ∃ (v : Value) (ps : List CgK), e = .returned v ∧ (ps.map CgK.c).Perm L ∧ w'.ownsRow w.heap.size 56 46 v ps.length (ps.flatMap ckL) ∧ Below w.heap.size w w' := by
  obtain ⟨i0, hi, hz0, hz1, hz2⟩ := info3 info_cg
  have hz := zeroCg
  refine (callsIn_wide (n := 3)).1 ?_
  refine callsIn_of_wp_marks Tryz.func111 rfl trivial ?_ rfl
  refine wpIn_wide.2 ?_
  simp only [Tryz.ntmps111, List.size_toArray, List.length_cons, List.length_nil, Nat.reduceAdd, Nat.reduceSub, Array.replicate_succ, Array.replicate_zero, List.push_toArray, List.append_toArray, List.nil_append, List.cons_append]
  go_wp2
  refine (wpIn_wide (n := 3)).1 ?_
  have bB := Boxed.new w 23 (.slice none 0 0)
  have hB0 : Below w.heap.size w (w.alloc (.cells #[.slice none 0 0] 23)) := (Below.refl _ w).alloc (Nat.le_refl _) _
  have hs0 : (w.alloc (.cells #[.slice none 0 0] 23)).heap.size = w.heap.size + 1 := by simp
  generalize w.alloc (.cells #[.slice none 0 0] 23) = W0 at *
  refine wpIn_rangeFunc_ownH rfl (by decide) (gf := g) (lb := lb) rfl trivial eg hseq walksK_t walksK_b hB0 (fun _ => rfl)
    (fun pre W => ((∃ v, Boxed W w.heap.size 23 v ∧ W.ownsRow w.heap.size 56 46 v pre.length (pre.flatMap ckL) ∧ ∃ a c, v = .slice a pre.length c)) ∧ Below w.heap.size w W)
    (fun _ _ _ => False)
    (OwnFrom.and (Own.from (holdsRow_own w.heap.size w.heap.size 23 56 46 (fun pre : List CgK => pre.length) (fun pre => pre.flatMap ckL) (fun pre v => ∃ a c, v = .slice a pre.length c)) _) (ownFrom_below (Nat.le_refl _) (by omega)))
    (fun _ _ _ _ _ hs _ _ => hs)
    ⟨⟨_, bB, World.ownsRow_nil _ _ _ _, _, _, rfl⟩, hB0⟩
    (fun x a' W => ∃ Bx, CgAt W Bx x.1 ∧ a' = { tmps := #[.slice none 0 0, .func (.func g) #[] lb, .pointer (some ⟨w.heap.size, 0, none⟩), undef, .slice none 0 0, .pointer (some ⟨Bx, 0, none⟩), .func (.func g) #[] lb, .agg (cgC x.1), undef, undef, undef, undef, undef], defers := [] })
    (fun x a' => Own.from (fun s A B row hs hg hr => by
      obtain ⟨Bx, hs, e⟩ := hs
      exact ⟨Bx, ⟨(hg.block Bx hs.lt (fun e' => by obtain ⟨o, ho, hc⟩ := hr Bx e'.symm; rw [hs.row] at ho; cases ho; cases hc)).trans hs.row⟩, e⟩) _) ?assign ?body ?done ?stop
  case assign =>
    rintro l pre x W K ⟨⟨v, hv, hr, hsv⟩, hB⟩ hK
    have HL : Hid (x.1.pt.bytes.length = 32) := x.2.pt.ch.1
    have hn := CgAt.laid W cg0
    have hb := alloc_row (A := W) (.cells (cgC cg0) 56) (cgC x.1)
    have hx := hn.setRow x.1
    obtain ⟨W1, hW1⟩ : ∃ W1, (W.alloc (.cells (cgC cg0) 56)).setRow W.heap.size (cgC x.1) = W1 := ⟨_, rfl⟩
    rw [hW1] at hb hx
    have hg : W.grownBy W1 none := ⟨hb.os, hb.tape, hb.output, hb.size, fun k hk _ => hb.block k hk⟩
    have hko : KeepsOthers W W1 := KeepsOthers.of_grownBy hg (fun j o ej => by cases ej)
    gi_wp2_with (refine wpListIn_storeS rfl 56 _ _ rfl W.heap.size (cgC x.1) rfl rfl 56 (cgC cg0) hn.row (by rw [cgC_size HL.out]; exact size_cg) (by rw [cgC_size HL.out, cgC_size len0]) (one_cg _) ?_; rw [hW1])
    exact hK _ _ (hko.from _) hko.walks ⟨⟨v, hv.kept hg (by simp), World.ownsRow.kept hr hg (by cases hq : v.ownBlock <;> simp), hsv⟩, hB.trans (hb.mono hB.size)⟩ ⟨W.heap.size, hx, rfl⟩
  case body =>
    rintro l pre x a' W hl0 hrec ⟨⟨v, hv, hr, a4, c4, rfl⟩, hB⟩ ⟨Bx, hx, rfl⟩ hlen
    have HL : Hid (x.1.pt.bytes.length = 32) := x.2.pt.ch.1
    have hvc := hv.cell
    have hvf := hv.frozen
    have hbs := hB.size
    have hlx : Hid _ := hx.load HL.out
    have hbsl := slice_cg x.1 HL.out W
    have hnw : ∀ j u, (ckL x)[j]? = some u → (W.alloc (.cells (cgC x.1) 56)).cell? ((⟨W.heap.size, 0, none⟩ : Addr).add j) = some u := by
      intro j u hj
      have hadd : (⟨W.heap.size, 0, none⟩ : Addr).add j = ⟨W.heap.size, j, none⟩ := by unfold Addr.add; split <;> simp_all
      rw [hadd, cell_of_row _ _ j _ _ _ (heap_alloc_new W _)]
      rw [← hj]
      exact List.getElem?_toArray
    gi_wp2_with (first
      | (refine wpListIn_loadS rfl 56 _ rfl _ rfl _ hlx.out ?_)
      | (refine wpListIn_buildS rfl 23 1 _ rfl #[(0, .agg (cgC x.1))] (by kernel_rfl) hbsl ?_)
      | (gi_at_builtin; refine wpListIn_append_own _ rfl _ _ 23 rfl w.heap.size 56 i0 _ 46 136 Tryz.underlying23 hi hz0 hz1 hz2 (by kernel_rfl) (by decide) _ _ _ rfl (hr.alloc _) ⟨W.heap.size, 0, none⟩ 1 1 (ckL x) rfl (by rw [ckL_len]) hnw (one_cgL _) (by unfold maxLen; omega) (by omega) (by simp; omega) ?_; intro v' w1 hown' hgrow _; obtain ⟨g', cap', rfl⟩ := ownsRow_succ hown'; obtain ⟨hv1, hv2, hr2, hk2, hb2⟩ := hv.appended (by decide) hr hbs (Nat.le_refl _) hown' hgrow; have hvc1 := hv1.cell; have hvf1 := hv1.frozen))
    exact ⟨hk2.from _, hk2.walks, ⟨_, hv2, by rw [List.length_append, List.flatMap_append, List.flatMap_singleton]; exact hr2, _, _, by rw [List.length_append]; rfl⟩, hB.trans hb2⟩
  case done =>
    rintro D ys W hD hperm ⟨⟨v, hv, hr, a4, c4, rfl⟩, hB⟩ hK
    have hvc := hv.cell
    go_wp2
    refine ⟨by simp, .inl ⟨_, _, rfl, run_takeDeferred hK, ?_⟩⟩
    refine ⟨_, results_tmp rfl _ _ _, _, ys, rfl, hperm, ?_, hB.trans (belowK_b (w := w) (Nat.le_refl _) W D _ _ (by omega) hK rfl rfl)⟩
    exact ownsRow_putObj hr _ hK rfl
  case stop =>
    rintro D c pre W _ _ h _
    exact h.elim

end Go.Proofs.YtjlglnhmkheidaaGreat
