/- The contract of delta.Undo. -/
import Derived.Test.YtpbokenambjclaaDlBack
import Derived.Test.YtpbokenambjclaaDlDel
namespace Go.Proofs.Ytpbokenambjclaa
open Go.RowKit Go.Shelf Go.Maps
set_option linter.unusedVariables false
set_option linter.unusedSimpArgs false
set_option maxRecDepth 100000
attribute [local go_sem] Oper.semAt_some

/-- What is left when the last ones are undone. -/
def undoL (L : List Cg) (xs : List Pu) : List Cg := xs.foldl undo1 L
def undoS (s : Dl) (m : Nat) : Dl := ⟨s.most, undoL s.L (s.pus.drop m).reverse, s.pus.take m⟩
theorem undo1_len (L : List Cg) (x : Pu) : (undo1 L x).length ≤ L.length + 1 := by
  unfold undo1
  split
  · exact setL_len _ _
  · have := delL_len L x.pl; omega
theorem undoL_len (xs : List Pu) : ∀ L, (undoL L xs).length ≤ L.length + xs.length := by
  induction xs with
  | nil => intro L; exact Nat.le_refl _
  | cons x xs ih => intro L; have := ih (undo1 L x); have := undo1_len L x; unfold undoL at *; rw [List.foldl_cons, List.length_cons]; omega
theorem undoL_snoc (L : List Cg) (xs : List Pu) (x : Pu) : undoL L (xs ++ [x]) = undo1 (undoL L xs) x := by unfold undoL; rw [List.foldl_append]; rfl
theorem flatPu_at {L : List Pu} (hL : ∀ c ∈ L, PuOk c) {i : Nat} (hi : i < L.length) (j : Nat) (hj : j < 51) : (L.flatMap puL)[i * 51 + j]? = (puL (L.getD i pu0))[j]? := by
  induction L generalizing i with
  | nil => simp at hi
  | cons c L ih =>
    have hc := puL_len (hL c (by simp))
    rw [List.flatMap_cons]
    cases i with
    | zero =>
      rw [List.getElem?_append_left (by omega)]
      simp
    | succ i =>
      rw [List.getElem?_append_right (by omega), hc, show (i + 1) * 51 + j - 51 = i * 51 + j by omega]
      exact ih (fun x hx => hL x (by simp [hx])) (by simpa using hi)
theorem back_list (xs : List Pu) (h : ∀ x ∈ xs, PuOk x) : ((List.range xs.length).map (backE xs h)).map PuI.x = xs.reverse := by
  rw [List.map_map]
  apply List.ext_getElem?
  intro i
  rw [List.getElem?_map]
  by_cases hi : i < xs.length
  · rw [List.getElem?_range hi, List.getElem?_reverse hi]
    show some (xs.getD (xs.length - 1 - i) pu0) = _
    rw [List.getD_eq_getElem?_getD, List.getElem?_eq_getElem (by omega)]
    rfl
  · rw [List.getElem?_eq_none (by simp; omega), List.getElem?_eq_none (by simp; omega)]
    rfl
theorem DlAt.keep3 {w w' : World} {p b : Nat} {v : Value} {s : Dl} (h : DlAt w p b v s) (hs : w.heap.size ≤ w'.heap.size) (hp : w'.heap[p]? = w.heap[p]?) (hb : w'.heap[b]? = w.heap[b]?) (hv : ∀ q, v.ownBlock = some q → w'.heap[q]? = w.heap[q]?) : DlAt w' p b v s :=
  ⟨hp.trans h.row, h.mp.keep hb, own_keep h.pus hs (fun q hq _ => hv q hq), h.ok⟩

set_option maxHeartbeats 4000000 in
theorem undo_bad {w : World} {p b : Nat} {v : Value} {s : Dl} (h : DlAt w p b v s) (m : Int) (hm : m < 0 ∨ (s.pus.length : Int) < m) : Calls Try.prog 17 #[.pointer (some ⟨p, 0, none⟩), .int .i64 m] w fun e w' => e = .returned (.int .i64 1) ∧ Below w.heap.size w w' := by
  have hb1 : Below w.heap.size w (w.alloc (.cells #[.pointer (some ⟨p, 0, none⟩)] 39)) := (Below.refl _ w).alloc (Nat.le_refl _) _
  have hc1 : (w.alloc (.cells #[.pointer (some ⟨p, 0, none⟩)] 39)).cell? ⟨w.heap.size, 0, none⟩ = some (.pointer (some ⟨p, 0, none⟩)) := by rw [cell_of_row _ _ _ _ _ (0, 0) (heap_alloc_new w _)]; rfl
  have hmk := dmark_any (h.below hb1)
  obtain ⟨w1, hw1⟩ : ∃ w1, w.alloc (.cells #[.pointer (some ⟨p, 0, none⟩)] 39) = w1 := ⟨_, rfl⟩
  rw [hw1] at hb1 hc1 hmk
  obtain ⟨N, hN⟩ : ∃ N, s.pus.length = N := ⟨_, rfl⟩
  rw [hN] at hmk hm
  clear hN h
  by_cases h0 : m < 0
  · go_enter Try.func17, Try.ntmps17
    go_wp2
    go_ret
    exact ⟨rfl, hb1⟩
  · have h1 : (N : Int) < m := by omega
    go_enter Try.func17, Try.ntmps17
    go_wp2_with fail
    refine hmk.mono ?_
    rintro e w2 ⟨rfl, rfl⟩
    go_wp2
    go_ret
    exact ⟨rfl, hb1⟩

/-! ### BODY -/
theorem load39 {w : World} {k p : Nat} (h : w.heap[k]? = some (.cells #[.pointer (some ⟨p, 0, none⟩)] 39 (0, 0))) : (Instr.loadAt 39 (.pointer (some ⟨k, 0, none⟩))).run Try.prog w = .ok (.pointer (some ⟨p, 0, none⟩)) w := by
  have c : w.cell? ⟨k, 0, none⟩ = some (.pointer (some ⟨p, 0, none⟩)) := by rw [cell_of_row _ _ _ _ _ (0, 0) h]; rfl
  have u := Try.underlying39
  go_simp
theorem flat_take {L : List Pu} (hL : ∀ c ∈ L, PuOk c) : ∀ m, m ≤ L.length → (L.flatMap puL).take (m * 51) = (L.take m).flatMap puL := by
  induction L with
  | nil => intro m hm; simp
  | cons c L ih =>
    intro m hm
    cases m with
    | zero => simp
    | succ m =>
      have hc := puL_len (hL c (by simp))
      rw [List.flatMap_cons, List.take_succ_cons, List.flatMap_cons, show (m + 1) * 51 = (puL c).length + m * 51 by rw [hc]; omega, List.take_length_add_append, ih (fun x hx => hL x (by simp [hx])) m (by simpa using hm)]
theorem flat_len {L : List Pu} (hL : ∀ c ∈ L, PuOk c) : (L.flatMap puL).length = L.length * 51 := by
  induction L with
  | nil => simp
  | cons c L ih => rw [List.flatMap_cons, List.length_append, puL_len (hL c (by simp)), ih (fun x hx => hL x (by simp [hx])), List.length_cons]; omega
theorem delPu_id (w : World) (a : Option Addr) (n c : Nat) (ha : a = none → c = 0) (hn : n ≤ c) (hc : c ≤ maxLen) : Calls Try.prog 38 #[.slice a n c, .int .i64 n, .int .i64 n] w fun e w' => e = .returned (.slice a n c) ∧ w' = w := by
  unfold maxLen at hc
  have hnc : (n : Int) ≤ (c : Int) := by omega
  cases a with
  | none =>
    obtain rfl := ha rfl
    obtain rfl : n = 0 := by omega
    go_enter Try.func38, Try.ntmps38
    go_wp2
    all_goals (go_ret; exact ⟨rfl, rfl⟩)
  | some x =>
    go_enter Try.func38, Try.ntmps38
    go_wp2
    all_goals (go_ret; exact ⟨rfl, rfl⟩)


set_option maxHeartbeats 8000000 in
theorem undo_row {w : World} {p b : Nat} {s : Dl} {g cap N m : Nat} (hmlt : m < N) (hN : N ≤ cap) (hcap : cap ≤ maxLen) (hNe : s.pus.length = N) (hbd : s.L.length + s.pus.length ≤ 1000) (h : DlAt w p b (.slice (some ⟨g, 0, none⟩) N cap) s) : Calls Try.prog 17 #[.pointer (some ⟨p, 0, none⟩), .int .i64 m] w fun e w' => e = .returned (.int .i64 0) ∧ ∃ v', DlAt w' p b v' (undoS s m) ∧ KeepQ p b (.slice (some ⟨g, 0, none⟩) N cap) w w' v' := by
  unfold maxLen at hcap
  have hrow0 := heap_alloc_new w (.cells #[.pointer (some ⟨p, 0, none⟩)] 39)
  have hb1 : Below w.heap.size w (w.alloc (.cells #[.pointer (some ⟨p, 0, none⟩)] 39)) := (Below.refl _ w).alloc (Nat.le_refl _) _
  have hc1 : (w.alloc (.cells #[.pointer (some ⟨p, 0, none⟩)] 39)).cell? ⟨w.heap.size, 0, none⟩ = some (.pointer (some ⟨p, 0, none⟩)) := by rw [cell_of_row _ _ _ _ _ (0, 0) (heap_alloc_new w _)]; rfl
  have hD1 := h.below hb1
  have hmk := dmark_any hD1
  have c2 := hD1.c2
  obtain ⟨w1, hw1⟩ : ∃ w1, w.alloc (.cells #[.pointer (some ⟨p, 0, none⟩)] 39) = w1 := ⟨_, rfl⟩
  rw [hw1] at hb1 hc1 hmk hD1 c2 hrow0
  have hpw := h.lt
  have hbw := h.mp.lt
  have hvw : ∀ q, (.slice (some ⟨g, 0, none⟩) N cap : Value).ownBlock = some q → q < w.heap.size := fun q hq => (World.ownsRow.lt h.pus q hq).2
  have hs1 := hb1.size
  have hbp := h.bp
  have hok := h.ok
  have hgb : g ≠ b := fun e => by
    obtain ⟨cs, e1⟩ := own_row hD1.pus (q := g) rfl
    obtain ⟨x, cl, e2⟩ := hD1.mp.isMap
    rw [e] at e1; rw [e1] at e2; cases e2
  have hcm : ¬ cap = m := by omega
  have hm0 : ¬ ((m : Int) < 0) := by omega
  have hm : ¬ ((N : Int) < (m : Int)) := by omega
  have hm2 : (m : Int) ≤ (N : Int) := by omega
  have hmc : (m : Int) ≤ (cap : Int) := by omega
  rw [hNe] at hmk
  have HNE : Hid (s.pus.length = N) := hNe
  clear hNe h
  have hs3 : (w1.alloc (.cells #[.slice (some ⟨g, m * 51, none⟩) (N - m) (cap - m)] 71)).heap.size = w1.heap.size + 1 := by simp
  have hb3 : Below w1.heap.size w1 (w1.alloc (.cells #[.slice (some ⟨g, m * 51, none⟩) (N - m) (cap - m)] 71)) := (Below.refl _ w1).alloc (Nat.le_refl _) _
  have hD3 := hD1.below hb3
  have hc3 : (w1.alloc (.cells #[.slice (some ⟨g, m * 51, none⟩) (N - m) (cap - m)] 71)).cell? ⟨w1.heap.size, 0, none⟩ = some (.slice (some ⟨g, m * 51, none⟩) (N - m) (cap - m)) := by rw [cell_of_row _ _ _ _ _ (0, 0) (heap_alloc_new w1 _)]; rfl
  have hrow3 := (hb3.block w.heap.size (by have := (Array.getElem?_eq_some_iff.1 hrow0).1; omega)).trans hrow0
  have hxl : (s.pus.drop m).length = N - m := by rw [List.length_drop, HNE.out]
  have hxok : ∀ x ∈ s.pus.drop m, PuOk x := fun x hx => hok.pus x (List.mem_of_mem_drop hx)
  have hseq := back_stops 2 (by decide) w1.heap.size b (w1.heap.size + 1) (some ⟨g, m * 51, none⟩) (cap - m) (s.pus.drop m) hxok (w1.alloc (.cells #[.slice (some ⟨g, m * 51, none⟩) (N - m) (cap - m)] 71)) (by omega) (by omega) (by rw [hs3]; exact Nat.le_refl _) (by rw [hxl]; exact hc3) (by unfold maxLen; omega) (by rw [hxl]; omega) (by rw [hxl]; have := HNE.out; omega)
    (fun hpos => ⟨g, m * 51, rfl, by have := hvw g rfl; omega, hgb, fun i hi j u hu => by
      obtain ⟨_, hq | ⟨g', c', cur, e, _, hg, h5, h6, h7, h8⟩⟩ := hD3.pus
      · cases hq.1
      · simp only [Value.slice.injEq, Option.some.injEq, Addr.mk.injEq, and_true] at e
        obtain ⟨rfl, _, rfl⟩ := e
        rw [hxl] at hi
        have hgd : (s.pus.drop m).getD i pu0 = s.pus.getD (m + i) pu0 := by rw [List.getD_eq_getElem?_getD, List.getElem?_drop, ← List.getD_eq_getElem?_getD]
        rw [hgd] at hu
        have hil : m + i < s.pus.length := by rw [HNE.out]; omega
        have hj : j < 51 := by have := (List.getElem?_eq_some_iff.1 hu).1; rwa [puL_len (getD_ok hok.pus _)] at this
        have e9 := flatPu_at hok.pus hil j hj
        rw [← h8, List.getElem?_take_of_lt (by have : (m + i + 1) * 51 ≤ s.pus.length * 51 := Nat.mul_le_mul_right 51 hil; omega)] at e9
        rw [cell_of_row _ _ _ _ _ (0, 0) hg, ← Array.getElem?_toList, ← hu, ← e9]
        congr 1; rw [Nat.add_mul]⟩)
  have eg : ∀ args w, (callFunc 52 args).run Try.prog w = .ok (.enter 52 args) w := enters_of Try.func52 (by kernel_rfl) rfl
  refine (callsIn_wide (n := 3)).1 ?_
  refine callsIn_of_wp_marks Try.func17 rfl trivial ?_ rfl
  refine wpIn_wide.2 ?_
  simp only [Try.ntmps17, List.size_toArray, List.length_cons, List.length_nil, Nat.reduceAdd, Nat.reduceSub, Array.replicate_succ, Array.replicate_zero, List.push_toArray, List.append_toArray, List.nil_append, List.cons_append]
  go_wp2_with fail
  refine hmk.mono ?_
  rintro e w2 ⟨rfl, rfl⟩
  go_wp2_with fail
  refine (backward_any _ _ _ _).mono ?_
  rintro e w3' ⟨rfl, rfl⟩
  go_wp2_with fail
  refine (wpIn_wide (n := 3)).1 ?_
  obtain ⟨w3, hw3⟩ : ∃ w3, w1.alloc (.cells #[.slice (some ⟨g, m * 51, none⟩) (N - m) (cap - m)] 71) = w3 := ⟨_, rfl⟩
  rw [hw3] at hs3 hb3 hD3 hc3 hrow3 hseq ⊢
  clear hw3 hc3 hmk c2 hc1 hw1
  have hz := zeroPu
  refine wpIn_rangeFunc_ownH rfl (by decide) (gf := 52) (lb := #[.pointer (some ⟨w1.heap.size, 0, none⟩)]) rfl trivial eg hseq KeepB.t (KeepB.b (by omega)) (Below.refl _ _) (fun _ => rfl)
    (fun pre W => DlAt W p b (.slice (some ⟨g, 0, none⟩) N cap) ⟨s.most, undoL s.L (pre.map PuI.x), s.pus⟩ ∧ Sole [b] w3 W)
    (fun _ _ _ => False)
    (fun pre A B row ⟨k1, k2⟩ hg hr => by
      have hlo : ∀ k, k < w3.heap.size → B.heap[k]? = A.heap[k]? := fun k hk => hg.block k (Nat.lt_of_lt_of_le hk k2.size) (fun e => by have := (hr k e.symm).1; omega)
      exact ⟨k1.keep3 hg.size (hlo p (by omega)) (hlo b (by omega)) (fun q hq => hlo q (by have := hvw q hq; omega)), k2.after (S' := row.toList) ⟨hg.os, hg.tape, hg.output, hg.size, fun k hk hn => hg.block k hk (fun e => hn (by rw [Option.mem_toList]; exact e.symm))⟩ (fun k hk => by rw [Option.mem_toList] at hk; exact .inr (hr k hk).1)⟩)
    (fun _ _ _ _ _ hs _ _ => hs)
    ⟨hD3, Sole.refl _ _⟩
    (fun x a' W => ∃ Bx, PuAt W Bx x.x ∧ a' = { tmps := #[.pointer (some ⟨p, 0, none⟩), .int .i64 m, .pointer (some ⟨w.heap.size, 0, none⟩), undef, .int .i64 0, undef, .pointer (some ⟨Bx, 0, none⟩), .int .i64 m, .bool false, .bool false, .int .i64 m, .pointer (some ⟨p, 0, none⟩), .int .i64 N, .bool false, .bool false, .pointer (some ⟨p, 0, none⟩), .pointer (some ⟨p, 0, none⟩), .pointer (some ⟨p, 2, none⟩), .slice (some ⟨g, 0, none⟩) N cap, .int .i64 m, .slice (some ⟨g, m * 51, none⟩) (N - m) (cap - m), .func (.func 52) #[] #[.pointer (some ⟨w1.heap.size, 0, none⟩)], .int .i64 (x.i : Int), .agg (puC x.x), undef, undef, undef, undef, undef, undef, undef, undef, undef, undef, undef, undef, undef, undef, undef, undef, undef], defers := [] })
    (fun x a' => Own.from (fun u A B row hs hg hr => by
      obtain ⟨Bx, hs, e⟩ := hs
      exact ⟨Bx, ⟨(hg.block Bx hs.lt (fun e' => by obtain ⟨o, ho, hc⟩ := hr Bx e'.symm; rw [hs.row] at ho; cases ho; cases hc)).trans hs.row⟩, e⟩) _) ?assign ?body ?done ?stop
  case assign =>
    rintro l pre x W K ⟨k1, k2⟩ hK
    have hn := heap_alloc_new W (.cells (puC pu0) 76)
    have hb := alloc_row (A := W) (.cells (puC pu0) 76) (puC x.x)
    have hx : PuAt ((W.alloc (.cells (puC pu0) 76)).setRow W.heap.size (puC x.x)) W.heap.size x.x := ⟨setRow_heap _ _ _ _ _ _ hn⟩
    obtain ⟨W1, hW1⟩ : ∃ W1, (W.alloc (.cells (puC pu0) 76)).setRow W.heap.size (puC x.x) = W1 := ⟨_, rfl⟩
    rw [hW1] at hb hx
    have hg : W.grownBy W1 none := ⟨hb.os, hb.tape, hb.output, hb.size, fun k hk _ => hb.block k hk⟩
    have hko : KeepsOthers W W1 := KeepsOthers.of_grownBy hg (fun j o ej => by cases ej)
    gi_wp2_with (refine wpListIn_storeS rfl 76 _ _ rfl W.heap.size (puC x.x) rfl rfl 76 (puC pu0) hn (by rw [puC_size x.ok]; exact size_pu) (by rw [puC_size x.ok, puC_size pu0_ok]) (one_pu _) ?_; rw [hW1])
    have hks := k2.size
    exact hK _ _ (hko.from _) ⟨hb.size, fun k hk _ => hb.block k (by omega)⟩ ⟨k1.below hb, k2.trans (Sole.of_below hb _)⟩ ⟨W.heap.size, hx, rfl⟩
  case body =>
    rintro l pre x a' W hl0 hrec ⟨k1, k2⟩ ⟨Bx, hx, rfl⟩ hlen
    have hks := k2.size
    have hrowW := (k2.block w.heap.size (by omega) (by simp; omega)).trans hrow3
    have h39 : Hid _ := load39 hrowW
    have h76 : Hid ((Instr.loadAt 76 (.pointer (some ⟨Bx, 0, none⟩))).run Try.prog W = .ok (.agg (puC x.x)) W) := by
      have hl := run_loadVar_row (P := Try.prog) W Bx _ 76 (puC x.x) _ _ hx.row Try.underlying76 rfl (by rw [puC_size x.ok]; exact size_pu)
      unfold Hid
      simp only [Instr.loadAt, Instr.sureAddr, Sem.run_bind, Sem.run_pure, Result.andThen_ok, hl]
    have hpl := undoL_len (pre.map PuI.x) s.L
    rw [List.length_map] at hpl
    rw [List.length_drop] at hlen
    have cu := undo1_any k1 x.x x.ok (by show (undoL s.L (pre.map PuI.x)).length ≤ 1000; omega)
    gi_wp2_with (first
      | (refine wpListIn_loadS rfl 39 _ rfl _ rfl _ h39.out ?_)
      | (refine wpListIn_loadS rfl 76 _ rfl _ rfl _ h76.out ?_))
    refine ⟨trivial, ?_⟩
    refine (CallsIn.inRound l (callsIn_wide.2 cu)).mono ?_
    rintro e W2 ⟨⟨r, rfl⟩, k3, k4⟩
    gi_wp2
    refine ⟨⟨k4.size, fun k o hk ho _ => (k4.block k (Array.getElem?_eq_some_iff.1 ho).1 (by simp; omega)).trans ho⟩, ⟨k4.size, fun k hk hne => k4.block k (by omega) (by simpa using hne)⟩, ?_, k2.trans k4⟩
    rw [List.map_append, List.map_cons, List.map_nil, undoL_snoc]
    exact k3
  case done =>
    rintro D ys W hD rfl ⟨k1, k2⟩ hK
    rw [back_list] at k1
    have hks := k2.size
    have hrowW := (k2.block w.heap.size (by omega) (by simp; omega)).trans hrow3
    obtain ⟨LL, hLL⟩ : ∃ LL, undoL s.L (s.pus.drop m).reverse = LL := ⟨_, rfl⟩
    rw [hLL] at k1
    have HLL : Hid (undoL s.L (s.pus.drop m).reverse = LL) := hLL
    clear hLL
    have hrowP := k1.row
    have hlp := k1.lt
    obtain ⟨gcur, hgW, hgs⟩ : ∃ cur, W.heap[g]? = some (.cells cur 76 (0, 0)) ∧ cur.size = cap * 51 ∧ cur.toList.take (N * 51) = s.pus.flatMap puL := by
      obtain ⟨_, hq | ⟨g', c', cur, e, _, hg, h5, h6, h7, h8⟩⟩ := k1.pus
      · cases hq.1
      · simp only [Value.slice.injEq, Option.some.injEq, Addr.mk.injEq, and_true] at e
        obtain ⟨rfl, _, rfl⟩ := e
        refine ⟨cur, hg, h7, ?_⟩
        have h8 : cur.toList.take (s.pus.length * 51) = s.pus.flatMap puL := h8
        rw [HNE.out] at h8; exact h8
    have hgp : g ≠ p := ne_of_type hgW hrowP (by decide)
    have hgn : g ≠ w.heap.size := ne_of_type hgW hrowW (by decide)
    have hDg : D ≠ g := fun e => by rw [e, hgW] at hK; cases hK
    have hDp : D ≠ p := fun e => by rw [e, hrowP] at hK; cases hK
    have hDb : D ≠ b := fun e => by
      obtain ⟨x, cl, hm⟩ := k1.mp.isMap
      rw [e, hm] at hK; cases hK
    have q1 : ∀ X, Sole [g] W X → X.heap[p]? = some (.cells (dlC s.most b (.slice (some ⟨g, 0, none⟩) N cap)) 73 (0, 0)) := fun X hX => (hX.block p hlp (by simp; omega)).trans hrowP
    have q2 : ∀ X, Sole [g] W X → X.heap[w.heap.size]? = some (.cells #[.pointer (some ⟨p, 0, none⟩)] 39 (0, 0)) := fun X hX => (hX.block w.heap.size (by omega) (by simp; omega)).trans hrowW
    have hgd : W.drew.heap[g]? = some (.cells gcur 76 (0, 0)) := hgW
    have cd := delPu_any W.drew g N cap m gcur hgd hgs.1 hN (by unfold maxLen; omega) hmlt
    have HK1 : Hid (DlAt W p b (.slice (some ⟨g, 0, none⟩) N cap) ⟨s.most, LL, s.pus⟩) := k1
    have HK2 : Hid (Sole [b] w3 W) := k2
    have HKD : Hid (W.heap[D]? = some (.deferred (some []))) := hK
    have HGS : Hid _ := hgs
    clear k1 k2 hK hgs hseq hrow3 hrow0
    go_wp2_with fail
    refine wp_region_noPanic ?_
    refine wp_region_sink 14 (S := fun X => Sole [g] W X) (by kernel_rfl) (by kernel_rfl) (Sole.drew _ _) (fun hHeld => ?_)
    refine wpAnyH_take (i := 0) (v := .pointer (some ⟨p, 0, none⟩)) rfl (by kernel_rfl) (by kernel_rfl) (by kernel_rfl) (fun _ _ _ h => h) (yields_load (by rfl) _ _ rfl _ rfl _ (fun W h => load39 (q2 W h))) (by assumption) ?_
    try simp only [List.getElem_toArray, List.getElem_cons_zero, List.getElem_cons_succ, Act.put, List.setIfInBounds_toArray, List.set_cons_zero, List.set_cons_succ]
    refine wpAnyH_take (i := 1) (v := .pointer (some ⟨p, 0, none⟩)) rfl (by kernel_rfl) (by kernel_rfl) (by kernel_rfl) (fun _ _ _ h => h) (yields_load (by rfl) _ _ rfl _ rfl _ (fun W h => load39 (q2 W h))) (by assumption) ?_
    try simp only [List.getElem_toArray, List.getElem_cons_zero, List.getElem_cons_succ, Act.put, List.setIfInBounds_toArray, List.set_cons_zero, List.set_cons_succ]
    refine wpAnyH_take (i := 2) (v := .pointer (some ⟨p, 0, none⟩)) rfl (by kernel_rfl) (by kernel_rfl) (by kernel_rfl) (fun _ _ _ h => h) (Or.inl ⟨by rfl, fun W hSw => by (try dsimp only at hSw); go_simp⟩) (by assumption) ?_
    try simp only [List.getElem_toArray, List.getElem_cons_zero, List.getElem_cons_succ, Act.put, List.setIfInBounds_toArray, List.set_cons_zero, List.set_cons_succ]
    refine wpAnyH_take (i := 3) (v := .pointer (some ⟨p, 2, none⟩)) rfl (by kernel_rfl) (by kernel_rfl) (by kernel_rfl) (fun _ _ _ h => h) (Or.inl ⟨by rfl, fun W hSw => by (try dsimp only at hSw); go_simp⟩) (by assumption) ?_
    try simp only [List.getElem_toArray, List.getElem_cons_zero, List.getElem_cons_succ, Act.put, List.setIfInBounds_toArray, List.set_cons_zero, List.set_cons_succ]
    refine wpAnyH_take (i := 4) (v := .slice (some ⟨g, 0, none⟩) N cap) rfl (by kernel_rfl) (by kernel_rfl) (by kernel_rfl) (fun _ _ _ h => h) (yields_load (by rfl) _ _ rfl _ rfl _ (fun W h => load2_row (q1 W h))) (by assumption) ?_
    try simp only [List.getElem_toArray, List.getElem_cons_zero, List.getElem_cons_succ, Act.put, List.setIfInBounds_toArray, List.set_cons_zero, List.set_cons_succ]
    refine wpAnyH_take (i := 5) (v := .int .i64 m) rfl (by kernel_rfl) (by kernel_rfl) (by kernel_rfl) (fun _ _ _ h => h) (Or.inl ⟨by rfl, fun W hSw => by (try dsimp only at hSw); go_simp⟩) (by assumption) ?_
    try simp only [List.getElem_toArray, List.getElem_cons_zero, List.getElem_cons_succ, Act.put, List.setIfInBounds_toArray, List.set_cons_zero, List.set_cons_succ]
    refine wpAnyH_take (i := 6) (v := .pointer (some ⟨p, 0, none⟩)) rfl (by kernel_rfl) (by kernel_rfl) (by kernel_rfl) (fun _ _ _ h => h) (yields_load (by rfl) _ _ rfl _ rfl _ (fun W h => load39 (q2 W h))) (by assumption) ?_
    try simp only [List.getElem_toArray, List.getElem_cons_zero, List.getElem_cons_succ, Act.put, List.setIfInBounds_toArray, List.set_cons_zero, List.set_cons_succ]
    refine wpAnyH_take (i := 7) (v := .pointer (some ⟨p, 0, none⟩)) rfl (by kernel_rfl) (by kernel_rfl) (by kernel_rfl) (fun _ _ _ h => h) (Or.inl ⟨by rfl, fun W hSw => by (try dsimp only at hSw); go_simp⟩) (by assumption) ?_
    try simp only [List.getElem_toArray, List.getElem_cons_zero, List.getElem_cons_succ, Act.put, List.setIfInBounds_toArray, List.set_cons_zero, List.set_cons_succ]
    refine wpAnyH_take (i := 8) (v := .pointer (some ⟨p, 2, none⟩)) rfl (by kernel_rfl) (by kernel_rfl) (by kernel_rfl) (fun _ _ _ h => h) (Or.inl ⟨by rfl, fun W hSw => by (try dsimp only at hSw); go_simp⟩) (by assumption) ?_
    try simp only [List.getElem_toArray, List.getElem_cons_zero, List.getElem_cons_succ, Act.put, List.setIfInBounds_toArray, List.set_cons_zero, List.set_cons_succ]
    refine wpAnyH_take (i := 9) (v := .slice (some ⟨g, 0, none⟩) N cap) rfl (by kernel_rfl) (by kernel_rfl) (by kernel_rfl) (fun _ _ _ h => h) (yields_load (by rfl) _ _ rfl _ rfl _ (fun W h => load2_row (q1 W h))) (by assumption) ?_
    try simp only [List.getElem_toArray, List.getElem_cons_zero, List.getElem_cons_succ, Act.put, List.setIfInBounds_toArray, List.set_cons_zero, List.set_cons_succ]
    refine wpAnyH_take (i := 10) (v := .int .i64 N) rfl (by kernel_rfl) (by kernel_rfl) (by kernel_rfl) (fun _ _ _ h => h) (Or.inl ⟨by rfl, fun W hSw => by (try dsimp only at hSw); go_simp⟩) (by assumption) ?_
    try simp only [List.getElem_toArray, List.getElem_cons_zero, List.getElem_cons_succ, Act.put, List.setIfInBounds_toArray, List.set_cons_zero, List.set_cons_succ]
    refine wpAnyH_ready (rs := [11]) (by kernel_rfl) (by simp) ?_
    refine AllReadyH.cons rfl (fun K hK => ?_) AllReadyH.nil
    go_simp
    go_wp2_with (go_at_call 38; refine cd.mono ?_; rintro e X1 ⟨rfl, cs, j1, j2, j3, j4⟩)
    have hX1 : Sole [g] W X1 := (Sole.drew W _).trans j4
    refine hK.out _ _ hX1 (fun hHeld2 => ?_)
    clear hK K
    try simp only [List.getElem_toArray, List.getElem_cons_zero, List.getElem_cons_succ, Act.put, List.setIfInBounds_toArray, List.set_cons_zero, List.set_cons_succ]
    refine wpAnyH_take (i := 12) (v := .pointer (some ⟨p, 0, none⟩)) rfl (by kernel_rfl) (by kernel_rfl) (by kernel_rfl) (fun _ _ _ h => h) (Or.inl ⟨by rfl, fun W hSw => by (try dsimp only at hSw); go_simp⟩) (by assumption) ?_
    try simp only [List.getElem_toArray, List.getElem_cons_zero, List.getElem_cons_succ, Act.put, List.setIfInBounds_toArray, List.set_cons_zero, List.set_cons_succ]
    refine wpAnyH_take (i := 13) (v := .pointer (some ⟨p, 2, none⟩)) rfl (by kernel_rfl) (by kernel_rfl) (by kernel_rfl) (fun _ _ _ h => h) (Or.inl ⟨by rfl, fun W hSw => by (try dsimp only at hSw); go_simp⟩) (by assumption) ?_
    try simp only [List.getElem_toArray, List.getElem_cons_zero, List.getElem_cons_succ, Act.put, List.setIfInBounds_toArray, List.set_cons_zero, List.set_cons_succ]
    have hG1 := q1 X1 hX1
    have c12 : X1.cell? ⟨p, 2, none⟩ = some (.slice (some ⟨g, 0, none⟩) N cap) := by rw [cell_of_row _ _ _ _ _ (0, 0) hG1]; rfl
    have f12 := frozen_of_row X1 p 2 _ _ hG1
    have hG2 := heap_setCell_same X1 p 2 _ _ (.slice (some ⟨g, 0, none⟩) m cap) hG1
    obtain ⟨X2, hX2⟩ : ∃ X2, X1.setCell ⟨p, 2, none⟩ (.slice (some ⟨g, 0, none⟩) m cap) = X2 := ⟨_, rfl⟩
    have hS12 : Sole [p] X1 X2 := by rw [← hX2]; exact Sole.setCell _ _ (by simp)
    rw [hX2] at hG2
    have hG2' : X2.heap[p]? = some (.cells (dlC s.most b (.slice (some ⟨g, 0, none⟩) m cap)) 73 (0, 0)) := hG2
    have HG2 : Hid _ := hG2'
    have hX1s := hX1.size
    have HKD2 : Hid (X2.heap[D]? = some (.deferred (some []))) := by
      have hl := (Array.getElem?_eq_some_iff.1 HKD.out).1
      exact (hS12.block D (by omega) (by simpa using hDp)).trans ((hX1.block D hl (by simpa using hDg)).trans HKD.out)
    have HX1 : Hid (Sole [g] W X1) := hX1
    have HX2 : Hid (Sole [p] X1 X2) := hS12
    have HJ : Hid (X1.heap[g]? = some (.cells cs 76 (0, 0)) ∧ cs.size = cap * 51 ∧ cs.toList.take (m * 51) = gcur.toList.take (m * 51)) := ⟨j1, j2, j3⟩
    refine wpAnyH_done (by kernel_rfl) ?_ _
    refine Behind.run (by rfl) ?_
    go_simp
    go_wp2
    refine NoPanic.normal ?_
    clear q1 q2 hG1 hG2 hG2' c12 f12 hX1 hS12 j1 j2 j3 j4 hHeld hHeld2 cd hgd hgW
    go_wp2
    refine ⟨by simp, .inl ⟨_, _, rfl, run_takeDeferred HKD2.out, ?_⟩⟩
    refine ⟨_, results_tmp rfl _ _ _, rfl, .slice (some ⟨g, 0, none⟩) m cap, ?_, ?_⟩
    · have hX1b := HX1.out
      have hX2b := HX2.out
      have hWb := HK1.out.mp.lt
      have hWg := (Array.getElem?_eq_some_iff.1 HJ.out.1).1
      have k1 := HK1.out
      have eb : (X2.putObj D (.deferred none)).heap[b]? = W.heap[b]? := (World.putObj_heap_other (Ne.symm hDb)).trans ((hX2b.block b (by omega) (by simpa using hbp)).trans (hX1b.block b hWb (by simpa using Ne.symm hgb)))
      have eg' : (X2.putObj D (.deferred none)).heap[g]? = some (.cells cs 76 (0, 0)) := (World.putObj_heap_other (Ne.symm hDg)).trans ((hX2b.block g hWg (by simpa using hgp)).trans HJ.out.1)
      have hpk : ∀ x ∈ s.pus.take m, PuOk x := fun x hx => hok.pus x (List.mem_of_mem_take hx)
      have hml : m ≤ s.pus.length := by rw [HNE.out]; omega
      have htl : (s.pus.take m).length = m := by rw [List.length_take]; omega
      unfold undoS
      rw [HLL.out]
      refine ⟨(World.putObj_heap_other (Ne.symm hDp)).trans HG2.out, k1.mp.keep eb, ?_, ⟨k1.ok.m0, k1.ok.m1, k1.ok.L, hpk⟩⟩
      dsimp only
      rw [htl]
      refine ⟨by rw [flat_len hpk, htl], .inr ⟨g, cap, cs, rfl, Nat.zero_le _, eg', by omega, by unfold maxLen; omega, HJ.out.2.1, ?_⟩⟩
      rw [HJ.out.2.2, ← flat_take hok.pus m hml, ← HGS.out.2, List.take_take, Nat.min_eq_left (Nat.mul_le_mul_right 51 (by omega))]
    · have a1 := HX1.out
      have a2 := HX2.out
      have a3 := HK2.out
      have s3 := a3.size
      have s1 := a1.size
      exact ⟨a2.os.trans (a1.os.trans (a3.os.trans (hb3.os.trans hb1.os))), a2.tape.trans (a1.tape.trans (a3.tape.trans (hb3.tape.trans hb1.tape))), a2.output.trans (a1.output.trans (a3.output.trans (hb3.output.trans hb1.output))), by
        have := a2.size
        have e : (X2.putObj D (.deferred none)).heap.size = X2.heap.size := by simp
        rw [e]; omega, fun k hk h1 h2 h3 => by
        have hkg : k ≠ g := fun e => h3 (by rw [e]; rfl)
        exact (World.putObj_heap_other (by omega)).trans ((a2.block k (by omega) (by simpa using h1)).trans ((a1.block k (by omega) (by simpa using hkg)).trans ((a3.block k (by omega) (by simpa using h2)).trans ((hb3.block k (by omega)).trans (hb1.block k hk))))), fun k hk => .inl hk⟩
  case stop =>
    rintro D c pre W _ _ h _
    exact h.elim

end Go.Proofs.Ytpbokenambjclaa
