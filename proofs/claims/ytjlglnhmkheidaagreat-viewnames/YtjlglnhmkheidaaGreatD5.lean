/- DgState, DgUndo, DlRow0, DgApp: in one text. -/
import Derived.Test.YtjlglnhmkheidaaGreatD3
import Derived.Test.YtjlglnhmkheidaaGreatDlPut2
import Derived.Test.YtjlglnhmkheidaaGreatD4
import Derived.Deep.MidRow
import Derived.Laws.AppendOwnNone
namespace Go.Proofs.YtjlglnhmkheidaaGreat
open Go.RowKit
set_option linter.unusedVariables false
set_option linter.unusedSimpArgs false
set_option maxRecDepth 4000

set_option maxRecDepth 100000

def xdC (v : Value) (m : Int) : Array Value := #[v, .int .i64 m]
structure XdAt (w : World) (p : Nat) (v : Value) (m : Int) (xs : List Cg) : Prop where
  row : w.heap[p]? = some (.cells (xdC v m) 105 (0, 0))
  at_ : w.ownsRow 0 56 46 v xs.length (xs.flatMap cgL)
  ok : ∀ c ∈ xs, CgOk c
theorem XdAt.lt {w : World} {p : Nat} {v : Value} {m : Int} {xs : List Cg} (h : XdAt w p v m xs) : p < w.heap.size := (Array.getElem?_eq_some_iff.1 h.row).1
theorem XdAt.c0 {w : World} {p : Nat} {v : Value} {m : Int} {xs : List Cg} (h : XdAt w p v m xs) : w.cell? ⟨p, 0, none⟩ = some v := by rw [cell_of_row _ _ _ _ _ (0, 0) h.row]; rfl
theorem XdAt.c1 {w : World} {p : Nat} {v : Value} {m : Int} {xs : List Cg} (h : XdAt w p v m xs) : w.cell? ⟨p, 1, none⟩ = some (.int .i64 m) := by rw [cell_of_row _ _ _ _ _ (0, 0) h.row]; rfl
theorem XdAt.keep {w w' : World} {p : Nat} {v : Value} {m : Int} {xs : List Cg} (h : XdAt w p v m xs) (hs : w.heap.size ≤ w'.heap.size) (hp : w'.heap[p]? = w.heap[p]?) (hv : ∀ q, v.ownBlock = some q → w'.heap[q]? = w.heap[q]?) : XdAt w' p v m xs :=
  ⟨hp.trans h.row, own_keep h.at_ hs (fun q hq _ => hv q hq), h.ok⟩
theorem XdAt.below {w w' : World} {p : Nat} {v : Value} {m : Int} {xs : List Cg} (h : XdAt w p v m xs) (hb : Below w.heap.size w w') : XdAt w' p v m xs :=
  h.keep hb.size (hb.block _ h.lt) fun q hq => hb.block q (World.ownsRow.lt h.at_ q hq).2
theorem XdAt.shape {w : World} {p : Nat} {v : Value} {m : Int} {xs : List Cg} (h : XdAt w p v m xs) : ∃ a c, v = .slice a xs.length c := own_shape h.at_

theorem xnew_any (w : World) (m : Int) : Calls Tryz.prog 32 #[.int .i64 m] w fun e w' => e = .returned (.pointer (some ⟨w.heap.size, 0, none⟩)) ∧ XdAt w' w.heap.size (.slice none 0 0) (max m 0) [] ∧ Below w.heap.size w w' := by
  have hB : ∀ o, Below w.heap.size w (w.alloc o) := fun o => (Below.refl _ w).alloc (Nat.le_refl _) o
  have hx : ∀ x, XdAt (w.alloc (.cells #[.slice none 0 0, .int .i64 x] 105)) w.heap.size (.slice none 0 0) x [] := fun x => ⟨heap_alloc_new w _, World.ownsRow_nil _ _ _ _, fun c hc => by cases hc⟩
  go_enter Tryz.func32, Tryz.ntmps32
  go_wp2
  all_goals go_ret
  all_goals first
    | exact ⟨rfl, hx _, hB _⟩
    | (rw [show max m 0 = 0 by omega]; exact ⟨rfl, hx _, hB _⟩)
    | (rw [show max m 0 = m by omega]; exact ⟨rfl, hx _, hB _⟩)

set_option maxRecDepth 100000

theorem own_cut {w : World} {base k n j c : Nat} {e : TypeId} {a : Option Addr} {xs : List Value} (h : w.ownsRow base e k (.slice a n c) n xs) (hj : j ≤ n) : w.ownsRow base e k (.slice a j c) j (xs.take (j * k)) := by
  obtain ⟨h1, ⟨h2, h3⟩ | ⟨g, cap, cur, e1, h3, h4, h5, h6, h7, h8⟩⟩ := h
  · subst h3
    simp only [Value.slice.injEq, true_and] at h2
    obtain ⟨rfl, rfl⟩ := h2
    obtain rfl : j = 0 := by omega
    exact ⟨by simp, .inl ⟨rfl, rfl⟩⟩
  · simp only [Value.slice.injEq, true_and] at e1
    obtain ⟨rfl, rfl⟩ := e1
    have hm : j * k ≤ n * k := Nat.mul_le_mul_right k hj
    refine ⟨by rw [List.length_take, h1]; omega, .inr ⟨g, c, cur, rfl, h3, h4, by omega, h6, h7, ?_⟩⟩
    rw [← h8, List.take_take, Nat.min_eq_left hm]
theorem flatX_take {xs : List Cg} (h : ∀ c ∈ xs, CgOk c) (j : Nat) : (xs.flatMap cgL).take (j * 46) = (xs.take j).flatMap cgL := by
  induction xs generalizing j with
  | nil => simp
  | cons x xs ih =>
    cases j with
    | zero => simp
    | succ j =>
      have hl := cgL_len (h x (by simp)).pt.ch.1
      rw [List.take_succ_cons, List.flatMap_cons, List.flatMap_cons, List.take_append, hl, List.take_of_length_le (by rw [hl]; omega), show (j + 1) * 46 - 46 = j * 46 by omega, ih (fun c hc => h c (by simp [hc]))]

/-- One of a row of changes. -/
theorem flat_at {L : List Cg} (hL : ∀ c ∈ L, CgOk c) {i : Nat} (hi : i < L.length) (j : Nat) (hj : j < 46) : (L.flatMap cgL)[i * 46 + j]? = (cgL (L.getD i cg0))[j]? := by
  induction L generalizing i with
  | nil => simp at hi
  | cons c L ih =>
    have hc := cgL_len (hL c (by simp)).pt.ch.1
    rw [List.flatMap_cons]
    cases i with
    | zero =>
      rw [List.getElem?_append_left (by omega)]
      simp
    | succ i =>
      rw [List.getElem?_append_right (by omega), hc, show (i + 1) * 46 + j - 46 = i * 46 + j by omega]
      exact ih (fun x hx => hL x (by simp [hx])) (by simpa using hi)
structure RowG (w : World) (g : Nat) (L : List Cg) : Prop where
  at_ : ∀ i, i < L.length → w.rangeAt g (i * 46) (cgL (L.getD i cg0))
  lt : g < w.heap.size
theorem RowG.below {w w' : World} {g : Nat} {L : List Cg} (h : RowG w g L) (hb : Below w.heap.size w w') : RowG w' g L :=
  ⟨fun i hi j u hu => (World.cell?_of_block (hb.block g h.lt)).trans (h.at_ i hi j u hu), Nat.lt_of_lt_of_le h.lt hb.size⟩
theorem RowG.load {w : World} {g : Nat} {L : List Cg} (h : RowG w g L) {i : Nat} (hi : i < L.length) (hk : CgOk (L.getD i cg0)) : (Instr.loadAt 56 (.pointer (some ⟨g, i * 46, none⟩))).run Tryz.prog w = .ok (.agg (cgC (L.getD i cg0))) w :=
  run_loadAt_mid (P := Tryz.prog) w g (i * 46) 56 _ _ (h.at_ i hi) Tryz.underlying56 rfl (by rw [cgL_len hk.pt.ch.1]; exact size_cg)
theorem RowG.loadP {w : World} {g : Nat} {L : List Cg} (h : RowG w g L) {i : Nat} (hi : i < L.length) : (Instr.loadAt 26 (.pointer (some ⟨g, i * 46, none⟩))).run Tryz.prog w = .ok (plV (L.getD i cg0).pl) w := by
  have hr : w.rangeAt g (i * 46) (plCells (L.getD i cg0).pl).toList := fun j u hu => h.at_ i hi j u (by
    have : (cgL (L.getD i cg0)) = (plCells (L.getD i cg0).pl).toList ++ (cgL (L.getD i cg0)).drop 4 := rfl
    rw [this, List.getElem?_append_left (List.getElem?_eq_some_iff.1 hu).1]; exact hu)
  exact run_loadAt_mid w g (i * 46) 26 (plCells (L.getD i cg0).pl).toList _ hr Tryz.underlying26 rfl (by kernel_rfl)
theorem row_of {w : World} {base : Nat} {u : Value} {L : List Cg} (hL : ∀ c ∈ L, CgOk c) (h : w.ownsRow base 56 46 u L.length (L.flatMap cgL)) : ∃ a c, u = .slice a L.length c ∧ (0 < L.length → ∃ g, a = some ⟨g, 0, none⟩ ∧ RowG w g L ∧ base ≤ g ∧ (∃ cs, w.heap[g]? = some (.cells cs 56 (0, 0)) ∧ L.length * 46 ≤ cs.size)) := by
  obtain ⟨h1, ⟨rfl, h2⟩ | ⟨g, cap, cur, rfl, h3, h4, h5, h6, h7, h8⟩⟩ := h
  · exact ⟨none, 0, by rw [h2], fun h => by omega⟩
  · refine ⟨_, _, rfl, fun hp => ⟨g, rfl, ⟨fun i hi j u hu => ?_, (Array.getElem?_eq_some_iff.1 h4).1⟩, h3, cur, h4, by rw [h7]; exact Nat.mul_le_mul_right 46 h5⟩⟩
    have hk : CgOk (L.getD i cg0) := hL _ (by rw [List.getD_eq_getElem?_getD, List.getElem?_eq_getElem hi]; exact List.getElem_mem _)
    have hj : j < 46 := by have := (List.getElem?_eq_some_iff.1 hu).1; rwa [cgL_len hk.pt.ch.1] at this
    rw [cell_of_row _ _ _ _ _ (0, 0) h4, ← Array.getElem?_toList]
    have e := flat_at hL hi j hj
    rw [← h8, List.getElem?_take_of_lt (by
      have : (i + 1) * 46 ≤ L.length * 46 := Nat.mul_le_mul_right 46 hi
      omega)] at e
    rw [e]; exact hu
theorem getD_mem {L : List Cg} {i : Nat} (hi : i < L.length) : L.getD i cg0 ∈ L := by
  rw [List.getD_eq_getElem?_getD, List.getElem?_eq_getElem hi]; exact List.getElem_mem _
theorem getD_rise {L : List Cg} (h : Rise L) {i j : Nat} (hij : i < j) (hj : j < L.length) : cmpP (L.getD i cg0).pl (L.getD j cg0).pl = -1 := by
  rw [List.getD_eq_getElem?_getD, List.getD_eq_getElem?_getD, List.getElem?_eq_getElem (show i < L.length by omega), List.getElem?_eq_getElem hj]
  exact List.pairwise_iff_getElem.1 h i j (by omega) hj hij

theorem range_load {W : World} {g off : Nat} {c : Cg} (h : W.rangeAt g off (cgL c)) (hk : CgOk c) : (Instr.loadAt 56 (.pointer (some ⟨g, off, none⟩))).run Tryz.prog W = .ok (.agg (cgC c)) W :=
  run_loadAt_mid (P := Tryz.prog) W g off 56 _ _ h Tryz.underlying56 rfl (by rw [cgL_len hk.pt.ch.1]; exact size_cg)

/-- A row of changes that is read. -/
def RdC (w : World) (u : Value) (B : List Cg) : Prop := ∃ a c, u = .slice a B.length c ∧ (a = none → c = 0) ∧ (0 < B.length → ∃ g off, a = some ⟨g, off, none⟩ ∧ g < w.heap.size ∧ ∀ j x, (B.flatMap cgL)[j]? = some x → w.cell? ⟨g, off + j, none⟩ = some x)
theorem RdC.below {w w' : World} {u : Value} {B : List Cg} (h : RdC w u B) (hb : Below w.heap.size w w') : RdC w' u B := by
  obtain ⟨a, c, rfl, h1, h2⟩ := h
  refine ⟨a, c, rfl, h1, fun hp => ?_⟩
  obtain ⟨g, off, e, h3, h4⟩ := h2 hp
  exact ⟨g, off, e, Nat.lt_of_lt_of_le h3 hb.size, fun j x hj => (hb.cell (p := ⟨g, off + j, none⟩) h3).trans (h4 j x hj)⟩
theorem rdC_own {w : World} {base : Nat} {u : Value} {B : List Cg} (h : w.ownsRow base 56 46 u B.length (B.flatMap cgL)) : RdC w u B := by
  obtain ⟨h1, ⟨rfl, h2⟩ | ⟨g, cap, cur, rfl, h3, h4, h5, h6, h7, h8⟩⟩ := h
  · exact ⟨none, 0, by rw [h2], fun _ => rfl, fun h => by omega⟩
  · refine ⟨_, _, rfl, fun e => (by cases e), fun hp => ⟨g, 0, rfl, (Array.getElem?_eq_some_iff.1 h4).1, fun j x hj => ?_⟩⟩
    rw [cell_of_row _ _ _ _ _ (0, 0) h4, Nat.zero_add, ← Array.getElem?_toList]
    rw [← h8] at hj
    rw [List.getElem?_take] at hj
    split at hj
    · exact hj
    · cases hj
theorem flatC_len {B : List Cg} (h : ∀ c ∈ B, CgOk c) : (B.flatMap cgL).length = B.length * 46 := by
  induction B with
  | nil => rfl
  | cons x B ih => rw [List.flatMap_cons, List.length_append, cgL_len (h x (by simp)).pt.ch.1, ih (fun c hc => h c (by simp [hc])), List.length_cons]; omega
theorem flatC_drop {xs : List Cg} (h : ∀ c ∈ xs, CgOk c) (t : Nat) : (xs.flatMap cgL).drop (t * 46) = (xs.drop t).flatMap cgL := by
  induction xs generalizing t with
  | nil => simp
  | cons x xs ih =>
    cases t with
    | zero => simp
    | succ t =>
      have hl := cgL_len (h x (by simp)).pt.ch.1
      rw [List.drop_succ_cons, List.flatMap_cons, List.drop_append, hl, List.drop_of_length_le (by rw [hl]; omega), List.nil_append, show (t + 1) * 46 - 46 = t * 46 by omega, ih (fun c hc => h c (by simp [hc]))]
def cutC (a : Option Addr) (c t : Nat) : Option Addr := if c = t then a else a.map (·.add (t * 46))
theorem rdC_to {w : World} {a : Option Addr} {n c : Nat} {B : List Cg} (hB : ∀ c ∈ B, CgOk c) (h : RdC w (.slice a n c) B) (f : Nat) (hf : f ≤ n) : RdC w (.slice a f c) (B.take f) := by
  obtain ⟨a', c', e, h1, h2⟩ := h
  simp only [Value.slice.injEq] at e
  obtain ⟨rfl, rfl, rfl⟩ := e
  refine ⟨a, c, by rw [List.length_take, Nat.min_eq_left hf], h1, fun hp => ?_⟩
  rw [List.length_take, Nat.min_eq_left hf] at hp
  obtain ⟨g, off, e, h3, h4⟩ := h2 (by omega)
  refine ⟨g, off, e, h3, fun j x hj => h4 j x ?_⟩
  rw [← flatX_take hB, List.getElem?_take] at hj
  split at hj
  · exact hj
  · cases hj
theorem rdC_cut {w : World} {a : Option Addr} {n c : Nat} {B : List Cg} (hB : ∀ c ∈ B, CgOk c) (h : RdC w (.slice a n c) B) (t : Nat) (ht : t ≤ n) (hc : n ≤ c) : RdC w (.slice (cutC a c t) (n - t) (c - t)) (B.drop t) := by
  obtain ⟨a', c', e, h1, h2⟩ := h
  simp only [Value.slice.injEq] at e
  obtain ⟨rfl, rfl, rfl⟩ := e
  refine ⟨_, _, by rw [List.length_drop], fun hn => ?_, fun hp => ?_⟩
  · unfold cutC at hn
    split at hn
    · have := h1 hn; omega
    · have := h1 (by cases a with | none => rfl | some _ => cases hn); omega
  · rw [List.length_drop] at hp
    obtain ⟨g, off, e, h3, h4⟩ := h2 (by omega)
    refine ⟨g, off + t * 46, ?_, h3, fun j x hj => ?_⟩
    · unfold cutC
      rw [if_neg (by omega), e]
      simp [Addr.add]
    · rw [Nat.add_assoc]
      refine h4 (t * 46 + j) x ?_
      rw [← flatC_drop hB, List.getElem?_drop] at hj
      exact hj

/-- A row of changes of the call's own. -/
structure OwnC (base : Nat) (w : World) (v : Value) (A : List Cg) : Prop where
  own : w.ownsRow base 56 46 v A.length (A.flatMap cgL)
theorem info_cg : (Tryz.prog.info? 56).map (fun i => (i.zero, i.size, i.bytes)) = some (some (.agg (cgC cg0)), 46, 136) := by kernel_rfl

theorem wpList_append_cg {w : World} {ops : Array Oper} {rest : List Oper} {o : Oper} {a : Act} {Q : Exit → Act → World → Prop} (hgd : o.guard = none) (s x : Operand)
    (ho : o.op = .call { callee := .builtin .append, args := #[s, x], argTypes := #[23, 23] }) (base : Nat)
    (v : Value) (A : List Cg) (hs : a.eval s = v) (hown : w.ownsRow base 56 46 v A.length (A.flatMap cgL)) (u : Value) (B : List Cg) (hB : ∀ c ∈ B, CgOk c) (hx : a.eval x = u) (hrd : RdC w u B)
    (hlen : A.length + B.length ≤ 1000000) (hbase : base ≤ w.heap.size)
    (h : ∀ v' w', OwnC base w' v' (A ++ B) → w.grownBy w' v.ownBlock → wpList Tryz.prog ops Q rest (a.put o.dst v') w') : wpList Tryz.prog ops Q (o :: rest) a w := by
  obtain ⟨i0, hi, hz0, hz1, hz2⟩ := info3 info_cg
  obtain ⟨ad, cap, rfl, hn, h4⟩ := hrd
  cases ad with
  | none =>
    have hl0 : B = [] := by
      cases B with
      | nil => rfl
      | cons y r => obtain ⟨g, off, e, _⟩ := h4 (by simp); cases e
    subst hl0
    have hc0 := hn rfl
    subst hc0
    refine wpList_append_own_none hgd s x 23 ho base 56 i0 46 Tryz.underlying23 hi v _ _ hs hown hx ?_
    exact h v w ⟨by rw [List.append_nil]; exact hown⟩ (World.grownBy.refl _ _)
  | some ad =>
    refine wpList_append_own w hgd s x 23 ho base 56 i0 _ 46 136 Tryz.underlying23 hi hz0 hz1 hz2 (cgC_size cg0_ok.pt.ch.1) (by decide) v _ _ hs hown ad B.length cap (B.flatMap cgL) hx (flatC_len hB) ?_ (fun u hu => by obtain ⟨x, _, hx⟩ := List.mem_flatMap.1 hu; exact one_cgL x u hx) ?_ ?_ hbase ?_
    · intro j u hj
      have hjl := (List.getElem?_eq_some_iff.1 hj).1
      have hne : 0 < B.length := by
        cases B with
        | nil => simp at hjl
        | cons _ _ => simp
      obtain ⟨g, off, e1, _, hcell⟩ := h4 hne
      cases e1
      have hadd : (⟨g, off, none⟩ : Addr).add j = ⟨g, off + j, none⟩ := by unfold Addr.add; split <;> simp_all
      rw [hadd]
      exact hcell j u hj
    · unfold maxLen; omega
    · omega
    · intro v' w' h5 h6 _
      exact h v' w' ⟨by rw [List.length_append, List.flatMap_append]; exact h5⟩ h6

theorem wpList_buildS {w w' : World} {ops : Array Oper} {rest : List Oper} {o : Oper} {a : Act} {Q : Exit → Act → World → Prop} {v : Value} (hgd : o.guard = none) (t : TypeId) (m : Nat) (parts : Array (Nat × Operand)) (ho : o.op = .buildSlice t m parts) (vs : Array (Nat × Value)) (hp : (parts.map fun (i, x) => (i, a.eval x)) = vs)
    (hr : (Instr.buildSlice t m vs).run Tryz.prog w = .ok v w') (h : wpList Tryz.prog ops Q rest (a.put o.dst v) w') : wpList Tryz.prog ops Q (o :: rest) a w :=
  wpList_plain hgd fun K hK => wp_buildS t m parts ho vs hp hr (hK _ _ h)
theorem cut_run (w : World) (ua : Option Addr) (n uc i : Nat) (hi : i ≤ n) (hc : n ≤ uc) (hn : ua = none → uc = 0) : (Instr.sliceAt 23 (.slice ua n uc) (some (.int .i64 i)) none none).run Tryz.prog w = .ok (.slice (cutC ua uc i) (n - i) (uc - i)) w := by
  have u := Tryz.underlying23
  have h1 : (i : Int) ≤ (n : Int) := by omega
  have h2 : (n : Int) ≤ (uc : Int) := by omega
  have h3 : (i : Int) ≤ (uc : Int) := by omega
  unfold cutC
  go_simp
theorem wpList_sliceC {w : World} {ops : Array Oper} {rest : List Oper} {o : Oper} {a : Act} {Q : Exit → Act → World → Prop} (hgd : o.guard = none) (x lo : Operand) (ho : o.op = .slice 23 x (some lo) none none) (ua : Option Addr) (n uc i : Nat) (hx : a.eval x = .slice ua n uc) (hlo : a.eval lo = .int .i64 i) (hi : i ≤ n) (hc : n ≤ uc) (hn : ua = none → uc = 0)
    (h : wpList Tryz.prog ops Q rest (a.put o.dst (.slice (cutC ua uc i) (n - i) (uc - i))) w) : wpList Tryz.prog ops Q (o :: rest) a w := by
  refine wpList_plain hgd fun K hK => ?_
  have hr := cut_run w ua n uc i hi hc hn
  unfold Oper.wp execOp
  simp only [ho, Sem.run_bind, Sem.run_pure, Result.andThen_ok, Option.map_some, Option.map_none, hx, hlo, hr]
  exact hK _ _ h
theorem rowC_below {w w' : World} {base : Nat} {v : Value} {A : List Cg} (h : w.ownsRow base 56 46 v A.length (A.flatMap cgL)) (hb : Below w.heap.size w w') : w'.ownsRow base 56 46 v A.length (A.flatMap cgL) :=
  own_keep h hb.size fun q hq _ => hb.block q (World.ownsRow.lt h q hq).2
theorem rowC_mono {w : World} {base base' : Nat} {v : Value} {A : List Cg} (h : w.ownsRow base 56 46 v A.length (A.flatMap cgL)) (hb : base' ≤ base) : w.ownsRow base' 56 46 v A.length (A.flatMap cgL) := by
  obtain ⟨h1, h2 | ⟨g, cap, cur, h2, h3, h4⟩⟩ := h
  · exact ⟨h1, .inl h2⟩
  · exact ⟨h1, .inr ⟨g, cap, cur, h2, by omega, h4⟩⟩

end Go.Proofs.YtjlglnhmkheidaaGreat
