/- What a call may change; rows of elements of some cells in memory; no function of the program. -/
import Derived.Test.YtfnoppnmilmglaaRows
import Derived.WalkKit
import Derived.WalkSpells
import Derived.WalkLawsBesides
import Derived.OpenShut
import Derived.Below
import Derived.Deep.WholeRow
import Derived.Laws.AppendOwnNone
import Derived.Laws.Rows
import Derived.Lib.AppendZeros
import Derived.Deep.RegionLaw
import Derived.ArgAppend
import Derived.Deep.DeepAppendRoom
namespace Go.Proofs.Ytfnoppnmilmglaa
open Go.RowKit
set_option linter.unusedVariables false
set_option linter.unusedSimpArgs false
set_option maxRecDepth 4000

structure Sole (S : List Nat) (w w' : World) : Prop where
  os : w'.os = w.os
  tape : w'.tape = w.tape
  output : w'.output = w.output
  size : w.heap.size ≤ w'.heap.size
  block : ∀ k, k < w.heap.size → k ∉ S → w'.heap[k]? = w.heap[k]?

theorem Sole.refl (S : List Nat) (w : World) : Sole S w w := ⟨rfl, rfl, rfl, Nat.le_refl _, fun _ _ _ => rfl⟩
theorem Sole.trans {S : List Nat} {a b c : World} (h : Sole S a b) (k : Sole S b c) : Sole S a c :=
  ⟨k.os.trans h.os, k.tape.trans h.tape, k.output.trans h.output, Nat.le_trans h.size k.size, fun i hi hn => (k.block i (Nat.lt_of_lt_of_le hi h.size) hn).trans (h.block i hi hn)⟩
theorem Sole.mono {S S' : List Nat} {w w' : World} (h : Sole S w w') (hs : ∀ k ∈ S, k ∈ S') : Sole S' w w' :=
  ⟨h.os, h.tape, h.output, h.size, fun k hk hn => h.block k hk (fun e => hn (hs k e))⟩
theorem Sole.after {S S' : List Nat} {w0 w w' : World} (h0 : Sole S w0 w) (h : Sole S' w w') (hs : ∀ k ∈ S', k ∈ S ∨ w0.heap.size ≤ k) : Sole S w0 w' :=
  ⟨h.os.trans h0.os, h.tape.trans h0.tape, h.output.trans h0.output, Nat.le_trans h0.size h.size, fun i hi hn => (h.block i (Nat.lt_of_lt_of_le hi h0.size) (fun e => by rcases hs i e with h | h; exact hn h; omega)).trans (h0.block i hi hn)⟩
theorem Sole.of_below {w w' : World} (h : Below w.heap.size w w') (S : List Nat) : Sole S w w' := ⟨h.os, h.tape, h.output, h.size, fun k hk _ => h.block k hk⟩
theorem Sole.below {w w' : World} (h : Sole [] w w') : Below w.heap.size w w' := ⟨h.os, h.tape, h.output, h.size, fun k hk => h.block k hk (by simp)⟩
theorem Sole.setCell (w : World) {a : Addr} (u : Value) {S : List Nat} (hb : a.block ∈ S) : Sole S w (w.setCell a u) :=
  ⟨rfl, rfl, rfl, by simp [World.setCell], fun k hk hn => Below.heap_setCell _ _ _ _ (fun e => hn (by rw [e]; exact hb))⟩
theorem Sole.drew (w : World) (S : List Nat) : Sole S w w.drew := ⟨rfl, rfl, rfl, Nat.le_refl _, fun _ _ _ => rfl⟩
theorem Sole.belowOf {B : Nat} {S : List Nat} {w0 w w' : World} (h0 : Below B w0 w) (h : Sole S w w') (hB : B ≤ w.heap.size) (hs : ∀ k ∈ S, B ≤ k) : Below B w0 w' :=
  h0.trans ⟨h.os, h.tape, h.output, h.size, fun k hk => h.block k (by omega) (fun e => by have := hs k e; omega)⟩
theorem belowQ (W : World) (q B : Nat) : Below B W (W.drewN q) := ⟨rfl, rfl, rfl, Nat.le_refl _, fun _ _ => rfl⟩

theorem Sole.of_grown {w w' : World} {b : Nat} (h : w.grownBy w' (some b)) {S : List Nat} (hb : b ∈ S) : Sole S w w' :=
  ⟨h.os, h.tape, h.output, h.size, fun k hk hn => h.block k hk (fun e => hn (by cases e; exact hb))⟩
def ptr (p : Nat) : Value := .pointer (some ⟨p, 0, none⟩)

theorem thenB {A B C : World} (h : Below A.heap.size A B) (k : Below B.heap.size B C) : Below A.heap.size A C := h.trans (k.mono h.size)

theorem toList_inj {s t : ByteArray} (h : s.toList = t.toList) : s = t := by
  rw [ByteArray.toList_eq, ByteArray.toList_eq] at h
  obtain ⟨d⟩ := s
  obtain ⟨d'⟩ := t
  exact congrArg ByteArray.mk (Array.ext' h)

/-! ### Rows -/

def RdE {α : Type} (k : Nat) (enc : α → List Value) (w : World) (v : Value) (l : List α) : Prop :=
  ∃ a cap, v = .slice a l.length cap ∧ l.length ≤ cap ∧ cap ≤ maxLen ∧ (l ≠ [] → ∃ b off, a = some ⟨b, off, none⟩ ∧ b < w.heap.size ∧ ∀ i x j u, l[i]? = some x → (enc x)[j]? = some u → w.cell? ⟨b, off + i * k + j, none⟩ = some u)

theorem RdE.below {α : Type} {k : Nat} {enc : α → List Value} {w w' : World} {v : Value} {l : List α} (h : RdE k enc w v l) (hb : Below w.heap.size w w') : RdE k enc w' v l := by
  obtain ⟨a, cap, rfl, h1, h2, h3⟩ := h
  refine ⟨a, cap, rfl, h1, h2, fun hne => ?_⟩
  obtain ⟨b, off, rfl, hlt, hc⟩ := h3 hne
  exact ⟨b, off, rfl, Nat.lt_of_lt_of_le hlt hb.size, fun i x j u hi hj => (hb.cell (p := ⟨b, off + i * k + j, none⟩) hlt).trans (hc i x j u hi hj)⟩

theorem RdE.nil {α : Type} (k : Nat) (enc : α → List Value) (w : World) : RdE k enc w (.slice none 0 0) ([] : List α) := ⟨none, 0, rfl, Nat.le_refl _, by simp, fun h => absurd rfl h⟩

theorem flat_at {α β : Type} (k : Nat) (enc : α → List β) (hk : ∀ x, (enc x).length = k) : ∀ (l : List α) (i : Nat) (x : α) (j : Nat) (u : β), l[i]? = some x → (enc x)[j]? = some u → (l.flatMap enc)[i * k + j]? = some u := by
  intro l
  induction l with
  | nil => intro i x j u h _; simp at h
  | cons y l ih =>
    intro i x j u hi hj
    have hj' : j < k := by rw [← hk x]; exact (List.getElem?_eq_some_iff.1 hj).1
    rw [List.flatMap_cons]
    cases i with
    | zero =>
      simp at hi; subst hi
      rw [List.getElem?_append_left (by rw [hk]; omega), Nat.zero_mul, Nat.zero_add]; exact hj
    | succ i =>
      rw [List.getElem?_append_right (by rw [hk, Nat.succ_mul]; omega), hk, show (i + 1) * k + j - k = i * k + j from by rw [Nat.succ_mul]; omega]
      exact ih i x j u (by simpa using hi) hj

theorem rdE_own {α : Type} {k : Nat} {enc : α → List Value} (hk : ∀ x, (enc x).length = k) {w : World} {base e : Nat} {v : Value} {l : List α} (h : w.ownsRow base e k v l.length (l.flatMap enc)) : RdE k enc w v l := by
  obtain ⟨h1, h2⟩ := h
  rcases h2 with ⟨rfl, hn⟩ | ⟨g, cap, cur, rfl, hb, hg, hn, hm, hs, ht⟩
  · have : l = [] := List.eq_nil_of_length_eq_zero hn
    subst this
    exact RdE.nil k enc w
  · refine ⟨_, cap, rfl, hn, hm, fun _ => ⟨g, 0, rfl, (Array.getElem?_eq_some_iff.1 hg).1, fun i x j u hi hj => ?_⟩⟩
    have e := flat_at k enc hk l i x j u hi hj
    rw [← ht, List.getElem?_take] at e
    split at e
    · rw [Nat.zero_add, cell_of_row w g _ cur _ (0, 0) hg, ← Array.getElem?_toList]; exact e
    · cases e

theorem take_next {α : Type} {l : List α} {k : Nat} {x : α} (h : l[k]? = some x) : l.take (k + 1) = l.take k ++ [x] := by
  rw [List.take_add_one, h]; rfl

theorem at_some {α : Type} {l : List α} {k n : Nat} (hl : l.length = n) (hk : k < n) : ∃ x, l[k]? = some x := ⟨_, List.getElem?_eq_getElem (by omega)⟩

theorem row_slice {w : World} {base e k : Nat} {v : Value} {n : Nat} {xs : List Value} (h : w.ownsRow base e k v n xs) : ∃ a c, v = .slice a n c := by
  rcases h.2 with ⟨rfl, rfl⟩ | ⟨g, cap, cur, rfl, _⟩
  · exact ⟨_, _, rfl⟩
  · exact ⟨_, _, rfl⟩

theorem row_below {w w' : World} {base e k : Nat} {v : Value} {n : Nat} {xs : List Value} (h : w.ownsRow base e k v n xs) (hb : Below w.heap.size w w') : w'.ownsRow base e k v n xs :=
  World.ownsRow.kept h (row := Option.none) ⟨hb.os, hb.tape, hb.output, hb.size, fun k hk _ => hb.block k hk⟩ (by cases hv : v.ownBlock <;> simp)

theorem row_mono {w : World} {base base' e k : Nat} {v : Value} {n : Nat} {xs : List Value} (h : w.ownsRow base e k v n xs) (hb : base' ≤ base) : w.ownsRow base' e k v n xs := by
  obtain ⟨h1, h2⟩ := h
  refine ⟨h1, ?_⟩
  rcases h2 with h2 | ⟨g, cap, cur, hv, hg, r⟩
  · exact .inl h2
  · exact .inr ⟨g, cap, cur, hv, Nat.le_trans hb hg, r⟩

def RdZ {α : Type} (k : Nat) (enc : α → List Value) (w : World) (v : Value) (l : List α) : Prop := RdE k enc w v l ∧ ∀ c, v = .slice none 0 c → c = 0

theorem RdZ.below {α : Type} {k : Nat} {enc : α → List Value} {w w' : World} {v : Value} {l : List α} (h : RdZ k enc w v l) (hb : Below w.heap.size w w') : RdZ k enc w' v l := ⟨RdE.below h.1 hb, h.2⟩

theorem RdZ.nil {α : Type} (k : Nat) (enc : α → List Value) (w : World) : RdZ k enc w (.slice none 0 0) ([] : List α) := ⟨RdE.nil _ _ _, fun c h => by simp only [Value.slice.injEq, true_and] at h; exact h.symm⟩

theorem RdZ.len {α : Type} {k : Nat} {enc : α → List Value} {w : World} {a : Option Addr} {n c : Nat} {l : List α} (h : RdZ k enc w (.slice a n c) l) : l.length = n ∧ n ≤ c ∧ c ≤ maxLen := by
  obtain ⟨⟨a', c', e, h1, h2, _⟩, _⟩ := h
  simp only [Value.slice.injEq] at e
  obtain ⟨_, rfl, rfl⟩ := e
  exact ⟨rfl, h1, h2⟩

theorem rdZ_own {α : Type} {k : Nat} {enc : α → List Value} (hk : ∀ x, (enc x).length = k) {w : World} {base e : Nat} {v : Value} {l : List α} (h : w.ownsRow base e k v l.length (l.flatMap enc)) : RdZ k enc w v l := by
  refine ⟨rdE_own hk h, fun c hv => ?_⟩
  rcases h.2 with ⟨e', _⟩ | ⟨g, cap, cur, e', _⟩
  · rw [e'] at hv; simp only [Value.slice.injEq, true_and] at hv; exact hv.symm
  · rw [e'] at hv; cases hv

def OwnL {α : Type} (base e k : Nat) (enc : α → List Value) (w : World) (v : Value) (l : List α) : Prop := w.ownsRow base e k v l.length (l.flatMap enc)

theorem OwnL.below {α : Type} {base e k : Nat} {enc : α → List Value} {w w' : World} {v : Value} {l : List α} (h : OwnL base e k enc w v l) (hb : Below w.heap.size w w') : OwnL base e k enc w' v l := row_below h hb

theorem OwnL.mono {α : Type} {base base' e k : Nat} {enc : α → List Value} {w : World} {v : Value} {l : List α} (h : OwnL base e k enc w v l) (hb : base' ≤ base) : OwnL base' e k enc w v l := row_mono h hb

theorem OwnL.nil {α : Type} (base e k : Nat) (enc : α → List Value) (w : World) : OwnL base e k enc w (.slice none 0 0) ([] : List α) := World.ownsRow_nil _ _ _ _

theorem RdZ.mid {α : Type} {k : Nat} {enc : α → List Value} {w : World} {b off n c : Nat} {l : List α} (h : RdZ k enc w (.slice (some ⟨b, off, none⟩) n c) l) (i m c' : Nat) (hm : i + m ≤ n) (hc : m ≤ c') (hcc : i + c' ≤ c) : RdZ k enc w (.slice (some ⟨b, off + i * k, none⟩) m c') ((l.drop i).take m) := by
  obtain ⟨hl, h1, h2⟩ := h.len
  obtain ⟨⟨a, cap, e, _, _, h4⟩, _⟩ := h
  simp only [Value.slice.injEq] at e
  obtain ⟨rfl, _, rfl⟩ := e
  have hdl : ((l.drop i).take m).length = m := by simp; omega
  refine ⟨⟨_, c', by rw [hdl], by rw [hdl]; exact hc, by omega, fun hne => ?_⟩, fun c hv => by cases hv⟩
  have hm0 : 0 < m := by
    rcases Nat.eq_zero_or_pos m with h0 | h0
    · subst h0; simp at hne
    · exact h0
  obtain ⟨b', off', e', hlt, hcell⟩ := h4 (by intro e; subst e; simp at hl; omega)
  simp only [Option.some.injEq, Addr.mk.injEq] at e'
  obtain ⟨rfl, rfl, _⟩ := e'
  refine ⟨_, _, rfl, hlt, fun t x j u hx hj => ?_⟩
  rw [List.getElem?_take] at hx
  by_cases ht : t < m
  · rw [if_pos ht, List.getElem?_drop] at hx
    have := hcell (i + t) x j u hx hj
    rw [show off + i * k + t * k + j = off + (i + t) * k + j from by rw [Nat.add_mul]; omega]
    exact this
  · rw [if_neg ht] at hx; cases hx

theorem flat_len {α : Type} {k : Nat} {enc : α → List Value} (hk : ∀ x, (enc x).length = k) (l : List α) : (l.flatMap enc).length = l.length * k := by
  induction l with
  | nil => simp
  | cons x t ih => rw [List.flatMap_cons, List.length_append, hk, ih, List.length_cons, Nat.add_mul]; omega

theorem wpList_append_E {α : Type} {k : Nat} {enc : α → List Value} (hk : ∀ x, (enc x).length = k) (h1 : ∀ x, ∀ u ∈ enc x, u.oneCell' = true) {t e : TypeId} {i : TypeInfo} {z : Value} {by' : Nat} (ht : Try.prog.underlying t = some (.slice e)) (hi : Try.prog.info? e = some i) (hz : i.zero = some z) (hsize : i.size = k) (hby : i.bytes = by') (hzs : z.cells.size = k) (hkp : 0 < k) (hsm : by' ≤ 1000)
    {w : World} {ops : Array Oper} {rest : List Oper} {o : Oper} {a : Act} {Q : Exit → Act → World → Prop} (hgd : o.guard = none) (s x : Operand)
    (ho : o.op = .call { callee := .builtin .append, args := #[s, x], argTypes := #[t, t] }) (base : Nat)
    (v : Value) (xs : List α) (hs : a.eval s = v) (hown : OwnL base e k enc w v xs) (u : Value) (ys : List α) (hx : a.eval x = u) (hrd : RdZ k enc w u ys)
    (hlen : xs.length + ys.length ≤ 1000000) (hbase : base ≤ w.heap.size)
    (h : ∀ v' w', OwnL base e k enc w' v' (xs ++ ys) → w.grownBy w' v.ownBlock → wpList Try.prog ops Q rest (a.put o.dst v') w') : wpList Try.prog ops Q (o :: rest) a w := by
  obtain ⟨⟨ad, cap, rfl, h2, h3, h4⟩, hn⟩ := hrd
  cases ad with
  | none =>
    have hl0 : ys = [] := by
      cases ys with
      | nil => rfl
      | cons y r => obtain ⟨b, off, e, _⟩ := h4 (by simp); cases e
    subst hl0
    have hc0 := hn cap rfl
    subst hc0
    refine wpList_append_own_none hgd s x t ho base e i k ht hi v _ _ hs hown hx ?_
    exact h v w (by rw [List.append_nil]; exact hown) (World.grownBy.refl _ _)
  | some ad =>
    refine wpList_append_own w hgd s x t ho base e i z k by' ht hi hz hsize hby hzs hkp v _ _ hs hown ad ys.length cap (ys.flatMap enc) hx (flat_len hk ys) ?_ (fun u hu => by obtain ⟨x, _, hx⟩ := List.mem_flatMap.1 hu; exact h1 x u hx) ?_ ?_ hbase ?_
    · intro j u hj
      have hjl := (List.getElem?_eq_some_iff.1 hj).1
      rw [flat_len hk] at hjl
      have hne : ys ≠ [] := by intro e; subst e; simp at hjl
      obtain ⟨b, off, e1, _, hcell⟩ := h4 hne
      cases e1
      have hadd : (⟨b, off, none⟩ : Addr).add j = ⟨b, off + j, none⟩ := by unfold Addr.add; split <;> simp_all
      have hik : j / k < ys.length := (Nat.div_lt_iff_lt_mul hkp).2 hjl
      have hx := List.getElem?_eq_getElem hik
      have hmk : j % k < (enc ys[j / k]).length := by rw [hk]; exact Nat.mod_lt _ hkp
      have hu := List.getElem?_eq_getElem hmk
      have hfl := flat_at k enc hk ys (j / k) _ (j % k) _ hx hu
      rw [Nat.div_add_mod' j k] at hfl
      rw [hfl] at hj
      cases hj
      have := hcell (j / k) _ (j % k) _ hx hu
      rw [Nat.add_assoc, Nat.div_add_mod' j k] at this
      rw [hadd]
      exact this
    · unfold maxLen; omega
    · have : (xs.length + ys.length) * by' ≤ 1000000 * 1000 := Nat.mul_le_mul hlen hsm
      omega
    · intro v' w' ho' hg _
      refine h v' w' ?_ hg
      unfold OwnL
      rw [List.length_append, List.flatMap_append]
      exact ho'

theorem run_clear_row (P : Program) (w : World) (t e ty : TypeId) (z : Value) (ht : P.underlying t = some (.slice e)) (hv : ∀ w, (zeroValue e).run P w = .ok z w) (g o n c : Nat) (cur : Array Value) (hn : 0 < n) (h1 : ∀ u ∈ (Builtin.zeroCells z.cells n).toList, u.oneCell' = true)
    (hg : w.heap[g]? = some (.cells cur e (0, 0))) (hfit : o + (Builtin.zeroCells z.cells n).toList.length ≤ cur.size) :
    (Builtin.clear_ #[t] ty #[.slice (some ⟨g, o, none⟩) n c]).run P w = .ok (.tuple #[]) (w.setRow g (cur.toList.take o ++ (Builtin.zeroCells z.cells n).toList ++ cur.toList.drop (o + (Builtin.zeroCells z.cells n).toList.length)).toArray) := by
  have hst := run_storeCells_at P g o e (Builtin.zeroCells z.cells n).toList 0 cur w hg (by simpa using hfit) h1
  simp only [Nat.add_zero] at hst
  obtain ⟨m, rfl⟩ : ∃ m, n = m + 1 := ⟨n - 1, by omega⟩
  simp [Builtin.clear_, run_underlying ht, hv]
  simp at hst
  rw [hst]
  rfl

theorem setCells_row (P : Program) (w : World) (g o : Nat) (e : TypeId) (vs : List Value) (cur : Array Value) (hg : w.heap[g]? = some (.cells cur e (0, 0))) (hfit : o + vs.length ≤ cur.size) (h1 : ∀ u ∈ vs, u.oneCell' = true) :
    w.setCells g o vs = w.setRow g (cur.toList.take o ++ vs ++ cur.toList.drop (o + vs.length)).toArray := by
  have a1 := run_storeCells_at P g o e vs 0 cur w hg (by simpa using hfit) h1
  have a2 := run_storeCells_cells (P := P) g o vs 0 w (fun j hj => by rw [cell_of_row _ _ _ _ _ (0, 0) hg, Array.getElem?_eq_getElem (by omega)]; rfl) (fun j hj => frozen_of_row w g _ _ _ hg) h1
  rw [a1] at a2
  simp only [Nat.add_zero, Result.ok.injEq, true_and] at a2
  exact a2.symm

-- GEN

theorem info_parts {t : TypeId} {z : Value} {n b : Nat} (h : (Try.prog.info? t).map (fun i => (i.zero, i.size, i.bytes)) = some (some z, n, b)) : ∃ i, Try.prog.info? t = some i ∧ i.zero = some z ∧ i.size = n ∧ i.bytes = b := by
  cases hi : Try.prog.info? t with
  | none => rw [hi] at h; cases h
  | some i =>
    rw [hi] at h
    simp only [Option.map_some, Option.some.injEq, Prod.mk.injEq] at h
    exact ⟨i, rfl, h.1, h.2.1, h.2.2⟩

theorem own_keep {w w' : World} {base n k : Nat} {e : TypeId} {v : Value} {xs : List Value} (h : w.ownsRow base e k v n xs) (hs : w.heap.size ≤ w'.heap.size) (hb : ∀ q, v.ownBlock = some q → q < w.heap.size → w'.heap[q]? = w.heap[q]?) : w'.ownsRow base e k v n xs := by
  obtain ⟨h1, h2 | ⟨g, cap, cur, rfl, h3, h4, h5⟩⟩ := h
  · exact ⟨h1, .inl h2⟩
  · exact ⟨h1, .inr ⟨g, cap, cur, rfl, h3, (hb g rfl (Array.getElem?_eq_some_iff.1 h4).1).trans h4, h5⟩⟩

end Go.Proofs.Ytfnoppnmilmglaa
