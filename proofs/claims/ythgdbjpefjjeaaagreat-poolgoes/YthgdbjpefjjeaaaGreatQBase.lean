/- Rows of strings, numbers and pairs in memory; where a node lies; '[]byte(s)'; no function of the program. -/
import Derived.Test.YthgdbjpefjjeaaaGreatNodeMath
import Derived.Test.YthgdbjpefjjeaaaGreatLaws
import Derived.Laws.IdiomStrings
namespace Go.Proofs.YthgdbjpefjjeaaaGreat
open Go.RowKit
set_option linter.unusedVariables false
set_option linter.unusedSimpArgs false
set_option maxRecDepth 4000

/-! ### Bytes -/
theorem strB_strOf {xs : List Int} (h : Byt xs) : strB (strOfNums xs) = xs := by
  unfold strB
  rw [strOfNums_data, List.map_map]
  conv => rhs; rw [← List.map_id xs]
  apply List.map_congr_left
  intro x hx
  obtain ⟨h0, h1⟩ := h x hx
  simp
  omega

theorem strOfNums_size (xs : List Int) : (strOfNums xs).size = xs.length := by
  have : (strOfNums xs).data.toList.length = xs.length := by rw [strOfNums_data]; simp
  rw [← this]
  rw [Array.length_toList]
  rfl

/-- '[]byte(s)'. -/
theorem conv_bytes (w : World) (s : ByteArray) (hs : s.size ≤ 1024) : ∃ v w', (convert 9 86 (.string s)).run Tryz.prog w = .ok v w' ∧ Rd w' v (strB s) ∧ Below w.heap.size w w' := by
  refine ⟨_, _, run_bytes_of_string w 9 86 5 s Tryz.underlying9 Tryz.underlying86 Tryz.underlying5, ?_, (Below.refl _ w).drew.alloc (Nat.le_refl _) _⟩
  have hge := grownCap_ge w s.size 0 5
  have hle := grownCap_le_maxLen w s.size 0 5 (by unfold maxLen; omega)
  have hl := strB_length s
  refine ⟨_, _, by rw [hl], by rw [hl]; exact hge, hle, (by intro e; cases e), fun hne => ⟨_, 0, rfl, by simp, fun i hi => ?_⟩⟩
  rw [hl] at hi
  have hh : (w.drew.alloc (Obj.cells (bytesRow s (grownCap w s.size 0 5)) 5 ((bytesRow s (grownCap w s.size 0 5)).size, (bytesRow s (grownCap w s.size 0 5)).size + 1))).heap[w.heap.size]? = some (Obj.cells (bytesRow s (grownCap w s.size 0 5)) 5 ((bytesRow s (grownCap w s.size 0 5)).size, (bytesRow s (grownCap w s.size 0 5)).size + 1)) := heap_alloc_new w.drew _
  rw [Nat.zero_add, cell_of_row _ _ i _ 5 _ hh]
  have hi' : i < s.data.size := hi
  unfold bytesRow
  rw [Array.getElem?_append_left (by simpa using hi'), Array.getElem?_map, Array.getElem?_eq_getElem hi', List.getD_eq_getElem?_getD]
  unfold strB
  rw [List.getElem?_map, Array.getElem?_toList, Array.getElem?_eq_getElem hi']
  rfl

/-- 'v[i:i+k]' of a slice that reads as xs. -/
theorem Rd.mid {w : World} {b off n cap : Nat} {xs : List Int} (h : Rd w (.slice (some ⟨b, off, none⟩) n cap) xs) (i k : Nat) (hk : i + k ≤ n) (hp : 0 < n) : Rd w (.slice (some ⟨b, off + i, none⟩) k (cap - i)) ((xs.drop i).take k) := by
  have hl := rd_length h
  obtain ⟨a, c, e, h1, h2, h3, h4⟩ := h
  have hc : c = cap := by simp only [Value.slice.injEq] at e; exact e.2.2.symm
  have ha : a = some ⟨b, off, none⟩ := by simp only [Value.slice.injEq] at e; exact e.1.symm
  subst hc ha
  have hdl : ((xs.drop i).take k).length = k := by simp; omega
  refine ⟨_, _, by rw [hdl], by rw [hdl]; omega, by omega, (by intro e; cases e), fun _ => ?_⟩
  obtain ⟨b', off', e', hlt, hc⟩ := h4 (by intro e; subst e; simp at hl; omega)
  simp only [Option.some.injEq, Addr.mk.injEq] at e'
  obtain ⟨rfl, rfl, _⟩ := e'
  refine ⟨_, _, rfl, hlt, fun j hj => ?_⟩
  rw [hdl] at hj
  have := hc (i + j) (by omega)
  rw [show off + i + j = off + (i + j) from by omega, this]
  simp [hj]

theorem Rd.cap {w : World} {a : Option Addr} {n cap : Nat} {xs : List Int} (h : Rd w (.slice a n cap) xs) : n ≤ cap := by
  have hl := rd_length h
  obtain ⟨a', c, e, h1, _⟩ := h
  simp only [Value.slice.injEq] at e
  omega

theorem Rd.capMax {w : World} {a : Option Addr} {n cap : Nat} {xs : List Int} (h : Rd w (.slice a n cap) xs) : cap ≤ maxLen := by
  obtain ⟨a', c, e, h1, h2, _⟩ := h
  simp only [Value.slice.injEq] at e
  omega

theorem Rd.opened {w : World} {v : Value} {xs : List Int} (h : Rd w v xs) (n : Nat) (hl : xs.length = n) (hp : 0 < n) : ∃ b off cap, v = .slice (some ⟨b, off, none⟩) n cap := by
  obtain ⟨a, c, e, h1, h2, h3, h4⟩ := h
  obtain ⟨b, off, rfl, _⟩ := h4 (by intro e; subst e; simp at hl; omega)
  exact ⟨b, off, c, by rw [e, hl]⟩

theorem toList_inj {s t : ByteArray} (h : s.toList = t.toList) : s = t := by
  rw [ByteArray.toList_eq, ByteArray.toList_eq] at h
  obtain ⟨d⟩ := s
  obtain ⟨d'⟩ := t
  exact congrArg ByteArray.mk (Array.ext' h)

/-! ### Rows -/
/-- The slice value 'v' reads, in the world 'w', as the row 'l' of elements of k cells each. -/
def RdE {α : Type} (k : Nat) (enc : α → List Value) (w : World) (v : Value) (l : List α) : Prop :=
  ∃ a cap, v = .slice a l.length cap ∧ l.length ≤ cap ∧ cap ≤ maxLen ∧ (l ≠ [] → ∃ b off, a = some ⟨b, off, none⟩ ∧ b < w.heap.size ∧ ∀ i x j u, l[i]? = some x → (enc x)[j]? = some u → w.cell? ⟨b, off + i * k + j, none⟩ = some u)

theorem RdE.below {α : Type} {k : Nat} {enc : α → List Value} {w w' : World} {v : Value} {l : List α} (h : RdE k enc w v l) (hb : Below w.heap.size w w') : RdE k enc w' v l := by
  obtain ⟨a, cap, rfl, h1, h2, h3⟩ := h
  refine ⟨a, cap, rfl, h1, h2, fun hne => ?_⟩
  obtain ⟨b, off, rfl, hlt, hc⟩ := h3 hne
  exact ⟨b, off, rfl, Nat.lt_of_lt_of_le hlt hb.size, fun i x j u hi hj => (hb.cell (p := ⟨b, off + i * k + j, none⟩) hlt).trans (hc i x j u hi hj)⟩

theorem RdE.nil {α : Type} (k : Nat) (enc : α → List Value) (w : World) : RdE k enc w (.slice none 0 0) ([] : List α) := ⟨none, 0, rfl, Nat.le_refl _, by simp, fun h => absurd rfl h⟩

theorem flat_at {α β : Type} (k : Nat) (enc : α → List β) (hk : ∀ x, (enc x).length = k) : ∀ (l : List α) (i : Nat) (x : α) (j : Nat) (u : β), l[i]? = some x → (enc x)[j]? = some u → (l.flatMap enc)[i * k + j]? = some u := by
  intro l
  induction l with
  | nil => intro i x j u h _; simp at h
  | cons y l ih =>
    intro i x j u hi hj
    have hj' : j < k := by rw [← hk x]; exact (List.getElem?_eq_some_iff.1 hj).1
    rw [List.flatMap_cons]
    cases i with
    | zero =>
      simp at hi; subst hi
      rw [List.getElem?_append_left (by rw [hk]; omega), Nat.zero_mul, Nat.zero_add]; exact hj
    | succ i =>
      rw [List.getElem?_append_right (by rw [hk, Nat.succ_mul]; omega), hk, show (i + 1) * k + j - k = i * k + j from by rw [Nat.succ_mul]; omega]
      exact ih i x j u (by simpa using hi) hj

theorem rdE_own {α : Type} {k : Nat} {enc : α → List Value} (hk : ∀ x, (enc x).length = k) {w : World} {base e : Nat} {v : Value} {l : List α} (h : w.ownsRow base e k v l.length (l.flatMap enc)) : RdE k enc w v l := by
  obtain ⟨h1, h2⟩ := h
  rcases h2 with ⟨rfl, hn⟩ | ⟨g, cap, cur, rfl, hb, hg, hn, hm, hs, ht⟩
  · have : l = [] := List.eq_nil_of_length_eq_zero hn
    subst this
    exact RdE.nil k enc w
  · refine ⟨_, cap, rfl, hn, hm, fun _ => ⟨g, 0, rfl, (Array.getElem?_eq_some_iff.1 hg).1, fun i x j u hi hj => ?_⟩⟩
    have e := flat_at k enc hk l i x j u hi hj
    rw [← ht, List.getElem?_take] at e
    split at e
    · rw [Nat.zero_add, cell_of_row w g _ cur _ (0, 0) hg, ← Array.getElem?_toList]; exact e
    · cases e

def strE (s : ByteArray) : List Value := [.string s]
def u32E (x : Int) : List Value := [.int .u32 x]
def kvE (p : ByteArray × ByteArray) : List Value := [.string p.1, .string p.2]
def kvV (p : ByteArray × ByteArray) : Value := .agg #[.string p.1, .string p.2]

def RdS (w : World) (v : Value) (l : List ByteArray) : Prop := RdE 1 strE w v l
def RdU (w : World) (v : Value) (l : List Int) : Prop := RdE 1 u32E w v l
def RdP (w : World) (v : Value) (l : List (ByteArray × ByteArray)) : Prop := RdE 2 kvE w v l

theorem RdS.open {w : World} {a : Option Addr} {n cap : Nat} {l : List ByteArray} (h : RdS w (.slice a n cap) l) : l.length = n ∧ n ≤ cap ∧ cap ≤ maxLen ∧ (0 < n → ∃ b off, a = some ⟨b, off, none⟩ ∧ b < w.heap.size ∧ ∀ i s, l[i]? = some s → w.cell? ⟨b, off + i, none⟩ = some (.string s)) := by
  obtain ⟨a', cap', e, h1, h2, h3⟩ := h
  simp only [Value.slice.injEq] at e
  obtain ⟨rfl, rfl, rfl⟩ := e
  refine ⟨rfl, h1, h2, fun hp => ?_⟩
  obtain ⟨b, off, rfl, hlt, hc⟩ := h3 (by intro e; subst e; simp at hp)
  exact ⟨b, off, rfl, hlt, fun i s hi => by simpa using hc i s 0 (.string s) hi rfl⟩

theorem RdU.open {w : World} {a : Option Addr} {n cap : Nat} {l : List Int} (h : RdU w (.slice a n cap) l) : l.length = n ∧ n ≤ cap ∧ cap ≤ maxLen ∧ (0 < n → ∃ b off, a = some ⟨b, off, none⟩ ∧ b < w.heap.size ∧ ∀ i s, l[i]? = some s → w.cell? ⟨b, off + i, none⟩ = some (.int .u32 s)) := by
  obtain ⟨a', cap', e, h1, h2, h3⟩ := h
  simp only [Value.slice.injEq] at e
  obtain ⟨rfl, rfl, rfl⟩ := e
  refine ⟨rfl, h1, h2, fun hp => ?_⟩
  obtain ⟨b, off, rfl, hlt, hc⟩ := h3 (by intro e; subst e; simp at hp)
  exact ⟨b, off, rfl, hlt, fun i s hi => by simpa using hc i s 0 (.int .u32 s) hi rfl⟩

theorem RdP.open {w : World} {a : Option Addr} {n cap : Nat} {l : List (ByteArray × ByteArray)} (h : RdP w (.slice a n cap) l) : l.length = n ∧ n ≤ cap ∧ cap ≤ maxLen ∧ (0 < n → ∃ b off, a = some ⟨b, off, none⟩ ∧ b < w.heap.size ∧ ∀ i p, l[i]? = some p → w.cell? ⟨b, off + i * 2, none⟩ = some (.string p.1) ∧ w.cell? ⟨b, off + i * 2 + 1, none⟩ = some (.string p.2)) := by
  obtain ⟨a', cap', e, h1, h2, h3⟩ := h
  simp only [Value.slice.injEq] at e
  obtain ⟨rfl, rfl, rfl⟩ := e
  refine ⟨rfl, h1, h2, fun hp => ?_⟩
  obtain ⟨b, off, rfl, hlt, hc⟩ := h3 (by intro e; subst e; simp at hp)
  exact ⟨b, off, rfl, hlt, fun i p hi => ⟨by simpa using hc i p 0 (.string p.1) hi rfl, hc i p 1 (.string p.2) hi rfl⟩⟩

theorem take_next {α : Type} {l : List α} {k : Nat} {x : α} (h : l[k]? = some x) : l.take (k + 1) = l.take k ++ [x] := by
  rw [List.take_add_one, h]; rfl

theorem at_some {α : Type} {l : List α} {k n : Nat} (hl : l.length = n) (hk : k < n) : ∃ x, l[k]? = some x := ⟨_, List.getElem?_eq_getElem (by omega)⟩

/-- Where a node lies. -/
def NdAt (w : World) (v : Value) (n : Nd) : Prop :=
  ∃ a1 c1 a2 c2 a3 c3, v = .agg #[.bool n.leaf, .slice a1 n.pairs.length c1, .slice a2 n.keys.length c2, .slice a3 n.kids.length c3] ∧
    RdP w (.slice a1 n.pairs.length c1) n.pairs ∧ RdS w (.slice a2 n.keys.length c2) n.keys ∧ RdU w (.slice a3 n.kids.length c3) n.kids ∧ True

theorem NdAt.below {w w' : World} {v : Value} {n : Nd} (h : NdAt w v n) (hb : Below w.heap.size w w') : NdAt w' v n := by
  obtain ⟨a1, c1, a2, c2, a3, c3, e, h1, h2, h3, h4⟩ := h
  exact ⟨a1, c1, a2, c2, a3, c3, e, RdE.below h1 hb, RdE.below h2 hb, RdE.below h3 hb, h4⟩

theorem NdAt.zero (w : World) : NdAt w (.agg #[.bool false, .slice none 0 0, .slice none 0 0, .slice none 0 0]) nd0 :=
  ⟨none, 0, none, 0, none, 0, rfl, RdE.nil _ _ _, RdE.nil _ _ _, RdE.nil _ _ _, by simp [nd0]⟩

end Go.Proofs.YthgdbjpefjjeaaaGreat
