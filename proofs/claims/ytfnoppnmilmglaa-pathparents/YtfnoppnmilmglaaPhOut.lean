/- Names that a call has made: they may be read, and turned by who asked; the contract of the document's Parent. -/
import Derived.Test.YtfnoppnmilmglaaPhSplit
namespace Go.Proofs.Ytfnoppnmilmglaa
open Go.RowKit
set_option linter.unusedVariables false
set_option linter.unusedSimpArgs false
set_option maxRecDepth 100000

/-- A row of names in a block that lies at or above B. -/
def FrR (B : Nat) (w : World) (a : Option Addr) (n c : Nat) (l : List ByteArray) : Prop :=
  RdZ 1 strE w (.slice a n c) l ∧ (0 < n → ∃ g o cs, a = some ⟨g, o, none⟩ ∧ B ≤ g ∧ w.heap[g]? = some (.cells cs 9 (0, 0)) ∧ o + n ≤ cs.size)
theorem FrR.of_own {B : Nat} {w : World} {a : Option Addr} {n c : Nat} {l : List ByteArray} (h : w.ownsRow B 9 1 (.slice a n c) l.length (l.flatMap strE)) : FrR B w a n c l := by
  refine ⟨rdZ_own str_len h, fun hn => ?_⟩
  obtain ⟨_, ⟨e, _⟩ | ⟨g, cap, cur, e, h1, h2, h3, _, h5, _⟩⟩ := h
  · cases e; omega
  · simp only [Value.slice.injEq] at e
    obtain ⟨rfl, rfl, rfl⟩ := e
    exact ⟨g, 0, cur, rfl, h1, h2, by omega⟩
theorem FrR.nil (B : Nat) (w : World) : FrR B w none 0 0 [] := ⟨RdZ.nil _ _ _, fun h => by omega⟩
theorem FrR.below {B : Nat} {w w' : World} {a : Option Addr} {n c : Nat} {l : List ByteArray} (h : FrR B w a n c l) (hb : Below w.heap.size w w') : FrR B w' a n c l := by
  refine ⟨h.1.below hb, fun hn => ?_⟩
  obtain ⟨g, o, cs, h1, h2, h3, h4⟩ := h.2 hn
  exact ⟨g, o, cs, h1, h2, (hb.block g (Array.getElem?_eq_some_iff.1 h3).1).trans h3, h4⟩
theorem FrR.mono {B B' : Nat} {w : World} {a : Option Addr} {n c : Nat} {l : List ByteArray} (h : FrR B w a n c l) (hb : B' ≤ B) : FrR B' w a n c l := ⟨h.1, fun hn => by
  obtain ⟨g, o, cs, h1, h2, h3⟩ := h.2 hn
  exact ⟨g, o, cs, h1, by omega, h3⟩⟩
theorem RdZ.take {α : Type} {k : Nat} {enc : α → List Value} {w : World} {a : Option Addr} {n c : Nat} {l : List α} (h : RdZ k enc w (.slice a n c) l) (m : Nat) (hm : m ≤ n) (hc : a = none → c = 0) : RdZ k enc w (.slice a m c) (l.take m) := by
  obtain ⟨hl, h1, h2⟩ := h.len
  obtain ⟨⟨a', c', e, _, _, h4⟩, h5⟩ := h
  simp only [Value.slice.injEq] at e
  obtain ⟨rfl, _, rfl⟩ := e
  have hdl : (l.take m).length = m := by simp; omega
  refine ⟨⟨_, c, by rw [hdl], by rw [hdl]; omega, h2, fun hne => ?_⟩, fun c' hv => ?_⟩
  · obtain ⟨b, off, e', hlt, hcell⟩ := h4 (by intro e; subst e; simp at hne)
    refine ⟨b, off, e', hlt, fun t x j u hx hj => ?_⟩
    rw [List.getElem?_take] at hx
    by_cases ht : t < m
    · rw [if_pos ht] at hx; exact hcell t x j u hx hj
    · rw [if_neg ht] at hx; cases hx
  · simp only [Value.slice.injEq] at hv
    obtain ⟨rfl, _, rfl⟩ := hv
    exact hc rfl

/-- What the program's Split tells. -/
def SpOut (w w' : World) (s : ByteArray) (e : Ending) : Prop := ∃ a n c, e = .returned (.tuple #[.slice a n c, .int .i64 (pathE s)]) ∧ FrR w.heap.size w' a n c (pathL s) ∧ Below w.heap.size w w'
def ParOut (w w' : World) (s : ByteArray) (e : Ending) : Prop := ∃ a n c, e = .returned (.tuple #[.slice a n c, .string (parN s), .int .i64 (parE s)]) ∧ FrR w.heap.size w' a n c (parL s) ∧ Below w.heap.size w w'
theorem par_bad {w w' : World} {s : ByteArray} (h : ¬ (pathE s = 0 ∧ pathL s ≠ [])) (hb : Below w.heap.size w w') : ParOut w w' s (.returned (.tuple #[.slice none 0 0, .string ⟨#[]⟩, .int .i64 160])) := by
  have e : parE s = 160 := by unfold parE; rw [if_neg h]
  have e0 : ¬ (160 : Int) = 0 := by decide
  refine ⟨none, 0, 0, ?_, ?_, hb⟩
  · unfold parN; rw [e, if_neg e0]
  · unfold parL; rw [e, if_neg e0]; exact FrR.nil _ _
theorem par_good {w w' : World} {s : ByteArray} {g o n c : Nat} {cs : Array Value} {x : ByteArray} (hE : pathE s = 0) (h : RdZ 1 strE w' (.slice (some ⟨g, o, none⟩) (n + 1) c) (pathL s)) (hx : (pathL s)[n]? = some x) (hg : w.heap.size ≤ g) (hc : w'.heap[g]? = some (.cells cs 9 (0, 0))) (hcs : o + (n + 1) ≤ cs.size) (hb : Below w.heap.size w w') :
    ParOut w w' s (.returned (.tuple #[.slice (some ⟨g, o, none⟩) n c, .string x, .int .i64 0])) := by
  have hl := h.len.1
  have e : parE s = 0 := by unfold parE; rw [if_pos ⟨hE, fun e => by rw [e] at hl; simp at hl⟩]
  have eL : parL s = (pathL s).take n := by
    unfold parL; rw [if_pos e, List.dropLast_eq_take, hl]; rfl
  have eN : parN s = x := by
    unfold parN; rw [if_pos e, List.getLast?_eq_getElem?, hl]
    show ((pathL s)[n]?).getD _ = x
    rw [hx]; rfl
  refine ⟨some ⟨g, o, none⟩, n, c, by rw [e, eN], ⟨?_, fun _ => ⟨g, o, cs, rfl, hg, hc, by omega⟩⟩, hb⟩
  rw [eL]
  exact RdZ.take h n (by omega) (fun e => by cases e)

theorem par_goes {w w1 w' : World} {s : ByteArray} {g o n c : Nat} {x : ByteArray} (hE : pathE s = 0) (hf : FrR w.heap.size w1 (some ⟨g, o, none⟩) (n + 1) c (pathL s)) (hx : (pathL s)[n]? = some x) (hb : Below w.heap.size w w1) (hq : Below w1.heap.size w1 w') :
    ParOut w w' s (.returned (.tuple #[.slice (some ⟨g, o, none⟩) n c, .string x, .int .i64 0])) := by
  have hf' := hf.below hq
  obtain ⟨g', o', cs, e, h1, h2, h3⟩ := hf'.2 (by omega)
  cases e
  exact par_good hE hf'.1 hx h1 h2 h3 (hb.trans (hq.mono hb.size))

set_option maxHeartbeats 4000000 in
theorem rparent_any (w : World) (s : ByteArray) (hs : s.size ≤ maxLen) : Calls Try.prog 12 #[.string s] w fun e w' => ParOut w w' s e := by
  have hsp := rsplit_any w s hs
  go_enter Try.func12, Try.ntmps12
  go_wp2_with fail
  refine hsp.mono ?_
  rintro e w1 ⟨u, rfl, ho, hb⟩
  clear hsp
  obtain ⟨a, c, rfl⟩ := row_slice ho
  obtain ⟨n, hn⟩ : ∃ n, (pathL s).length = n := ⟨_, rfl⟩
  have HF : Hid (FrR w.heap.size w1 a n c (pathL s)) := by rw [← hn]; rw [← hn] at *; exact FrR.of_own ho
  have HB : Hid (Below w.heap.size w w1 ∧ (pathL s).length = n) := ⟨hb, hn⟩
  rw [hn]
  clear ho hb hn
  obtain ⟨E, hE⟩ : ∃ E, pathE s = E := ⟨_, rfl⟩
  rw [hE]
  have HE : Hid (pathE s = E) := hE
  rcases pathE_or s with h0 | h0
  · have e0 : E = 0 := by rw [← hE]; exact h0
    subst e0
    clear hE h0
    by_cases hz : n = 0
    · subst hz
      go_wp2
      go_ret3
      exact par_bad (fun h => h.2 (List.eq_nil_of_length_eq_zero HB.out.2)) HB.out.1
    · obtain ⟨m, rfl⟩ : ∃ m, n = m + 1 := ⟨n - 1, by omega⟩
      obtain ⟨x, hx⟩ : ∃ x, (pathL s)[m]? = some x := ⟨_, List.getElem?_eq_getElem (by have := HB.out.2; omega)⟩
      have HX : Hid ((pathL s)[m]? = some x) := hx
      obtain ⟨b0, o0, rfl, d0⟩ := s_cell HF.out.1 hx
      have hm1 : ((m + 1 : Nat) : Int) - 1 = (m : Int) := by omega
      have hz' : ¬ ((m + 1 : Nat) : Int) = 0 := by omega
      have hcap : m + 1 ≤ c := HF.out.1.len.2.1
      have hcapI : (m : Int) ≤ (c : Int) := by omega
      have hmI : (m : Int) < ((m + 1 : Nat) : Int) := by omega
      have hm6 : m ≤ 1000 := by have := (path_all HE.out).1; have := HB.out.2; omega
      clear hx hz
      go_wp2
      go_quiet (fail)
      go_wp2
      go_ret3
      exact par_goes HE.out HF.out HX.out HB.out.1 (belowQ _ _ _)
  · have e0 : E = 160 := by rw [← hE]; exact h0
    subst e0
    clear hE h0
    go_wp2
    go_ret3
    exact par_bad (fun h => by rw [HE.out] at h; cases h.1) HB.out.1

end Go.Proofs.Ytfnoppnmilmglaa
