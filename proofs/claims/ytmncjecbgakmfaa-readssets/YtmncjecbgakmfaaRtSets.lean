/- ReadsSets: a call that is handed in lies in a variable; x and the set. -/
import Derived.Test.YtmncjecbgakmfaaRtRadd
namespace Go.Proofs.Ytmncjecbgakmfaa
open Go.RowKit Go.Maps
set_option linter.unusedVariables false
set_option linter.unusedSimpArgs false
set_option maxRecDepth 100000

def sopC (o : Sop) : Array Value := #[.int .i64 o.f0, .int .i64 o.f1, .int .i64 o.t.kind, .int .u32 o.t.ino, .string o.t.name, .int .i64 o.t.lo, .int .i64 o.t.hi]
/-- A call lies in a variable of its own. -/
structure OpAt (w : World) (q : Nat) (o : Sop) : Prop where
  row : w.heap[q]? = some (.cells (sopC o) 34 (0, 0))
theorem OpAt.lt {w : World} {g : Nat} {t : Sop} (h : OpAt w g t) : g < w.heap.size := (Array.getElem?_eq_some_iff.1 h.row).1
theorem OpAt.below {w w' : World} {g : Nat} {t : Sop} (h : OpAt w g t) (hb : Below w.heap.size w w') : OpAt w' g t := ⟨(hb.block g h.lt).trans h.row⟩
theorem OpAt.laid (w : World) (t : Sop) : OpAt (w.alloc (.cells (sopC t) 34)) w.heap.size t := ⟨heap_alloc_new w _⟩
theorem OpAt.c0 {w : World} {g : Nat} {t : Sop} (h : OpAt w g t) : w.cell? ⟨g, 0, none⟩ = some (.int .i64 t.f0) := by rw [cell_of_row _ _ _ _ _ (0, 0) h.row]; rfl
theorem OpAt.c1 {w : World} {g : Nat} {t : Sop} (h : OpAt w g t) : w.cell? ⟨g, 1, none⟩ = some (.int .i64 t.f1) := by rw [cell_of_row _ _ _ _ _ (0, 0) h.row]; rfl
theorem OpAt.loadT {w : World} {g : Nat} {t : Sop} (h : OpAt w g t) : (Instr.loadAt 24 (.pointer (some ⟨g, 2, none⟩))).run Try.prog w = .ok (.agg (tcC t.t)) w := by
  have hr : w.rangeAt g 2 (tcE t.t) := by
    have := World.rangeAt_of_block h.row 2 5
    exact this
  exact run_loadAt_mid w g 2 24 (tcE t.t) _ hr Try.underlying24 rfl (by kernel_rfl)
/-- One of the calls that are handed in. -/
theorem sop_load {w : World} {a : Option Addr} {n cap : Nat} {l : List Sop} (h : RdZ 7 sopE w (.slice a n cap) l) {i : Nat} {x : Sop} (hx : l[i]? = some x) :
    ∃ b off, a = some ⟨b, off, none⟩ ∧ (Instr.loadAt 34 (.pointer (some ⟨b, off + i * 7, none⟩))).run Try.prog w = .ok (.agg #[.int .i64 x.f0, .int .i64 x.f1, .int .i64 x.t.kind, .int .u32 x.t.ino, .string x.t.name, .int .i64 x.t.lo, .int .i64 x.t.hi]) w := by
  obtain ⟨⟨a', c, e, h1, h2, h3⟩, _⟩ := h
  simp only [Value.slice.injEq] at e
  obtain ⟨rfl, rfl, rfl⟩ := e
  obtain ⟨b, off, rfl, hlt, hc⟩ := h3 (by intro e; subst e; simp at hx)
  refine ⟨b, off, rfl, ?_⟩
  have hr : w.rangeAt b (off + i * 7) (sopE x) := fun j u hu => hc i x j u hx hu
  exact run_loadAt_mid (P := Try.prog) w b (off + i * 7) 34 _ _ hr Try.underlying34 rfl (by kernel_rfl)

theorem RdZ.take {α : Type} {k : Nat} {enc : α → List Value} {w : World} {a : Option Addr} {n c : Nat} {l : List α} (h : RdZ k enc w (.slice a n c) l) (m : Nat) (hm : m ≤ n) : RdZ k enc w (.slice a m c) (l.take m) := by
  obtain ⟨hl, h1, h2⟩ := h.len
  obtain ⟨⟨a', c', e, _, _, h4⟩, hz⟩ := h
  simp only [Value.slice.injEq] at e
  obtain ⟨rfl, rfl, rfl⟩ := e
  have hdl : (l.take m).length = m := by rw [List.length_take]; omega
  refine ⟨⟨a, c, by rw [hdl], by rw [hdl]; omega, h2, fun hne => ?_⟩, fun q hv => ?_⟩
  · obtain ⟨b, off, e, hlt, hc⟩ := h4 (by intro e; subst e; simp at hne)
    refine ⟨b, off, e, hlt, fun i x j u hi hj => hc i x j u ?_ hj⟩
    rw [List.getElem?_take] at hi
    split at hi
    · exact hi
    · cases hi
  · simp only [Value.slice.injEq] at hv
    obtain ⟨rfl, rfl, rfl⟩ := hv
    by_cases h0 : l = []
    · subst h0; exact hz _ rfl
    · obtain ⟨b, off, e, _⟩ := h4 h0
      cases e

theorem own_cut (a : Option Addr) (n m c : Nat) : (Value.slice a n c).ownBlock = (Value.slice a m c).ownBlock := by cases a <;> rfl
theorem SetF.sub {B : Nat} {w0 w : World} {p b : Nat} {L : List Tc} {G G' : List Nat} (h : SetF B w0 w p b L G) (hs : ∀ g ∈ G', g ∈ G) : SetF B w0 w p b L G' := by
  obtain ⟨v, h1, h2, h3, h4, h5, h6, h7⟩ := h
  exact ⟨v, h1, h2, h3, h4, h5, h6, fun g hg => h7 g (hs g hg)⟩
theorem SetF.newOr {B : Nat} {w0 w w' : World} {p b : Nat} {L : List Tc} {G : List Nat} {u v : Value} (h : SetF B w0 w p b L G) (hv : ∀ g, v.ownBlock = some g → g ∈ G) (hb : Below w.heap.size w w') (hn : NewOr w w' u v) : SetF B w0 w' p b L u.ownBlock.toList := by
  rcases hn with e | e
  · exact (h.below hb).sub (fun g hg => by rw [Option.mem_toList, e] at hg; exact hv g hg)
  · have := h.more hb u.ownBlock.toList (fun q hq => by rw [Option.mem_toList] at hq; exact e q hq)
    exact this.sub (fun g hg => by simp [hg])
theorem addL_radd {L : List Tc} {t : Tc} (h : mayB t = true) : addL L t = raddL L t := by
  unfold addL raddL; rw [if_pos h]
theorem addL_no {L : List Tc} {t : Tc} (h : mayB t = false) : addL L t = L := by
  unfold addL; rw [if_neg (by rw [h]; simp)]
theorem raddL_len (L : List Tc) (t : Tc) : (raddL L t).length ≤ L.length + 1 := by
  unfold raddL; split
  · omega
  · simp

/-- What is held at the head of a round: the set and the document's list, the same. -/
def SetsAt (w0 w : World) (P M : Nat) (a : Option Addr) (n c i : Nat) : Prop :=
  ∃ L, SetF w0.heap.size w0 w P M L (Value.slice a n c).ownBlock.toList ∧ RdZ 5 tcE w (.slice a n c) L ∧ n ≤ i
theorem rem9 {N : Int} (h0 : -9223372036854775808 ≤ N) (h1 : N ≤ 9223372036854775807) : -8 ≤ N.tmod 9 ∧ N.tmod 9 ≤ 8 := by
  have e := Int.tmod_add_mul_tdiv N 9
  have h2 := Int.tmod_lt_of_pos N (by decide : (0 : Int) < 9)
  have h3 := Int.lt_tmod_of_pos N (by decide : (0 : Int) < 9)
  omega
theorem rem9' {N : Int} (h0 : 0 ≤ N) : 0 ≤ N.tmod 9 ∧ N.tmod 9 ≤ 8 := by
  have h2 := Int.tmod_lt_of_pos N (by decide : (0 : Int) < 9)
  have h3 := Int.tmod_nonneg 9 h0
  omega

end Go.Proofs.Ytmncjecbgakmfaa
