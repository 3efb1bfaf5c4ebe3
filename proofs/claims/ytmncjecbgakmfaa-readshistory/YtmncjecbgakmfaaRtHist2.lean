/- ReadsHistory: the history, the document's list, and what was handed to both. -/
import Derived.Test.YtmncjecbgakmfaaRtHRef3
namespace Go.Proofs.Ytmncjecbgakmfaa
open Go.RowKit
set_option linter.unusedVariables false
set_option linter.unusedSimpArgs false
set_option maxRecDepth 100000

/-- The history and the document's list have the same versions. -/
def HistsAt (w wr : World) (P : Nat) (ax : Option Addr) (nx cx i : Nat) (G : List Nat) : Prop :=
  ∃ V X, HistF w.heap.size w wr P V (G ++ (Value.slice ax nx cx).ownBlock.toList) ∧ OwnL w.heap.size 49 2 waE wr (.slice ax nx cx) X ∧ X.map Wa.plain = V ∧ WasIn w X ∧ V.length ≤ i
theorem own_any (a : Option Addr) (n m c d : Nat) : (Value.slice a n c).ownBlock = (Value.slice a m d).ownBlock := by cases a <;> rfl
/-- A row of touches that may be written. -/
def OwnW (w wr : World) (a : Option Addr) (n : Nat) : Prop := (∀ k, (Value.slice a n 0).ownBlock = some k → w.heap.size ≤ k) ∧ (0 < n → ∃ g cs, a = some ⟨g, 0, none⟩ ∧ wr.heap[g]? = some (.cells cs 24 (0, 0)) ∧ n * 5 ≤ cs.size)
theorem own_len {base e : Nat} {w : World} {a : Option Addr} {n c : Nat} {X : List Wa} (h : OwnL base e 2 waE w (.slice a n c) X) : X.length = n := by
  obtain ⟨a', c', e⟩ := row_slice h
  simp only [Value.slice.injEq] at e
  exact e.2.1.symm
theorem HistsAt.len {w wr : World} {P : Nat} {ax : Option Addr} {nx cx i : Nat} {G : List Nat} (h : HistsAt w wr P ax nx cx i G) : Calls Try.prog 26 #[ptr P] wr fun e w' => e = .returned (.int .i64 nx) ∧ wr = w' := by
  obtain ⟨V, X, h1, h2, h3, h4, h5⟩ := h
  have := h1.len
  rw [← h3, List.length_map, own_len h2] at this
  exact this
theorem HistsAt.bel {w wr : World} {P : Nat} {ax : Option Addr} {nx cx i : Nat} {G : List Nat} (h : HistsAt w wr P ax nx cx i G) : Below w.heap.size w wr := by
  obtain ⟨V, X, h1, h2, h3, h4, h5⟩ := h
  exact h1.bel
theorem HistsAt.below {w wr w' : World} {P : Nat} {ax : Option Addr} {nx cx i : Nat} {G : List Nat} (h : HistsAt w wr P ax nx cx i G) (hb : Below wr.heap.size wr w') : HistsAt w w' P ax nx cx i G := by
  obtain ⟨V, X, h1, h2, h3, h4, h5⟩ := h
  exact ⟨V, X, h1.below hb, OwnL.below h2 hb, h3, h4, h5⟩
theorem HistsAt.sub {w wr : World} {P : Nat} {ax : Option Addr} {nx cx i j : Nat} {G G' : List Nat} (h : HistsAt w wr P ax nx cx i G) (hs : ∀ g ∈ G', g ∈ G) (hij : i ≤ j) : HistsAt w wr P ax nx cx j G' := by
  obtain ⟨V, X, h1, h2, h3, h4, h5⟩ := h
  exact ⟨V, X, h1.sub (fun g hg => by rcases List.mem_append.1 hg with e | e; exact List.mem_append.2 (.inl (hs g e)); exact List.mem_append.2 (.inr e)), h2, h3, h4, Nat.le_trans h5 hij⟩
theorem HistsAt.more {w wr w' : World} {P : Nat} {ax : Option Addr} {nx cx i : Nat} {G : List Nat} (h : HistsAt w wr P ax nx cx i G) (hb : Below wr.heap.size wr w') (Q : List Nat) (hQ : ∀ q ∈ Q, wr.heap.size ≤ q ∧ q < w'.heap.size) : HistsAt w w' P ax nx cx i (Q ++ G) := by
  obtain ⟨V, X, h1, h2, h3, h4, h5⟩ := h
  refine ⟨V, X, ?_, OwnL.below h2 hb, h3, h4, h5⟩
  have := h1.more hb Q hQ
  rw [← List.append_assoc] at this
  exact this

/-- One cell of what was handed in is written over. -/
theorem HistsAt.write {w wr : World} {P : Nat} {ax : Option Addr} {nx cx i : Nat} {g c : Nat} (n : Nat) (h : HistsAt w wr P ax nx cx i (Value.slice (some ⟨g, 0, none⟩) n c).ownBlock.toList) (ho : OwnW w wr (some ⟨g, 0, none⟩) n) (hn : 0 < n) (j : Nat) (u : Value) :
    HistsAt w (wr.setCell ⟨g, j, none⟩ u) P ax nx cx i (Value.slice (some ⟨g, 0, none⟩) n c).ownBlock.toList ∧ OwnW w (wr.setCell ⟨g, j, none⟩ u) (some ⟨g, 0, none⟩) n := by
  have hs : Sole [g] wr (wr.setCell ⟨g, j, none⟩ u) := Sole.setCell wr u (by simp)
  obtain ⟨o1, o2⟩ := ho
  obtain ⟨g', cs, e, hg, hcs⟩ := o2 hn
  cases e
  refine ⟨?_, o1, fun _ => ⟨g, _, rfl, heap_setCell_same wr g j _ _ u hg, by simpa using hcs⟩⟩
  obtain ⟨V, X, h1, h2, h3, h4, h5⟩ := h
  refine ⟨V, X, h1.write hs (fun k hk => ?_), own_keep h2 hs.size (fun q hq hl => hs.block q hl (fun e => ?_)), h3, h4, h5⟩
  · rw [List.mem_singleton] at hk
    subst hk
    exact ⟨List.mem_append.2 (.inl (by simp [Value.ownBlock])), o1 k rfl⟩
  · obtain ⟨cs', e'⟩ := own_row h2 hq
    rw [List.mem_singleton] at e
    exact ne_of_type e' hg (by decide) e
theorem OwnW.cell {w wr : World} {g n : Nat} (ho : OwnW w wr (some ⟨g, 0, none⟩) n) {i : Nat} (hi : i < n) : (∃ v, wr.cell? ⟨g, i * 5 + 1, none⟩ = some v) ∧ wr.frozen? ⟨g, i * 5 + 1, none⟩ = false := by
  obtain ⟨g', cs, e, hg, hcs⟩ := ho.2 (by omega)
  cases e
  have hlt : i * 5 + 1 < cs.size := by
    have : (i + 1) * 5 ≤ n * 5 := Nat.mul_le_mul_right 5 hi
    omega
  exact ⟨⟨_, by rw [cell_of_row _ _ _ _ _ (0, 0) hg, Array.getElem?_eq_getElem hlt]⟩, frozen_of_row _ g _ _ _ hg⟩
theorem OwnW.shape {w wr : World} {a : Option Addr} {n : Nat} (ho : OwnW w wr a n) (hn : 0 < n) : ∃ g, a = some ⟨g, 0, none⟩ := by
  obtain ⟨g, cs, e, _⟩ := ho.2 hn
  exact ⟨g, e⟩
theorem OwnW.keepG {w wr w' : World} {a : Option Addr} {n : Nat} {G : List Nat} (ho : OwnW w wr a n) (hk : KeepG G wr w') (hG : ∀ k, (Value.slice a n 0).ownBlock = some k → k ∈ G) : OwnW w w' a n := by
  refine ⟨ho.1, fun hn => ?_⟩
  obtain ⟨g, cs, e, hg, hcs⟩ := ho.2 hn
  subst e
  exact ⟨g, cs, rfl, (hk.block g (hG g rfl)).trans hg, hcs⟩
theorem OwnW.below {w wr w' : World} {a : Option Addr} {n : Nat} (ho : OwnW w wr a n) (hb : Below wr.heap.size wr w') : OwnW w w' a n := by
  refine ⟨ho.1, fun hn => ?_⟩
  obtain ⟨g, cs, e, hg, hcs⟩ := ho.2 hn
  exact ⟨g, cs, e, (hb.block g (Array.getElem?_eq_some_iff.1 hg).1).trans hg, hcs⟩
theorem OwnW.of_own {w wr : World} {B : Nat} {a : Option Addr} {n c : Nat} {xs : List Value} (h : wr.ownsRow B 24 5 (.slice a n c) n xs) (hB : w.heap.size ≤ B) : OwnW w wr a n := by
  obtain ⟨h1, ⟨e, h2⟩ | ⟨g, cap, cur, e, h3, h4, h5, h6, h7, h8⟩⟩ := h
  · simp only [Value.slice.injEq] at e
    obtain ⟨rfl, rfl, rfl⟩ := e
    exact ⟨(fun k hk => by cases hk), fun hn => absurd hn (Nat.lt_irrefl 0)⟩
  · simp only [Value.slice.injEq, true_and] at e
    obtain ⟨rfl, rfl⟩ := e
    exact ⟨(fun k hk => by cases hk; exact Nat.le_trans hB h3), fun _ => ⟨g, cur, rfl, h4, by rw [h7]; exact Nat.mul_le_mul_right 5 h5⟩⟩

/-- A call of a history lies in a variable of its own. -/
structure AcAt (w : World) (q : Nat) (D N1 : Int) (a : Option Addr) (n c : Nat) : Prop where
  row : w.heap[q]? = some (.cells #[.int .i64 D, .int .u64 N1, .slice a n c] 45 (0, 0))
theorem AcAt.lt {w : World} {q : Nat} {D N1 : Int} {a : Option Addr} {n c : Nat} (h : AcAt w q D N1 a n c) : q < w.heap.size := (Array.getElem?_eq_some_iff.1 h.row).1
theorem AcAt.below {w w' : World} {q : Nat} {D N1 : Int} {a : Option Addr} {n c : Nat} (h : AcAt w q D N1 a n c) (hb : Below w.heap.size w w') : AcAt w' q D N1 a n c := ⟨(hb.block q h.lt).trans h.row⟩
theorem AcAt.keepG {w w' : World} {q : Nat} {D N1 : Int} {a : Option Addr} {n c : Nat} {G : List Nat} (h : AcAt w q D N1 a n c) (hk : KeepG G w w') (hq : q ∈ G) : AcAt w' q D N1 a n c := ⟨(hk.block q hq).trans h.row⟩
theorem AcAt.c0 {w : World} {q : Nat} {D N1 : Int} {a : Option Addr} {n c : Nat} (h : AcAt w q D N1 a n c) : w.cell? ⟨q, 0, none⟩ = some (.int .i64 D) := by rw [cell_of_row _ _ _ _ _ (0, 0) h.row]; rfl
theorem AcAt.c1 {w : World} {q : Nat} {D N1 : Int} {a : Option Addr} {n c : Nat} (h : AcAt w q D N1 a n c) : w.cell? ⟨q, 1, none⟩ = some (.int .u64 N1) := by rw [cell_of_row _ _ _ _ _ (0, 0) h.row]; rfl
theorem AcAt.c2 {w : World} {q : Nat} {D N1 : Int} {a : Option Addr} {n c : Nat} (h : AcAt w q D N1 a n c) : w.cell? ⟨q, 2, none⟩ = some (.slice a n c) := by rw [cell_of_row _ _ _ _ _ (0, 0) h.row]; rfl

/-- An addition, in the history and by the document. -/
theorem HistsAt.add {w wr w6 : World} {P : Nat} {ax : Option Addr} {nx cx i : Nat} {G : List Nat} {N1 : Int} {al : List Tc} {V : List (Int × List Tc)} {X : List Wa} (h2 : OwnL w.heap.size 49 2 waE wr (.slice ax nx cx) X) (h3 : X.map Wa.plain = V) (h4 : WasIn w X) (h5 : V.length ≤ i) (hg : goodV V N1 al = false) (h6 : HOut w.heap.size w wr w6 P (addV V N1 al) (G ++ (Value.slice ax nx cx).ownBlock.toList)) : HistsAt w w6 P ax nx cx i G := by
  unfold addV at h6
  rw [if_neg (by rw [hg]; simp)] at h6
  exact ⟨V, X, h6.1, own_keep h2 h6.2.size (fun q hq _ => h6.2.block q (List.mem_append.2 (.inr (by rw [Option.mem_toList]; exact hq)))), h3, h4, h5⟩
/-- The document's list has grown behind the history. -/
theorem hists_grown {w w6 w9 : World} {P : Nat} {ax a9 : Option Addr} {nx cx n9 c9 i : Nat} {G : List Nat} {N1 : Int} {al : List Tc} {V : List (Int × List Tc)} {X : List Wa} {y : Wa} (h1 : HistF w.heap.size w w6 P (V ++ [(N1, al)]) (G ++ (Value.slice ax nx cx).ownBlock.toList)) (hB : ∀ k, (Value.slice ax nx cx).ownBlock = some k → w.heap.size ≤ k) (h3 : X.map Wa.plain = V) (h4 : WasIn w X) (h5 : V.length ≤ i)
    (hy : y.plain = (N1, al)) (hyi : WasIn w [y]) (hg : w6.grownBy w9 (Value.slice ax nx cx).ownBlock) (ho : OwnL w.heap.size 49 2 waE w9 (.slice a9 n9 c9) (X ++ [y])) : HistsAt w w9 P a9 n9 c9 (i + 1) G := by
  have hs : Sole (Value.slice ax nx cx).ownBlock.toList w6 w9 := ⟨hg.os, hg.tape, hg.output, hg.size, fun k hk hn => hg.block k hk (fun e => hn (by rw [Option.mem_toList]; exact e.symm))⟩
  have h6 := h1.write hs (fun k hk => ⟨List.mem_append.2 (.inr hk), hB k (by rw [Option.mem_toList] at hk; exact hk)⟩)
  have hup := h1.up
  refine ⟨V ++ [(N1, al)], X ++ [y], ?_, ho, by rw [List.map_append, h3, List.map_singleton, hy], ?_, by rw [List.length_append]; simpa using h5⟩
  · obtain ⟨hv, K, k1, k2, k3, k4, k5, k6, k7, k8⟩ := h6
    refine ⟨hv, K, k1, k2, k3, k4, k5, k6, k7, fun g hgg => ?_⟩
    rcases List.mem_append.1 hgg with e | e
    · exact k8 g (List.mem_append.2 (.inl e))
    · rw [Option.mem_toList] at e
      have hgl := own_blk ho e
      obtain ⟨cs, hcs⟩ := own_row ho e
      refine ⟨hgl, ?_, fun e2 => ?_, fun d hd e2 => ?_⟩
      · exact ne_of_type hcs k1.row (by decide)
      · obtain ⟨cs2, h2⟩ := own_row k1.own e2
        exact ne_of_type hcs h2 (by decide) rfl
      · obtain ⟨cs2, h2⟩ := own_row (k1.each d hd).own e2
        exact ne_of_type hcs h2 (by decide) rfl
  · intro x hx
    rcases List.mem_append.1 hx with e | e
    · exact h4 x e
    · exact hyi x e

theorem AcAt.load1 {w : World} {q : Nat} {D N1 : Int} {a : Option Addr} {n c : Nat} (h : AcAt w q D N1 a n c) : (Instr.loadAt 43 (.pointer (some ⟨q, 1, none⟩))).run Try.prog w = .ok (.int .u64 N1) w := by
  have c := h.c1
  have u := Try.underlying43
  go_simp
theorem AcAt.load2 {w : World} {q : Nat} {D N1 : Int} {a : Option Addr} {n c : Nat} (h : AcAt w q D N1 a n c) : (Instr.loadAt 32 (.pointer (some ⟨q, 2, none⟩))).run Try.prog w = .ok (.slice a n c) w := by
  have c := h.c2
  have u := Try.underlying32
  go_simp
/-- What is forgotten, in the history and by the document. -/
theorem hists_forgot {w wr w9 w10 : World} {P : Nat} {ax a10 : Option Addr} {nx cx n10 c10 i : Nat} {G : List Nat} {up : Int} {V : List (Int × List Tc)} {X : List Wa} (h3 : X.map Wa.plain = V) (h4 : WasIn w X) (h5 : V.length ≤ i) (h6 : HOut w.heap.size w wr w9 P (forgetV V up) (G ++ (Value.slice ax nx cx).ownBlock.toList)) (hb : Below w9.heap.size w9 w10) (ho : OwnL w9.heap.size 49 2 waE w10 (.slice a10 n10 c10) (X.filter (fun d => decide (up < d.ver)))) : HistsAt w w10 P a10 n10 c10 i G := by
  have hup := h6.1.up
  have hnew : ∀ q ∈ (Value.slice a10 n10 c10).ownBlock.toList, w9.heap.size ≤ q ∧ q < w10.heap.size := fun q hq => by
    rw [Option.mem_toList] at hq
    refine ⟨?_, own_blk ho hq⟩
    obtain ⟨_, ⟨e, _⟩ | ⟨g, cap, cur, e, k3, _⟩⟩ := ho
    · rw [e] at hq; cases hq
    · rw [e] at hq; cases hq; exact k3
  have h7 := h6.1.more hb _ hnew
  refine ⟨forgetV V up, X.filter (fun d => decide (up < d.ver)), h7.sub (fun g hg => ?_), ho.mono hup, ?_, fun x hx => h4 x (List.mem_filter.1 hx).1, ?_⟩
  · rcases List.mem_append.1 hg with e | e
    · exact List.mem_append.2 (.inr (List.mem_append.2 (.inl e)))
    · exact List.mem_append.2 (.inl e)
  · rw [← h3, forgetV, List.filter_map]; rfl
  · exact Nat.le_trans (List.length_filter_le _ _) h5

end Go.Proofs.Ytmncjecbgakmfaa
