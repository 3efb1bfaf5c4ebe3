/- The contract of page.headBytes: its operations come in any order: from each stage on. -/
import Derived.Test.YthgdbjpefjjeaaaGreatQConcat
import Derived.Test.YthgdbjpefjjeaaaGreatQBytes
import Derived.Deep.RegionHeld3
namespace Go.Proofs.YthgdbjpefjjeaaaGreat
open Go.RowKit
set_option linter.unusedVariables false
set_option linter.unusedSimpArgs false
set_option maxRecDepth 4000

def hdV (h : Hd) : Value := .agg #[.int .u64 h.seq, .int .u64 h.version, .int .u64 h.log, .int .u32 h.root, .int .u32 h.next, .int .u32 h.items]

theorem keepA {w1 W : World} (h : Below w1.heap.size w1 W) (o : Obj) : Below w1.heap.size w1 (W.alloc o) := h.alloc h.size o

/-- A region's stage under a name. -/
theorem wpAnyH_named {P : Program} {md : Region.Mode} {ops : Array Oper} {Q : Exit → Act → World → Prop} {S : World → Prop} {fuel : Nat} {listed : Array Bool} {a : Act} {w : World}
    (h : ∀ G : Nat → Array Bool → Act → World → Prop, Hid (∀ f l a w, G f l a w ↔ wpAnyH P md ops Q S f l a w) → G fuel listed a w) : wpAnyH P md ops Q S fuel listed a w :=
  h _ (show Hid _ from fun _ _ _ _ => Iff.rfl)

/-- '[]byte("..")' of a constant: its row is marked. -/
theorem conv_const (W : World) (g n c : Nat) (cs : Array Value) (hg : W.heap[g]? = some (.cells cs 5 (0, 0))) :
    ∃ W', (convert 86 86 (.slice (some ⟨g, 0, none⟩) n c)).run Tryz.prog W = .ok (.slice (some ⟨g, 0, none⟩) n c) W' ∧ (∀ B, B ≤ g → Below B W W') ∧ (∀ p, W'.cell? p = W.cell? p) ∧ W'.heap.size = W.heap.size := by
  have hsh : W.shape? g = some (5, cs.size) := by unfold World.shape?; rw [hg]
  refine ⟨W.freeze ⟨g, cs.size, none⟩ 1, ?_, ?_, ?_, ?_⟩
  · simp [convert, run_underlying Tryz.underlying86, run_underlying Tryz.underlying5, markStringish, hsh]
  · intro B hB
    have hgr : W.grownBy (W.freeze ⟨g, cs.size, none⟩ 1) (some g) := by
      unfold World.freeze
      rw [if_neg (by decide)]
      refine ⟨rfl, rfl, rfl, by simp, fun k hk hne => ?_⟩
      have hne' : ¬ g = k := fun e => hne (by rw [e])
      show (W.heap.modify g _)[k]? = W.heap[k]?
      rw [Array.getElem?_modify, if_neg hne']
    exact (Below.refl B W).grown hgr (by have := (Array.getElem?_eq_some_iff.1 hg).1; omega) (fun k e => by cases e; exact hB)
  · intro p
    by_cases hp : g = p.block
    · have e1 : (W.freeze ⟨g, cs.size, none⟩ 1).heap[p.block]? = some (.cells cs 5 (cs.size, cs.size + 1)) := by
        unfold World.freeze
        rw [if_neg (by decide), ← hp]
        show (W.heap.modify g _)[g]? = _
        rw [Array.getElem?_modify, if_pos rfl, hg]
        rfl
      unfold World.cell?
      rw [e1, ← hp, hg]
    · refine World.cell?_of_block ?_
      unfold World.freeze
      rw [if_neg (by decide)]
      show (W.heap.modify g _)[p.block]? = W.heap[p.block]?
      rw [Array.getElem?_modify, if_neg hp]
  · unfold World.freeze
    rw [if_neg (by decide)]
    simp

theorem rd_cells {W W' : World} {v : Value} {xs : List Int} (h : Rd W v xs) (hc : ∀ p, W'.cell? p = W.cell? p) (hs : W'.heap.size = W.heap.size) : Rd W' v xs := by
  obtain ⟨a, cap, rfl, h1, h2, hnn, h3⟩ := h
  refine ⟨a, cap, rfl, h1, h2, hnn, fun hne => ?_⟩
  obtain ⟨b, off, rfl, hlt, hcs⟩ := h3 hne
  exact ⟨b, off, rfl, by omega, fun i hi => (hc _).trans (hcs i hi)⟩

theorem rd_magic {W : World} {g : Nat} (hg : W.heap[g]? = some (.cells #[.int .u8 97, .int .u8 114, .int .u8 109, .int .u8 111, .int .u8 105, .int .u8 114, .int .u8 101, .int .u8 49] 5 (0, 0))) : Rd W (.slice (some ⟨g, 0, none⟩) 8 8) magicL := by
  refine ⟨_, 8, rfl, by decide, by decide, (by intro e; cases e), fun _ => ⟨g, 0, rfl, (Array.getElem?_eq_some_iff.1 hg).1, fun i hi => ?_⟩⟩
  rw [Nat.zero_add, cell_of_row _ _ i _ _ _ hg]
  have hi8 : i < 8 := hi
  match i, hi8 with
  | 0, _ => rfl
  | 1, _ => rfl
  | 2, _ => rfl
  | 3, _ => rfl
  | 4, _ => rfl
  | 5, _ => rfl
  | 6, _ => rfl
  | 7, _ => rfl

end Go.Proofs.YthgdbjpefjjeaaaGreat
