/- The document's registry: what it is, in plain words, and where it lies. -/
import Derived.Test.YtakifnlfgaedjaaVIn
import Derived.Laws.OwnMore
namespace Go.Proofs.Ytakifnlfgaedjaa
open Go.RowKit
set_option linter.unusedVariables false
set_option linter.unusedSimpArgs false
set_option maxRecDepth 4000

/-- A snapshot of the document's; id 0: open no more. -/
structure Sf where
  id : Nat
  root : Int
  ver : Int
def sfC (x : Sf) : List Value := [.int .i64 x.id, .int .u32 x.root, .int .u64 x.ver]
def inC (z : Int) : List Value := [.int .i64 z]

/-- The document's registry. -/
structure Rf where
  root : Int
  ver : Int
  first : Int
  base : Int
  pl : List Int
  l : List Sf

def rfC (vp vl : Value) (x : Rf) : Array Value := #[.int .u32 x.root, .int .u64 x.ver, .int .u64 x.first, .int .u64 x.base, vp, vl]

/-- Where it lies. -/
structure RfAt (B : Nat) (w : World) (p : Nat) (vp vl : Value) (x : Rf) : Prop where
  row : w.heap[p]? = some (.cells (rfC vp vl x) 42 (0, 0))
  op : w.ownsRow B 3 1 vp x.pl.length (x.pl.flatMap inC)
  ol : w.ownsRow B 66 3 vl x.l.length (x.l.flatMap sfC)

theorem RfAt.lt {B : Nat} {w : World} {p : Nat} {vp vl : Value} {x : Rf} (h : RfAt B w p vp vl x) : p < w.heap.size := (Array.getElem?_eq_some_iff.1 h.row).1
theorem RfAt.cell {B : Nat} {w : World} {p : Nat} {vp vl : Value} {x : Rf} (h : RfAt B w p vp vl x) (j : Nat) (u : Value) (hu : (rfC vp vl x)[j]? = some u) : w.cell? ⟨p, j, none⟩ = some u := by
  rw [cell_of_row w p j _ _ (0, 0) h.row]; exact hu
theorem RfAt.apartP {B : Nat} {w : World} {p : Nat} {vp vl : Value} {x : Rf} (h : RfAt B w p vp vl x) : ∀ k, vp.ownBlock = some k → k ≠ p ∧ B ≤ k ∧ k < w.heap.size := fun k hk =>
  ⟨fun e => row_apart (by decide) h.row h.op (by rw [hk, e]), World.ownsRow.lt h.op k hk⟩
theorem RfAt.apartL {B : Nat} {w : World} {p : Nat} {vp vl : Value} {x : Rf} (h : RfAt B w p vp vl x) : ∀ k, vl.ownBlock = some k → k ≠ p ∧ B ≤ k ∧ k < w.heap.size := fun k hk =>
  ⟨fun e => row_apart (by decide) h.row h.ol (by rw [hk, e]), World.ownsRow.lt h.ol k hk⟩
theorem two_apart {w : World} {B B' n k n' k' : Nat} {e e' : TypeId} {v v' : Value} {xs xs' : List Value} (he : e ≠ e') (h : w.ownsRow B e k v n xs) (h' : w.ownsRow B' e' k' v' n' xs') : ∀ q, v.ownBlock = some q → v'.ownBlock ≠ some q := fun q hq => by
  obtain ⟨_, ⟨rfl, _⟩ | ⟨g, c, cur, rfl, _, hg, _⟩⟩ := h
  · cases hq
  · simp only [Value.ownBlock, Option.some.injEq] at hq
    subst hq
    exact row_apart he hg h'
theorem RfAt.other {B : Nat} {w w' : World} {p : Nat} {vp vl : Value} {x : Rf} (h : RfAt B w p vp vl x) {S : List Nat} (hS : Sole S w w') (hp : p ∉ S) (hv : ∀ k, vp.ownBlock = some k → k ∉ S) (hl : ∀ k, vl.ownBlock = some k → k ∉ S) : RfAt B w' p vp vl x :=
  ⟨(hS.block p h.lt hp).trans h.row, own_keep h.op hS.size (fun q hq hl => hS.block q hl (hv q hq)), own_keep h.ol hS.size (fun q hq hl' => hS.block q hl' (hl q hq))⟩
theorem RfAt.below {B : Nat} {w w' : World} {p : Nat} {vp vl : Value} {x : Rf} (h : RfAt B w p vp vl x) (hb : Below w.heap.size w w') : RfAt B w' p vp vl x :=
  h.other (Sole.of_below hb []) (by simp) (by simp) (by simp)
theorem RfAt.mono {B B' : Nat} {w : World} {p : Nat} {vp vl : Value} {x : Rf} (h : RfAt B w p vp vl x) (hb : B' ≤ B) : RfAt B' w p vp vl x := ⟨h.row, own_mono h.op hb, own_mono h.ol hb⟩

/-- Its blocks. -/
def rfB (p : Nat) (vp vl : Value) : List Nat := p :: (vp.ownBlock.toList ++ vl.ownBlock.toList)

/-- What a call on it leaves. -/
structure RfMoves (B : Nat) (w w' : World) (p : Nat) (vp vl : Value) (x' : Rf) : Prop where
  at_ : ∃ vp' vl', RfAt B w' p vp' vl' x'
  sole : Sole (rfB p vp vl) w w'

theorem flatG {α : Type} (C : α → List Value) (n : Nat) (hC : ∀ x, (C x).length = n) (K : List α) : ∀ (i j : Nat) (x : α) (v : Value), K[i]? = some x → (C x)[j]? = some v → (K.flatMap C)[i * n + j]? = some v := by
  induction K with
  | nil => intro i j x v h; simp at h
  | cons y K ih =>
    intro i j x v h hv
    have hj : j < n := by rw [← hC x]; exact (List.getElem?_eq_some_iff.1 hv).1
    rw [List.flatMap_cons]
    cases i with
    | zero =>
      simp only [List.getElem?_cons_zero, Option.some.injEq] at h
      subst h
      rw [Nat.zero_mul, Nat.zero_add, List.getElem?_append_left (by rw [hC]; exact hj)]
      exact hv
    | succ i =>
      have e : (i + 1) * n = i * n + n := Nat.succ_mul i n
      rw [List.getElem?_append_right (by rw [hC, e]; omega), hC, show (i + 1) * n + j - n = i * n + j from by omega]
      exact ih i j x v (by simpa using h) hv

theorem own_gs {α : Type} {C : α → List Value} {n : Nat} (hC : ∀ x, (C x).length = n) {base : Nat} {w : World} {e : TypeId} {v : Value} {K : List α} (h : w.ownsRow base e n v K.length (K.flatMap C)) (hK : 0 < K.length) : ∃ g cap, v = .slice (some ⟨g, 0, none⟩) K.length cap ∧ K.length ≤ cap ∧ cap ≤ maxLen ∧ base ≤ g ∧ g < w.heap.size ∧ ∀ i x, K[i]? = some x → ∀ j u, (C x)[j]? = some u → w.cell? ⟨g, i * n + j, none⟩ = some u := by
  have h0 := h
  obtain ⟨h1, ⟨rfl, h2⟩ | ⟨g, cap, cur, rfl, h3, h4, h5, h6, h7, h8⟩⟩ := h
  · omega
  · refine ⟨g, cap, rfl, h5, h6, h3, (Array.getElem?_eq_some_iff.1 h4).1, fun i x hx j u hu => ?_⟩
    have e := flatG C n hC K i j x u hx hu
    have hl := (List.getElem?_eq_some_iff.1 e).1
    rw [h0.cellAt (i * n + j) (by rw [← h1]; exact hl)]
    exact e

theorem flatSet (K : List Sf) : ∀ (i : Nat) (x : Sf) (m : Nat), K[i]? = some x → (K.flatMap sfC).set (i * 3) (.int .i64 m) = (K.set i ⟨m, x.root, x.ver⟩).flatMap sfC := by
  induction K with
  | nil => intro i x m h; simp at h
  | cons y K ih =>
    intro i x m h
    cases i with
    | zero =>
      simp only [List.getElem?_cons_zero, Option.some.injEq] at h
      subst h
      simp [sfC]
    | succ i =>
      have h' : K[i]? = some x := by simpa using h
      rw [List.set_cons_succ, List.flatMap_cons, List.flatMap_cons, ← ih i x m h']
      rw [List.set_append_right _ _ (by show (sfC y).length ≤ _; show 3 ≤ _; omega)]
      have : (sfC y).length = 3 := rfl
      rw [this, show (i + 1) * 3 - 3 = i * 3 from by omega]

theorem Try.infoSf : (Try.prog.info? 66).map (fun i => (i.zero, i.size, i.bytes)) = some (some (.agg #[.int .i64 0, .int .u32 0, .int .u64 0]), 3, 24) := by kernel_rfl
theorem Try.infoIn : (Try.prog.info? 3).map (fun i => (i.zero, i.size, i.bytes)) = some (some (.int .i64 0), 1, 8) := by kernel_rfl

def newX (root ver : Int) : Rf := ⟨root, ver, ver, ver, [], []⟩

set_option maxHeartbeats 400000 in
theorem rnew_any (w : World) (root ver : Int) : Calls Try.prog 9 #[.int .u32 root, .int .u64 ver] w fun e w' => e = .returned (ptrR w.heap.size) ∧ RfAt w.heap.size w' w.heap.size (.slice none 0 0) (.slice none 0 0) (newX root ver) ∧ Below w.heap.size w w' := by
  go_enter Try.func9, Try.ntmps9
  go_wp2
  go_ret
  exact ⟨rfl, ⟨heap_alloc_new w _, World.ownsRow_nil _ _ _ _, World.ownsRow_nil _ _ _ _⟩, (Below.refl _ _).alloc (Nat.le_refl _) _⟩

end Go.Proofs.Ytakifnlfgaedjaa
