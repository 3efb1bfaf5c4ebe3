/- VwSeq, VwRng: in one text. -/
import Derived.Test.YtjlglnhmkheidaaGreatM1
import Derived.RangeFuncNested
import Derived.RangeFuncBound
import Derived.RangeFuncCalls
import Derived.RangeFuncLeaves
import Derived.Shelf.Abstract
import Derived.OwnWalkIn
import Derived.TacticsInMore
import Derived.LoopNIn
import Derived.LoopIn
namespace Go.Proofs.YtjlglnhmkheidaaGreat
open Go.RowKit
set_option linter.unusedVariables false
set_option linter.unusedSimpArgs false
set_option maxRecDepth 4000

open Go.RowKit Go.Shelf

theorem below_put {n₀ l : Nat} (W : World) (o : Obj) (h : n₀ ≤ l) : Below n₀ W (W.putObj l o) :=
  ⟨rfl, rfl, rfl, by simp [World.putObj], fun k hk => World.putObj_heap_other (by omega)⟩
theorem from_put {n₁ l : Nat} (W : World) (o : Obj) (h : l < n₁) : KeepsFrom n₁ W (W.putObj l o) :=
  ⟨by simp [World.putObj], fun k o' hk e _ => (World.putObj_heap_other (by omega)).trans e⟩
theorem from_up {B B' : Nat} {W W' : World} (h : KeepsFrom B W W') (hB : B ≤ B') : KeepsFrom B' W W' := ⟨h.size, fun k o hk e ho => h.same k o (by omega) e ho⟩

/-- What lies below n₀ is left, but for some blocks. -/
structure BelX (xs : List Nat) (n₀ : Nat) (W W' : World) : Prop where
  os : W'.os = W.os
  tape : W'.tape = W.tape
  output : W'.output = W.output
  size : W.heap.size ≤ W'.heap.size
  block : ∀ k, k < n₀ → k ∉ xs → W'.heap[k]? = W.heap[k]?
theorem BelX.of {xs : List Nat} {n₀ : Nat} {W W' : World} (h : Below n₀ W W') : BelX xs n₀ W W' := ⟨h.os, h.tape, h.output, h.size, fun k hk _ => h.block k hk⟩
theorem BelX.refl (xs : List Nat) (n₀ : Nat) (W : World) : BelX xs n₀ W W := .of (Below.refl _ _)
theorem BelX.trans {xs : List Nat} {n₀ : Nat} {A B C : World} (h : BelX xs n₀ A B) (k : BelX xs n₀ B C) : BelX xs n₀ A C := ⟨k.os.trans h.os, k.tape.trans h.tape, k.output.trans h.output, Nat.le_trans h.size k.size, fun i hi hx => (k.block i hi hx).trans (h.block i hi hx)⟩
theorem BelX.cell {xs : List Nat} {n₀ : Nat} {W W' : World} (h : BelX xs n₀ W W') {p : Addr} (hp : p.block < n₀) (hx : p.block ∉ xs) : W'.cell? p = W.cell? p := by
  unfold World.cell?
  rw [h.block _ hp hx]
theorem BelX.setCell {xs : List Nat} {n₀ : Nat} {W W' : World} (h : BelX xs n₀ W W') {p : Addr} (hp : n₀ ≤ p.block) (v : Value) : BelX xs n₀ W (W'.setCell p v) := h.trans (.of ((Below.refl _ _).setCell hp v))
theorem BelX.setX {xs : List Nat} {n₀ b i : Nat} (W : World) (hb : b ∈ xs) (v : Value) : BelX xs n₀ W (W.setCell ⟨b, i, none⟩ v) :=
  have h := (Below.refl b W).setCell (p := ⟨b, i, none⟩) (Nat.le_refl _) v
  ⟨h.os, h.tape, h.output, h.size, fun k _ hx => heap_setCell_other W ⟨b, i, none⟩ k v (fun e => hx (e ▸ hb))⟩
/-- What rounds leave: the types of the iterators' variables; the blocks that they may write all the same. -/
structure Keep where
  ts : List TypeId
  xs : List Nat

/-- Blocks of these types from n₁ on are left: what an iterator's own variables are. -/
def KeepsT (TT : List TypeId) (n₁ : Nat) (W W' : World) : Prop := ∀ k cs t fr, n₁ ≤ k → t ∈ TT → W.heap[k]? = some (.cells cs t fr) → W'.heap[k]? = some (.cells cs t fr)
/-- What a round keeps: all below n₀; from n₁ on whatever is no cells, and cells of some types. -/
structure KpN (TT : Keep) (n₀ n₁ : Nat) (W W' : World) : Prop where
  bel : BelX TT.xs n₀ W W'
  non : KeepsFrom n₁ W W'
  typ : KeepsT TT.ts n₁ W W'
theorem KpN.trans {TT : Keep} {n₀ n₁ : Nat} {A B C : World} (h : KpN TT n₀ n₁ A B) (k : KpN TT n₀ n₁ B C) : KpN TT n₀ n₁ A C := ⟨h.bel.trans k.bel, h.non.trans k.non, fun i cs t fr hi ht e => k.typ i cs t fr hi ht (h.typ i cs t fr hi ht e)⟩
theorem KpN.up {TT : Keep} {n₀ n₁ n₂ : Nat} {A B : World} (h : KpN TT n₀ n₁ A B) (hn : n₁ ≤ n₂) : KpN TT n₀ n₂ A B := ⟨h.bel, from_up h.non hn, fun i cs t fr hi => h.typ i cs t fr (by omega)⟩
theorem KpN.put {TT : Keep} {n₀ n₁ l : Nat} (W : World) (o : Obj) (h0 : n₀ ≤ l) (h1 : l < n₁) : KpN TT n₀ n₁ W (W.putObj l o) := ⟨.of (below_put _ _ h0), from_put _ _ h1, fun k cs t fr hk _ e => (World.putObj_heap_other (by omega)).trans e⟩
theorem KpN.of_below {TT : Keep} {n₀ n₁ : Nat} {A B : World} (h : Below A.heap.size A B) (hn : n₀ ≤ A.heap.size) : KpN TT n₀ n₁ A B :=
  ⟨.of (h.mono hn), ⟨h.size, fun k o _ e _ => (h.block k (Array.getElem?_eq_some_iff.1 e).1).trans e⟩, fun k cs t fr _ _ e => (h.block k (Array.getElem?_eq_some_iff.1 e).1).trans e⟩
theorem KpN.refl {TT : Keep} (n₀ n₁ : Nat) (A : World) : KpN TT n₀ n₁ A A := ⟨BelX.refl _ _ _, KeepsFrom.refl _ _, fun _ _ _ _ _ _ e => e⟩

theorem KpN.setCell {TT : Keep} {n₀ n₁ b i : Nat} (W : World) (v : Value) (h0 : n₀ ≤ b) (h1 : b < n₁) : KpN TT n₀ n₁ W (W.setCell ⟨b, i, none⟩ v) :=
  ⟨(BelX.refl _ n₀ W).setCell (p := ⟨b, i, none⟩) h0 v, (KeepsOthers.setCell W ⟨b, i, none⟩ v).from _, fun k cs t fr hk _ e => (heap_setCell_other W ⟨b, i, none⟩ k v (by show k ≠ b; omega)).trans e⟩
theorem KpN.setX {TT : Keep} {n₀ n₁ b i : Nat} (W : World) (v : Value) (h0 : b ∈ TT.xs) (h1 : b < n₁) : KpN TT n₀ n₁ W (W.setCell ⟨b, i, none⟩ v) :=
  ⟨BelX.setX W h0 v, (KeepsOthers.setCell W ⟨b, i, none⟩ v).from _, fun k cs t fr hk _ e => (heap_setCell_other W ⟨b, i, none⟩ k v (by show k ≠ b; omega)).trans e⟩
theorem own_belX {β : Type} {xs : List Nat} {n₀ B : Nat} {w₀ : World} (h : n₀ ≤ B) (hB : n₀ ≤ w₀.heap.size) : OwnFrom B (fun (_ : β) W => BelX xs n₀ w₀ W) := fun s W W' row hs hg hr =>
  ⟨hg.os.trans hs.os, hg.tape.trans hs.tape, hg.output.trans hs.output, Nat.le_trans hs.size hg.size, fun k hk hx => (hg.block k (by have := hs.size; omega) (fun e => by have := (hr k e.symm).1; omega)).trans (hs.block k hk hx)⟩
/-- It abides that an iterator writes its own variables. -/
def AbT {β : Type} (TT : Keep) (B : Nat) (J : β → World → Prop) : Prop := ∀ s X b cs t v, J s X → B ≤ b → t ∈ TT.ts → X.heap[b]? = some (.cells cs t (0, 0)) → J s (X.setCell ⟨b, 0, none⟩ v)
theorem abT_up {β : Type} {TT : Keep} {B B' : Nat} {J : β → World → Prop} (h : AbT TT B J) (hB : B ≤ B') : AbT TT B' J := fun s X b cs t v hs hb => h s X b cs t v hs (by omega)

/-- What is told can be: a string has a size. -/
def okE (e : Array Value) : Prop := ∀ s, e[0]? = some (.string s) → s.size ≤ 8
/-- An iterator's word, also where it has loops over iterators of its own. -/
def SeqOwn {α : Type} (n : Nat) (P : Program) (g : Nat) (lb : Array Value) (encs : α → Array Value) (TT : Keep) (n₀ : Nat) (S Sp : List α → Prop) (N : Nat) (w : World) : Prop :=
  ∀ (l : Nat) (J Jx : List α → World → Prop) (W : World) (n₁ : Nat), Below w.heap.size w W → n₁ ≤ W.heap.size → OwnFrom W.heap.size J → OwnFrom W.heap.size Jx → AbT TT W.heap.size J → AbT TT W.heap.size Jx →
    (∀ pre x W1, okE (encs x) → J pre W1 → pre.length < N → YieldAt Fence.wide (n - 1) P l (encs x) W1 fun e W' =>
      (e = .returned (.bool true) ∧ J (pre ++ [x]) W' ∧ KpN TT n₀ n₁ W1 W') ∨ (e = .returned (.bool false) ∧ Jx (pre ++ [x]) W' ∧ KpN TT n₀ n₁ W1 W')) →
    J [] W →
    CallsIn Fence.wide n P g (#[.func (.yield l) #[] #[]] ++ lb) W fun e W' => (∃ v, e = .returned v) ∧ ((∃ xs, S xs ∧ J xs W') ∨ (∃ pre, Sp pre ∧ Jx pre W'))

theorem abides_own {β : Type} {B : Nat} {J : β → World → Prop} (h : OwnFrom B J) : AbidesFrom B J := fun s W W' row hs hg hr =>
  h s W W' row hs hg fun r e => by obtain ⟨h1, o, h2, h3⟩ := hr r e; exact ⟨h1, o, h2, Obj.not_cells_of_walk h3⟩
theorem seqOwn_of {α : Type} {n : Nat} {P : Program} {g : Nat} {lb : Array Value} {encs : α → Array Value} {TT : Keep} {n₀ : Nat} {S Sp : List α → Prop} {N : Nat} {w : World} (hok : ∀ x, okE (encs x)) (h : SeqStopsK Fence.wide n P g lb encs (BelX TT.xs n₀) S Sp N w) : SeqOwn n P g lb encs TT n₀ S Sp N w :=
  fun l J Jx W n₁ hW _ hJ hJx _ _ hY h0 => h l J Jx W hW (abides_own hJ) (abides_own hJx) (fun pre x W1 hj hl => (hY pre x W1 (hok x) hj hl).mono fun e W' he => by
    rcases he with ⟨h1, h2, h3⟩ | ⟨h1, h2, _⟩
    · exact .inl ⟨h1, h2, h3.bel⟩
    · exact .inr ⟨h1, h2⟩) h0

/-- Within whatever round, at whatever depth: a round of another loop. -/
theorem round_any {m m' : Nat} {P : Program} {l l' : Nat} {f : FuncId} {tmps : Array Value} {assign body : Code} {w : World} {R : Ending → World → Prop} (h : RoundIn Fence.wide m P l f tmps assign body w R) : RoundIn (Fence.wide.inRound l') m' P l f tmps assign body w R := ⟨trivial, fun c cs _ => h.2 c cs (fun _ e => by cases e)⟩
theorem round_wide {m m' : Nat} {P : Program} {l : Nat} {f : FuncId} {tmps : Array Value} {assign body : Code} {w : World} {R : Ending → World → Prop} (h : RoundIn Fence.wide m P l f tmps assign body w R) : RoundIn Fence.wide m' P l f tmps assign body w R := ⟨trivial, fun c cs _ => h.2 c cs (fun _ e => by cases e)⟩
theorem own_up {β : Type} {B B' : Nat} {J : β → World → Prop} (h : OwnFrom B J) (hB : B ≤ B') : OwnFrom B' J := fun s W W' row hs hg hr => h s W W' row hs hg fun r e => ⟨by have := (hr r e).1; omega, (hr r e).2⟩
theorem own_box {β : Type} (B b : Nat) (t : TypeId) (v : Value) : OwnFrom B (fun (_ : β) W => Boxed W b t v) := fun s W W' row hs hg hr => hs.kept hg fun e => by
  obtain ⟨_, o, h1, h2⟩ := hr b e.symm
  rw [show W.heap[b]? = _ from hs] at h1
  cases h1
  cases h2
theorem own_cells {β : Type} (B b : Nat) (t : TypeId) (cs : Array Value) : OwnFrom B (fun (_ : β) W => W.heap[b]? = some (.cells cs t (0, 0))) := fun s W W' row hs hg hr => (hg.block b (Array.getElem?_eq_some_iff.1 hs).1 fun e => by
  obtain ⟨_, o, h1, h2⟩ := hr b e.symm
  rw [hs] at h1
  cases h1
  cases h2).trans hs
theorem own_pure {β : Type} (B : Nat) (q : β → Prop) : OwnFrom B (fun s (_ : World) => q s) := fun _ _ _ _ hs _ _ => hs
theorem own_next {β : Type} {B : Nat} {J : β → World → Prop} (h : OwnFrom B J) {s : β} {W W' : World} (hs : J s W) (hb : Below W.heap.size W W') : J s W' := h s W W' none hs ⟨hb.os, hb.tape, hb.output, hb.size, fun k hk _ => hb.block k hk⟩ (fun r e => by cases e)

/-- The two blocks that a loop over an iterator lays. -/
structure LpAt (W : World) (B : Nat) (r : Loop) : Prop where
  df : W.heap[B]? = some (.deferred (some []))
  lp : W.heap[B + 1]? = some (.loop r)
theorem LpAt.lt {W : World} {B : Nat} {r : Loop} (h : LpAt W B r) : B + 1 < W.heap.size := (Array.getElem?_eq_some_iff.1 h.lp).1
theorem LpAt.from {W W' : World} {B : Nat} {r : Loop} (h : LpAt W B r) (k : KeepsFrom B W W') : LpAt W' B r := ⟨k.same _ _ (Nat.le_refl _) h.df rfl, k.same _ _ (by omega) h.lp rfl⟩
theorem LpAt.put {W : World} {B : Nat} {r : Loop} (h : LpAt W B r) (r' : Loop) : LpAt (W.putObj (B + 1) (.loop r')) B r' := ⟨(World.putObj_heap_other (by omega)).trans h.df, World.putObj_heap_same h.lt⟩
theorem LpAt.grown {W W' : World} {B : Nat} {r : Loop} {row : Option Nat} (h : LpAt W B r) (hg : W.grownBy W' row) (hr : ∀ j, row = some j → B + 2 ≤ j) : LpAt W' B r :=
  ⟨(hg.block _ (by have := h.lt; omega) (fun e => by have := hr _ e.symm; omega)).trans h.df, (hg.block _ h.lt (fun e => by have := hr _ e.symm; omega)).trans h.lp⟩

theorem LpAt.set {W : World} {B b : Nat} {r : Loop} (h : LpAt W B r) (v : Value) (hb : B + 2 ≤ b) : LpAt (W.setCell ⟨b, 0, none⟩ v) B r :=
  ⟨(heap_setCell_other W ⟨b, 0, none⟩ B v (by show B ≠ b; omega)).trans h.df, (heap_setCell_other W ⟨b, 0, none⟩ (B + 1) v (by show B + 1 ≠ b; omega)).trans h.lp⟩

/-- How a round's body may be left. -/
def wayOut {α : Type} (B : Nat) (Kp : World → World → Prop) (I : List α → World → Prop) (Ix : Code → List α → World → Prop) (xs : List α) (W : World) : Exit → Act → World → Prop
  | .normal, _, W' => KeepsFrom B W W' ∧ Kp W W' ∧ I xs W'
  | .ret, _, W' => KeepsFrom B W W' ∧ Kp W W' ∧ Ix .ret xs W'
  | .exit id, _, W' => KeepsFrom B W W' ∧ Kp W W' ∧ Ix (.exit id) xs W'
  | .goto t, _, W' => KeepsFrom B W W' ∧ Kp W W' ∧ Ix (.goto t) xs W'
  | .panic _, _, _ => False
  | .outgrown, _, _ => False

/-- A loop over such an iterator, outside every round. -/
theorem range_own {α : Type} {P : Program} {n : Nat} {g : Operand} {ps : Array Tmp} {assign body : Code} {Q : Exit → Act → World → Prop} {a : Act} {w : World}
    {gf : Nat} {lb : Array Value} (hg : a.eval g = .func (.func gf) #[] lb) (eg : ∀ args w, (callFunc gf args).run P w = .ok (.enter gf args) w)
    {encs : α → Array Value} {TT : Keep} {n₀ : Nat} {S Sp : List α → Prop} {N : Nat} {w0 : World} (hseq : SeqOwn (n - 1) P gf lb encs TT n₀ S Sp N w0) (hb0 : Below w0.heap.size w0 w) (hn₀ : n₀ ≤ w.heap.size) (hps : ∀ x, (encs x).size = ps.size)
    (I : List α → World → Prop) (Ix : Code → List α → World → Prop) (hI : OwnFrom w.heap.size I) (hIx : ∀ c, OwnFrom w.heap.size (Ix c)) (hIt : AbT TT w.heap.size I) (hIxt : ∀ c, AbT TT w.heap.size (Ix c)) (h0 : I [] w) (Ax : α → Act → World → Prop) (hAx : ∀ x a', OwnFrom w.heap.size (fun (_ : Unit) W => Ax x a' W))
    (hassign : ∀ (l : Nat) (pre : List α) (x : α) (W : World) (K : Act → World → Prop), I pre W → (∀ a' W', KeepsFrom w.heap.size W W' → KpN TT n₀ (w.heap.size + 2) W W' → I pre W' → Ax x a' W' → K a' W') →
      assign.wpIn (Fence.wide.inRound l) (n - 1 - 1) P (Exit.then K (fun _ _ _ => False)) { tmps := (ps.zip (encs x)).foldl (fun t (p, v) => t.setIfInBounds p v) a.tmps, defers := [] } W)
    (hbody : ∀ (l : Nat) (pre : List α) (x : α) (a' : Act) (W : World), okE (encs x) → w.heap.size ≤ l → I pre W → Ax x a' W → pre.length < N → body.wpIn (Fence.wide.inRound l) (n - 1 - 1) P (wayOut w.heap.size (KpN TT n₀ (w.heap.size + 2)) I Ix (pre ++ [x]) W) a' W)
    (hdone : ∀ (D : Nat) (xs : List α) (W : World), w.heap.size ≤ D → S xs → I xs W → W.heap[D]? = some (.deferred (some [])) → Q .normal { a with defers := { target := .collected D, args := #[] } :: a.defers } W)
    (hstop : ∀ (D : Nat) (c : Code) (pre : List α) (W : World), w.heap.size ≤ D → Sp pre → Ix c pre W → W.heap[D]? = some (.deferred (some [])) → c.wpIn Fence.wide n P Q { a with defers := { target := .collected D, args := #[] } :: a.defers } W) :
    (Code.rangeFunc g ps assign body).wpIn Fence.wide n P Q a w := by
  refine wpIn_rangeFunc fun fn hfn => ?_
  obtain ⟨B, hB⟩ : ∃ B, w.heap.size = B := ⟨_, rfl⟩
  let mk : LoopState → Option Code → Loop := fun st pe => { state := st, pending := pe, fn, tmps := a.tmps, params := ps, assign, body, defers := B }
  obtain ⟨W1, hW1⟩ : ∃ W1, (w.alloc (.deferred (some []))).alloc (.loop (mk .ready none)) = W1 := ⟨_, rfl⟩
  have hsz : W1.heap.size = B + 2 := by rw [← hW1, World.size_alloc, World.size_alloc, hB]
  have hL1 : LpAt W1 B (mk .ready none) := by
    rw [← hW1, ← hB]
    refine ⟨(Below.heap_alloc _ _ _ (by simp)).trans (World.alloc_heap_new w _), ?_⟩
    have := World.alloc_heap_new (w.alloc (.deferred (some []))) (.loop (mk .ready none))
    rwa [World.size_alloc] at this
  rw [hB] at hI hIx hIt hIxt hAx hassign hbody hdone hstop hn₀
  have hI1 : I [] W1 := by rw [← hW1]; exact hI.alloc _ (hI.alloc _ h0)
  have hb1 : Below w0.heap.size w0 W1 := by
    rw [← hW1]; exact hb0.trans ((((Below.refl _ w).alloc (Nat.le_refl _) _).alloc (by simp) _).mono hb0.size)
  refine ⟨B + 1, [{ target := .collected B, args := #[] }], W1, { target := .fn (.func gf) lb, args := #[.func (.yield (B + 1)) #[] #[]] }, W1, gf, #[.func (.yield (B + 1)) #[] #[]] ++ lb, W1, ?_, ?_, (fun f' _ => trivial), ?_, (fun h => by cases h), ?_⟩
  · have := run_enterLoop_outer (P := P) (w := w) fn a.tmps ps assign body
    rw [hB] at this
    rw [← hW1]
    exact this
  · simp only [resolve, hg]
    simp [go_sem]
  · simp [invoke, go_sem, eg]
  have own2 : ∀ (r : Loop) {A A' : World} {row : Option Nat}, LpAt A B r → A.grownBy A' row → (∀ j, row = some j → W1.heap.size ≤ j ∧ ∃ o : Obj, A.heap[j]? = some o ∧ o.isCells = false) → LpAt A' B r :=
    fun r A A' row h hg' hr => h.grown hg' fun j e => by have := (hr j e).1; omega
  have low : ∀ {A : World} {row : Option Nat}, (∀ j, row = some j → W1.heap.size ≤ j ∧ ∃ o : Obj, A.heap[j]? = some o ∧ o.isCells = false) → ∀ j, row = some j → B ≤ j ∧ ∃ o : Obj, A.heap[j]? = some o ∧ o.isCells = false :=
    fun hr j e => ⟨by have := (hr j e).1; omega, (hr j e).2⟩
  refine (hseq (B + 1) (fun pre W => I pre W ∧ LpAt W B (mk .ready none)) (fun pre W => ∃ c, Ix c pre W ∧ LpAt W B (mk .done (some c))) W1 (B + 2) hb1 (by omega)
    (fun s A A' row hs hg' hr => ⟨hI s A A' row hs.1 hg' (low hr), own2 _ hs.2 hg' hr⟩)
    (fun s A A' row hs hg' hr => by obtain ⟨c, h1, h2⟩ := hs; exact ⟨c, hIx c s A A' row h1 hg' (low hr), own2 _ h2 hg' hr⟩)
    (fun s A b cs t v hs hb ht e => ⟨hIt s A b cs t v hs.1 (by omega) ht e, hs.2.set v (by omega)⟩)
    (fun s A b cs t v hs hb ht e => by obtain ⟨c, h1, h2⟩ := hs; exact ⟨c, hIxt c s A b cs t v h1 (by omega) ht e, h2.set v (by omega)⟩) ?_ ⟨hI1, hL1⟩).mono ?_
  · -- a round
    rintro pre x W hV ⟨hi, hl⟩ hlen
    have hy := run_yield (P := P) (args := encs x) hl.lp (hps x)
    refine ⟨fn, _, assign, body, hy, roundIn_of_wpIn hfn (hassign _ pre x W _ hi ?_)⟩
    intro a' Wa k1 k2 hia hax
    have hla := hl.from k1
    refine ⟨_, run_beginRound hla.lp rfl, ?_⟩
    have hlb := hla.put { mk .ready none with state := .busy }
    have hib : I pre (Wa.putObj (B + 1) (.loop { mk .ready none with state := .busy })) := hI.putObj _ hia (by omega) hla.lp rfl
    have hab := (hAx x a').putObj (s := ()) (.loop { mk .ready none with state := .busy }) hax (by omega) hla.lp rfl
    refine wpIn_mono (hbody _ pre x a' _ hV (by omega) hib hab hlen) ?_
    have kb : KpN TT n₀ (B + 2) W (Wa.putObj (B + 1) (.loop { mk .ready none with state := .busy })) := k2.trans (KpN.put _ _ (by omega) (by omega))
    have fin : ∀ (jump : Option Code) (W3 : World), KeepsFrom B (Wa.putObj (B + 1) (.loop { mk .ready none with state := .busy })) W3 →
        (Instr.endRound (B + 1) jump).run P W3 = .ok (.bool jump.isNone) (W3.putObj (B + 1) (.loop (mk (if jump.isNone then .ready else .done) jump))) ∧ W3.heap[B + 1]? = some (.loop { mk .ready none with state := .busy }) ∧ LpAt (W3.putObj (B + 1) (.loop (mk (if jump.isNone then .ready else .done) jump))) B (mk (if jump.isNone then .ready else .done) jump) := fun jump W3 k3 => by
      have h3 := hlb.from k3
      exact ⟨run_endRound (P := P) jump h3.lp, h3.lp, h3.put _⟩
    rintro e a3 W3 hp
    cases e with
    | normal =>
      obtain ⟨k3, b3, i3⟩ := hp
      obtain ⟨hr, e3, hl4⟩ := fin none W3 k3
      exact ⟨_, _, hr, .inl ⟨rfl, ⟨hI.putObj _ i3 (by omega) e3 rfl, hl4⟩, kb.trans (b3.trans (KpN.put _ _ (by omega) (by omega)))⟩⟩
    | ret =>
      obtain ⟨k3, b3, i3⟩ := hp
      obtain ⟨hr, e3, hl4⟩ := fin (some .ret) W3 k3
      exact ⟨_, _, hr, .inr ⟨rfl, ⟨.ret, (hIx _).putObj _ i3 (by omega) e3 rfl, hl4⟩, kb.trans (b3.trans (KpN.put _ _ (by omega) (by omega)))⟩⟩
    | exit id =>
      obtain ⟨k3, b3, i3⟩ := hp
      obtain ⟨hr, e3, hl4⟩ := fin (some (.exit id)) W3 k3
      exact ⟨_, _, hr, .inr ⟨rfl, ⟨.exit id, (hIx _).putObj _ i3 (by omega) e3 rfl, hl4⟩, kb.trans (b3.trans (KpN.put _ _ (by omega) (by omega)))⟩⟩
    | goto t =>
      obtain ⟨k3, b3, i3⟩ := hp
      obtain ⟨hr, e3, hl4⟩ := fin (some (.goto t)) W3 k3
      exact ⟨_, _, hr, .inr ⟨rfl, ⟨.goto t, (hIx _).putObj _ i3 (by omega) e3 rfl, hl4⟩, kb.trans (b3.trans (KpN.put _ _ (by omega) (by omega)))⟩⟩
    | panic ch => exact hp.elim
    | outgrown => exact hp.elim
  · -- behind it
    rintro e W2 ⟨⟨v, rfl⟩, (⟨xs, hS, hi, hl⟩ | ⟨pre, hSp, c, hi, hl⟩)⟩
    · exact ⟨none, _, run_endLoop (P := P) hl.lp (by simp [mk]), hdone B xs _ (Nat.le_refl _) hS (hI.putObj _ hi (by omega) hl.lp rfl) (hl.put _).df⟩
    · exact ⟨some c, _, run_endLoop (P := P) hl.lp (by simp [mk]), hstop B c pre _ (Nat.le_refl _) hSp ((hIx c).putObj _ hi (by omega) hl.lp rfl) (hl.put _).df⟩

open Go.RowKit Go.Shelf

/-- The act that a round begins with. -/
def actOf (ps : Array Tmp) (e : Array Value) (upd : Array Value → Array Value) (tmps : Array Value) : Act := { tmps := upd ((ps.zip e).foldl (fun t (p, v) => t.setIfInBounds p v) tmps), defers := [] }

theorem range_own2 {α : Type} {P : Program} {n : Nat} {g : Operand} {ps : Array Tmp} {assign body : Code} {Q : Exit → Act → World → Prop} {a : Act} {w : World}
    {gf : Nat} {lb : Array Value} (hg : a.eval g = .func (.func gf) #[] lb) (eg : ∀ args w, (callFunc gf args).run P w = .ok (.enter gf args) w)
    {encs : α → Array Value} {TT : Keep} {n₀ : Nat} {S Sp : List α → Prop} {N : Nat} {w0 : World} (hseq : SeqOwn (n - 1) P gf lb encs TT n₀ S Sp N w0) (hb0 : Below w0.heap.size w0 w) (hn₀ : n₀ ≤ w.heap.size) (hps : ∀ x, (encs x).size = ps.size)
    (I : List α → World → Prop) (Ix : Code → List α → World → Prop) (hI : OwnFrom w.heap.size I) (hIx : ∀ c, OwnFrom w.heap.size (Ix c)) (hIt : AbT TT w.heap.size I) (hIxt : ∀ c, AbT TT w.heap.size (Ix c)) (h0 : I [] w) (upd : α → Array Value → Array Value)
    (hassign : ∀ (l : Nat) (x : α) (W : World) (K : Act → World → Prop), K (actOf ps (encs x) (upd x) a.tmps) W →
      assign.wpIn (Fence.wide.inRound l) (n - 1 - 1) P (Exit.then K (fun _ _ _ => False)) (actOf ps (encs x) id a.tmps) W)
    (hbody : ∀ (l : Nat) (pre : List α) (x : α) (W : World), okE (encs x) → w.heap.size ≤ l → I pre W → pre.length < N → body.wpIn (Fence.wide.inRound l) (n - 1 - 1) P (wayOut w.heap.size (KpN TT n₀ (w.heap.size + 2)) I Ix (pre ++ [x]) W) (actOf ps (encs x) (upd x) a.tmps) W)
    (hdone : ∀ (D : Nat) (xs : List α) (W : World), w.heap.size ≤ D → S xs → I xs W → W.heap[D]? = some (.deferred (some [])) → Q .normal { a with defers := { target := .collected D, args := #[] } :: a.defers } W)
    (hstop : ∀ (D : Nat) (c : Code) (pre : List α) (W : World), w.heap.size ≤ D → Sp pre → Ix c pre W → W.heap[D]? = some (.deferred (some [])) → c.wpIn Fence.wide n P Q { a with defers := { target := .collected D, args := #[] } :: a.defers } W) :
    (Code.rangeFunc g ps assign body).wpIn Fence.wide n P Q a w :=
  range_own hg eg hseq hb0 hn₀ hps I Ix hI hIx hIt hIxt h0 (fun x a' _ => a' = actOf ps (encs x) (upd x) a.tmps) (fun x a' => own_pure _ _)
    (fun l pre x W K hi hK => hassign l x W K (hK _ _ (KeepsFrom.refl _ _) (KpN.refl _ _ _) hi rfl))
    (fun l pre x a' W hV hl hi ha hlen => by subst ha; exact hbody l pre x W hV hl hi hlen) hdone hstop

end Go.Proofs.YtjlglnhmkheidaaGreat
