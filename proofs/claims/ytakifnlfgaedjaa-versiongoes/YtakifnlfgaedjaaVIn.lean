/- A registry within a statement: it lies in blocks of its own; what is not its own stays. The chapter's examples. -/
import Derived.Test.YtakifnlfgaedjaaVComp
namespace Go.Proofs.Ytakifnlfgaedjaa
open Go.RowKit Go.Sort
set_option linter.unusedVariables false
set_option linter.unusedSimpArgs false
set_option maxRecDepth 4000

/-- A registry lies in blocks from B on; below B nothing has changed since w0. -/
structure RgIn (B : Nat) (w0 w : World) (p : Nat) (s : Rg) : Prop where
  at_ : ∃ v, RgAt B w p v s
  lo : B ≤ p
  bel : Below B w0 w
  sz : B ≤ w.heap.size

/-- What is no registry's block, nor its row's, stays. -/
def KeepO (w w' : World) : Prop := ∀ (k : Nat) (o : Obj), w.heap[k]? = some o → (∀ cs fr, o ≠ .cells cs 62 fr ∧ o ≠ .cells cs 64 fr) → w'.heap[k]? = some o

theorem KeepO.refl (w : World) : KeepO w w := fun _ _ h _ => h
theorem KeepO.trans {a b c : World} (h : KeepO a b) (k : KeepO b c) : KeepO a c := fun i o hi ho => k i o (h i o hi ho) ho
theorem KeepO.of_below {w w' : World} (h : Below w.heap.size w w') : KeepO w w' := fun k o hk _ => (h.block k (Array.getElem?_eq_some_iff.1 hk).1).trans hk
theorem KeepO.drewN (w : World) (q : Nat) : KeepO w (w.drewN q) := fun k o hk _ => hk
theorem RgIn.below {B : Nat} {w0 w w' : World} {p : Nat} {s : Rg} (h : RgIn B w0 w p s) (hb : Below w.heap.size w w') : RgIn B w0 w' p s := by
  obtain ⟨⟨v, h1⟩, h2, h3, h4⟩ := h
  exact ⟨⟨v, h1.below hb⟩, h2, h3.trans (hb.mono h4), Nat.le_trans h4 hb.size⟩
theorem RgIn.drewN {B : Nat} {w0 w : World} {p : Nat} {s : Rg} (h : RgIn B w0 w p s) (q : Nat) : RgIn B w0 (w.drewN q) p s := h.below (belowQ _ _ _)

theorem keepO_sole {B : Nat} {w w' : World} {p : Nat} {v : Value} {s : Rg} (h : RgAt B w p v s) (hS : Sole (p :: v.ownBlock.toList) w w') : KeepO w w' := fun k o hk ho => by
  refine (hS.block k (Array.getElem?_eq_some_iff.1 hk).1 (fun hm => ?_)).trans hk
  rcases List.mem_cons.1 hm with e | e
  · subst e
    rw [h.row] at hk
    cases hk
    exact (ho _ _).1 rfl
  · rw [Option.mem_toList] at e
    obtain ⟨_, ⟨rfl, _⟩ | ⟨g, c, cur, rfl, _, hg, _⟩⟩ := h.own
    · cases e
    · simp only [Value.ownBlock, Option.some.injEq] at e
      subst e
      rw [hg] at hk
      cases hk
      exact (ho _ _).2 rfl
theorem RgIn.moved {B : Nat} {w0 w w' : World} {p : Nat} {v : Value} {s s' : Rg} (h : RgAt B w p v s) (hl : B ≤ p) (hb : Below B w0 w) (hz : B ≤ w.heap.size) (hm : RgMoves B w w' p v s') : RgIn B w0 w' p s' ∧ KeepO w w' := by
  obtain ⟨⟨v', h1, h2⟩, h3⟩ := hm
  refine ⟨⟨⟨v', h1⟩, hl, h3.belowOf hb hz (fun k hk => ?_), Nat.le_trans hz h3.size⟩, keepO_sole h h3⟩
  rcases List.mem_cons.1 hk with e | e
  · rw [e]; exact hl
  · rw [Option.mem_toList] at e; exact (h.apart k e).2.1

theorem new_in (w0 w : World) (B : Nat) (hb : Below B w0 w) (hz : B ≤ w.heap.size) (root ver : Int) : Calls Try.prog 8 #[.int .u32 root, .int .u64 ver] w fun e w' => ∃ p, e = .returned (ptrR p) ∧ RgIn B w0 w' p (newR root ver) ∧ KeepO w w' := by
  refine (new_any w root ver).mono ?_
  rintro e w' ⟨rfl, h1, h2⟩
  exact ⟨_, rfl, ⟨⟨_, h1.mono hz⟩, hz, hb.trans (h2.mono hz), Nat.le_trans hz h2.size⟩, KeepO.of_below h2⟩

theorem open_in {B : Nat} {w0 w : World} {p : Nat} {s : Rg} (h : RgIn B w0 w p s) (hk : RgOk s) : Calls Try.prog 10 #[ptrR p] w fun e w' => e = .returned (.tuple #[.int .i64 ((s.last + 1 : Nat) : Int), .int .u32 s.t.root, .int .u64 s.t.ver]) ∧ RgIn B w0 w' p (openR s) ∧ KeepO w w' := by
  obtain ⟨⟨v, h1⟩, h2, h3, h4⟩ := h
  refine (open_any h1 h4 hk).mono ?_
  rintro e w' ⟨rfl, hm⟩
  exact ⟨rfl, RgIn.moved h1 h2 h3 h4 hm⟩

theorem close_in {B : Nat} {w0 w : World} {p : Nat} {s : Rg} (h : RgIn B w0 w p s) (hk : RgOk s) (id : Int) : Calls Try.prog 12 #[ptrR p, .int .i64 id] w fun e w' => e = .returned (.int .i64 (closeE s id)) ∧ RgIn B w0 w' p (closeR s id) ∧ KeepO w w' := by
  obtain ⟨⟨v, h1⟩, h2, h3, h4⟩ := h
  refine (close_any h1 hk id).mono ?_
  rintro e w' ⟨rfl, hm⟩
  exact ⟨rfl, RgIn.moved h1 h2 h3 h4 hm⟩

theorem next_in {B : Nat} {w0 w : World} {p : Nat} {s : Rg} (h : RgIn B w0 w p s) (root n : Int) : Calls Try.prog 14 #[ptrR p, .int .u32 root, .int .i64 n] w fun e w' => e = .returned (.int .i64 (nextE n)) ∧ RgIn B w0 w' p (nextR s root n) ∧ KeepO w w' := by
  obtain ⟨⟨v, h1⟩, h2, h3, h4⟩ := h
  refine (next_any h1 root n).mono ?_
  rintro e w' ⟨rfl, k1, k2⟩
  exact ⟨rfl, RgIn.moved h1 h2 h3 h4 ⟨⟨v, k1, fun k hk => .inl hk⟩, k2.mono (by simp)⟩⟩

theorem settle_in {B : Nat} {w0 w : World} {p : Nat} {s : Rg} (h : RgIn B w0 w p s) (hk : RgOk s) : Calls Try.prog 17 #[ptrR p] w fun e w' => e = .returned (.tuple #[]) ∧ RgIn B w0 w' p (settleR s) ∧ KeepO w w' := by
  obtain ⟨⟨v, h1⟩, h2, h3, h4⟩ := h
  refine (settle_any h1 (by have := hk.len; have := hk.most; omega)).mono ?_
  rintro e w' ⟨rfl, k1, k2⟩
  exact ⟨rfl, RgIn.moved h1 h2 h3 h4 ⟨⟨v, k1, fun k hk => .inl hk⟩, k2.mono (by simp)⟩⟩

theorem horizon_in {B : Nat} {w0 w : World} {p : Nat} {s : Rg} (h : RgIn B w0 w p s) (hk : RgOk s) : Calls Try.prog 23 #[ptrR p] w fun e w' => e = .returned (.int .u64 (eldT s).ver) ∧ RgIn B w0 w' p s ∧ Below w.heap.size w w' := by
  obtain ⟨v, h1⟩ := h.at_
  refine (horizon_any h1 (by have := hk.len; have := hk.most; omega)).mono ?_
  rintro e w' ⟨rfl, k1⟩
  exact ⟨rfl, h.below k1, k1⟩

theorem window_in {B : Nat} {w0 w : World} {p : Nat} {s : Rg} (h : RgIn B w0 w p s) : Calls Try.prog 24 #[ptrR p] w fun e w' => e = .returned (.int .i64 (winR s)) ∧ RgIn B w0 w' p s ∧ Below w.heap.size w w' := by
  obtain ⟨v, h1⟩ := h.at_
  refine (window_any h1).mono ?_
  rintro e w' ⟨rfl, q, rfl⟩
  exact ⟨rfl, h.drewN q, belowQ _ _ _⟩

theorem trunk_in {B : Nat} {w0 w : World} {p : Nat} {s : Rg} (h : RgIn B w0 w p s) : Calls Try.prog 21 #[ptrR p] w fun e w' => e = .returned (.tuple #[.int .u32 s.t.root, .int .u64 s.t.ver]) ∧ RgIn B w0 w' p s ∧ Below w.heap.size w w' := by
  obtain ⟨v, h1⟩ := h.at_
  refine (trunk_any h1).mono ?_
  rintro e w' ⟨rfl, q, rfl⟩
  exact ⟨rfl, h.drewN q, belowQ _ _ _⟩

theorem snapshot_in {B : Nat} {w0 w : World} {p : Nat} {s : Rg} (h : RgIn B w0 w p s) (hk : RgOk s) (id : Int) : Calls Try.prog 22 #[ptrR p, .int .i64 id] w fun e w' => e = .returned (snapV (seesR s id)) ∧ RgIn B w0 w' p s ∧ Below w.heap.size w w' := by
  obtain ⟨v, h1⟩ := h.at_
  refine (snapshot_any h1 hk id).mono ?_
  rintro e w' ⟨rfl, k1⟩
  exact ⟨rfl, h.below k1, k1⟩

theorem kept_in {B : Nat} {w0 w : World} {p : Nat} {s : Rg} (h : RgIn B w0 w p s) (hk : RgOk s) : Calls Try.prog 20 #[ptrR p] w fun e w' => ∃ (g cap : Nat) (l : List Int), e = .returned (.slice (some ⟨g, 0, none⟩) l.length cap) ∧ 1 ≤ l.length ∧ l.length ≤ 1001 ∧ l.length ≤ cap ∧ cap ≤ maxLen ∧ w.heap.size ≤ g ∧ HoldU w' g l.toArray ∧ KeptOf s l ∧ RgIn B w0 w' p s ∧ Below w.heap.size w w' := by
  obtain ⟨v, h1⟩ := h.at_
  refine (kept_any h1 (by have := hk.len; have := hk.most; omega)).mono ?_
  rintro e w' ⟨g, cap, l, rfl, k1, k2, k3, k4, k5, k6, k7, k8⟩
  exact ⟨g, cap, l, rfl, k1, k2, k3, k4, k5, k6, k7, h.below k8, k8⟩

theorem next_ok {s : Rg} (h : RgOk s) (root n : Int) : RgOk (nextR s root n) := by
  unfold nextR
  split
  · exact h
  · exact ⟨h.rise, h.ids, h.most⟩
theorem settle_ok {s : Rg} (h : RgOk s) : RgOk (settleR s) := ⟨h.rise, h.ids, h.most⟩

/-- Two rising lists with the same members are the same. -/
theorem rising_eq : ∀ (l m : List Int), l.Pairwise (· < ·) → m.Pairwise (· < ·) → (∀ v, v ∈ l ↔ v ∈ m) → l = m
  | [], [], _, _, _ => rfl
  | [], y :: m, _, _, h => by have := (h y).2 (List.mem_cons_self); cases this
  | x :: l, [], _, _, h => by have := (h x).1 (List.mem_cons_self); cases this
  | x :: l, y :: m, h1, h2, h => by
    obtain ⟨a1, a2⟩ := List.pairwise_cons.1 h1
    obtain ⟨b1, b2⟩ := List.pairwise_cons.1 h2
    have e : x = y := by
      have p := (h x).1 (List.mem_cons_self)
      have q := (h y).2 (List.mem_cons_self)
      rcases List.mem_cons.1 p with p | p
      · exact p
      · rcases List.mem_cons.1 q with q | q
        · exact q.symm
        · have := b1 x p; have := a1 y q; omega
    subst e
    rw [rising_eq l m a2 b2 (fun v => ?_)]
    constructor
    · intro hv
      rcases List.mem_cons.1 ((h v).1 (List.mem_cons_of_mem _ hv)) with e | e
      · have := a1 v hv; omega
      · exact e
    · intro hv
      rcases List.mem_cons.1 ((h v).2 (List.mem_cons_of_mem _ hv)) with e | e
      · have := b1 v hv; omega
      · exact e

def s1 : Rg := ⟨⟨7, 0, 0⟩, 0, 1, [⟨1, ⟨7, 0, 0⟩⟩]⟩
def s2 : Rg := ⟨⟨9, 1, 3⟩, 0, 1, [⟨1, ⟨7, 0, 0⟩⟩]⟩
def s3 : Rg := ⟨⟨9, 1, 3⟩, 0, 2, [⟨1, ⟨7, 0, 0⟩⟩, ⟨2, ⟨9, 1, 3⟩⟩]⟩
def s5 : Rg := ⟨⟨9, 1, 3⟩, 0, 2, [⟨2, ⟨9, 1, 3⟩⟩]⟩
def s6 : Rg := ⟨⟨9, 1, 3⟩, 3, 2, [⟨2, ⟨9, 1, 3⟩⟩]⟩
theorem e1 : openR (newR 7 0) = s1 := rfl
theorem e2 : nextR s1 9 3 = s2 := by simp [nextR, s1, s2, wrap64]
theorem e3 : openR s2 = s3 := rfl
theorem e4 : settleR s3 = s3 := rfl
theorem e5 : closeR s3 1 = s5 := by rfl
theorem e6 : settleR s5 = s6 := rfl
theorem k3 {l : List Int} (h : KeptOf s3 l) : l = [7, 9] := rising_eq l _ h.rise (by decide) (fun v => by
  rw [h.mem v]
  simp [s3]
  omega)
theorem k6 {l : List Int} (h : KeptOf s6 l) : l = [9] := rising_eq l _ h.rise (by decide) (fun v => by
  rw [h.mem v]
  simp [s6]
  intro q; exact q.symm)

theorem ok3 : RgOk s3 := open_ok (s := s2) ⟨List.pairwise_singleton _ _, (fun x hx => by simp [s2] at hx; subst hx; exact ⟨by decide, by decide⟩), by decide⟩ (by decide)
theorem ok5 : RgOk s5 := close_ok ok3 1

end Go.Proofs.Ytakifnlfgaedjaa
