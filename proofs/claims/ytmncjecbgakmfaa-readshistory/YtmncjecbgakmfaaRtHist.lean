/- A history, in memory; the contracts of reads.NewHistory, Len, behind, sort.Search. -/
import Derived.Test.YtmncjecbgakmfaaRtSetF
import Derived.Deep.LoopGhost
namespace Go.Proofs.Ytmncjecbgakmfaa
open Go.RowKit
set_option linter.unusedVariables false
set_option linter.unusedSimpArgs false
set_option maxRecDepth 100000

/-- What a version wrote: its number, its row, what that reads as. -/
structure De where
  ver : Int
  v : Value
  l : List Tc
def deE (d : De) : List Value := [.int .u64 d.ver, d.v]
theorem de_len (d : De) : (deE d).length = 2 := rfl
def De.plain (d : De) : Int × List Tc := (d.ver, d.l)

/-- What its parts are. -/
structure DeOk (w : World) (d : De) : Prop where
  v0 : 0 ≤ d.ver
  v1 : d.ver ≤ 18446744073709551615
  own : w.ownsRow 0 24 5 d.v d.l.length (d.l.flatMap tcE)
  ok : ∀ t ∈ d.l, TcOk t
  few : d.l.length ≤ 100
theorem DeOk.keep {w w' : World} {d : De} (h : DeOk w d) (hs : w.heap.size ≤ w'.heap.size) (hb : ∀ q, d.v.ownBlock = some q → w'.heap[q]? = w.heap[q]?) : DeOk w' d :=
  ⟨h.v0, h.v1, own_keep h.own hs (fun q hq _ => hb q hq), h.ok, h.few⟩
theorem DeOk.one {w : World} {d : De} (h : DeOk w d) : ∀ u ∈ deE d, u.oneCell' = true := by
  intro u hu
  obtain ⟨a, c, e⟩ := row_slice h.own
  simp only [deE, List.mem_cons, List.not_mem_nil, or_false] at hu
  rcases hu with rfl | rfl
  · rfl
  · rw [e]; rfl

/-- A history lies in the block 'p', its row in 'hv'. -/
structure HistAt (w : World) (p : Nat) (hv : Value) (K : List De) : Prop where
  row : w.heap[p]? = some (.cells #[hv] 67 (0, 0))
  own : w.ownsRow 0 69 2 hv K.length (K.flatMap deE)
  each : ∀ d ∈ K, DeOk w d
  rise : (K.map De.ver).Pairwise (· < ·)
theorem HistAt.lt {w : World} {p : Nat} {hv : Value} {K : List De} (h : HistAt w p hv K) : p < w.heap.size := (Array.getElem?_eq_some_iff.1 h.row).1
theorem HistAt.keep {w w' : World} {p : Nat} {hv : Value} {K : List De} (h : HistAt w p hv K) (hs : w.heap.size ≤ w'.heap.size) (hp : w'.heap[p]? = w.heap[p]?) (hb : ∀ q, hv.ownBlock = some q → w'.heap[q]? = w.heap[q]?) (hd : ∀ d ∈ K, ∀ q, d.v.ownBlock = some q → w'.heap[q]? = w.heap[q]?) : HistAt w' p hv K :=
  ⟨hp.trans h.row, own_keep h.own hs (fun q hq _ => hb q hq), fun d hk => (h.each d hk).keep hs (hd d hk), h.rise⟩
theorem own_blk {base n k : Nat} {w : World} {v : Value} {e : TypeId} {xs : List Value} (h : w.ownsRow base e k v n xs) {q : Nat} (hq : v.ownBlock = some q) : q < w.heap.size := by
  obtain ⟨cs, e⟩ := own_row h hq
  exact (Array.getElem?_eq_some_iff.1 e).1
theorem HistAt.below {w w' : World} {p : Nat} {hv : Value} {K : List De} (h : HistAt w p hv K) (hb : Below w.heap.size w w') : HistAt w' p hv K :=
  h.keep hb.size (hb.block p h.lt) (fun q hq => hb.block q (own_blk h.own hq)) (fun d hd q hq => hb.block q (own_blk (h.each d hd).own hq))
theorem HistAt.c0 {w : World} {p : Nat} {hv : Value} {K : List De} (h : HistAt w p hv K) : w.cell? ⟨p, 0, none⟩ = some hv := by rw [cell_of_row _ _ _ _ _ (0, 0) h.row]; rfl
theorem HistAt.rd {w : World} {p : Nat} {hv : Value} {K : List De} (h : HistAt w p hv K) : RdZ 2 deE w hv K := rdZ_own de_len h.own

/-- A history whose blocks are not below B, and none of G. -/
def HistF (B : Nat) (w0 w : World) (p : Nat) (V : List (Int × List Tc)) (G : List Nat) : Prop :=
  ∃ hv K, HistAt w p hv K ∧ K.map De.plain = V ∧ B ≤ p ∧ (∀ k, hv.ownBlock = some k → B ≤ k) ∧ (∀ d ∈ K, ∀ k, d.v.ownBlock = some k → B ≤ k) ∧ B ≤ w.heap.size ∧ Below B w0 w ∧
    ∀ g ∈ G, g < w.heap.size ∧ g ≠ p ∧ hv.ownBlock ≠ some g ∧ ∀ d ∈ K, d.v.ownBlock ≠ some g
theorem HistF.below {B : Nat} {w0 w w' : World} {p : Nat} {V : List (Int × List Tc)} {G : List Nat} (h : HistF B w0 w p V G) (hb : Below w.heap.size w w') : HistF B w0 w' p V G := by
  obtain ⟨hv, K, h1, h2, h3, h4, h5, h6, h7, h8⟩ := h
  exact ⟨hv, K, h1.below hb, h2, h3, h4, h5, Nat.le_trans h6 hb.size, h7.trans (hb.mono h6), fun g hg => ⟨Nat.lt_of_lt_of_le (h8 g hg).1 hb.size, (h8 g hg).2⟩⟩
theorem HistF.bel {B : Nat} {w0 w : World} {p : Nat} {V : List (Int × List Tc)} {G : List Nat} (h : HistF B w0 w p V G) : Below B w0 w := by
  obtain ⟨hv, K, h1, h2, h3, h4, h5, h6, h7, h8⟩ := h
  exact h7
theorem HistF.up {B : Nat} {w0 w : World} {p : Nat} {V : List (Int × List Tc)} {G : List Nat} (h : HistF B w0 w p V G) : B ≤ w.heap.size := by
  obtain ⟨hv, K, h1, h2, h3, h4, h5, h6, h7, h8⟩ := h
  exact h6
theorem HistF.sub {B : Nat} {w0 w : World} {p : Nat} {V : List (Int × List Tc)} {G G' : List Nat} (h : HistF B w0 w p V G) (hs : ∀ g ∈ G', g ∈ G) : HistF B w0 w p V G' := by
  obtain ⟨hv, K, h1, h2, h3, h4, h5, h6, h7, h8⟩ := h
  exact ⟨hv, K, h1, h2, h3, h4, h5, h6, h7, fun g hg => h8 g (hs g hg)⟩
/-- A row that was made beside the history. -/
theorem HistF.more {B : Nat} {w0 w w' : World} {p : Nat} {V : List (Int × List Tc)} {G : List Nat} (h : HistF B w0 w p V G) (hb : Below w.heap.size w w') (Q : List Nat) (hQ : ∀ q ∈ Q, w.heap.size ≤ q ∧ q < w'.heap.size) : HistF B w0 w' p V (Q ++ G) := by
  obtain ⟨hv, K, h1, h2, h3, h4, h5, h6, h7, h8⟩ := h
  refine ⟨hv, K, h1.below hb, h2, h3, h4, h5, Nat.le_trans h6 hb.size, h7.trans (hb.mono h6), fun g hg => ?_⟩
  rcases List.mem_append.1 hg with hg | hg
  · obtain ⟨q1, q2⟩ := hQ g hg
    refine ⟨q2, by have := h1.lt; omega, fun e => ?_, fun d hd e => ?_⟩
    · have := own_blk h1.own e; omega
    · have := own_blk (h1.each d hd).own e; omega
  · exact ⟨Nat.lt_of_lt_of_le (h8 g hg).1 hb.size, (h8 g hg).2⟩
/-- What is written elsewhere leaves a history as it is. -/
theorem HistF.write {B : Nat} {w0 w w' : World} {p : Nat} {V : List (Int × List Tc)} {G : List Nat} (h : HistF B w0 w p V G) {S : List Nat} (hS : Sole S w w') (hs : ∀ k ∈ S, k ∈ G ∧ B ≤ k) : HistF B w0 w' p V G := by
  obtain ⟨hv, K, h1, h2, h3, h4, h5, h6, h7, h8⟩ := h
  refine ⟨hv, K, h1.keep hS.size (hS.block p h1.lt (fun e => (h8 p (hs p e).1).2.1 rfl)) (fun q hq => hS.block q (own_blk h1.own hq) (fun e => (h8 q (hs q e).1).2.2.1 hq)) (fun d hd q hq => hS.block q (own_blk (h1.each d hd).own hq) (fun e => (h8 q (hs q e).1).2.2.2 d hd hq)), h2, h3, h4, h5, Nat.le_trans h6 hS.size, ?_, fun g hg => ⟨Nat.lt_of_lt_of_le (h8 g hg).1 hS.size, (h8 g hg).2⟩⟩
  exact Sole.belowOf h7 hS h6 (fun k hk => (hs k hk).2)

set_option maxHeartbeats 1000000 in
theorem newH_any (w : World) : Calls Try.prog 19 #[] w fun e w' => e = .returned (ptr w.heap.size) ∧ HistAt w' w.heap.size (.slice none 0 0) [] ∧ Below w.heap.size w w' := by
  have hr : HistAt (w.alloc (.cells #[.slice none 0 0] 67)) w.heap.size (.slice none 0 0) [] :=
    ⟨heap_alloc_new w _, World.ownsRow_nil _ _ _ _, (fun d hd => by cases hd), List.Pairwise.nil⟩
  go_enter Try.func19, Try.ntmps19
  go_wp2
  go_ret
  exact ⟨rfl, hr, bel1 _ _⟩
theorem HistF.made {B : Nat} {w0 w w' : World} (hb0 : Below B w0 w) (hB : B ≤ w.heap.size) {p : Nat} (hp : w.heap.size ≤ p) (h : HistAt w' p (.slice none 0 0) []) (hk : Below w.heap.size w w') : HistF B w0 w' p [] [] :=
  ⟨_, [], h, rfl, by omega, (fun k e => by cases e), (fun d hd => by cases hd), Nat.le_trans hB hk.size, hb0.trans (hk.mono hB), (fun g hg => by cases hg)⟩

set_option maxHeartbeats 1000000 in
theorem len_any {w : World} {p : Nat} {hv : Value} {K : List De} (h : HistAt w p hv K) : Calls Try.prog 26 #[ptr p] w fun e w' => e = .returned (.int .i64 K.length) ∧ w = w' := by
  have c0 := h.c0
  obtain ⟨a, c, rfl⟩ := own_shape h.own
  unfold ptr
  clear h
  go_enter Try.func26, Try.ntmps26
  go_wp2
  go_ret
  exact ⟨rfl, rfl⟩
theorem HistF.len {B : Nat} {w0 w : World} {p : Nat} {V : List (Int × List Tc)} {G : List Nat} (h : HistF B w0 w p V G) : Calls Try.prog 26 #[ptr p] w fun e w' => e = .returned (.int .i64 V.length) ∧ w = w' := by
  obtain ⟨hv, K, h1, h2, _⟩ := h
  rw [← h2, List.length_map]
  exact len_any h1

/-! ### behind -/
/-- How many versions are not above one. -/
def behN (K : List De) (ver : Int) : Nat := K.countP (fun d => decide (d.ver ≤ ver))

theorem de_cells {w : World} {a : Option Addr} {n cap : Nat} {l : List De} (h : RdZ 2 deE w (.slice a n cap) l) {i : Nat} {x : De} (hx : l[i]? = some x) :
    ∃ b off, a = some ⟨b, off, none⟩ ∧ b < w.heap.size ∧ w.cell? ⟨b, off + i * 2, none⟩ = some (.int .u64 x.ver) ∧ w.cell? ⟨b, off + i * 2 + 1, none⟩ = some x.v := by
  obtain ⟨⟨a', c, e, h1, h2, h3⟩, _⟩ := h
  simp only [Value.slice.injEq] at e
  obtain ⟨rfl, rfl, rfl⟩ := e
  obtain ⟨b, off, rfl, hlt, hc⟩ := h3 (by intro e; subst e; simp at hx)
  exact ⟨b, off, rfl, hlt, hc i x 0 _ hx rfl, hc i x 1 _ hx rfl⟩

set_option maxHeartbeats 1000000 in
theorem beh1_any {w : World} {q1 q2 p : Nat} {a : Option Addr} {n c : Nat} {K : List De} (ver : Int) (hp : w.cell? ⟨p, 0, none⟩ = some (.slice a n c)) (h1 : w.cell? ⟨q1, 0, none⟩ = some (.pointer (some ⟨p, 0, none⟩))) (h2 : w.cell? ⟨q2, 0, none⟩ = some (.int .u64 ver)) (hr : RdZ 2 deE w (.slice a n c) K) {i : Nat} {x : De} (hx : K[i]? = some x) :
    Calls Try.prog 37 #[.int .i64 i, .pointer (some ⟨q1, 0, none⟩), .pointer (some ⟨q2, 0, none⟩)] w fun e w' => e = .returned (.bool (decide (ver < x.ver))) ∧ Below w.heap.size w w' := by
  obtain ⟨hl, hnc, hcm⟩ := hr.len
  obtain ⟨b, off, rfl, _, d0, d1⟩ := de_cells hr hx
  have hi : i < n := by have := (List.getElem?_eq_some_iff.1 hx).1; omega
  have hiI : (i : Int) < (n : Int) := by omega
  clear hr hx hl hcm
  go_enter Try.func37, Try.ntmps37
  go_wp2
  go_quiet (fail)
  go_wp2
  go_ret
  exact ⟨rfl, belowQ _ _ _⟩

end Go.Proofs.Ytmncjecbgakmfaa
