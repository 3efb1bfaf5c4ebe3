/- Both registries within a statement: each lies in blocks of its own, and a call on one leaves the other. -/
import Derived.Test.YtakifnlfgaedjaaRMath
namespace Go.Proofs.Ytakifnlfgaedjaa
open Go.RowKit
set_option linter.unusedVariables false
set_option linter.unusedSimpArgs false
set_option maxRecDepth 4000

structure RfIn (B : Nat) (w0 w : World) (q : Nat) (x : Rf) : Prop where
  at_ : ∃ vp vl, RfAt B w q vp vl x
  lo : B ≤ q
  bel : Below B w0 w
  sz : B ≤ w.heap.size

/-- What is no block of the document's registry stays. -/
def KeepX (w w' : World) : Prop := ∀ (k : Nat) (o : Obj), w.heap[k]? = some o → (∀ cs fr, o ≠ .cells cs 42 fr ∧ o ≠ .cells cs 66 fr ∧ o ≠ .cells cs 3 fr) → w'.heap[k]? = some o
theorem KeepX.of_below {w w' : World} (h : Below w.heap.size w w') : KeepX w w' := fun k o hk _ => (h.block k (Array.getElem?_eq_some_iff.1 hk).1).trans hk
theorem KeepX.trans {a b c : World} (h : KeepX a b) (k : KeepX b c) : KeepX a c := fun i o hi ho => k i o (h i o hi ho) ho

theorem own_keepN {w w' : World} {base n k : Nat} {e : TypeId} {v : Value} {xs : List Value} (h : w.ownsRow base e k v n xs) (hb : ∀ (q : Nat) (cur : Array Value), w.heap[q]? = some (.cells cur e (0, 0)) → w'.heap[q]? = some (.cells cur e (0, 0))) : w'.ownsRow base e k v n xs := by
  obtain ⟨h1, h2 | ⟨g, cap, cur, rfl, h3, h4, h5⟩⟩ := h
  · exact ⟨h1, .inl h2⟩
  · exact ⟨h1, .inr ⟨g, cap, cur, rfl, h3, hb g cur h4, h5⟩⟩

theorem RfIn.below {B : Nat} {w0 w w' : World} {p : Nat} {x : Rf} (h : RfIn B w0 w p x) (hb : Below w.heap.size w w') : RfIn B w0 w' p x := by
  obtain ⟨⟨vp, vl, h1⟩, h2, h3, h4⟩ := h
  exact ⟨⟨vp, vl, h1.below hb⟩, h2, h3.trans (hb.mono h4), Nat.le_trans h4 hb.size⟩
theorem RfIn.keepO {B : Nat} {w0 w w' : World} {q : Nat} {x : Rf} (h : RfIn B w0 w q x) (hk : KeepO w w') (hb : Below B w0 w') (hz : B ≤ w'.heap.size) : RfIn B w0 w' q x := by
  obtain ⟨⟨vp, vl, h1⟩, h2, h3, h4⟩ := h
  exact ⟨⟨vp, vl, ⟨hk q _ h1.row (fun cs fr => ⟨by simp, by simp⟩), own_keepN h1.op (fun k cur hc => hk k _ hc (fun cs fr => ⟨by simp, by simp⟩)), own_keepN h1.ol (fun k cur hc => hk k _ hc (fun cs fr => ⟨by simp, by simp⟩))⟩⟩, h2, hb, hz⟩
theorem RgIn.keepX {B : Nat} {w0 w w' : World} {p : Nat} {s : Rg} (h : RgIn B w0 w p s) (hk : KeepX w w') (hb : Below B w0 w') (hz : B ≤ w'.heap.size) : RgIn B w0 w' p s := by
  obtain ⟨⟨v, h1⟩, h2, h3, h4⟩ := h
  exact ⟨⟨v, ⟨hk p _ h1.row (fun cs fr => ⟨by simp, by simp, by simp⟩), own_keepN h1.own (fun k cur hc => hk k _ hc (fun cs fr => ⟨by simp, by simp, by simp⟩))⟩⟩, h2, hb, hz⟩

theorem own_type {w : World} {base n k q : Nat} {e : TypeId} {v : Value} {xs : List Value} (h : w.ownsRow base e k v n xs) (hv : v.ownBlock = some q) : ∃ cur, w.heap[q]? = some (.cells cur e (0, 0)) := by
  obtain ⟨_, ⟨rfl, _⟩ | ⟨g, c, cur, rfl, _, hg, _⟩⟩ := h
  · cases hv
  · simp only [Value.ownBlock, Option.some.injEq] at hv
    subst hv
    exact ⟨cur, hg⟩
theorem keepX_sole {B : Nat} {w w' : World} {q : Nat} {vp vl : Value} {x : Rf} (h : RfAt B w q vp vl x) (hS : Sole (rfB q vp vl) w w') : KeepX w w' := fun k o hk ho => by
  refine (hS.block k (Array.getElem?_eq_some_iff.1 hk).1 (fun hm => ?_)).trans hk
  rcases List.mem_cons.1 hm with e | e
  · subst e
    rw [h.row] at hk
    cases hk
    exact (ho _ _).1 rfl
  · rcases List.mem_append.1 e with e | e
    · rw [Option.mem_toList] at e
      obtain ⟨cur, hc⟩ := own_type h.op e
      rw [hc] at hk
      cases hk
      exact (ho _ _).2.2 rfl
    · rw [Option.mem_toList] at e
      obtain ⟨cur, hc⟩ := own_type h.ol e
      rw [hc] at hk
      cases hk
      exact (ho _ _).2.1 rfl
theorem RfIn.moved {B : Nat} {w0 w w' : World} {q : Nat} {vp vl : Value} {x x' : Rf} (h : RfAt B w q vp vl x) (hl : B ≤ q) (hb : Below B w0 w) (hz : B ≤ w.heap.size) (hm : RfMoves B w w' q vp vl x') : RfIn B w0 w' q x' ∧ KeepX w w' := by
  obtain ⟨h1, h3⟩ := hm
  refine ⟨⟨h1, hl, h3.belowOf hb hz (fun k hk => ?_), Nat.le_trans hz h3.size⟩, keepX_sole h h3⟩
  rcases List.mem_cons.1 hk with e | e
  · rw [e]; exact hl
  · rcases List.mem_append.1 e with e | e
    · rw [Option.mem_toList] at e; exact (h.apartP k e).2.1
    · rw [Option.mem_toList] at e; exact (h.apartL k e).2.1

/-- Both. -/
structure TwoIn (B : Nat) (w0 w : World) (p q : Nat) (k : Nat) (s : Rg) (x : Rf) : Prop where
  rg : RgIn B w0 w p s
  rf : RfIn B w0 w q x
  both : Both k s x
theorem TwoIn.below {B : Nat} {w0 w w' : World} {p q k : Nat} {s : Rg} {x : Rf} (h : TwoIn B w0 w p q k s x) (hb : Below w.heap.size w w') : TwoIn B w0 w' p q k s x := ⟨h.rg.below hb, h.rf.below hb, h.both⟩
theorem Both.ln {k : Nat} {s : Rg} {x : Rf} (h : Both k s x) : x.l.length ≤ 1000 := by have := h.len; have := h.last; have := h.most; omega
theorem Both.pn {k : Nat} {s : Rg} {x : Rf} (h : Both k s x) : x.pl.length ≤ 1000 := by have := h.pll; have := h.most; omega

theorem rnew_in (w0 w : World) (B : Nat) (hb : Below B w0 w) (hz : B ≤ w.heap.size) (root ver : Int) : Calls Try.prog 9 #[.int .u32 root, .int .u64 ver] w fun e w' => ∃ q, e = .returned (ptrR q) ∧ RfIn B w0 w' q (newX root ver) ∧ Below w.heap.size w w' := by
  refine (rnew_any w root ver).mono ?_
  rintro e w' ⟨rfl, h1, h2⟩
  exact ⟨_, rfl, ⟨⟨_, _, h1.mono hz⟩, hz, hb.trans (h2.mono hz), Nat.le_trans hz h2.size⟩, h2⟩
theorem ropen_in {B : Nat} {w0 w : World} {q k : Nat} {s : Rg} {x : Rf} (h : RfIn B w0 w q x) (hk : Both k s x) : Calls Try.prog 11 #[ptrR q] w fun e w' => e = .returned (.tuple #[.int .i64 ((s.last + 1 : Nat) : Int), .int .u32 s.t.root, .int .u64 s.t.ver]) ∧ RfIn B w0 w' q (openX x) ∧ KeepX w w' := by
  obtain ⟨⟨vp, vl, h1⟩, h2, h3, h4⟩ := h
  refine (ropen_any h1 h4 hk.ln).mono ?_
  rintro e w' ⟨rfl, hm⟩
  rw [hk.len, hk.root, hk.ver]
  exact ⟨rfl, RfIn.moved h1 h2 h3 h4 hm⟩
theorem rnext_in {B : Nat} {w0 w : World} {q k : Nat} {s : Rg} {x : Rf} (h : RfIn B w0 w q x) (hk : Both k s x) (root n : Int) : Calls Try.prog 16 #[ptrR q, .int .u32 root, .int .i64 n] w fun e w' => e = .returned (.int .i64 (nextE n)) ∧ RfIn B w0 w' q (nextX x root n) ∧ KeepX w w' := by
  obtain ⟨⟨vp, vl, h1⟩, h2, h3, h4⟩ := h
  refine (rnext_any h1 h4 hk.pn root n).mono ?_
  rintro e w' ⟨rfl, hm⟩
  exact ⟨rfl, RfIn.moved h1 h2 h3 h4 hm⟩
theorem rclose_in {B : Nat} {w0 w : World} {q k : Nat} {s : Rg} {x : Rf} (h : RfIn B w0 w q x) (hk : Both k s x) (hk1 : k + 1 ≤ 150) (id : Int) : Calls Try.prog 13 #[ptrR q, .int .i64 id] w fun e w' => e = .returned (.int .i64 (closeE s id)) ∧ (∃ x', RfIn B w0 w' q x' ∧ Both (k + 1) (closeR s id) x') ∧ KeepX w w' := by
  obtain ⟨⟨vp, vl, h1⟩, h2, h3, h4⟩ := h
  refine (rclose_any h1 hk.ln id).mono ?_
  rintro e w' (⟨i, y, hy, hd, h0, rfl, hm⟩ | ⟨hn, rfl, rfl⟩)
  · have hh : hasR s id = true := (has_open hk id).2 ⟨y, List.mem_of_getElem? hy, hd, h0⟩
    obtain ⟨m1, m2⟩ := RfIn.moved h1 h2 h3 h4 hm
    unfold closeE
    rw [if_pos hh]
    exact ⟨rfl, ⟨_, m1, both_close_yes hk hk1 hy hd h0⟩, m2⟩
  · have hh : hasR s id = false := by
      cases e : hasR s id with
      | false => rfl
      | true =>
        obtain ⟨y, hy, hd, h0⟩ := (has_open hk id).1 e
        exact absurd (hn y hy hd) h0
    unfold closeE
    rw [hh]
    exact ⟨rfl, ⟨x, ⟨⟨vp, vl, h1⟩, h2, h3, h4⟩, both_close_no hk hk1 hh⟩, fun _ _ hk _ => hk⟩
theorem rhorizon_in {B : Nat} {w0 w : World} {q k : Nat} {s : Rg} {x : Rf} (h : RfIn B w0 w q x) (hk : Both k s x) : Calls Try.prog 18 #[ptrR q] w fun e w' => e = .returned (.int .u64 (eldT s).ver) ∧ Below w.heap.size w w' := by
  obtain ⟨⟨vp, vl, h1⟩, h2, h3, h4⟩ := h
  refine (rhorizon_any h1 hk.ln).mono ?_
  rintro e w' ⟨rfl, k1⟩
  rw [hz_eq hk]
  exact ⟨rfl, k1⟩
theorem rwindow_in {B : Nat} {w0 w : World} {q k : Nat} {s : Rg} {x : Rf} (h : RfIn B w0 w q x) (hk : Both k s x) : Calls Try.prog 29 #[ptrR q] w fun e w' => e = .returned (.int .i64 (winR s)) ∧ Below w.heap.size w w' := by
  obtain ⟨⟨vp, vl, h1⟩, h2, h3, h4⟩ := h
  refine (rwindow_any h1 hk.pn hk.plv).mono ?_
  rintro e w' ⟨rfl, k1⟩
  rw [win_eq hk]
  exact ⟨rfl, k1⟩
theorem rsnap_in {B : Nat} {w0 w : World} {q k : Nat} {s : Rg} {x : Rf} (h : RfIn B w0 w q x) (hk : Both k s x) (id : Int) : Calls Try.prog 30 #[ptrR q, .int .i64 id] w fun e w' => e = .returned (snapV (seesR s id)) ∧ Below w.heap.size w w' := by
  obtain ⟨⟨vp, vl, h1⟩, h2, h3, h4⟩ := h
  refine (rsnap_any h1 hk.ln id).mono ?_
  rintro e w' ⟨k0, k1⟩
  exact ⟨snap_eq hk k0, k1⟩
theorem rkept_in {B : Nat} {w0 w : World} {q k : Nat} {s : Rg} {x : Rf} (h : RfIn B w0 w q x) (hk : Both k s x) {l : List Int} (hl : KeptOf s l) : Calls Try.prog 28 #[ptrR q] w fun e w' => ∃ (g cap : Nat), e = .returned (.slice (some ⟨g, 0, none⟩) l.length cap) ∧ l.length ≤ cap ∧ cap ≤ maxLen ∧ w.heap.size ≤ g ∧ HoldU w' g l.toArray ∧ Below w.heap.size w w' := by
  obtain ⟨⟨vp, vl, h1⟩, h2, h3, h4⟩ := h
  refine (rkept_any h1 hk.ln).mono ?_
  rintro e w' ⟨g, cap, out, rfl, k1, k2, k3, k4, k5, k6⟩
  obtain rfl := kept_eq hk hl k5
  exact ⟨g, cap, rfl, k1, k2, k3, k4, k6⟩

/-- The base is written. -/
theorem RfIn.setBase {B : Nat} {w0 w : World} {q : Nat} {x : Rf} (h : RfIn B w0 w q x) (b : Int) : w.cell? ⟨q, 3, none⟩ = some (.int .u64 x.base) ∧ w.frozen? ⟨q, 3, none⟩ = false ∧ RfIn B w0 (w.setCell ⟨q, 3, none⟩ (.int .u64 b)) q ⟨x.root, x.ver, x.first, b, x.pl, x.l⟩ ∧ KeepX w (w.setCell ⟨q, 3, none⟩ (.int .u64 b)) := by
  obtain ⟨⟨vp, vl, h1⟩, h2, h3, h4⟩ := h
  have hrow := h1.row
  unfold rfC at hrow
  have g1 := heap_setCell_same w q 3 _ _ (.int .u64 b) hrow
  simp only [List.setIfInBounds_toArray, List.set_cons_zero, List.set_cons_succ] at g1
  have hS : Sole [q] w (w.setCell ⟨q, 3, none⟩ (.int .u64 b)) := Sole.setCell _ _ (by simp)
  have hp := h1.apartP
  have hl := h1.apartL
  have hat : RfAt B (w.setCell ⟨q, 3, none⟩ (.int .u64 b)) q vp vl ⟨x.root, x.ver, x.first, b, x.pl, x.l⟩ := ⟨g1, own_keep h1.op hS.size (fun k hk hlt => hS.block k hlt (by have := (hp k hk).1; simpa using this)), own_keep h1.ol hS.size (fun k hk hlt => hS.block k hlt (by have := (hl k hk).1; simpa using this))⟩
  obtain ⟨m1, m2⟩ := RfIn.moved h1 h2 h3 h4 (x' := ⟨x.root, x.ver, x.first, b, x.pl, x.l⟩) ⟨⟨vp, vl, hat⟩, hS.mono (fun k hk => by simp only [List.mem_singleton] at hk; subst hk; exact List.mem_cons_self)⟩
  exact ⟨h1.cell 3 _ rfl, frozen_of_row w q 3 _ _ hrow, m1, m2⟩

end Go.Proofs.Ytakifnlfgaedjaa
