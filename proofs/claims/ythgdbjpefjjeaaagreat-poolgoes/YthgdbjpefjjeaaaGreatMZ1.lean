/- ZState, ZSmall, ZSpace, ZSweep, ZRead, ZWrite, ZNew: in one text. -/
import Derived.Test.YthgdbjpefjjeaaaGreatDRead
import Derived.Test.YthgdbjpefjjeaaaGreatDWrite
import Derived.Test.YthgdbjpefjjeaaaGreatDNew
import Derived.Test.YthgdbjpefjjeaaaGreatMF
import Derived.Handy
import Derived.Test.YthgdbjpefjjeaaaGreatQBase
import Derived.Test.YthgdbjpefjjeaaaGreatQDecode3
import Derived.Test.YthgdbjpefjjeaaaGreatQEncode
namespace Go.Proofs.YthgdbjpefjjeaaaGreat
open Go.RowKit
set_option linter.unusedVariables false
set_option linter.unusedSimpArgs false
set_option maxRecDepth 4000

/-- A pool: the disk, what its blocks are now, and what they were when it was settled last. -/
structure Pu where
  d : St
  now : Fr
  st : Fr

/-- What a block may be now, and have been when it was settled. -/
def pairOk (a b : Nat) : Prop := (a = 1 ∧ b = 1) ∨ (a = 2 ∧ b = 1) ∨ (a = 2 ∧ b = 2) ∨ (a = 3 ∧ b = 2) ∨ (a = 3 ∧ b = 3)

structure PuOk (p : Pu) : Prop where
  n : FrOk p.now
  s : FrOk p.st
  lo1 : 1 ≤ p.now.lo
  top : ((p.now.lo + p.now.ks.length : Nat) : Int) = p.d.blocks
  slo : p.st.lo = p.now.lo
  sl : p.st.ks.length = p.now.ks.length
  rel : ∀ j, j < p.now.ks.length → pairOk (p.now.ks.getD j 0) (p.st.ks.getD j 0)

/-- The blocks that it lies in. -/
structure Ad where
  q : Nat
  d : Nat
  bs : Nat
  bp : Nat
  n : Nat
  hn : Nat
  s : Nat
  hs : Nat

def Ad.all (a : Ad) : List Nat := [a.q, a.d, a.bs, a.bp, a.n, a.hn, a.s, a.hs]

structure PuAt (w : World) (a : Ad) (p : Pu) : Prop where
  row : w.heap[a.q]? = some (.cells #[ptr a.d, ptr a.n, ptr a.s] 75 (0, 0))
  disk : DiskAt w a.d a.bs a.bp p.d
  now : PAt w a.n a.hn p.now
  st : PAt w a.s a.hs p.st
  ne1 : a.n ≠ a.s
  ne2 : a.hn ≠ a.hs
  ok : PuOk p

theorem kindOfN_at {s : Fr} {j : Nat} (hj : j < s.ks.length) : kindOfN s ((s.lo + j : Nat) : Int) = s.ks.getD j 0 := by
  unfold kindOfN
  rw [if_pos ⟨by omega, by omega⟩, show (((s.lo + j : Nat) : Int) - s.lo).toNat = j by omega]

theorem kindOfN_out {s : Fr} {i : Int} (h : ¬ (s.lo ≤ i ∧ i < s.lo + s.ks.length)) : kindOfN s i = 0 := if_neg h

theorem kindOfN_in {s : Fr} {i : Int} (h : kindOfN s i ≠ 0) : ∃ j, j < s.ks.length ∧ i = ((s.lo + j : Nat) : Int) := by
  unfold kindOfN at h
  split at h
  · rename_i d
    exact ⟨(i - s.lo).toNat, by omega, by omega⟩
  · exact absurd rfl h

theorem turnF_lo (s : Fr) (i : Int) (to : Nat) : (turnF s i to).lo = s.lo := by unfold turnF; split <;> rfl
theorem turnF_len (s : Fr) (i : Int) (to : Nat) : (turnF s i to).ks.length = s.ks.length := by unfold turnF; split <;> simp

theorem getD_set (l : List Nat) (i j v : Nat) (hj : j < l.length) : (l.set i v).getD j 0 = if i = j then v else l.getD j 0 := by
  rw [List.getD_eq_getElem?_getD, List.getD_eq_getElem?_getD, List.getElem?_set]
  by_cases e : i = j
  · rw [if_pos e, if_pos e, if_pos (by omega)]; rfl
  · rw [if_neg e, if_neg e]

theorem turnF_get (s : Fr) (i : Int) (to j : Nat) (hj : j < s.ks.length) : (turnF s i to).ks.getD j 0 = if kindOfN s i = 2 ∧ i = ((s.lo + j : Nat) : Int) then to else s.ks.getD j 0 := by
  unfold turnF
  by_cases e : kindOfN s i = 2
  · rw [if_pos e]
    obtain ⟨k, hk, rfl⟩ := kindOfN_in (by rw [e]; omega : kindOfN s i ≠ 0)
    dsimp only
    rw [getD_set _ _ _ _ hj, show (((s.lo + k : Nat) : Int) - s.lo).toNat = k by omega]
    by_cases c : k = j
    · rw [if_pos c, if_pos ⟨e, by rw [c]⟩]
    · rw [if_neg c, if_neg (fun h => c (by omega))]
  · rw [if_neg e, if_neg (fun h => e h.1)]

theorem kinds_ne {w : World} {i j : Nat} {x y : Obj} (hi : w.heap[i]? = some x) (hj : w.heap[j]? = some y) (h : x ≠ y) : i ≠ j := by
  intro e
  subst e
  rw [hi] at hj
  cases hj
  exact h rfl

/-- None of its blocks is another one of them. -/
structure AdNe (a : Ad) : Prop where
  qd : a.q ≠ a.d
  qbs : a.q ≠ a.bs
  qbp : a.q ≠ a.bp
  qn : a.q ≠ a.n
  qhn : a.q ≠ a.hn
  qs : a.q ≠ a.s
  qhs : a.q ≠ a.hs
  dbs : a.d ≠ a.bs
  dbp : a.d ≠ a.bp
  dn : a.d ≠ a.n
  dhn : a.d ≠ a.hn
  ds : a.d ≠ a.s
  dhs : a.d ≠ a.hs
  bsbp : a.bs ≠ a.bp
  bsn : a.bs ≠ a.n
  bshn : a.bs ≠ a.hn
  bss : a.bs ≠ a.s
  bshs : a.bs ≠ a.hs
  bpn : a.bp ≠ a.n
  bphn : a.bp ≠ a.hn
  bps : a.bp ≠ a.s
  bphs : a.bp ≠ a.hs
  nhn : a.n ≠ a.hn
  ns : a.n ≠ a.s
  nhs : a.n ≠ a.hs
  hns : a.hn ≠ a.s
  hnhs : a.hn ≠ a.hs
  shs : a.s ≠ a.hs

theorem PuAt.apart {w : World} {a : Ad} {p : Pu} (h : PuAt w a p) : AdNe a := by
  obtain ⟨M, hM, _⟩ := h.disk.safe
  obtain ⟨e1, k1, hbs⟩ := hM.is
  obtain ⟨e2, k2, hbp⟩ := h.disk.pend.is
  have hd := h.disk.row
  obtain ⟨c1, u1, n1, n2, _, _, n3, _⟩ := h.now.body
  obtain ⟨c2, u2, s1, s2, _, _, s3, _⟩ := h.st.body
  have hq := h.row
  exact ⟨kinds_ne hq hd (by simp), kinds_ne hq hbs (by simp), kinds_ne hq hbp (by simp), kinds_ne hq n1 (by simp), kinds_ne hq n2 (by simp), kinds_ne hq s1 (by simp), kinds_ne hq s2 (by simp),
    kinds_ne hd hbs (by simp), kinds_ne hd hbp (by simp), kinds_ne hd n1 (by simp), kinds_ne hd n2 (by simp), kinds_ne hd s1 (by simp), kinds_ne hd s2 (by simp), h.disk.ne,
    kinds_ne hbs n1 (by simp), kinds_ne hbs n2 (by simp), kinds_ne hbs s1 (by simp), kinds_ne hbs s2 (by simp), kinds_ne hbp n1 (by simp), kinds_ne hbp n2 (by simp), kinds_ne hbp s1 (by simp), kinds_ne hbp s2 (by simp),
    n3, h.ne1, kinds_ne n1 s2 (by simp), kinds_ne n2 s1 (by simp), h.ne2, s3⟩

theorem PuAt.lt {w : World} {a : Ad} {p : Pu} (h : PuAt w a p) : ∀ k ∈ a.all, k < w.heap.size := by
  obtain ⟨c1, u1, n1, n2, _⟩ := h.now.body
  obtain ⟨c2, u2, s1, s2, _⟩ := h.st.body
  intro k hk
  simp only [Ad.all, List.mem_cons, List.not_mem_nil, or_false] at hk
  have hdl := h.disk.lt
  rcases hk with rfl | rfl | rfl | rfl | rfl | rfl | rfl | rfl
  · exact (Array.getElem?_eq_some_iff.1 h.row).1
  · exact hdl.1
  · exact hdl.2.1
  · exact hdl.2.2
  · exact (Array.getElem?_eq_some_iff.1 n1).1
  · exact (Array.getElem?_eq_some_iff.1 n2).1
  · exact (Array.getElem?_eq_some_iff.1 s1).1
  · exact (Array.getElem?_eq_some_iff.1 s2).1

theorem PuAt.other {w w' : World} {a : Ad} {p : Pu} (h : PuAt w a p) {S : List Nat} (hS : Sole S w w') (hn : ∀ k ∈ a.all, k ∉ S) : PuAt w' a p :=
  ⟨(hS.block a.q (h.lt _ (by simp [Ad.all])) (hn _ (by simp [Ad.all]))).trans h.row, h.disk.other hS (hn _ (by simp [Ad.all])) (hn _ (by simp [Ad.all])) (hn _ (by simp [Ad.all])),
    h.now.other hS (hn _ (by simp [Ad.all])) (hn _ (by simp [Ad.all])), h.st.other hS (hn _ (by simp [Ad.all])) (hn _ (by simp [Ad.all])), h.ne1, h.ne2, h.ok⟩

theorem PuAt.below {w w' : World} {a : Ad} {p : Pu} (h : PuAt w a p) (hb : Below w.heap.size w w') : PuAt w' a p := h.other (Sole.of_below hb []) (fun _ _ => by simp)

theorem PuAt.c0 {w : World} {a : Ad} {p : Pu} (h : PuAt w a p) : w.cell? ⟨a.q, 0, none⟩ = some (ptr a.d) := cell_of_row w _ 0 _ _ (0, 0) h.row
theorem PuAt.c1 {w : World} {a : Ad} {p : Pu} (h : PuAt w a p) : w.cell? ⟨a.q, 1, none⟩ = some (ptr a.n) := cell_of_row w _ 1 _ _ (0, 0) h.row
theorem PuAt.c2 {w : World} {a : Ad} {p : Pu} (h : PuAt w a p) : w.cell? ⟨a.q, 2, none⟩ = some (ptr a.s) := cell_of_row w _ 2 _ _ (0, 0) h.row
theorem PuAt.fr {w : World} {a : Ad} {p : Pu} (h : PuAt w a p) (j : Nat) : w.frozen? ⟨a.q, j, none⟩ = false := frozen_of_row w _ j _ _ h.row

/-- What a call changes: no block that was there but the pool's own; those it lies in now were its own or are new. -/
structure Moves (w w' : World) (a a' : Ad) : Prop where
  sole : Sole a.all w w'
  new : ∀ k ∈ a'.all, k ∈ a.all ∨ w.heap.size ≤ k
  q : a'.q = a.q
  d : a'.d = a.d

theorem Moves.of_below {w w' : World} {a : Ad} (h : Below w.heap.size w w') : Moves w w' a a := ⟨Sole.of_below h _, fun k hk => .inl hk, rfl, rfl⟩
theorem Moves.of_sole {w w' : World} {a : Ad} {S : List Nat} (h : Sole S w w') (hs : ∀ k ∈ S, k ∈ a.all) : Moves w w' a a := ⟨h.mono hs, fun k hk => .inl hk, rfl, rfl⟩
theorem Moves.refl (w : World) (a : Ad) : Moves w w a a := ⟨Sole.refl _ _, fun k hk => .inl hk, rfl, rfl⟩
theorem Moves.trans {w w1 w2 : World} {a a1 a2 : Ad} (h : Moves w w1 a a1) (k : Moves w1 w2 a1 a2) : Moves w w2 a a2 :=
  ⟨h.sole.after k.sole h.new, fun i hi => by
    rcases k.new i hi with h1 | h1
    · exact h.new i h1
    · exact .inr (Nat.le_trans h.sole.size h1), k.q.trans h.q, k.d.trans h.d⟩
theorem Moves.out {w w' : World} {a a' : Ad} (h : Moves w w' a a') {k : Nat} (hk : k < w.heap.size) (hn : k ∉ a.all) : k ∉ a'.all ∧ w'.heap[k]? = w.heap[k]? :=
  ⟨fun e => by rcases h.new k e with h1 | h1; exact hn h1; omega, h.sole.block k hk hn⟩
/-- What lies below all of the pool's blocks stays. -/
theorem Moves.under {w w' : World} {a a' : Ad} (h : Moves w w' a a') {B : Nat} {w0 : World} (h0 : Below B w0 w) (hB : B ≤ w.heap.size) (ha : ∀ k ∈ a.all, B ≤ k) : Below B w0 w' ∧ ∀ k ∈ a'.all, B ≤ k :=
  ⟨Sole.belowOf h0 h.sole hB ha, fun k hk => by rcases h.new k hk with h1 | h1; exact ha k h1; omega⟩

def freshB (p : Pu) (i : Int) : Bool := decide (kindOfN p.st i ≠ 2)

theorem isFresh_any {w : World} {a : Ad} {p : Pu} (h : PuAt w a p) (i : Int) : Calls Tryz.prog 42 #[ptr a.q, .int .i64 i] w fun e w' => e = .returned (.bool (freshB p i)) ∧ Below w.heap.size w w' := by
  have hc := is_any h.st h.ok.s i
  have c2 := h.c2
  unfold ptr freshB at *
  go_enter Tryz.func42, Tryz.ntmps42
  go_wp2_with fail
  refine hc.mono ?_
  rintro e w1 ⟨rfl, hb1⟩
  clear c2 hc
  go_wp2
  go_ret
  refine ⟨?_, hb1⟩
  generalize kindOfN p.st i = K
  by_cases e : K = 2
  · subst e; rfl
  · have : ¬ ((K : Int) = 2) := by omega
    simp [e, this]

/-- What Drop leaves. -/
def dropP (p : Pu) (i : Int) : Pu := { p with now := turnF p.now i (if freshB p i then 1 else 3) }

theorem dropP_ok {p : Pu} (h : PuOk p) (i : Int) : PuOk (dropP p i) := by
  have e1 : (dropP p i).now.lo = p.now.lo := turnF_lo _ _ _
  have e2 : (dropP p i).now.ks.length = p.now.ks.length := turnF_len _ _ _
  refine ⟨turn_ok h.n i _ (by split <;> omega), h.s, by rw [e1]; exact h.lo1, by rw [e1, e2]; exact h.top, by rw [e1]; exact h.slo, by rw [e2]; exact h.sl, fun j hj => ?_⟩
  rw [e2] at hj
  have hr := h.rel j hj
  show pairOk ((turnF p.now i (if freshB p i then 1 else 3)).ks.getD j 0) (p.st.ks.getD j 0)
  rw [turnF_get _ _ _ _ hj]
  split
  · rename_i c
    obtain ⟨c1, rfl⟩ := c
    rw [kindOfN_at hj] at c1
    rw [c1] at hr
    have hs : kindOfN p.st ((p.now.lo + j : Nat) : Int) = p.st.ks.getD j 0 := by
      have := kindOfN_at (s := p.st) (j := j) (by rw [h.sl]; exact hj)
      rw [h.slo] at this
      exact this
    unfold freshB
    rw [hs]
    generalize p.st.ks.getD j 0 = K at hr ⊢
    by_cases e : K = 2
    · subst e; exact .inr (.inr (.inr (.inl ⟨by simp, rfl⟩)))
    · have hK : K = 1 := by unfold pairOk at hr; omega
      subst hK
      exact .inl ⟨by simp, rfl⟩
  · exact hr

/-- The map that is now, turned. -/
theorem PuAt.putNow {w w' : World} {a : Ad} {p : Pu} (h : PuAt w a p) {s : Fr} (hn : PAt w' a.n a.hn s) (hS : Sole [a.hn] w w') (hok : PuOk { p with now := s }) : PuAt w' a { p with now := s } := by
  have hx := h.apart
  have hl := h.lt
  exact ⟨(hS.block a.q (hl _ (by simp [Ad.all])) (by simpa using hx.qhn)).trans h.row, h.disk.other hS (by simpa using hx.dhn) (by simpa using hx.bshn) (by simpa using hx.bphn), hn, h.st.other hS (by simpa using Ne.symm hx.hns) (by simpa using Ne.symm hx.hnhs), h.ne1, h.ne2, hok⟩

theorem PuAt.putSt {w w' : World} {a : Ad} {p : Pu} (h : PuAt w a p) {s : Fr} (hn : PAt w' a.s a.hs s) (hS : Sole [a.hs] w w') (hok : PuOk { p with st := s }) : PuAt w' a { p with st := s } := by
  have hx := h.apart
  have hl := h.lt
  exact ⟨(hS.block a.q (hl _ (by simp [Ad.all])) (by simpa using hx.qhs)).trans h.row, h.disk.other hS (by simpa using hx.dhs) (by simpa using hx.bshs) (by simpa using hx.bphs), h.now.other hS (by simpa using hx.nhs) (by simpa using hx.hnhs), hn, h.ne1, h.ne2, hok⟩

set_option maxHeartbeats 1000000 in
theorem drop_any {w : World} {a : Ad} {p : Pu} (h : PuAt w a p) (i : Int) (hi0 : 0 ≤ i) (hi1 : i ≤ 4294967295) :
    Calls Tryz.prog 15 #[ptr a.q, .int .u32 i] w fun e w' => e = .returned (.int .i64 (turnE p.now i)) ∧ PuAt w' a (dropP p i) ∧ Moves w w' a a := by
  have hc := isFresh_any h i
  have hok := dropP_ok h.ok i
  unfold dropP at *
  cases hf : freshB p i with
  | true =>
    rw [hf] at hc hok
    simp only [if_true] at hok ⊢
    unfold ptr at *
    go_enter Tryz.func15, Tryz.ntmps15
    go_wp2_with fail
    refine hc.mono ?_
    rintro e w1 ⟨rfl, hb1⟩
    have h1 := h.below hb1
    have c1 := h1.c1
    have hg := give_any h1.now h1.ok.n i
    unfold ptr at *
    clear hc
    go_wp2_with fail
    refine hg.mono ?_
    rintro e w2 ⟨rfl, hp2, hs2⟩
    clear c1 hg
    go_wp2
    go_ret
    exact ⟨rfl, h1.putNow hp2 hs2 hok, (Moves.of_below hb1).trans (Moves.of_sole hs2 (by simp [Ad.all]))⟩
  | false =>
    rw [hf] at hc hok
    simp only [Bool.false_eq_true, if_false] at hok ⊢
    unfold ptr at *
    go_enter Tryz.func15, Tryz.ntmps15
    go_wp2_with fail
    refine hc.mono ?_
    rintro e w1 ⟨rfl, hb1⟩
    have h1 := h.below hb1
    have c1 := h1.c1
    have hg := defer_any h1.now h1.ok.n i
    unfold ptr at *
    clear hc
    go_wp2_with fail
    refine hg.mono ?_
    rintro e w2 ⟨rfl, hp2, hs2⟩
    clear c1 hg
    go_wp2
    go_ret
    exact ⟨rfl, h1.putNow hp2 hs2 hok, (Moves.of_below hb1).trans (Moves.of_sole hs2 (by simp [Ad.all]))⟩

/-- Another map in the place of what was settled. -/
theorem PuAt.newSt {w w1 : World} {a : Ad} {p : Pu} (h : PuAt w a p) {s hs : Nat} {f : Fr} (hb : Below w.heap.size w w1) (hs1 : w.heap.size ≤ s) (hs2 : w.heap.size ≤ hs) (H : PAt w1 s hs f) (hok : PuOk { p with st := f }) :
    PuAt (w1.setCell ⟨a.q, 2, none⟩ (ptr s)) { a with s := s, hs := hs } { p with st := f } ∧ Moves w (w1.setCell ⟨a.q, 2, none⟩ (ptr s)) a { a with s := s, hs := hs } := by
  have hl := h.lt
  have hx := h.apart
  have hq := hl a.q (by simp [Ad.all])
  have hS : Sole [a.q] w1 (w1.setCell ⟨a.q, 2, none⟩ (ptr s)) := Sole.setCell _ _ (by simp)
  have h1 := h.below hb
  have hnl := hl a.n (by simp [Ad.all])
  have hhl := hl a.hn (by simp [Ad.all])
  refine ⟨⟨?_, h1.disk.other hS (by simpa using Ne.symm hx.qd) (by simpa using Ne.symm hx.qbs) (by simpa using Ne.symm hx.qbp), h1.now.other hS (by simpa using Ne.symm hx.qn) (by simpa using Ne.symm hx.qhn), H.other hS (by simp; omega) (by simp; omega), by show a.n ≠ s; omega, by show a.hn ≠ hs; omega, hok⟩,
    ⟨(Sole.of_below hb _).trans ((Sole.setCell w1 _ (S := a.all) (by simp [Ad.all]))), fun k hk => ?_, rfl, rfl⟩⟩
  · have := heap_setCell_same w1 a.q 2 _ _ (ptr s) h1.row
    exact this
  · simp only [Ad.all, List.mem_cons, List.not_mem_nil, or_false] at hk ⊢
    rcases hk with h | h | h | h | h | h | h | h
    · exact .inl (by simp [h])
    · exact .inl (by simp [h])
    · exact .inl (by simp [h])
    · exact .inl (by simp [h])
    · exact .inl (by simp [h])
    · exact .inl (by simp [h])
    · exact .inr (by omega)
    · exact .inr (by omega)

theorem PuAt.newNow {w w1 : World} {a : Ad} {p : Pu} (h : PuAt w a p) {s hs : Nat} {f : Fr} (hb : Below w.heap.size w w1) (hs1 : w.heap.size ≤ s) (hs2 : w.heap.size ≤ hs) (H : PAt w1 s hs f) (hok : PuOk { p with now := f }) :
    PuAt (w1.setCell ⟨a.q, 1, none⟩ (ptr s)) { a with n := s, hn := hs } { p with now := f } ∧ Moves w (w1.setCell ⟨a.q, 1, none⟩ (ptr s)) a { a with n := s, hn := hs } := by
  have hl := h.lt
  have hx := h.apart
  have hq := hl a.q (by simp [Ad.all])
  have hS : Sole [a.q] w1 (w1.setCell ⟨a.q, 1, none⟩ (ptr s)) := Sole.setCell _ _ (by simp)
  have h1 := h.below hb
  have hnl := hl a.s (by simp [Ad.all])
  have hhl := hl a.hs (by simp [Ad.all])
  refine ⟨⟨?_, h1.disk.other hS (by simpa using Ne.symm hx.qd) (by simpa using Ne.symm hx.qbs) (by simpa using Ne.symm hx.qbp), H.other hS (by simp; omega) (by simp; omega), h1.st.other hS (by simpa using Ne.symm hx.qs) (by simpa using Ne.symm hx.qhs), by show s ≠ a.s; omega, by show hs ≠ a.hs; omega, hok⟩,
    ⟨(Sole.of_below hb _).trans ((Sole.setCell w1 _ (S := a.all) (by simp [Ad.all]))), fun k hk => ?_, rfl, rfl⟩⟩
  · have := heap_setCell_same w1 a.q 1 _ _ (ptr s) h1.row
    exact this
  · simp only [Ad.all, List.mem_cons, List.not_mem_nil, or_false] at hk ⊢
    rcases hk with h | h | h | h | h | h | h | h
    · exact .inl (by simp [h])
    · exact .inl (by simp [h])
    · exact .inl (by simp [h])
    · exact .inl (by simp [h])
    · exact .inr (by omega)
    · exact .inr (by omega)
    · exact .inl (by simp [h])
    · exact .inl (by simp [h])

def MovedTo (w : World) (a : Ad) (p' : Pu) (w' : World) : Prop := ∃ a', PuAt w' a' p' ∧ Moves w w' a a'

theorem pair_same {s : Fr} (h : FrOk s) (j : Nat) (hj : j < s.ks.length) : pairOk (s.ks.getD j 0) (s.ks.getD j 0) := by
  have hm : s.ks.getD j 0 ∈ s.ks := by
    rw [List.getD_eq_getElem?_getD, List.getElem?_eq_getElem hj]
    exact List.getElem_mem hj
  have := h.kinds _ hm
  unfold pairOk
  omega

theorem settleOk {p : Pu} (h : PuOk p) : PuOk { p with st := p.now } := ⟨h.n, h.n, h.lo1, h.top, rfl, rfl, fun j hj => pair_same h.n j hj⟩
theorem undoOk {p : Pu} (h : PuOk p) : PuOk { p with now := p.st } := ⟨h.s, h.s, by rw [show ({ p with now := p.st } : Pu).now.lo = p.now.lo from h.slo]; exact h.lo1, by rw [show ({ p with now := p.st } : Pu).now.lo = p.now.lo from h.slo, show ({ p with now := p.st } : Pu).now.ks.length = p.now.ks.length from h.sl]; exact h.top, rfl, rfl, fun j hj => pair_same h.s j hj⟩

set_option maxHeartbeats 1000000 in
theorem hsettle_any {w : World} {a : Ad} {p : Pu} (h : PuAt w a p) :
    Calls Tryz.prog 46 #[.pointer (some ⟨a.q, 1, none⟩)] w fun e w' => e = .returned (.tuple #[]) ∧ MovedTo w a { p with st := p.now } w' := by
  have hc := fclone_any h.now h.ok.n
  have c1 := h.c1
  have HM : Hid (∀ s hs w1, Below w.heap.size w w1 → w.heap.size ≤ s → w.heap.size ≤ hs → PAt w1 s hs p.now → MovedTo w a { p with st := p.now } (w1.setCell ⟨a.q, 2, none⟩ (ptr s))) := fun s hs w1 x1 x2 x3 x4 => ⟨_, (h.newSt x1 x2 x3 x4 (settleOk h.ok)).1, (h.newSt x1 x2 x3 x4 (settleOk h.ok)).2⟩
  have hcell : ∀ w1, Below w.heap.size w w1 → ∃ v, w1.cell? ⟨a.q, 2, none⟩ = some v ∧ w1.frozen? ⟨a.q, 2, none⟩ = false := fun w1 x => ⟨_, (h.below x).c2, (h.below x).fr 2⟩
  unfold ptr at *
  go_enter Tryz.func46, Tryz.ntmps46
  go_wp2_with fail
  refine hc.mono ?_
  rintro e w1 ⟨s, hs, rfl, H, x1, x2, hb1⟩
  obtain ⟨v, g1, g2⟩ := hcell w1 hb1
  clear c1 hc hcell
  go_wp2_with fail
  go_end0
  exact ⟨rfl, HM.out _ _ _ hb1 x1 x2 H⟩

set_option maxHeartbeats 1000000 in
theorem hundo_any {w : World} {a : Ad} {p : Pu} (h : PuAt w a p) :
    Calls Tryz.prog 47 #[.pointer (some ⟨a.q, 1, none⟩)] w fun e w' => e = .returned (.tuple #[]) ∧ MovedTo w a { p with now := p.st } w' := by
  have hc := fclone_any h.st h.ok.s
  have c1 := h.c2
  have HM : Hid (∀ s hs w1, Below w.heap.size w w1 → w.heap.size ≤ s → w.heap.size ≤ hs → PAt w1 s hs p.st → MovedTo w a { p with now := p.st } (w1.setCell ⟨a.q, 1, none⟩ (ptr s))) := fun s hs w1 x1 x2 x3 x4 => ⟨_, (h.newNow x1 x2 x3 x4 (undoOk h.ok)).1, (h.newNow x1 x2 x3 x4 (undoOk h.ok)).2⟩
  have hcell : ∀ w1, Below w.heap.size w w1 → ∃ v, w1.cell? ⟨a.q, 1, none⟩ = some v ∧ w1.frozen? ⟨a.q, 1, none⟩ = false := fun w1 x => ⟨_, (h.below x).c1, (h.below x).fr 1⟩
  unfold ptr at *
  go_enter Tryz.func47, Tryz.ntmps47
  go_wp2_with fail
  refine hc.mono ?_
  rintro e w1 ⟨s, hs, rfl, H, x1, x2, hb1⟩
  obtain ⟨v, g1, g2⟩ := hcell w1 hb1
  clear c1 hc hcell
  go_wp2_with fail
  go_end0
  exact ⟨rfl, HM.out _ _ _ hb1 x1 x2 H⟩

theorem settle_any {w : World} {a : Ad} {p : Pu} (h : PuAt w a p) :
    Calls Tryz.prog 17 #[ptr a.q] w fun e w' => e = .returned (.tuple #[]) ∧ MovedTo w a { p with st := p.now } w' := by
  have hc := hsettle_any h
  unfold ptr at *
  go_enter Tryz.func17, Tryz.ntmps17
  go_wp2_with fail
  refine hc.mono ?_
  rintro e w1 ⟨rfl, hm⟩
  go_wp2_with fail
  go_end0
  exact ⟨rfl, hm⟩

theorem undo_any {w : World} {a : Ad} {p : Pu} (h : PuAt w a p) :
    Calls Tryz.prog 19 #[ptr a.q] w fun e w' => e = .returned (.tuple #[]) ∧ MovedTo w a { p with now := p.st } w' := by
  have hc := hundo_any h
  unfold ptr at *
  go_enter Tryz.func19, Tryz.ntmps19
  go_wp2_with fail
  refine hc.mono ?_
  rintro e w1 ⟨rfl, hm⟩
  go_wp2_with fail
  go_end0
  exact ⟨rfl, hm⟩

/-- Three lists, in blocks of their own. -/
structure SpaceOut (w w' : World) (s : Fr) (x y z : Value) (b1 b2 : Nat) : Prop where
  t : w'.ownsRow w.heap.size 3 1 x (blocksL s 2).length (natC (blocksL s 2))
  wt : w'.ownsRow b1 3 1 y (blocksL s 3).length (natC (blocksL s 3))
  f : w'.ownsRow b2 3 1 z (blocksL s 1).length (natC (blocksL s 1))
  l0 : w.heap.size ≤ b1
  l1 : b1 ≤ b2
  tl : ∀ q, x.ownBlock = some q → q < b1
  wl : ∀ q, y.ownBlock = some q → q < b2
  fl : ∀ q, z.ownBlock = some q → q < w'.heap.size

theorem own_lt {w : World} {b e k : Nat} {u : Value} {n : Nat} {xs : List Value} (h : w.ownsRow b e k u n xs) : ∀ q, u.ownBlock = some q → q < w.heap.size := by
  intro q hq
  rcases h with ⟨_, ⟨rfl, _⟩ | ⟨g, c, cur, rfl, h2, h3, _⟩⟩
  · simp [Value.ownBlock] at hq
  · simp [Value.ownBlock] at hq
    subst hq
    exact (Array.getElem?_eq_some_iff.1 h3).1

set_option maxHeartbeats 1000000 in
theorem space_any {w : World} {a : Ad} {p : Pu} (h : PuAt w a p) :
    Calls Tryz.prog 24 #[ptr a.q] w fun e w' => ∃ x y z b1 b2, e = .returned (.tuple #[x, y, z]) ∧ SpaceOut w w' p.now x y z b1 b2 ∧ Below w.heap.size w w' := by
  have c1 := h.c1
  have k1 := takenL_any h.now h.ok.n
  unfold ptr at *
  go_enter Tryz.func24, Tryz.ntmps24
  go_wp2_with fail
  refine k1.mono ?_
  clear k1
  rintro e w1 ⟨x, rfl, o1, hb1⟩
  have k2 := waitingL_any (h.below hb1).now h.ok.n
  unfold ptr at k2
  go_wp2_with fail
  refine k2.mono ?_
  clear k2
  rintro e w2 ⟨y, rfl, o2, hb2⟩
  have hb12 := hb1.trans (hb2.mono hb1.size)
  have k3 := freeL_any (h.below hb12).now h.ok.n
  unfold ptr at k3
  go_wp2_with fail
  refine k3.mono ?_
  clear k3
  rintro e w3 ⟨z, rfl, o3, hb3⟩
  clear c1
  have t1 := own_lt o1
  have t2 := own_lt o2
  have t3 := own_lt o3
  have hb13 := hb12.trans (hb3.mono hb12.size)
  have o1' := rowI_below (rowI_below o1 hb2) hb3
  have o2' := rowI_below o2 hb3
  go_wp2
  go_returns
  exact ⟨x, y, z, w1.heap.size, w2.heap.size, rfl, ⟨o1', o2', o3, hb1.size, hb2.size, t1, t2, t3⟩, hb13⟩

theorem make_many (w : World) (n : Nat) (hn : n ≤ 35184372088832) :
    (Instr.makeSlice 22 (.int .i64 n) (.int .i64 n)).run Tryz.prog w = .ok (.slice (some ⟨w.heap.size, 0, none⟩) n n) (w.alloc (.cells ((List.replicate n (0 : Int)).map (Value.int .i64)).toArray 3)) := by
  obtain ⟨i, hi, hz0, hz1, hz2⟩ := info_partsI
  have h := run_make (P := Tryz.prog) w 22 3 i (.int .i64 0) Tryz.underlying22 hi hz0 .i64 .i64 n n (by omega) (by omega) (by rw [hz2]; omega) (by omega)
  rw [h, hz1, Int.toNat_natCast, Nat.mul_one]
  congr 2
  congr 1
  apply Array.ext'
  rw [List.map_replicate]
  exact toList_madeCells_one (.int .i64 0) n

theorem fill_next {l : List Int} {n j : Nat} {x : Int} (hl : l.length = n) (hx : l[j]? = some x) : (l.take j ++ List.replicate (n - j) (0 : Int)).set j x = l.take (j + 1) ++ List.replicate (n - (j + 1)) 0 := by
  have hj : j < l.length := (List.getElem?_eq_some_iff.1 hx).1
  have hlen : (l.take j).length = j := by rw [List.length_take]; omega
  rw [List.set_append_right _ _ (by omega), hlen, Nat.sub_self, take_next hx, show n - j = (n - (j + 1)) + 1 by omega, List.replicate_succ, List.set_cons_zero, List.append_assoc]
  rfl

theorem ints_put {W : World} {g j : Nat} {L : List Int} (hg : W.heap[g]? = some (.cells (L.map (Value.int .i64)).toArray 3 (0, 0))) (x : Int) : (W.setCell ⟨g, j, none⟩ (.int .i64 x)).heap[g]? = some (.cells ((L.set j x).map (Value.int .i64)).toArray 3 (0, 0)) := by
  rw [heap_setCell_same W g j _ 3 _ hg]
  congr 2
  apply Array.ext'
  simp [List.map_set]

set_option maxHeartbeats 2000000 in
theorem pblocks_any (w : World) (v : Value) (l : List Int) (hr : RdU w v l) (hl : l.length ≤ 35184372088832) (hu : ∀ k ∈ l, 0 ≤ k ∧ k ≤ 4294967295) :
    Calls Tryz.prog 50 #[v] w fun e w' => ∃ u, e = .returned u ∧ RdI w' u l ∧ Below w.heap.size w w' := by
  obtain ⟨a, cap, rfl, h1, h2, h3⟩ := id hr
  obtain ⟨_, _, _, h4⟩ := RdU.open hr
  clear h3
  have hmk := make_many w l.length hl
  have hg := heap_alloc_new w (.cells ((List.replicate l.length (0 : Int)).map (Value.int .i64)).toArray 3)
  have hb := (Below.refl w.heap.size w).alloc (Nat.le_refl _) (.cells ((List.replicate l.length (0 : Int)).map (Value.int .i64)).toArray 3)
  have hz : (w.alloc (.cells ((List.replicate l.length (0 : Int)).map (Value.int .i64)).toArray 3)).heap.size = w.heap.size + 1 := by simp
  unfold maxLen at h2
  generalize w.alloc (.cells ((List.replicate l.length (0 : Int)).map (Value.int .i64)).toArray 3) = W0 at *
  generalize hn : l.length = n at *
  go_enter Tryz.func50, Tryz.ntmps50
  go_wp2
  go_loopw [4, 5, 11] (fun _ _ t wr => ∃ j : Nat, j ≤ n ∧ t = .int .i64 j ∧ wr.heap[w.heap.size]? = some (.cells ((l.take j ++ List.replicate (n - j) (0 : Int)).map (Value.int .i64)).toArray 3 (0, 0)) ∧ Below w.heap.size w wr) (fun _ _ t _ => n - (Go.RowKit.intOf t).toNat)
  case atStart => exact ⟨0, Nat.zero_le _, rfl, hg, hb⟩
  case round =>
    obtain ⟨j, hj, rfl, hc, hbb⟩ := hrel
    by_cases hlt : j < n
    · have hltI : (j : Int) < n := by omega
      obtain ⟨x, hx⟩ := at_some hn hlt
      obtain ⟨b, off, rfl, hbl, h5⟩ := h4 (by omega)
      have hx1 := hu x (List.mem_of_getElem? hx)
      have c1 := (hbb.cell (p := ⟨b, off + j, none⟩) hbl).trans (h5 j x hx)
      have hlen : (l.take j ++ List.replicate (n - j) (0 : Int)).length = n := by simp; omega
      have hfr := frozen_of_row wr w.heap.size j _ _ hc
      have hcj : ∃ y, wr.cell? ⟨w.heap.size, j, none⟩ = some y := by
        refine ⟨((l.take j ++ List.replicate (n - j) (0 : Int)).map (Value.int .i64)).toArray[j]'(by simp; omega), ?_⟩
        rw [cell_of_row wr _ j _ _ (0, 0) hc]
        exact Array.getElem?_eq_getElem _
      obtain ⟨y, hy⟩ := hcj
      have hnew := ints_put (j := j) hc x
      rw [fill_next hn hx] at hnew
      have hb' : Below w.heap.size w (wr.setCell ⟨w.heap.size, j, none⟩ (.int .i64 x)) := hbb.trans ((Sole.setCell wr (.int .i64 x) (a := ⟨w.heap.size, j, none⟩) (S := [w.heap.size]) (by simp)).belowOf (Below.refl _ _) hbb.size (by simp))
      clear hc hbb h4 h5 hmk hg
      go_wp2_with fail
      go_roundw
      case rel => exact ⟨j + 1, by omega, by go_num, hnew, hb'⟩
      case measure => simp [Go.RowKit.intOf]; omega
    · obtain rfl : j = n := by omega
      have hltI : ¬ (j : Int) < j := by omega
      clear h4 hmk hg
      go_wp2
      go_ret
      refine ⟨.slice (some ⟨w.heap.size, 0, none⟩) j j, rfl, ⟨some ⟨w.heap.size, 0, none⟩, j, by rw [hn], by omega, by unfold maxLen; omega, fun _ => ⟨w.heap.size, 0, rfl, (Array.getElem?_eq_some_iff.1 hc).1, fun i x hi => ?_⟩⟩, hbb⟩
      rw [cell_of_row _ _ _ _ _ (0, 0) hc, Nat.sub_self, List.take_of_length_le (by omega)]
      simp [hi]

def intsOf (l : List Nat) : List Int := l.map (fun (x : Nat) => (x : Int))

/-- What was swept now waits in what was settled. -/
def deferL (n1 s : Fr) (l : List Nat) : Fr := l.foldl (fun (s : Fr) (b : Nat) => if kindOfN n1 (b : Int) = 1 then turnF s (b : Int) 3 else s) s

theorem deferL_next (n1 s : Fr) (l : List Nat) (b : Nat) : deferL n1 s (l ++ [b]) = if kindOfN n1 (b : Int) = 1 then turnF (deferL n1 s l) (b : Int) 3 else deferL n1 s l := by
  unfold deferL
  rw [List.foldl_append]
  rfl

theorem deferL_all (n1 : Fr) : ∀ (l : List Nat) (s : Fr), FrOk s → FrOk (deferL n1 s l) ∧ (deferL n1 s l).lo = s.lo ∧ (deferL n1 s l).ks.length = s.ks.length ∧
    ∀ j, j < s.ks.length → (deferL n1 s l).ks.getD j 0 = if s.ks.getD j 0 = 2 ∧ s.lo + j ∈ l ∧ kindOfN n1 ((s.lo + j : Nat) : Int) = 1 then 3 else s.ks.getD j 0
  | [], s, h => ⟨h, rfl, rfl, fun j hj => by rw [if_neg (by simp)]; rfl⟩
  | b :: l, s, h => by
    have hstep : deferL n1 s (b :: l) = deferL n1 (if kindOfN n1 (b : Int) = 1 then turnF s (b : Int) 3 else s) l := rfl
    rw [hstep]
    by_cases e : kindOfN n1 (b : Int) = 1
    · rw [if_pos e]
      obtain ⟨i1, i2, i3, i4⟩ := deferL_all n1 l (turnF s (b : Int) 3) (turn_ok h _ 3 (by omega))
      rw [turnF_lo] at i2 i4
      rw [turnF_len] at i3 i4
      refine ⟨i1, i2, i3, fun j hj => ?_⟩
      rw [i4 j hj, turnF_get _ _ _ _ hj]
      by_cases c : s.lo + j = b
      · subst c
        rw [kindOfN_at hj]
        by_cases g : s.ks.getD j 0 = 2
        · simp only [g, and_self, if_true, List.mem_cons, true_or, e]
          simp
        · simp only [g, false_and, if_false]
      · have c' : ¬ ((b : Int) = ((s.lo + j : Nat) : Int)) := by omega
        simp only [c', and_false, if_false, List.mem_cons, c, false_or]
    · rw [if_neg e]
      obtain ⟨i1, i2, i3, i4⟩ := deferL_all n1 l s h
      refine ⟨i1, i2, i3, fun j hj => ?_⟩
      rw [i4 j hj]
      by_cases c : s.lo + j = b
      · subst c
        simp only [e, and_false, if_false]
      · simp only [List.mem_cons, c, false_or]

/-- What Sweep leaves. -/
def sweepP (p : Pu) (l : List Int) : Pu := { p with now := sweepF p.now l, st := sweepF (deferL (sweepF p.now l) p.st (blocksL p.now 3)) (intsOf (blocksL (sweepF p.now l) 3)) }

theorem sweepF_len (s : Fr) (l : List Int) : (sweepF s l).ks.length = s.ks.length := sweepK_len s l _
theorem sweepF_get (s : Fr) (l : List Int) (j : Nat) (hj : j < s.ks.length) : (sweepF s l).ks.getD j 0 = if s.ks.getD j 0 = 3 ∧ ¬ ((s.lo + j : Nat) : Int) ∈ l then 1 else s.ks.getD j 0 := by
  have := sweepK_get s l j hj s.ks.length (Nat.le_refl _)
  rw [show (sweepF s l).ks = sweepK s l s.ks.length from rfl, this]
  simp only [hj, true_and]

theorem mem_blocks {s : Fr} {k x : Nat} : x ∈ blocksL s k ↔ ∃ i, i < s.ks.length ∧ s.ks.getD i 0 = k ∧ x = s.lo + i := upto_mem

theorem mem_at {s : Fr} {k j : Nat} (hj : j < s.ks.length) : s.lo + j ∈ blocksL s k ↔ s.ks.getD j 0 = k := by
  rw [mem_blocks]
  constructor
  · rintro ⟨i, _, h, e⟩
    obtain rfl : j = i := by omega
    exact h
  · intro h
    exact ⟨j, hj, h, rfl⟩

theorem mem_ints {l : List Nat} {x : Nat} : ((x : Nat) : Int) ∈ intsOf l ↔ x ∈ l := by
  unfold intsOf
  rw [List.mem_map]
  constructor
  · rintro ⟨y, hy, e⟩
    have : y = x := by omega
    rw [← this]
    exact hy
  · intro h
    exact ⟨x, h, rfl⟩

theorem sweepP_now (p : Pu) (l : List Int) (j : Nat) (hj : j < p.now.ks.length) : (sweepP p l).now.ks.getD j 0 = if p.now.ks.getD j 0 = 3 ∧ ¬ ((p.now.lo + j : Nat) : Int) ∈ l then 1 else p.now.ks.getD j 0 := sweepF_get _ _ _ hj

theorem sweepP_st {p : Pu} (h : PuOk p) (l : List Int) (j : Nat) (hj : j < p.now.ks.length) : (sweepP p l).st.ks.getD j 0 = if p.now.ks.getD j 0 = 3 ∧ ¬ ((p.now.lo + j : Nat) : Int) ∈ l then 1 else p.st.ks.getD j 0 := by
  obtain ⟨d1, d2, d3, d4⟩ := deferL_all (sweepF p.now l) (blocksL p.now 3) p.st h.s
  have hjs : j < p.st.ks.length := by rw [h.sl]; exact hj
  have hr := h.rel j hj
  have hn1 := sweepF_get p.now l j hj
  show (sweepF (deferL (sweepF p.now l) p.st (blocksL p.now 3)) (intsOf (blocksL (sweepF p.now l) 3))).ks.getD j 0 = _
  rw [sweepF_get _ _ _ (by rw [d3]; exact hjs), d4 j hjs, d2, h.slo]
  simp only [mem_ints]
  have hl1 : (sweepF p.now l).lo = p.now.lo := rfl
  have hm : p.now.lo + j ∈ blocksL (sweepF p.now l) 3 ↔ (sweepF p.now l).ks.getD j 0 = 3 := by
    have := mem_at (s := sweepF p.now l) (k := 3) (j := j) (by rw [sweepF_len]; exact hj)
    rw [hl1] at this
    exact this
  have hk : kindOfN (sweepF p.now l) ((p.now.lo + j : Nat) : Int) = (sweepF p.now l).ks.getD j 0 := by
    have := kindOfN_at (s := sweepF p.now l) (j := j) (by rw [sweepF_len]; exact hj)
    rw [hl1] at this
    exact this
  simp only [hm, hk, hn1, mem_at hj]
  generalize p.now.ks.getD j 0 = A at *
  generalize p.st.ks.getD j 0 = B at *
  by_cases c : ((p.now.lo + j : Nat) : Int) ∈ l
  · simp only [c, not_true_eq_false, and_false, if_false]
    unfold pairOk at hr
    rcases hr with ⟨rfl, rfl⟩ | ⟨rfl, rfl⟩ | ⟨rfl, rfl⟩ | ⟨rfl, rfl⟩ | ⟨rfl, rfl⟩ <;> simp
  · simp only [c, not_false_eq_true, and_true]
    unfold pairOk at hr
    rcases hr with ⟨rfl, rfl⟩ | ⟨rfl, rfl⟩ | ⟨rfl, rfl⟩ | ⟨rfl, rfl⟩ | ⟨rfl, rfl⟩ <;> simp

theorem sweepP_ok {p : Pu} (h : PuOk p) (l : List Int) : PuOk (sweepP p l) := by
  obtain ⟨d1, d2, d3, d4⟩ := deferL_all (sweepF p.now l) (blocksL p.now 3) p.st h.s
  have e1 : (sweepP p l).now.ks.length = p.now.ks.length := sweepF_len _ _
  have e2 : (sweepP p l).st.ks.length = p.now.ks.length := by
    show (sweepF _ _).ks.length = _
    rw [sweepF_len, d3, h.sl]
  refine ⟨sweep_ok h.n l, sweep_ok d1 _, h.lo1, by rw [e1]; exact h.top, ?_, by rw [e1, e2], fun j hj => ?_⟩
  · show (deferL (sweepF p.now l) p.st (blocksL p.now 3)).lo = p.now.lo
    rw [d2, h.slo]
  · rw [e1] at hj
    rw [sweepP_now p l j hj, sweepP_st h l j hj]
    have hr := h.rel j hj
    split
    · exact .inl ⟨rfl, rfl⟩
    · exact hr

set_option maxHeartbeats 4000000 in
theorem psweep_any {w : World} {a : Ad} {p : Pu} (h : PuAt w a p) (v : Value) (l : List Int) (hr : RdU w v l) (hl : l.length ≤ 35184372088832) (hu : ∀ k ∈ l, 0 ≤ k ∧ k ≤ 4294967295) :
    Calls Tryz.prog 21 #[ptr a.q, v] w fun e w' => e = .returned (.int .i64 (swept p.now l)) ∧ PuAt w' a (sweepP p l) ∧ Moves w w' a a := by
  have hx := h.apart
  have hlt := h.lt
  have hn1 : a.n < w.heap.size := hlt _ (by simp [Ad.all])
  have hn2 : a.hn < w.heap.size := hlt _ (by simp [Ad.all])
  have hs1 : a.s < w.heap.size := hlt _ (by simp [Ad.all])
  have hs2 : a.hs < w.heap.size := hlt _ (by simp [Ad.all])
  have c1 := h.c1
  have c2 := h.c2
  have k1 := fun W (hW : Below w.heap.size w W) => waitingL_any (h.below hW).now h.ok.n
  have HH : Hid (PuAt w a p) := h
  have hok : Hid (PuOk p) := h.ok
  have hbl : (blocksL p.now 3).length ≤ 1024 := by
    have h1 := upto_len p.now 3 p.now.ks.length
    have h2 := h.ok.n.most
    show (upto p.now 3 p.now.ks.length).length ≤ 1024
    omega
  obtain ⟨va, vc, rfl, _⟩ := id hr
  unfold ptr at *
  clear h
  go_enter Tryz.func21, Tryz.ntmps21
  go_wp2_with fail
  go_quiet (fail)
  go_wp2_with fail
  refine (k1 _ (belowQ w _ w.heap.size)).mono ?_
  clear k1 c1 c2
  rintro e w1 ⟨x, rfl, o1, hb1'⟩
  have hb1 : Below w.heap.size w w1 := (belowQ w _ w.heap.size).trans hb1'
  obtain ⟨xa, xc, rfl⟩ := rowI_slice o1
  clear hb1'
  have k2 := pblocks_any w1 _ l (hr.below hb1) hl hu
  go_wp2_with fail
  refine k2.mono ?_
  clear k2
  rintro e w2 ⟨y, rfl, o2, hb2⟩
  have hb12 := hb1.trans (hb2.mono hb1.size)
  have h2 := HH.out.below hb12
  have k3 := sweep_any h2.now h2.ok.n y l o2
  unfold ptr at k3
  obtain ⟨ya, yc, rfl, _⟩ := id o2
  go_wp2_with fail
  refine k3.mono ?_
  clear k3 o2
  rintro e w3 ⟨rfl, H3, S3⟩
  have o1' : w2.ownsRow w.heap.size 3 1 (.slice xa (blocksL p.now 3).length xc) (blocksL p.now 3).length (natC (blocksL p.now 3)) := rowI_below o1 hb2
  have R3 : ∀ W, Sole [a.hs] w3 W → RdI W (.slice xa (blocksL p.now 3).length xc) (intsOf (blocksL p.now 3)) := fun W hW => by
    have q1 := rdI_own o1' hn2 S3
    obtain ⟨ra, rc, e1, r1, r2, r3⟩ := q1
    refine ⟨ra, rc, e1, r1, r2, fun hp => ?_⟩
    obtain ⟨b, off, rfl, hbl, hc⟩ := r3 hp
    have hbne : b ≠ a.hs := by
      simp only [Value.slice.injEq] at e1
      obtain ⟨rfl, _, rfl⟩ := e1
      rcases o1' with ⟨_, ⟨e, _⟩ | ⟨g, c, cur, e, g2, _⟩⟩
      · cases e
      · cases e
        omega
    exact ⟨b, off, rfl, Nat.lt_of_lt_of_le hbl hW.size, fun i z hi => (World.cell?_of_block (a := ⟨b, off + i, none⟩) (hW.block b hbl (by simpa using hbne))).trans (hc i z hi)⟩
  have hst3 : PAt w3 a.s a.hs p.st := h2.st.other S3 (by simpa using Ne.symm hx.hns) (by simpa using Ne.symm hx.hnhs)
  have hsz3 : w.heap.size ≤ w3.heap.size := Nat.le_trans hb12.size S3.size
  have hN1 : FrOk (sweepF p.now l) := sweep_ok hok.out.n l
  have hD := fun L => (deferL_all (sweepF p.now l) L p.st hok.out.s).1
  have HW : Hid (∀ w', PAt w' a.s a.hs (sweepP p l).st → Sole [a.hs] w3 w' → PuAt w' a (sweepP p l) ∧ Moves w w' a a) := fun w' g1 g2 => by
    have hq : a.q < w2.heap.size := h2.lt _ (by simp [Ad.all])
    have S2 : Sole [a.hn, a.hs] w2 w' := (S3.mono (by simp)).trans (g2.mono (by simp))
    have hP : PuAt w' a (sweepP p l) := ⟨(S2.block a.q hq (by simp [hx.qhn, hx.qhs])).trans h2.row, h2.disk.other S2 (by simp [hx.dhn, hx.dhs]) (by simp [hx.bshn, hx.bshs]) (by simp [hx.bphn, hx.bphs]), H3.other g2 (by simpa using hx.nhs) (by simpa using hx.hnhs), g1, hx.ns, hx.hnhs, sweepP_ok hok.out l⟩
    exact ⟨hP, (Moves.of_below hb12).trans (Moves.of_sole S2 (by simp [Ad.all]))⟩
  unfold sweepP at HW
  generalize hE1 : sweepF p.now l = N1 at *
  generalize hE2 : swept p.now l = CT at *
  have HE1 : Hid (sweepF p.now l = N1) := hE1
  have HE2 : Hid (swept p.now l = CT) := hE2
  clear hE1 hE2
  have hBl : (intsOf (blocksL p.now 3)).length = (blocksL p.now 3).length := by simp [intsOf]
  have hBd : ∀ j (b : Nat), (blocksL p.now 3)[j]? = some b → (intsOf (blocksL p.now 3))[j]? = some (b : Int) := fun j b hb => by unfold intsOf; rw [List.getElem?_map, hb]; rfl
  generalize hE3 : blocksL p.now 3 = BL at *
  have HE3 : Hid (blocksL p.now 3 = BL) := hE3
  clear hE3
  generalize hbn : BL.length = n at *
  clear o1 o1' hb1 hb2 hb12 h2 S3
  go_wp2
  go_loopw [10, 29] (fun _ t wr => ∃ j : Nat, j ≤ n ∧ t = .int .i64 j ∧ Hid (PAt wr a.s a.hs (deferL N1 p.st (BL.take j))) ∧ Sole [a.hs] w3 wr) (fun _ t _ => n - (Go.RowKit.intOf t).toNat)
  case atStart => exact ⟨0, Nat.zero_le _, rfl, hst3, Sole.refl _ _⟩
  case round =>
    clear hst3
    obtain ⟨j, hj, rfl, HP, HS⟩ := hrel
    have hN : PAt wr a.n a.hn N1 := H3.other HS (by simpa using hx.nhs) (by simpa using hx.hnhs)
    by_cases hlt : j < n
    · have hltI : (j : Int) < n := by omega
      obtain ⟨b, hb⟩ := at_some hbn hlt
      have hbI := hBd j b hb
      obtain ⟨ra, rc, e1, r1, r2, r3⟩ := R3 wr HS
      obtain ⟨rb, off, rfl, rlt, rcell⟩ := r3 (by omega)
      have c1 := rcell j _ hbI
      rw [hBl] at e1 r1
      cases e1
      unfold maxLen at r2
      have kI := is_any hN hN1 (b : Int)
      unfold ptr at kI
      have hnx : deferL N1 p.st (BL.take (j + 1)) = if kindOfN N1 (b : Int) = 1 then turnF (deferL N1 p.st (BL.take j)) (b : Int) 3 else deferL N1 p.st (BL.take j) := by
        rw [take_next hb, deferL_next]
      clear r3 rcell hBd R3 H3
      go_wp2_with fail
      refine kI.mono ?_
      rintro e w4 ⟨rfl, hb4⟩
      by_cases d : kindOfN N1 (b : Int) = 1
      · rw [if_pos d] at hnx
        have dI : ((kindOfN N1 (b : Int) : Nat) : Int) = 1 := by omega
        have kD := defer_any (FrAt.below HP.out hb4) (hD _) (b : Int)
        unfold ptr at kD
        clear c1 kI
        go_wp2_with fail
        refine kD.mono ?_
        rintro e w5 ⟨rfl, g1, g2⟩
        clear kD
        go_wp2_with fail
        go_roundw
        case rel => exact ⟨j + 1, by omega, by go_num, by rw [hnx]; exact g1, (HS.trans (Sole.of_below hb4 _)).trans g2⟩
        case measure => simp [Go.RowKit.intOf]; omega
      · rw [if_neg d] at hnx
        have dI : ¬ ((kindOfN N1 (b : Int) : Nat) : Int) = 1 := by omega
        have g1 : PAt w4 a.s a.hs (deferL N1 p.st (BL.take j)) := FrAt.below HP.out hb4
        clear c1 kI
        go_wp2_with fail
        go_roundw
        case rel => exact ⟨j + 1, by omega, by go_num, by rw [hnx]; exact g1, HS.trans (Sole.of_below hb4 _)⟩
        case measure => simp [Go.RowKit.intOf]; omega
    · obtain rfl : j = n := by omega
      have hltI : ¬ (j : Int) < j := by omega
      have hall : BL.take j = BL := List.take_of_length_le (by omega)
      rw [hall] at HP
      have k5 := waitingL_any hN hN1
      unfold ptr at k5
      clear R3 hBd H3
      go_wp2_with fail
      refine k5.mono ?_
      clear k5
      rintro e w4 ⟨z, rfl, o4, hb4⟩
      have k6 := sweep_any (FrAt.below HP.out hb4) (hD _) z (intsOf (blocksL N1 3)) (rdI_own o4 (q := 0) (by have := HS.size; omega) (Sole.refl _ _))
      unfold ptr at k6
      obtain ⟨za, zc, rfl⟩ := rowI_slice o4
      go_wp2_with fail
      refine k6.mono ?_
      clear k6
      rintro e w5 ⟨rfl, g1, g2⟩
      go_wp2
      go_ret
      have hfin := HW.out _ g1 ((HS.trans (Sole.of_below hb4 _)).trans g2)
      obtain rfl := HE1.out
      obtain rfl := HE2.out
      obtain rfl := HE3.out
      exact ⟨rfl, hfin⟩

/-- What Read tells. -/
def prdE (p : Pu) (i : Int) : Int := if kindOfN p.now i ≤ 1 then 4 else if p.d.off then 20 else ndE (seen p.d i)
def prdN (p : Pu) (i : Int) : Nd := if prdE p i = 0 then ndN (seen p.d i) else nd0

theorem kind_use {p : Pu} (h : PuOk p) {i : Int} (hk : ¬ kindOfN p.now i ≤ 1) : useErr p.d i = if p.d.off then 20 else 0 := by
  obtain ⟨j, hj, rfl⟩ := kindOfN_in (s := p.now) (i := i) (by omega)
  have ht := h.top
  unfold useErr
  split
  · rfl
  · rw [if_neg (by omega)]

theorem kindOfN_most {s : Fr} (hk : FrOk s) (i : Int) : kindOfN s i ≤ 3 := by
  unfold kindOfN
  split
  · rename_i d
    have hj : (i - s.lo).toNat < s.ks.length := by omega
    rw [List.getD_eq_getElem?_getD, List.getElem?_eq_getElem hj]
    exact (hk.kinds _ (List.getElem_mem hj)).2
  · omega

set_option maxHeartbeats 2000000 in
theorem read_none {w : World} {a : Ad} {p : Pu} (h : PuAt w a p) (i : Int) (hi0 : 0 ≤ i) (hi1 : i ≤ 4294967295) (hk : kindOfN p.now i ≤ 1) :
    Calls Tryz.prog 25 #[ptr a.q, .int .u32 i] w fun e w' => ∃ u, e = .returned (.tuple #[u, .int .i64 4]) ∧ NdOwn w' w.heap.size u nd0 ∧ Below w.heap.size w w' := by
  have hB0 : Below w.heap.size w (w.alloc (.cells #[.bool false, .slice none 0 0, .slice none 0 0, .slice none 0 0] 40)) := (Below.refl _ w).alloc (Nat.le_refl _) _
  have hg0 := heap_alloc_new w (.cells #[.bool false, .slice none 0 0, .slice none 0 0, .slice none 0 0] 40)
  have hz0 : (w.alloc (.cells #[.bool false, .slice none 0 0, .slice none 0 0, .slice none 0 0] 40)).heap.size = w.heap.size + 1 := by simp
  generalize hW0 : w.alloc (.cells #[.bool false, .slice none 0 0, .slice none 0 0, .slice none 0 0] 40) = W0 at hB0 hg0 hz0
  have h0 := h.below hB0
  have c1 := h0.c1
  have kI := is_any h0.now h0.ok.n i
  have d : ((kindOfN p.now i : Nat) : Int) = 0 ∨ ((kindOfN p.now i : Nat) : Int) = 1 := by omega
  unfold ptr at *
  clear hk h h0
  generalize kindOfN p.now i = K at *
  go_enter Tryz.func25, Tryz.ntmps25
  go_wp2_with fail
  refine kI.mono ?_
  clear kI c1
  rintro e w1 ⟨rfl, hb1⟩
  have hg1 := (hb1.block w.heap.size (by omega)).trans hg0
  obtain ⟨q0, q1, q2, q3, f0, f1, f2, f3⟩ := box4 hg1
  obtain ⟨r1, r2, r3⟩ := fin_node hg1 (NdOwn.zero _ (w.heap.size + 1)) (by omega)
  have HR1 : Hid _ := r1
  have HR2 : Hid _ := r2
  have HR3 : Hid _ := r3
  clear r1 r2 r3 hg1 hg0 hW0
  rcases d with d | d
  · rw [d]
    clear d
    go_wp2
    exact ret_node2 rfl w.heap.size _ _ _ _ rfl _ rfl HR1.out rfl ⟨_, rfl, NdOwn.mono HR2.out (by omega), hB0.trans ((hb1.mono (by omega)).trans (HR3.out _ (Nat.le_refl _)))⟩
  · rw [d]
    clear d
    go_wp2
    exact ret_node2 rfl w.heap.size _ _ _ _ rfl _ rfl HR1.out rfl ⟨_, rfl, NdOwn.mono HR2.out (by omega), hB0.trans ((hb1.mono (by omega)).trans (HR3.out _ (Nat.le_refl _)))⟩

set_option maxHeartbeats 2000000 in
theorem read_off {w : World} {a : Ad} {p : Pu} (h : PuAt w a p) (i : Int) (hi0 : 0 ≤ i) (hi1 : i ≤ 4294967295) (hk : ¬ kindOfN p.now i ≤ 1) (ho : p.d.off = true) :
    Calls Tryz.prog 25 #[ptr a.q, .int .u32 i] w fun e w' => ∃ u, e = .returned (.tuple #[u, .int .i64 20]) ∧ NdOwn w' w.heap.size u nd0 ∧ Below w.heap.size w w' := by
  have hB0 : Below w.heap.size w (w.alloc (.cells #[.bool false, .slice none 0 0, .slice none 0 0, .slice none 0 0] 40)) := (Below.refl _ w).alloc (Nat.le_refl _) _
  have hg0 := heap_alloc_new w (.cells #[.bool false, .slice none 0 0, .slice none 0 0, .slice none 0 0] 40)
  have hz0 : (w.alloc (.cells #[.bool false, .slice none 0 0, .slice none 0 0, .slice none 0 0] 40)).heap.size = w.heap.size + 1 := by simp
  generalize hW0 : w.alloc (.cells #[.bool false, .slice none 0 0, .slice none 0 0, .slice none 0 0] 40) = W0 at hB0 hg0 hz0
  have hu := kind_use h.ok hk
  rw [ho, if_pos rfl] at hu
  have h0 := h.below hB0
  have c1 := h0.c1
  have kI := is_any h0.now h0.ok.n i
  have dK : ((kindOfN p.now i : Nat) : Int) = 2 ∨ ((kindOfN p.now i : Nat) : Int) = 3 := by have := kindOfN_most h.ok.n i; omega
  have kR := fun W (hW : Below W0.heap.size W0 W) => disk_Read_err (h0.below hW).disk i (by omega) (by omega) (by rw [hu]; omega)
  rw [hu] at kR
  have hc0 := fun W (hW : Below W0.heap.size W0 W) => (h0.below hW).c0
  unfold ptr at *
  clear hk h h0
  generalize kindOfN p.now i = K at *
  go_enter Tryz.func25, Tryz.ntmps25
  go_wp2_with fail
  refine kI.mono ?_
  clear kI c1
  rintro e w1 ⟨rfl, hb1⟩
  have c0 := hc0 w1 hb1
  have kR1 := kR w1 hb1
  have hg1 := (hb1.block w.heap.size (by omega)).trans hg0
  obtain ⟨q0, q1, q2, q3, f0, f1, f2, f3⟩ := box4 hg1
  obtain ⟨r1, r2, r3⟩ := fin_node hg1 (NdOwn.zero _ (w.heap.size + 1)) (by omega)
  have HR1 : Hid _ := r1
  have HR2 : Hid _ := r2
  have HR3 : Hid _ := r3
  clear r1 r2 r3 hg1 hg0 hW0 kR hc0
  rcases dK with dK | dK
  all_goals
    rw [dK]
    clear dK
    go_wp2_with fail
    refine kR1.mono ?_
    rintro e w2 ⟨rfl, rfl⟩
    clear kR1 c0
    go_wp2
    exact ret_node2 rfl w.heap.size _ _ _ _ rfl _ rfl HR1.out rfl ⟨_, rfl, NdOwn.mono HR2.out (by omega), hB0.trans ((hb1.mono (by omega)).trans (HR3.out _ (Nat.le_refl _)))⟩

set_option maxHeartbeats 2000000 in
theorem read_on {w : World} {a : Ad} {p : Pu} (h : PuAt w a p) (i : Int) (hi0 : 0 ≤ i) (hi1 : i ≤ 4294967295) (hk : ¬ kindOfN p.now i ≤ 1) (ho : p.d.off = false) :
    Calls Tryz.prog 25 #[ptr a.q, .int .u32 i] w fun e w' => ∃ u, e = .returned (.tuple #[u, .int .i64 (ndE (seen p.d i))]) ∧ NdOwn w' w.heap.size u (ndN (seen p.d i)) ∧ Below w.heap.size w w' := by
  have hB0 : Below w.heap.size w (w.alloc (.cells #[.bool false, .slice none 0 0, .slice none 0 0, .slice none 0 0] 40)) := (Below.refl _ w).alloc (Nat.le_refl _) _
  have hg0 := heap_alloc_new w (.cells #[.bool false, .slice none 0 0, .slice none 0 0, .slice none 0 0] 40)
  have hz0 : (w.alloc (.cells #[.bool false, .slice none 0 0, .slice none 0 0, .slice none 0 0] 40)).heap.size = w.heap.size + 1 := by simp
  generalize hW0 : w.alloc (.cells #[.bool false, .slice none 0 0, .slice none 0 0, .slice none 0 0] 40) = W0 at hB0 hg0 hz0
  have hu := kind_use h.ok hk
  rw [ho, if_neg (by simp)] at hu
  have h0 := h.below hB0
  have c1 := h0.c1
  have hbk := seen_blk h.disk.good i
  have kI := is_any h0.now h0.ok.n i
  have dK : ((kindOfN p.now i : Nat) : Int) = 2 ∨ ((kindOfN p.now i : Nat) : Int) = 3 := by have := kindOfN_most h.ok.n i; omega
  have kR := fun W (hW : Below W0.heap.size W0 W) => disk_Read_rd (h0.below hW).disk i (by omega) (by omega) hu
  have hc0 := fun W (hW : Below W0.heap.size W0 W) => (h0.below hW).c0
  unfold ptr at *
  clear hk h h0
  generalize kindOfN p.now i = K at *
  generalize hSX : seen p.d i = SX at *
  have HSX : Hid (seen p.d i = SX) := hSX
  clear hSX
  go_enter Tryz.func25, Tryz.ntmps25
  go_wp2_with fail
  refine kI.mono ?_
  clear kI c1
  rintro e w1 ⟨rfl, hb1⟩
  have c0 := hc0 w1 hb1
  have kR1 := kR w1 hb1
  clear hW0 kR hc0
  rcases dK with dK | dK
  all_goals
    rw [dK]
    clear dK
    go_wp2_with fail
    refine kR1.mono ?_
    rintro e w2 ⟨g, rfl, hg1, hg2, hg3, hb2⟩
    clear kR1 c0
    have kD := decode_any w2 _ SX hg3 hbk.2
    go_wp2_with fail
    refine kD.mono ?_
    clear kD
    rintro e w3 ⟨u, rfl, hown, hb3⟩
    have hz1 := hb1.size
    have hz2 := hb2.size
    have hgN := (hb3.block w.heap.size (by omega)).trans ((hb2.block w.heap.size (by omega)).trans ((hb1.block w.heap.size (by omega)).trans hg0))
    obtain ⟨p1, p2, p3, rfl, o1, o2, o3⟩ := id hown
    obtain ⟨q0, q1, q2, q3, f0, f1, f2, f3⟩ := box4 hgN
    obtain ⟨r1, r2, r3⟩ := fin_node hgN hown (by omega)
    have HR1 : Hid _ := r1
    have HR2 : Hid _ := r2
    have HR3 : Hid _ := r3
    have hB3 : Below w.heap.size w w3 := hB0.trans ((hb1.mono (by omega)).trans ((hb2.mono (by omega)).trans (hb3.mono (by omega))))
    obtain ⟨a1, e1, rfl⟩ := row_slice o1
    obtain ⟨a2, e2, rfl⟩ := row_slice o2
    obtain ⟨a3, e3, rfl⟩ := row_slice o3
    clear r1 r2 r3 hgN hg0 o1 o2 o3 hown hg2 hg3
    go_wp2
    exact ret_node2 rfl w.heap.size _ _ _ _ rfl _ rfl HR1.out rfl ⟨_, rfl, NdOwn.mono HR2.out (by omega), hB3.trans (HR3.out _ (Nat.le_refl _))⟩

theorem read_any {w : World} {a : Ad} {p : Pu} (h : PuAt w a p) (i : Int) (hi0 : 0 ≤ i) (hi1 : i ≤ 4294967295) :
    Calls Tryz.prog 25 #[ptr a.q, .int .u32 i] w fun e w' => ∃ u, e = .returned (.tuple #[u, .int .i64 (prdE p i)]) ∧ NdOwn w' w.heap.size u (prdN p i) ∧ Below w.heap.size w w' := by
  unfold prdN prdE
  by_cases hk : kindOfN p.now i ≤ 1
  · rw [if_pos hk, if_neg (by omega)]
    exact read_none h i hi0 hi1 hk
  · rw [if_neg hk]
    cases ho : p.d.off with
    | true =>
      rw [if_pos rfl, if_neg (by omega)]
      exact read_off h i hi0 hi1 hk ho
    | false =>
      simp only [Bool.false_eq_true, if_false]
      refine (read_on h i hi0 hi1 hk ho).mono ?_
      rintro e w' ⟨u, h1, h2, h3⟩
      refine ⟨u, h1, ?_, h3⟩
      by_cases e0 : ndE (seen p.d i) = 0
      · rw [if_pos e0]; exact h2
      · rw [if_neg e0, ← nd_zero e0]; exact h2

/-- The first free block taken. -/
def takeP (p : Pu) (j : Nat) : Pu := { p with now := runF p.now 1 (some j) }

theorem takeF_get (s : Fr) (j i : Nat) (hi : i < s.ks.length) : (runF s 1 (some j)).ks.getD i 0 = if j = i then 2 else s.ks.getD i 0 := by
  show ((s.ks).set (j + 0) 2).getD i 0 = _
  rw [Nat.add_zero, getD_set _ _ _ _ hi]

theorem takeF_len (s : Fr) (j : Nat) : (runF s 1 (some j)).ks.length = s.ks.length := setRun_len _ _ _

theorem first_at {s : Fr} {j : Nat} (h : IsFirst s.ks 1 (some j)) : j < s.ks.length ∧ s.ks.getD j 0 = 1 := by
  have h1 := run_in h.1 (by omega)
  have h2 := h.1 0 (by omega)
  rw [Nat.add_zero] at h2
  exact ⟨by omega, h2⟩

theorem takeP_ok {p : Pu} (h : PuOk p) {j : Nat} (hf : IsFirst p.now.ks 1 (some j)) : PuOk (takeP p j) := by
  have e2 : (takeP p j).now.ks.length = p.now.ks.length := takeF_len _ _
  refine ⟨run_ok h.n 1 (some j), h.s, h.lo1, by rw [e2]; exact h.top, h.slo, by rw [e2]; exact h.sl, fun i hi => ?_⟩
  rw [e2] at hi
  have hr := h.rel i hi
  show pairOk ((runF p.now 1 (some j)).ks.getD i 0) (p.st.ks.getD i 0)
  rw [takeF_get _ _ _ hi]
  split
  · rename_i e
    subst e
    rw [(first_at hf).2] at hr
    generalize p.st.ks.getD j 0 = K at *
    unfold pairOk at hr ⊢
    omega
  · exact hr

/-- Taken and given back: as it was. -/
theorem giveBack {s : Fr} {j : Nat} (h : IsFirst s.ks 1 (some j)) : turnF (runF s 1 (some j)) ((s.lo + j : Nat) : Int) 1 = s := by
  obtain ⟨h1, h2⟩ := first_at h
  have hk : kindOfN (runF s 1 (some j)) ((s.lo + j : Nat) : Int) = 2 := by
    have := kindOfN_at (s := runF s 1 (some j)) (j := j) (by rw [takeF_len]; exact h1)
    rw [takeF_get _ _ _ h1, if_pos rfl] at this
    exact this
  unfold turnF
  rw [if_pos hk]
  obtain ⟨lo, ks⟩ := s
  show Fr.mk lo (((ks.set (j + 0) 2)).set (((lo + j : Nat) : Int) - lo).toNat 1) = Fr.mk lo ks
  rw [Nat.add_zero, show (((lo + j : Nat) : Int) - lo).toNat = j by omega, List.set_set]
  dsimp only at h1 h2
  congr 1
  apply List.ext_getElem?
  intro i
  rw [List.getElem?_set]
  split
  · rename_i e
    subst e
    try rw [if_pos h1]
    rw [List.getD_eq_getElem?_getD, List.getElem?_eq_getElem h1] at h2
    rw [List.getElem?_eq_getElem h1]
    exact congrArg some h2.symm
  · rfl

/-- What Write tells, and what it leaves; j: the first free block, if there is one. -/
def wrOut (p : Pu) (n : Nd) (r : Option Nat) : Int × Int × Pu :=
  if nodeE n ≠ 0 then (0, nodeE n, p) else
  match r with
  | none => (0, 5, p)
  | some j =>
    if (writeOut p.d ((p.now.lo + j : Nat) : Int) (blockL n)).1 ≠ 0 then (0, (writeOut p.d ((p.now.lo + j : Nat) : Int) (blockL n)).1, { p with d := (writeOut p.d ((p.now.lo + j : Nat) : Int) (blockL n)).2 })
    else (((p.now.lo + j : Nat) : Int), 0, { takeP p j with d := (writeOut p.d ((p.now.lo + j : Nat) : Int) (blockL n)).2 })

theorem wr_blocks (s : St) (i : Int) (xs : List Int) : (writeOut s i xs).2.blocks = s.blocks := by
  unfold writeOut
  split
  · rfl
  · split
    · rfl
    · split
      · show (cutSt s s.mask).blocks = s.blocks
        unfold cutSt
        exact settleN_blocks _ _ _ _
      · show (doneSt s i xs).blocks = s.blocks
        unfold doneSt countSt
        split <;> rfl

theorem wr_ok {p : Pu} (h : PuOk p) (i : Int) (xs : List Int) : PuOk { p with d := (writeOut p.d i xs).2 } :=
  ⟨h.n, h.s, h.lo1, by show ((p.now.lo + p.now.ks.length : Nat) : Int) = (writeOut p.d i xs).2.blocks; rw [wr_blocks]; exact h.top, h.slo, h.sl, h.rel⟩

/-- The disk turned. -/
theorem PuAt.putDisk {w w' : World} {a : Ad} {p : Pu} (h : PuAt w a p) {d : St} (hd : DiskAt w' a.d a.bs a.bp d) (hS : Sole [a.d, a.bs, a.bp] w w') (hok : PuOk { p with d := d }) : PuAt w' a { p with d := d } := by
  have hx := h.apart
  have hl := h.lt
  exact ⟨(hS.block a.q (hl _ (by simp [Ad.all])) (by simp [hx.qd, hx.qbs, hx.qbp])).trans h.row, hd, h.now.other hS (by simp [Ne.symm hx.dn, Ne.symm hx.bsn, Ne.symm hx.bpn]) (by simp [Ne.symm hx.dhn, Ne.symm hx.bshn, Ne.symm hx.bphn]),
    h.st.other hS (by simp [Ne.symm hx.ds, Ne.symm hx.bss, Ne.symm hx.bps]) (by simp [Ne.symm hx.dhs, Ne.symm hx.bshs, Ne.symm hx.bphs]), h.ne1, h.ne2, hok⟩

theorem least {P : Nat → Prop} : ∀ n, P n → ∃ m, P m ∧ ∀ k, k < m → ¬ P k := by
  intro n
  induction n using Nat.strongRecOn with
  | _ n ih =>
    intro h
    by_cases c : ∃ k, k < n ∧ P k
    · obtain ⟨k, hk, hp⟩ := c
      exact ih k hk hp
    · exact ⟨n, h, fun k hk hp => c ⟨k, hk, hp⟩⟩

theorem first_is (ks : List Nat) : ∃ r, IsFirst ks 1 r := by
  by_cases c : ∃ i, RunAt ks 1 i
  · obtain ⟨i, hi⟩ := c
    obtain ⟨m, h1, h2⟩ := least (P := fun i => RunAt ks 1 i) i hi
    exact ⟨some m, h1, h2⟩
  · exact ⟨none, fun i hi => c ⟨i, hi⟩⟩

set_option maxHeartbeats 4000000 in
theorem write_any {w : World} {a : Ad} {p : Pu} (h : PuAt w a p) (v : Value) (n : Nd) (hv : NdAt w v n) (hn : NdOk n) :
    Calls Tryz.prog 13 #[ptr a.q, v] w fun e w' => ∃ r, IsFirst p.now.ks 1 r ∧ e = .returned (.tuple #[.int .u32 (wrOut p n r).1, .int .i64 (wrOut p n r).2.1]) ∧ PuAt w' a (wrOut p n r).2.2 ∧ Moves w w' a a := by
  have hB0 : ∀ v0 v1 v2 v3, Below w.heap.size w (w.alloc (.cells #[v0, v1, v2, v3] 40)) := fun v0 v1 v2 v3 => (Below.refl _ w).alloc (Nat.le_refl _) _
  obtain ⟨a1, e1, a2, e2, a3, e3, rfl, p1, p2, p3, _⟩ := id hv
  have hB := hB0 (.bool n.leaf) (.slice a1 n.pairs.length e1) (.slice a2 n.keys.length e2) (.slice a3 n.kids.length e3)
  have kE := encode_any _ _ n (hv.below hB) hn
  have HH : Hid (PuAt w a p) := h
  have HNE : Hid (nodeE n = 0 → nodeOk n = true) := fun e => by
    unfold nodeE at e
    cases hk : nodeOk n with
    | true => rfl
    | false => rw [hk] at e; cases e
  have HLE : Hid (nodeOk n = true → encL n = blockL n) := fun hk => by unfold encL; rw [hk]; rfl
  clear hB0 p1 p2 p3 hv h
  generalize n.leaf = lf at *
  generalize n.pairs.length = n1 at *
  generalize n.keys.length = n2 at *
  generalize n.kids.length = n3 at *
  unfold ptr
  go_enter Tryz.func13, Tryz.ntmps13
  go_wp2_with fail
  refine kE.mono ?_
  clear kE
  rintro e w1 ⟨u, rfl, ho, hb1'⟩
  have hb1 : Below w.heap.size w w1 := hB.trans (hb1'.mono hB.size)
  replace ho : Own w1 w.heap.size u (encL n) := ho.mono hB.size
  clear hB hb1'
  have h1 := HH.out.below hb1
  by_cases d : nodeE n = 0
  · rw [HLE.out (HNE.out d)] at ho
    have hby := blockL_byt (HNE.out d)
    have HD : Hid (nodeE n = 0) := d
    rw [d]
    clear d
    have kT := take_any h1.now h1.ok.n
    have c1 := h1.c1
    unfold ptr at kT c1
    go_wp2_with fail
    refine kT.mono ?_
    clear kT c1
    rintro e w2 ⟨r, rfl, hF, hP2, hS2⟩
    cases r with
    | none =>
      have HF : Hid (IsFirst p.now.ks 1 none) := hF
      unfold runV runE
      clear hF
      go_wp2
      go_ret2
      refine ⟨none, HF.out, ?_, ?_, (Moves.of_below hb1).trans (Moves.of_sole hS2 (by simp [Ad.all]))⟩
      · unfold wrOut
        rw [if_neg (by rw [HD.out]; omega)]
        rfl
      · unfold wrOut
        rw [if_neg (by rw [HD.out]; omega)]
        exact h1.putNow hP2 hS2 h1.ok
    | some j =>
      have hfa := first_at hF
      have hmost := h1.ok.n.most
      have h2 : PuAt w2 a (takeP p j) := h1.putNow hP2 hS2 (takeP_ok h1.ok hF)
      have HF : Hid (IsFirst p.now.ks 1 (some j)) := hF
      have hrd : Rd w2 u (blockL n) := by
        obtain ⟨ho1, ho2⟩ := ho
        refine (show Own w2 w.heap.size u (blockL n) from ⟨ho1, ?_⟩).rd
        rcases ho2 with ho2 | ⟨g, cap, cur, hv, hg, hgc, r⟩
        · exact .inl ho2
        · refine .inr ⟨g, cap, cur, hv, hg, (hS2.block g (Array.getElem?_eq_some_iff.1 hgc).1 ?_).trans hgc, r⟩
          have := HH.out.lt a.hn (by simp [Ad.all])
          simp
          omega
      rw [show runV p.now (some j) = ((p.now.lo + j : Nat) : Int) from (by show (p.now.lo : Int) + (j : Int) = _; omega), show runE (some j) = 0 from rfl]
      have hlj : p.now.lo + j < 1024 := by omega
      have hwi : IntKind.wrap .u32 ((p.now.lo + j : Nat) : Int) = ((p.now.lo + j : Nat) : Int) := by simp [IntKind.wrap, IntKind.bits, IntKind.signed]; omega
      have kW := disk_Write h2.disk ((p.now.lo + j : Nat) : Int) (by omega) (by omega) hrd hby
      have c0 := h2.c0
      obtain ⟨ua, uc, rfl, _⟩ := id hrd
      have hgb := giveBack HF.out
      have HWE : Hid ((takeP p j).d = p.d) := rfl
      rw [HWE.out] at kW
      have hL5 : (blockL n).length = 512 := blockL_length (HNE.out HD.out)
      have hwok := wr_ok (takeP_ok h1.ok HF.out) ((p.now.lo + j : Nat) : Int) (blockL n)
      rw [HWE.out] at hwok
      have hwok1 := wr_ok h1.ok ((p.now.lo + j : Nat) : Int) (blockL n)
      have hMv : Moves w w2 a a := (Moves.of_below hb1).trans (Moves.of_sole hS2 (by simp [Ad.all]))
      unfold ptr at kW c0
      clear hF hrd ho
      generalize hwe : (writeOut p.d ((p.now.lo + j : Nat) : Int) (blockL n)).1 = we at *
      generalize hwd : (writeOut p.d ((p.now.lo + j : Nat) : Int) (blockL n)).2 = wd at *
      have Hwe : Hid ((writeOut p.d ((p.now.lo + j : Nat) : Int) (blockL n)).1 = we) := hwe
      have Hwd : Hid ((writeOut p.d ((p.now.lo + j : Nat) : Int) (blockL n)).2 = wd) := hwd
      clear hwe hwd
      rw [hL5] at kW ⊢
      generalize hI : ((p.now.lo + j : Nat) : Int) = I at *
      have HI : Hid (((p.now.lo + j : Nat) : Int) = I) := hI
      have hI0 : 0 ≤ I := by omega
      have hI1 : I < 1024 := by omega
      clear hI
      go_wp2_with fail
      refine kW.mono ?_
      clear kW c0
      rintro e w3 ⟨rfl, hD3, hS3⟩
      by_cases d : we = 0
      · subst d
        go_wp2
        go_ret2
        refine ⟨some j, HF.out, ?_, ?_, hMv.trans (Moves.of_sole hS3 (by simp [Ad.all]))⟩
        · unfold wrOut
          dsimp only
          rw [if_neg (by rw [HD.out]; omega), HI.out, if_neg (by rw [Hwe.out]; omega)]
          rfl
        · unfold wrOut
          dsimp only
          rw [if_neg (by rw [HD.out]; omega), HI.out, if_neg (by rw [Hwe.out]; omega), Hwd.out]
          exact h2.putDisk hD3 hS3 hwok
      · have h3 : PuAt w3 a { takeP p j with d := wd } := h2.putDisk hD3 hS3 hwok
        have kG := give_any h3.now h3.ok.n I
        have c1 := h3.c1
        unfold ptr at kG c1
        go_wp2_with fail
        refine kG.mono ?_
        clear kG c1
        rintro e w4 ⟨rfl, hP4, hS4⟩
        have hn4 : turnF ({ takeP p j with d := wd } : Pu).now I 1 = p.now := hgb
        rw [hn4] at hP4
        go_wp2
        go_ret2
        refine ⟨some j, HF.out, ?_, ?_, (hMv.trans (Moves.of_sole hS3 (by simp [Ad.all]))).trans (Moves.of_sole hS4 (by simp [Ad.all]))⟩
        · unfold wrOut
          dsimp only
          rw [if_neg (by rw [HD.out]; omega), HI.out, if_pos (by rw [Hwe.out]; exact d), Hwe.out]
          rfl
        · unfold wrOut
          dsimp only
          rw [if_neg (by rw [HD.out]; omega), HI.out, if_pos (by rw [Hwe.out]; exact d), Hwd.out]
          exact h3.putNow hP4 hS4 hwok1
  · have HD : Hid (¬ nodeE n = 0) := d
    generalize hNE : nodeE n = NE at *
    have HN2 : Hid (nodeE n = NE) := hNE
    clear hNE
    go_wp2
    go_ret2
    obtain rfl := HN2.out
    obtain ⟨r, hr⟩ := first_is p.now.ks
    refine ⟨r, hr, ?_, ?_, Moves.of_below hb1⟩
    · unfold wrOut
      rw [if_pos HD.out]
      rfl
    · unfold wrOut
      rw [if_pos HD.out]
      exact h1

set_option maxHeartbeats 1000000 in
theorem handOf_any {w : World} {p h : Nat} {lo : Nat} {ks : List Nat} (H : PAt w p h ⟨lo, ks⟩) (hk : FrOk ⟨lo, ks⟩) :
    Calls Tryz.prog 32 #[ptr p] w fun e w' => ∃ s hs, e = .returned (.agg #[ptr p, ptr s]) ∧ PAt w' s hs ⟨lo, ks⟩ ∧ w.heap.size ≤ s ∧ w.heap.size ≤ hs ∧ Below w.heap.size w w' := by
  have hB0 := (Below.refl w.heap.size w).alloc (Nat.le_refl _) (.cells #[.pointer none, .pointer none] 72)
  have hg0 := heap_alloc_new w (.cells #[.pointer none, .pointer none] 72)
  have hz0 : (w.alloc (.cells #[.pointer none, .pointer none] 72)).heap.size = w.heap.size + 1 := by simp
  generalize hW0 : w.alloc (.cells #[.pointer none, .pointer none] 72) = W0 at hB0 hg0 hz0
  have kC := fclone_any (FrAt.below H hB0) hk
  unfold ptr at *
  go_enter Tryz.func32, Tryz.ntmps32
  go_wp2_with fail
  refine kC.mono ?_
  clear kC
  rintro e w1 ⟨s, hs, rfl, H1, x1, x2, hb1⟩
  have hg1 := (hb1.block w.heap.size (by omega)).trans hg0
  have q0 := cell_of_row w1 _ 0 _ _ (0, 0) hg1
  have q1 := cell_of_row w1 _ 1 _ _ (0, 0) hg1
  have f0 := frozen_of_row w1 w.heap.size 0 _ _ hg1
  have f1 := frozen_of_row w1 w.heap.size 1 _ _ hg1
  have hbS : Hid (Below w.heap.size w ((w1.setCell ⟨w.heap.size, 0, none⟩ (.pointer (some ⟨p, 0, none⟩))).setCell ⟨w.heap.size, 1, none⟩ (.pointer (some ⟨s, 0, none⟩)))) := ((hB0.trans (hb1.mono (by omega))).setCell (p := ⟨w.heap.size, 0, none⟩) (Nat.le_refl _) _).setCell (p := ⟨w.heap.size, 1, none⟩) (Nat.le_refl _) _
  have hPS : Hid (PAt ((w1.setCell ⟨w.heap.size, 0, none⟩ (.pointer (some ⟨p, 0, none⟩))).setCell ⟨w.heap.size, 1, none⟩ (.pointer (some ⟨s, 0, none⟩))) s hs ⟨lo, ks⟩) := FrAt.other H1 ((Sole.setCell w1 (.pointer (some ⟨p, 0, none⟩)) (a := ⟨w.heap.size, 0, none⟩) (S := [w.heap.size]) (by simp)).trans (Sole.setCell _ _ (by simp))) (by simp; omega) (by simp; omega)
  have hrow := heap_setCell_same _ w.heap.size 1 _ _ (.pointer (some ⟨s, 0, none⟩)) (heap_setCell_same w1 w.heap.size 0 _ _ (.pointer (some ⟨p, 0, none⟩)) hg1)
  have HROW : Hid _ := hrow
  clear hW0 hrow H H1
  go_wp2
  refine bodyPost_ret (v := .agg #[.pointer (some ⟨p, 0, none⟩), .pointer (some ⟨s, 0, none⟩)]) ?_ rfl ⟨s, hs, rfl, hPS.out, by omega, by omega, hbS.out⟩
  have hl := run_loadVar_row (P := Tryz.prog) _ w.heap.size 72 72 _ (0, 0) _ HROW.out Tryz.underlying72 rfl (by kernel_rfl)
  simp [results, asAddr, Result.andThen, Tryz.f32, hl]

theorem takeAll_len (lo : Nat) : ∀ (l : List Int) (ks ks' : List Nat), takeAll lo ks l = some ks' → ks'.length = ks.length
  | [], ks, ks', h => by cases h; rfl
  | x :: l, ks, ks', h => by
    unfold takeAll at h
    split at h
    · cases h
    · have := takeAll_len lo l _ _ h
      simpa using this

def PNew (w : World) (d bs bp : Nat) (s : St) (lo n : Nat) (l : List Int) (e : Ending) (w' : World) : Prop :=
  Below w.heap.size w w' ∧
      ((anyOut (fresh lo n) l = true ∧ e = .returned (.tuple #[.pointer none, .int .i64 1])) ∨
       (anyOut (fresh lo n) l = false ∧ takeAll lo (List.replicate n 1) l = none ∧ e = .returned (.tuple #[.pointer none, .int .i64 1])) ∨
       (anyOut (fresh lo n) l = false ∧ ∃ ks a, takeAll lo (List.replicate n 1) l = some ks ∧ e = .returned (.tuple #[ptr a.q, .int .i64 0]) ∧ PuAt w' a ⟨s, ⟨lo, ks⟩, ⟨lo, ks⟩⟩ ∧ a.d = d ∧ a.bs = bs ∧ a.bp = bp ∧ w.heap.size ≤ a.q ∧ w.heap.size ≤ a.n ∧ w.heap.size ≤ a.hn ∧ w.heap.size ≤ a.s ∧ w.heap.size ≤ a.hs))

theorem pnew_nil (w : World) (i : Int) (v : Value) : Calls Tryz.prog 10 #[.pointer none, .int .i64 i, v] w fun e w' => e = .returned (.tuple #[.pointer none, .int .i64 1]) ∧ w' = w := by
  go_enter Tryz.func10, Tryz.ntmps10
  go_wp2
  go_ret2
  exact ⟨rfl, rfl⟩

theorem pnew_low (w : World) (p : Nat) (i : Int) (hi : i < 1) (v : Value) : Calls Tryz.prog 10 #[ptr p, .int .i64 i, v] w fun e w' => e = .returned (.tuple #[.pointer none, .int .i64 1]) ∧ w' = w := by
  unfold ptr
  go_enter Tryz.func10, Tryz.ntmps10
  go_wp2
  go_ret2
  exact ⟨rfl, rfl⟩

theorem pnew_high {w : World} {p bs bp : Nat} {s : St} (h : DiskAt w p bs bp s) (i : Int) (hi : 1 ≤ i) (hs : s.blocks ≤ i) (v : Value) : Calls Tryz.prog 10 #[ptr p, .int .i64 i, v] w fun e w' => e = .returned (.tuple #[.pointer none, .int .i64 1]) ∧ w' = w := by
  have kB := disk_Blocks h
  have kN := new_arg w i s.blocks v (by omega)
  unfold ptr at *
  have hi' : ¬ i < 1 := by omega
  go_enter Tryz.func10, Tryz.ntmps10
  go_wp2_with fail
  refine kB.mono ?_
  rintro e w1 ⟨rfl, rfl⟩
  go_wp2_with fail
  refine kN.mono ?_
  rintro e w1 ⟨rfl, rfl⟩
  go_wp2
  go_ret2
  exact ⟨rfl, rfl⟩

set_option maxHeartbeats 2000000 in
theorem pnew_ok {w : World} {d bs bp : Nat} {s : St} (h : DiskAt w d bs bp s) (lo n : Nat) (h0 : 1 ≤ lo) (h1 : 1 ≤ n) (h2 : ((lo + n : Nat) : Int) = s.blocks) (v : Value) (l : List Int) (hr : RdI w v l) :
    Calls Tryz.prog 10 #[ptr d, .int .i64 lo, v] w fun e w' => PNew w d bs bp s lo n l e w' := by
  have hg := h.good.b1
  have kB := disk_Blocks h
  have kN := new_ok w lo n h1 (by omega) v l hr
  generalize hB : ((lo : Int) + (n : Int)) = B at kN
  rw [show s.blocks = B by omega] at kB
  have HH2 : Hid (((lo + n : Nat) : Int) = s.blocks) := h2
  have HH : Hid (DiskAt w d bs bp s) := h
  clear hB h2 h
  have hi' : ¬ ((lo : Nat) : Int) < 1 := by omega
  obtain ⟨va, vc, rfl, _⟩ := id hr
  unfold ptr at *
  go_enter Tryz.func10, Tryz.ntmps10
  go_wp2_with fail
  refine kB.mono ?_
  clear kB
  rintro e w1 ⟨rfl, rfl⟩
  go_wp2_with fail
  refine kN.mono ?_
  clear kN
  rintro e w2 ⟨hb2, ⟨x1, rfl⟩ | ⟨x1, x2, rfl⟩ | ⟨x1, ks, p, hh, x2, rfl, hP, hok, hp1, hp2⟩⟩
  · go_wp2
    go_ret2
    exact ⟨hb2, .inl ⟨x1, rfl⟩⟩
  · have HX : Hid _ := x2
    clear x2
    go_wp2
    go_ret2
    exact ⟨hb2, .inr (.inl ⟨x1, HX.out, rfl⟩)⟩
  · have HX : Hid _ := x2
    clear x2
    have kH := handOf_any hP hok
    unfold ptr at *
    go_wp2_with fail
    refine kH.mono ?_
    clear kH
    rintro e w3 ⟨s', hs', rfl, hP3, y1, y2, hb3⟩
    have hz := hb2.size
    have hb : Below w1.heap.size w1 w3 := hb2.trans (hb3.mono hz)
    have hz3 := hb3.size
    have hlt1 : p < w2.heap.size := by obtain ⟨c, u, e, _⟩ := hP.body; exact (Array.getElem?_eq_some_iff.1 e).1
    have hlt2 : hh < w2.heap.size := by obtain ⟨c, u, _, e, _⟩ := hP.body; exact (Array.getElem?_eq_some_iff.1 e).1
    have hbA := (Below.refl w3.heap.size w3).alloc (Nat.le_refl _) (.cells #[.pointer (some ⟨d, 0, none⟩), .pointer (some ⟨p, 0, none⟩), .pointer (some ⟨s', 0, none⟩)] 75)
    have hgA := heap_alloc_new w3 (.cells #[.pointer (some ⟨d, 0, none⟩), .pointer (some ⟨p, 0, none⟩), .pointer (some ⟨s', 0, none⟩)] 75)
    have HZ : Hid (PuAt (w3.alloc (.cells #[.pointer (some ⟨d, 0, none⟩), .pointer (some ⟨p, 0, none⟩), .pointer (some ⟨s', 0, none⟩)] 75)) ⟨w3.heap.size, d, bs, bp, p, hh, s', hs'⟩ ⟨s, ⟨lo, ks⟩, ⟨lo, ks⟩⟩) := by
      have hl : ks.length = n := by
        have := takeAll_len lo l (List.replicate n 1) ks HX.out
        simpa using this
      exact ⟨hgA, (HH.out.below hb).below hbA, FrAt.below (FrAt.below hP hb3) hbA, FrAt.below hP3 hbA, by show p ≠ s'; omega, by show hh ≠ hs'; omega,
        ⟨hok, hok, h0, by show ((lo + ks.length : Nat) : Int) = s.blocks; rw [hl]; exact HH2.out, rfl, rfl, fun j hj => pair_same hok j hj⟩⟩
    have HB : Hid _ := hb.trans (hbA.mono (by omega))
    clear hbA hgA hP hP3 hb3
    go_wp2
    go_ret2
    exact ⟨HB.out, .inr (.inr ⟨x1, ks, _, HX.out, rfl, HZ.out, rfl, rfl, rfl, by show w1.heap.size ≤ w3.heap.size; omega, hp1, hp2, by show w1.heap.size ≤ s'; omega, by show w1.heap.size ≤ hs'; omega⟩)⟩

end Go.Proofs.YthgdbjpefjjeaaaGreat
