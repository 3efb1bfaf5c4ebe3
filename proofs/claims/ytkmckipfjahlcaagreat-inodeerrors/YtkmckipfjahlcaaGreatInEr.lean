/- Over a store that may fail: a pair; one call of whatever kind (the law's did); what failing leaves (mathematics). -/
import Derived.Test.YtkmckipfjahlcaaGreatInGL
import Derived.Test.YtkmckipfjahlcaaGreatH1
import Derived.Test.YtkmckipfjahlcaaGreatInArg
namespace Go.Proofs.YtkmckipfjahlcaaGreat
open Go.RowKit
set_option linter.unusedVariables false
set_option linter.unusedSimpArgs false
set_option maxRecDepth 100000

/-- A call, in plain words (its fields apart). -/
structure IOp where
  d : Int
  a : Int
  b : Int
  ino : Int
structure IOpOk (o : IOp) : Prop where
  d0 : -9223372036854775808 ≤ o.d
  d1 : o.d ≤ 9223372036854775807
  a0 : -9223372036854775808 ≤ o.a
  a1 : o.a ≤ 9223372036854775807
  b0 : -9223372036854775808 ≤ o.b
  b1 : o.b ≤ 9223372036854775807
  i0 : 0 ≤ o.ino
  i1 : o.ino ≤ 4294967295
def iopC (o : IOp) (fa : Option Addr) (fn fc : Nat) : Array Value := #[.int .i64 o.d, .int .i64 o.a, .int .i64 o.b, .int .u32 o.ino, .slice fa fn fc]
structure IOpAt (w : World) (g : Nat) (o : IOp) (fa : Option Addr) (fn fc : Nat) : Prop where
  row : w.heap[g]? = some (.cells (iopC o fa fn fc) 31 (0, 0))
theorem IOpAt.below {w w' : World} {g : Nat} {o : IOp} {fa : Option Addr} {fn fc : Nat} (h : IOpAt w g o fa fn fc) (hb : Below w.heap.size w w') : IOpAt w' g o fa fn fc := ⟨(hb.block _ (lt_of_row h.row)).trans h.row⟩
theorem IOpAt.cell {w : World} {g : Nat} {o : IOp} {fa : Option Addr} {fn fc : Nat} (h : IOpAt w g o fa fn fc) (j : Nat) (v : Value) (hv : (iopC o fa fn fc)[j]? = some v) : w.cell? ⟨g, j, none⟩ = some v := by
  rw [cell_of_row _ _ _ _ _ (0, 0) h.row]; exact hv
theorem IOpAt.load {w : World} {g : Nat} {o : IOp} {fa : Option Addr} {fn fc : Nat} (h : IOpAt w g o fa fn fc) : (Instr.loadAt 31 (.pointer (some ⟨g, 0, none⟩))).run Tryz.prog w = .ok (.agg (iopC o fa fn fc)) w := by
  have := run_loadAt_mid (P := Tryz.prog) w g 0 31 (iopC o fa fn fc).toList _ (fun j u hu => by rw [cell_of_row _ _ _ _ _ (0, 0) h.row, Nat.zero_add, ← Array.getElem?_toList]; exact hu) Tryz.underlying31 rfl (by kernel_rfl)
  simpa using this

theorem iop_of {H : Type} {enc : TypeId × Value → H} {W : World} {base : Nat} {held : Bool} {fuel : Nat} {cs : Array Value} {x : DataW H × List MemPlace} (hc : cs.size = Tryz.prog.cellsOf 31)
    (h : DataW.trod enc Tryz.prog W base (fun _ => true) held fuel 31 (Value.agg cs).cells.toList = some x) : ∃ (o : IOp) (fa : Option Addr) (fn fc : Nat) (fs : List (Int × Int)), cs = iopC o fa fn fc ∧ IOpOk o ∧ RdZ 2 fiE W (.slice fa fn fc) fs ∧ fiOk fs := by
  have hlen : cs.toList.length = 5 := by rw [Array.length_toList, hc]; kernel_rfl
  have h' : DataW.trod enc Tryz.prog W base (fun _ => true) held fuel 31 cs.toList = some x := h
  obtain ⟨l⟩ := cs
  dsimp only at hlen h'
  clear h hc
  obtain ⟨xs, k, hk, hxy, _, hxl, hf⟩ := DataW.trod_struct Tryz.underlying31 h'
  have hxl : xs.length = 5 := hxl
  clear hxy hk h'
  match xs, hxl, l, hlen with
  | [y0, y1, y2, y3, y4], _, [v0, v1, v2, v3, v4], _ =>
    have g0 : DataW.trod enc Tryz.prog W base (fun _ => true) held k 3 (([v0, v1, v2, v3, v4].drop 0).take (Tryz.prog.cellsOf 3)) = some y0 := hf 0 _ rfl
    have g1 : DataW.trod enc Tryz.prog W base (fun _ => true) held k 3 (([v0, v1, v2, v3, v4].drop 1).take (Tryz.prog.cellsOf 3)) = some y1 := hf 1 _ rfl
    have g2 : DataW.trod enc Tryz.prog W base (fun _ => true) held k 3 (([v0, v1, v2, v3, v4].drop 2).take (Tryz.prog.cellsOf 3)) = some y2 := hf 2 _ rfl
    have g3 : DataW.trod enc Tryz.prog W base (fun _ => true) held k 23 (([v0, v1, v2, v3, v4].drop 3).take (Tryz.prog.cellsOf 23)) = some y3 := hf 3 _ rfl
    have g4 : DataW.trod enc Tryz.prog W base (fun _ => true) held k 29 (([v0, v1, v2, v3, v4].drop 4).take (Tryz.prog.cellsOf 29)) = some y4 := hf 4 _ rfl
    rw [show Tryz.prog.cellsOf 3 = 1 from by kernel_rfl] at g0 g1 g2
    rw [show Tryz.prog.cellsOf 23 = 1 from by kernel_rfl] at g3
    rw [show Tryz.prog.cellsOf 29 = 1 from by kernel_rfl] at g4
    simp only [List.drop_zero, List.drop_succ_cons, List.take_succ_cons, List.take_zero] at g0 g1 g2 g3 g4
    obtain ⟨z0, e0, _, w0⟩ := DataW.trod_int Tryz.underlying3 g0
    obtain ⟨z1, e1, _, w1⟩ := DataW.trod_int Tryz.underlying3 g1
    obtain ⟨z2, e2, _, w2⟩ := DataW.trod_int Tryz.underlying3 g2
    obtain ⟨z3, e3, _, w3⟩ := DataW.trod_int Tryz.underlying23 g3
    simp only [List.cons.injEq, and_true] at e0 e1 e2 e3
    subst e0 e1 e2 e3
    obtain ⟨b0, b0'⟩ := bounds_i64 w0
    obtain ⟨b1, b1'⟩ := bounds_i64 w1
    obtain ⟨b2, b2'⟩ := bounds_i64 w2
    obtain ⟨b3, b3'⟩ := bounds_u32 w3
    obtain ⟨fa, fn, fc, rfl⟩ : ∃ fa fn fc, v4 = .slice fa fn fc := by
      rcases Deep.open_slice Tryz.underlying29 g4 with ⟨hcs, _⟩ | ⟨a', l, c, m, n, D, Pl, hcs, _⟩
      · simp at hcs; exact ⟨_, _, _, hcs⟩
      · simp at hcs; exact ⟨_, _, _, hcs⟩
    obtain ⟨fs, f1, f2⟩ := fis_of g4
    exact ⟨⟨z0, z1, z2, z3⟩, fa, fn, fc, fs, rfl, ⟨b0, b0', b1, b1', b2, b2', b3, b3'⟩, f1, f2⟩

end Go.Proofs.YtkmckipfjahlcaaGreat

namespace Go.Proofs.YtkmckipfjahlcaaGreat.L
open Go.RowKit Go.Maps

theorem SgIn.not_pair {B : Nat} {w : World} {a : Sa} {X : List Nat} {s : Sg} (h : SgIn B w a X s) {pp x : Nat} {a' : Sa} (hp : PrAt w pp a' x) : pp ∉ X := h.other hp (by decide) (by decide) (by decide) (by decide) (by decide) (by decide)
theorem SgIn.ge {B : Nat} {w : World} {a : Sa} {X : List Nat} {s : Sg} (h : SgIn B w a X s) : ∀ k ∈ X, B ≤ k := by
  obtain ⟨vd, vr, vu, h, rfl⟩ := h
  exact h.ge
theorem SgIn.vrow {B : Nat} {w : World} {a : Sa} {X : List Nat} {s : Sg} (h : SgIn B w a X s) : VwAt w a.v a.g a.p ∧ a.g ∈ X ∧ ∃ ad n cap, SoL w a.g ad n cap s.l s.lf ∧ (∀ q, 0 < n → ad = some q → q.block < B) := by
  obtain ⟨vd, vr, vu, h, rfl⟩ := h
  obtain ⟨ad, n, cap, hS, hq⟩ := h.so
  exact ⟨h.vw, mine_iff.2 (.inl rfl), ad, n, cap, hS, hq⟩
theorem SgIn.apart {B : Nat} {w w' : World} {a b : Sa} {X Y : List Nat} {s t : Sg} (h : SgIn B w b Y t) (g : SgIn B w a X s) (hd : ∀ k ∈ X, k ∉ Y) (hs : Sole X w w') : SgIn B w' b Y t := by
  refine h.keep hs.size (fun k hk hh => hs.block k hk (fun hx => ?_))
  rcases hh with e | e | e | e | e
  · have := g.ge k hx; omega
  · exact hd k hx e
  · subst e; exact g.other h.row (by decide) (by decide) (by decide) (by decide) (by decide) (by decide) hx
  · subst e; exact g.other h.vrow.1.row (by decide) (by decide) (by decide) (by decide) (by decide) (by decide) hx
  · subst e; exact hd _ hx h.vrow.2.1

structure Tw (B : Nat) (w0 w : World) (pp : Nat) (a : Sa) (s : Sg) (pq : Nat) (b : Sa) (t : Sg) : Prop where
  ex : ∃ X Y x y, PrAt w pp a x ∧ PrAt w pq b y ∧ SgIn B w a X s ∧ SgIn B w b Y t ∧ ∀ k ∈ X, k ∉ Y
  bel : Below B w0 w
  B : B ≤ w0.heap.size
theorem Tw.swap {B : Nat} {w0 w : World} {pp pq : Nat} {a b : Sa} {s t : Sg} (h : Tw B w0 w pp a s pq b t) : Tw B w0 w pq b t pp a s := by
  obtain ⟨X, Y, x, y, p1, p2, g1, g2, hd⟩ := h.ex
  exact ⟨⟨Y, X, y, x, p2, p1, g2, g1, fun k hk hx => hd k hx hk⟩, h.bel, h.B⟩
theorem Tw.below {B : Nat} {w0 w w' : World} {pp pq : Nat} {a b : Sa} {s t : Sg} (h : Tw B w0 w pp a s pq b t) (hb : Below w.heap.size w w') : Tw B w0 w' pp a s pq b t := by
  obtain ⟨X, Y, x, y, p1, p2, g1, g2, hd⟩ := h.ex
  exact ⟨⟨X, Y, x, y, (hb.block _ (lt_of_row p1)).trans p1, (hb.block _ (lt_of_row p2)).trans p2, g1.below hb, g2.below hb, hd⟩, h.bel.trans (hb.mono (Nat.le_trans h.B h.bel.size)), h.B⟩
/-- Blocks of the calls that a statement is handed stay. -/
def KeepO (w w' : World) : Prop := ∀ (k : Nat) (cs : Array Value) (fr : Nat × Nat), w.heap[k]? = some (Obj.cells cs 31 fr) → w'.heap[k]? = some (Obj.cells cs 31 fr)
theorem Tw.call {B : Nat} {w0 w : World} {pp pq : Nat} {a b : Sa} {s t s' : Sg} (h : Tw B w0 w pp a s pq b t) {f : FuncId} {args : Array Value} {R : Ending → Prop} (hc : ∀ X x, PrAt w pp a x → SgIn B w a X s → Calls Tryz.prog f args w fun e w' => R e ∧ SgOut B w a X s' w') :
    Calls Tryz.prog f args w fun e w' => R e ∧ Tw B w0 w' pp a s' pq b t ∧ KeepO w w' := by
  obtain ⟨X, Y, x, y, p1, p2, g1, g2, hd⟩ := h.ex
  refine (hc X x p1 g1).mono ?_
  rintro e w' ⟨hR, X', k1, k2, k3⟩
  refine ⟨hR, ⟨⟨X', Y, x, y, k2.row p1 (g1.not_pair p1), k2.row p2 (g1.not_pair p2), k1, g2.apart g1 hd k2, fun k hk hy => ?_⟩, h.bel.trans (k2.belowX g1.ge (Nat.le_trans h.B h.bel.size)), h.B⟩, fun k cs fr hk => k2.row hk (g1.other hk (by decide) (by decide) (by decide) (by decide) (by decide) (by decide))⟩
  rcases k3 k hk with e | e
  · exact hd k e hy
  · have := g2.lt k hy; omega
theorem Tw.c0 {B : Nat} {w0 w : World} {pp pq : Nat} {a b : Sa} {s t : Sg} (h : Tw B w0 w pp a s pq b t) : w.cell? ⟨pp, 0, none⟩ = some (.pointer (some ⟨a.s, 0, none⟩)) := by
  obtain ⟨X, Y, x, y, p1, _⟩ := h.ex
  exact p1.c0
theorem Tw.c3 {B : Nat} {w0 w : World} {pp pq : Nat} {a b : Sa} {s t : Sg} (h : Tw B w0 w pp a s pq b t) : w.cell? ⟨pp, 3, none⟩ = some (.pointer (some ⟨a.g, 0, none⟩)) := by
  obtain ⟨X, Y, x, y, p1, _⟩ := h.ex
  exact p1.c3
theorem Tw.lf {B : Nat} {w0 w : World} {pp pq : Nat} {a b : Sa} {s t : Sg} (h : Tw B w0 w pp a s pq b t) : w.cell? ⟨a.g, 1, none⟩ = some (.int .i64 s.lf) ∧ w.frozen? ⟨a.g, 1, none⟩ = false := by
  obtain ⟨X, Y, x, y, p1, p2, g1, _⟩ := h.ex
  obtain ⟨_, _, ad, n, cap, hS, _⟩ := g1.vrow
  exact ⟨hS.c1, hS.f1⟩
/-- How often the first one's base may be asked is set. -/
theorem Tw.left {B : Nat} {w0 w : World} {pp pq : Nat} {a b : Sa} {s t : Sg} (h : Tw B w0 w pp a s pq b t) (f : Int) (hf : f ≤ 9223372036854775807) : Tw B w0 (w.setCell ⟨a.g, 1, none⟩ (.int .i64 f)) pp a { s with lf := f } pq b t ∧ KeepO w (w.setCell ⟨a.g, 1, none⟩ (.int .i64 f)) := by
  obtain ⟨X, Y, x, y, p1, p2, g1, g2, hd⟩ := h.ex
  obtain ⟨_, _, ad, n, cap, hS, hq⟩ := g1.vrow
  have hL : LOut w a.g ad n cap s.l f (w.setCell ⟨a.g, 1, none⟩ (.int .i64 f)) := ⟨Sole.setCell w _ (by simp), hS.turn f hf⟩
  obtain ⟨X', k1, k2, k3⟩ : SgOut B w a X { s with lf := f } (w.setCell ⟨a.g, 1, none⟩ (.int .i64 f)) := by
    obtain ⟨vd, vr, vu, g, rfl⟩ := g1
    exact g.asked hq hL
  refine ⟨⟨⟨X', Y, x, y, k2.row p1 (g1.not_pair p1), k2.row p2 (g1.not_pair p2), k1, g2.apart g1 hd k2, fun k hk hy => ?_⟩, h.bel.trans (k2.belowX g1.ge (Nat.le_trans h.B h.bel.size)), h.B⟩, fun k cs fr hk => k2.row hk (g1.other hk (by decide) (by decide) (by decide) (by decide) (by decide) (by decide))⟩
  rcases k3 k hk with e | e
  · exact hd k e hy
  · have := g2.lt k hy; omega
/-- Two of them, one made behind the other. -/
theorem Tw.of {B : Nat} {w0 w1 w2 : World} {ad : Option Addr} {n cap : Nat} {l : List (ByteArray × ByteArray)} {m nx m' nx' : Int} {e e' : Ending} (hB : B ≤ w0.heap.size) (h : BgOut B w0 ad n cap l m nx e w1) (h' : BgOut B w1 ad n cap l m' nx' e' w2) :
    ∃ pp a pq b, e = .returned (.pointer (some ⟨pp, 0, none⟩)) ∧ e' = .returned (.pointer (some ⟨pq, 0, none⟩)) ∧ Tw B w0 w2 pp a (sg0 l m nx) pq b (sg0 l m' nx') := by
  obtain ⟨pp, a, x, X, rv, q, rfl, h1, h2, h3, _, h4, _⟩ := h
  obtain ⟨pq, b, y, Y, rv', q', rfl, k1, k2, k3, _, k4, _⟩ := h'
  exact ⟨pp, a, pq, b, rfl, rfl, ⟨X, Y, x, y, (k4.block _ (lt_of_row h1)).trans h1, k1, h2.below k4, k2, fun k hk hy => by have := h2.lt k hk; have := k3 k hy; omega⟩, (h4.mono hB).trans (k4.mono (Nat.le_trans hB h4.size)), hB⟩
theorem bg_ret {B : Nat} {w : World} {ad : Option Addr} {n cap : Nat} {l : List (ByteArray × ByteArray)} {m nx : Int} {e : Ending} {w' : World} (h : BgOut B w ad n cap l m nx e w') : (∃ pp, e = .returned (.pointer (some ⟨pp, 0, none⟩))) ∧ Below w.heap.size w w' := by
  obtain ⟨pp, a, x, X, rv, q, rfl, h1, h2, h3, _, h4, _⟩ := h
  exact ⟨⟨pp, rfl⟩, h4⟩
theorem sk0 (l : List (ByteArray × ByteArray)) (most nx : Int) : Sk (sg0 l most nx) 0 := ⟨(fun c hc => absurd hc (by simp [sg0, newS])), Nat.le_refl _, Nat.le_refl _, Nat.le_refl _, Nat.le_refl _⟩

/-- What one call leaves, and its error. -/
def didR (s : Sg) (o : IOp) (fs : List (Int × Int)) : Sg × Int :=
  if o.d = 0 then ((makR s o.a o.b).1, (makR s o.a o.b).2.2)
  else if o.d = 1 then (fdS s o.ino, (fdR s o.ino).2)
  else if o.d = 2 then ((statR s o.ino).1, (statR s o.ino).2.2)
  else if o.d = 3 then ((sizeR s o.ino).1, (sizeR s o.ino).2.2)
  else if o.d = 4 then setR s o.ino fs
  else if o.d = 5 then ((lkR s o.ino o.a).1, (lkR s o.ino o.a).2.2)
  else if o.d = 6 then rmR s o.ino
  else (s, 0)

/-! ### Mathematics -/

theorem vg_lf (l : List (ByteArray × ByteArray)) {f : Int} (hf : f ≠ 0) (d : Dl) (q : Pl) : vgV l f d q = vgV l (-1) d q := by
  have h : ∀ q, stV l f q = stV l (-1) q := fun q => by unfold stV; rw [if_neg (fun e => hf e.2), if_neg (fun e => absurd e.2 (by decide))]
  unfold vgV chV
  split
  · rw [h]
  · rw [h]
theorem fd_lf {s t : Sg} (hl : s.l = t.l) (hd : s.d = t.d) (ht : t.lf = -1) {ino : Int} (hf : s.lf ≠ 0 ∨ ino = 0) : fdR s ino = fdR t ino := by
  unfold fdR fdF
  rcases hf with hf | hf
  · rw [hl, hd, ht, vg_lf _ hf]
  · rw [if_pos hf, if_pos hf]
theorem fdS_neg {s : Sg} (h : s.lf = -1) (ino : Int) : (fdS s ino).lf = -1 := by
  unfold fdS
  split
  · exact h
  · show vgF s.lf s.d (recP ino) = -1
    rw [h]
    unfold vgF chF stF
    repeat' split
    all_goals rfl
/-- Nothing was written yet: the base is asked, and does not tell. -/
theorem fd_fails {s : Sg} (hL : s.d.L = []) (hf : s.lf = 0) {ino : Int} (h0 : 0 < ino) : fdR s ino = (in0, 70) ∧ (fdS s ino).lf = 0 := by
  have hi : isX s.d (recP ino) = false := by unfold isX getL; rw [hL]; rfl
  have hp : plOk (recP ino) = true := by unfold plOk recP; simp; omega
  have hv : vgV s.l s.lf s.d (recP ino) = (it0, false, 70) := by
    unfold vgV stV
    rw [hi, if_neg (by decide), if_pos ⟨hp, hf⟩]
  constructor
  · unfold fdR fdF
    rw [hv, if_neg (by omega), if_pos (by decide)]
  · unfold fdS
    rw [if_neg (by omega)]
    show vgF s.lf s.d (recP ino) = 0
    unfold vgF stF decL
    rw [hi, hp, hf]
    rfl

end Go.Proofs.YtkmckipfjahlcaaGreat.L
