/- Extent over a store that may fail: two pairs side by side; the contract of the law's did. -/
import Derived.Test.YtjjhfginmamlkaaGreatExW
import Derived.Test.YtjjhfginmamlkaaGreatXB
import Derived.Test.YtjjhfginmamlkaaGreatXD
import Derived.Test.YtjjhfginmamlkaaGreatInGL
import Derived.Test.YtjjhfginmamlkaaGreatA1
namespace Go.Proofs.YtjjhfginmamlkaaGreat.L
open Go.RowKit Go.Maps
set_option linter.unusedVariables false
set_option linter.unusedSimpArgs false
set_option maxRecDepth 100000

theorem SgIn.not_pair {B : Nat} {w : World} {a : Sa} {X : List Nat} {s : Sg} (h : SgIn B w a X s) {pp x : Nat} {a' : Sa} (hp : PrAt w pp a' x) : pp ∉ X := h.other hp (by decide) (by decide) (by decide) (by decide) (by decide) (by decide)
theorem SgIn.ge {B : Nat} {w : World} {a : Sa} {X : List Nat} {s : Sg} (h : SgIn B w a X s) : ∀ k ∈ X, B ≤ k := by
  obtain ⟨vd, vr, vu, h, rfl⟩ := h
  exact h.ge
theorem SgIn.vrow {B : Nat} {w : World} {a : Sa} {X : List Nat} {s : Sg} (h : SgIn B w a X s) : VwAt w a.v a.g a.p ∧ a.g ∈ X ∧ ∃ ad n cap, SoL w a.g ad n cap s.l s.lf ∧ (∀ q, 0 < n → ad = some q → q.block < B) := by
  obtain ⟨vd, vr, vu, h, rfl⟩ := h
  obtain ⟨ad, n, cap, hS, hq⟩ := h.so
  exact ⟨h.vw, mine_iff.2 (.inl rfl), ad, n, cap, hS, hq⟩
theorem SgIn.apart {B : Nat} {w w' : World} {a b : Sa} {X Y : List Nat} {s t : Sg} (h : SgIn B w b Y t) (g : SgIn B w a X s) (hd : ∀ k ∈ X, k ∉ Y) (hs : Sole X w w') : SgIn B w' b Y t := by
  refine h.keep hs.size (fun k hk hh => hs.block k hk (fun hx => ?_))
  rcases hh with e | e | e | e | e
  · have := g.ge k hx; omega
  · exact hd k hx e
  · subst e; exact g.other h.row (by decide) (by decide) (by decide) (by decide) (by decide) (by decide) hx
  · subst e; exact g.other h.vrow.1.row (by decide) (by decide) (by decide) (by decide) (by decide) (by decide) hx
  · subst e; exact hd _ hx h.vrow.2.1

structure Tw (B : Nat) (w0 w : World) (pp : Nat) (a : Sa) (s : Sg) (pq : Nat) (b : Sa) (t : Sg) : Prop where
  ex : ∃ X Y x y, PrAt w pp a x ∧ PrAt w pq b y ∧ SgIn B w a X s ∧ SgIn B w b Y t ∧ ∀ k ∈ X, k ∉ Y
  bel : Below B w0 w
  B : B ≤ w0.heap.size
theorem Tw.swap {B : Nat} {w0 w : World} {pp pq : Nat} {a b : Sa} {s t : Sg} (h : Tw B w0 w pp a s pq b t) : Tw B w0 w pq b t pp a s := by
  obtain ⟨X, Y, x, y, p1, p2, g1, g2, hd⟩ := h.ex
  exact ⟨⟨Y, X, y, x, p2, p1, g2, g1, fun k hk hx => hd k hx hk⟩, h.bel, h.B⟩
theorem Tw.below {B : Nat} {w0 w w' : World} {pp pq : Nat} {a b : Sa} {s t : Sg} (h : Tw B w0 w pp a s pq b t) (hb : Below w.heap.size w w') : Tw B w0 w' pp a s pq b t := by
  obtain ⟨X, Y, x, y, p1, p2, g1, g2, hd⟩ := h.ex
  exact ⟨⟨X, Y, x, y, (hb.block _ (lt_of_row p1)).trans p1, (hb.block _ (lt_of_row p2)).trans p2, g1.below hb, g2.below hb, hd⟩, h.bel.trans (hb.mono (Nat.le_trans h.B h.bel.size)), h.B⟩
theorem Tw.call {B : Nat} {w0 w : World} {pp pq : Nat} {a b : Sa} {s t s' : Sg} (h : Tw B w0 w pp a s pq b t) {f : FuncId} {args : Array Value} {R : Ending → Prop} (hc : ∀ X x, PrAt w pp a x → SgIn B w a X s → Calls Tryz.prog f args w fun e w' => R e ∧ SgOut B w a X s' w') :
    Calls Tryz.prog f args w fun e w' => R e ∧ Tw B w0 w' pp a s' pq b t ∧ KeepT w w' := by
  obtain ⟨X, Y, x, y, p1, p2, g1, g2, hd⟩ := h.ex
  refine (hc X x p1 g1).mono ?_
  rintro e w' ⟨hR, X', k1, k2, k3⟩
  refine ⟨hR, ⟨⟨X', Y, x, y, k2.row p1 (g1.not_pair p1), k2.row p2 (g1.not_pair p2), k1, g2.apart g1 hd k2, fun k hk hy => ?_⟩, h.bel.trans (k2.belowX g1.ge (Nat.le_trans h.B h.bel.size)), h.B⟩, k2.size, fun k cs T fr hk t1 t2 t3 t4 t5 t6 => k2.row hk (g1.other hk t1 t2 t3 t4 t5 t6)⟩
  rcases k3 k hk with e | e
  · exact hd k e hy
  · have := g2.lt k hy; omega
theorem Tw.c0 {B : Nat} {w0 w : World} {pp pq : Nat} {a b : Sa} {s t : Sg} (h : Tw B w0 w pp a s pq b t) : w.cell? ⟨pp, 0, none⟩ = some (.pointer (some ⟨a.s, 0, none⟩)) := by
  obtain ⟨X, Y, x, y, p1, _⟩ := h.ex
  exact p1.c0
theorem Tw.c3 {B : Nat} {w0 w : World} {pp pq : Nat} {a b : Sa} {s t : Sg} (h : Tw B w0 w pp a s pq b t) : w.cell? ⟨pp, 3, none⟩ = some (.pointer (some ⟨a.g, 0, none⟩)) := by
  obtain ⟨X, Y, x, y, p1, _⟩ := h.ex
  exact p1.c3
theorem Tw.lf {B : Nat} {w0 w : World} {pp pq : Nat} {a b : Sa} {s t : Sg} (h : Tw B w0 w pp a s pq b t) : w.cell? ⟨a.g, 1, none⟩ = some (.int .i64 s.lf) ∧ w.frozen? ⟨a.g, 1, none⟩ = false := by
  obtain ⟨X, Y, x, y, p1, p2, g1, _⟩ := h.ex
  obtain ⟨_, _, ad, n, cap, hS, _⟩ := g1.vrow
  exact ⟨hS.c1, hS.f1⟩
/-- How often the first one's base may be asked is set. -/
theorem Tw.left {B : Nat} {w0 w : World} {pp pq : Nat} {a b : Sa} {s t : Sg} (h : Tw B w0 w pp a s pq b t) (f : Int) (hf : f ≤ 9223372036854775807) : Tw B w0 (w.setCell ⟨a.g, 1, none⟩ (.int .i64 f)) pp a { s with lf := f } pq b t ∧ KeepT w (w.setCell ⟨a.g, 1, none⟩ (.int .i64 f)) := by
  obtain ⟨X, Y, x, y, p1, p2, g1, g2, hd⟩ := h.ex
  obtain ⟨_, _, ad, n, cap, hS, hq⟩ := g1.vrow
  have hL : LOut w a.g ad n cap s.l f (w.setCell ⟨a.g, 1, none⟩ (.int .i64 f)) := ⟨Sole.setCell w _ (by simp), hS.turn f hf⟩
  obtain ⟨X', k1, k2, k3⟩ : SgOut B w a X { s with lf := f } (w.setCell ⟨a.g, 1, none⟩ (.int .i64 f)) := by
    obtain ⟨vd, vr, vu, g, rfl⟩ := g1
    exact g.asked hq hL
  refine ⟨⟨⟨X', Y, x, y, k2.row p1 (g1.not_pair p1), k2.row p2 (g1.not_pair p2), k1, g2.apart g1 hd k2, fun k hk hy => ?_⟩, h.bel.trans (k2.belowX g1.ge (Nat.le_trans h.B h.bel.size)), h.B⟩, k2.size, fun k cs T fr hk t1 t2 t3 t4 t5 t6 => k2.row hk (g1.other hk t1 t2 t3 t4 t5 t6)⟩
  rcases k3 k hk with e | e
  · exact hd k e hy
  · have := g2.lt k hy; omega
/-- Two of them, one made behind the other. -/
theorem Tw.of {B : Nat} {w0 w1 w2 : World} {ad : Option Addr} {n cap : Nat} {l : List (ByteArray × ByteArray)} {m nx m' nx' : Int} {e e' : Ending} (hB : B ≤ w0.heap.size) (h : BgOut B w0 ad n cap l m nx e w1) (h' : BgOut B w1 ad n cap l m' nx' e' w2) :
    ∃ pp a pq b, e = .returned (.pointer (some ⟨pp, 0, none⟩)) ∧ e' = .returned (.pointer (some ⟨pq, 0, none⟩)) ∧ Tw B w0 w2 pp a (sg0 l m nx) pq b (sg0 l m' nx') := by
  obtain ⟨pp, a, x, X, rv, q, rfl, h1, h2, h3, _, h4, _⟩ := h
  obtain ⟨pq, b, y, Y, rv', q', rfl, k1, k2, k3, _, k4, _⟩ := h'
  exact ⟨pp, a, pq, b, rfl, rfl, ⟨X, Y, x, y, (k4.block _ (lt_of_row h1)).trans h1, k1, h2.below k4, k2, fun k hk hy => by have := h2.lt k hk; have := k3 k hy; omega⟩, (h4.mono hB).trans (k4.mono (Nat.le_trans hB h4.size)), hB⟩
theorem bg_ret {B : Nat} {w : World} {ad : Option Addr} {n cap : Nat} {l : List (ByteArray × ByteArray)} {m nx : Int} {e : Ending} {w' : World} (h : BgOut B w ad n cap l m nx e w') : (∃ pp, e = .returned (.pointer (some ⟨pp, 0, none⟩))) ∧ Below w.heap.size w w' := by
  obtain ⟨pp, a, x, X, rv, q, rfl, h1, h2, h3, _, h4, _⟩ := h
  exact ⟨⟨pp, rfl⟩, h4⟩
theorem sk0 (l : List (ByteArray × ByteArray)) (most nx : Int) : Sk (sg0 l most nx) 0 := ⟨(fun c hc => absurd hc (by simp [sg0, newS])), Nat.le_refl _, Nat.le_refl _, Nat.le_refl _, Nat.le_refl _⟩


theorem _root_.Go.Proofs.YtjjhfginmamlkaaGreat.EoRow.load {w : World} {g : Nat} {o : Eop} (h : EoRow w g o) : (Instr.loadAt 30 (.pointer (some ⟨g, 0, none⟩))).run Tryz.prog w = .ok (.agg (eopC o)) w := by
  have hl := run_loadVar_row (P := Tryz.prog) w g _ 30 (eopC o) _ _ h Tryz.underlying30 rfl (by kernel_rfl)
  simp only [Instr.loadAt, Instr.sureAddr, Sem.run_bind, Sem.run_pure, Result.andThen_ok, hl]
/-- What one call leaves, its text, its error. -/
def didX (s : Sg) (o : Eop) : Sg × ByteArray × Int :=
  if o.f0 = 1 then ((wrX s o.ino o.off o.data).1, ⟨#[]⟩, (wrX s o.ino o.off o.data).2)
  else if o.f0 = 2 then ((trX s o.ino o.n).1, ⟨#[]⟩, (trX s o.ino o.n).2)
  else rdX s o.ino o.off o.n
theorem did_sim {s t : Sg} (h : Lk s t) (o : Eop) : (didX s o).2 = (didX t o).2 ∨ ((didX s o).2 = (⟨#[]⟩, 70) ∧ (didX s o).1.lf = 0) := by
  unfold didX
  split
  · rcases wr_sim h o.ino o.off o.data with e | ⟨e1, e2⟩
    · exact .inl (by dsimp only; rw [e])
    · exact .inr ⟨by dsimp only; rw [e1], e2⟩
  split
  · rcases tr_sim h o.ino o.n with e | ⟨e1, e2⟩
    · exact .inl (by dsimp only; rw [e])
    · exact .inr ⟨by dsimp only; rw [e1], e2⟩
  · exact rd_sim h o.ino o.off o.n

set_option maxHeartbeats 8000000 in
theorem did_any {B : Nat} {w : World} {pp x : Nat} {a : Sa} {X : List Nat} {s : Sg} (hp : PrAt w pp a x) (h : SgIn B w a X s) {N : Nat} (hk : Sk s N) (hN : N ≤ 800) {o : Eop} (ho : EopOk o) :
    Calls Tryz.prog 22 #[.pointer (some ⟨pp, 0, none⟩), .agg (eopC o)] w fun e w' => e = .returned (.tuple #[.string (didX s o).2.1, .int .i64 (didX s o).2.2]) ∧ SgOut B w a X (didX s o).1 w' := by
  have hb1 := bel1 w (.cells (eopC o) 30)
  have ho1 : EoRow (w.alloc (.cells (eopC o) 30)) w.heap.size o := heap_alloc_new w _
  obtain ⟨w1, hw1⟩ : ∃ w1, w.alloc (.cells (eopC o) 30) = w1 := ⟨_, rfl⟩
  rw [hw1] at hb1 ho1
  have hp1 : PrAt w1 pp a x := (hb1.block _ (lt_of_row hp)).trans hp
  have h1 := (h.below hb1).drew
  have v0 : w1.cell? ⟨w.heap.size, 0, none⟩ = some (.int .i64 o.f0) := ho1.c0
  have cw : Calls Tryz.prog 14 #[.pointer (some ⟨a.s, 0, none⟩), .int .u32 o.ino, .int .i64 o.off, .string o.data] w1.drew fun e w' => e = .returned (.int .i64 (wrX s o.ino o.off o.data).2) ∧ SgOut B w1.drew a X (wrX s o.ino o.off o.data).1 w' := write_g SgL_ok (s := s) h1 o.ino ho.a3.1 ho.a3.2 o.off o.data ho.a4 hk (by omega)
  have ct : Calls Tryz.prog 15 #[.pointer (some ⟨a.s, 0, none⟩), .int .u32 o.ino, .int .i64 o.n] w1.drew fun e w' => e = .returned (.int .i64 (trX s o.ino o.n).2) ∧ SgOut B w1.drew a X (trX s o.ino o.n).1 w' := trunc_g SgL_ok (s := s) h1 o.ino ho.a3.1 ho.a3.2 o.n hk (by omega)
  have cr : Calls Tryz.prog 17 #[.pointer (some ⟨a.s, 0, none⟩), .int .u32 o.ino, .int .i64 o.off, .int .i64 o.n] w1.drew fun e w' => e = .returned (.tuple #[.string (rdX s o.ino o.off o.n).2.1, .int .i64 (rdX s o.ino o.off o.n).2.2]) ∧ SgOut B w1.drew a X (rdX s o.ino o.off o.n).1 w' := read_g SgL_ok (s := s) h1 o.ino ho.a3.1 ho.a3.2 o.off o.n ho.a1.1 ho.a1.2 hk (by omega)
  have HB1 : Hid (Below w.heap.size w w1) := hb1
  have HNX : Hid (pp ∉ X ∧ w.heap.size ∉ X) := ⟨h.not_pair hp, fun hm => by have := h.lt _ hm; omega⟩
  have HR : Hid (didX s o = if o.f0 = 1 then ((wrX s o.ino o.off o.data).1, ⟨#[]⟩, (wrX s o.ino o.off o.data).2) else if o.f0 = 2 then ((trX s o.ino o.n).1, ⟨#[]⟩, (trX s o.ino o.n).2) else rdX s o.ino o.off o.n) := rfl
  have HO1 : Hid (EoRow w1 w.heap.size o) := ho1
  have HP1 : Hid (PrAt w1 pp a x) := hp1
  unfold eopC at hw1 ⊢
  generalize didX s o = R at *
  obtain ⟨f0, hf0⟩ : ∃ f0, o.f0 = f0 := ⟨_, rfl⟩
  rw [hf0] at v0
  have HF0 : Hid (o.f0 = f0) := hf0
  clear h h1 hb1 hk ho ho1 hp1
  by_cases e1 : f0 = 1
  · subst e1
    have HE : Hid (R = ((wrX s o.ino o.off o.data).1, ⟨#[]⟩, (wrX s o.ino o.off o.data).2)) := by unfold Hid; rw [HR.out, if_pos HF0.out]
    clear HR ct cr HF0
    rw [hf0] at hw1 ⊢
    clear hf0
    have hS0 : PrAt w1.drew pp a x ∧ EoRow w1.drew w.heap.size o := ⟨HP1.out, HO1.out⟩
    go_enter Tryz.func22, Tryz.ntmps22
    go_wp2_with fail
    refine wp_region_noPanic ?_
    refine wp_region_held_drew (S := fun W => PrAt W pp a x ∧ EoRow W w.heap.size o) (by kernel_rfl) hS0 (fun hHeld => ?_)
    refine wpAnyH_take (i := 0) (v := .pointer (some ⟨pp, 0, none⟩)) rfl (by kernel_rfl) (by kernel_rfl) (by kernel_rfl) (fun _ _ _ h => h) (Or.inl ⟨by rfl, fun W hSw => by (try dsimp only at hSw); go_simp⟩) (by assumption) ?_
    try simp only [List.getElem_toArray, List.getElem_cons_zero, List.getElem_cons_succ, Act.put, List.setIfInBounds_toArray, List.set_cons_zero, List.set_cons_succ]
    refine wpAnyH_take (i := 1) (v := .pointer (some ⟨pp, 0, none⟩)) rfl (by kernel_rfl) (by kernel_rfl) (by kernel_rfl) (fun _ _ _ h => h) (Or.inl ⟨by rfl, fun W hSw => by (try dsimp only at hSw); go_simp⟩) (by assumption) ?_
    try simp only [List.getElem_toArray, List.getElem_cons_zero, List.getElem_cons_succ, Act.put, List.setIfInBounds_toArray, List.set_cons_zero, List.set_cons_succ]
    refine wpAnyH_take (i := 2) (v := .pointer (some ⟨pp, 0, none⟩)) rfl (by kernel_rfl) (by kernel_rfl) (by kernel_rfl) (fun _ _ _ h => h) (Or.inl ⟨by rfl, fun W hSw => by (try dsimp only at hSw); go_simp⟩) (by assumption) ?_
    try simp only [List.getElem_toArray, List.getElem_cons_zero, List.getElem_cons_succ, Act.put, List.setIfInBounds_toArray, List.set_cons_zero, List.set_cons_succ]
    refine wpAnyH_take (i := 3) (v := .pointer (some ⟨a.s, 0, none⟩)) rfl (by kernel_rfl) (by kernel_rfl) (by kernel_rfl) (fun _ _ _ h => h) (Or.inl ⟨by rfl, fun W hSw => by (try dsimp only at hSw); (have z := PrAt.c0 hSw.1; go_simp)⟩) (by assumption) ?_
    try simp only [List.getElem_toArray, List.getElem_cons_zero, List.getElem_cons_succ, Act.put, List.setIfInBounds_toArray, List.set_cons_zero, List.set_cons_succ]
    refine wpAnyH_take (i := 4) (v := .pointer (some ⟨w.heap.size, 3, none⟩)) rfl (by kernel_rfl) (by kernel_rfl) (by kernel_rfl) (fun _ _ _ h => h) (Or.inl ⟨by rfl, fun W hSw => by (try dsimp only at hSw); go_simp⟩) (by assumption) ?_
    try simp only [List.getElem_toArray, List.getElem_cons_zero, List.getElem_cons_succ, Act.put, List.setIfInBounds_toArray, List.set_cons_zero, List.set_cons_succ]
    refine wpAnyH_take (i := 5) (v := .int .u32 o.ino) rfl (by kernel_rfl) (by kernel_rfl) (by kernel_rfl) (fun _ _ _ h => h) (Or.inl ⟨by rfl, fun W hSw => by (try dsimp only at hSw); (have z := hSw.2.c3; go_simp)⟩) (by assumption) ?_
    try simp only [List.getElem_toArray, List.getElem_cons_zero, List.getElem_cons_succ, Act.put, List.setIfInBounds_toArray, List.set_cons_zero, List.set_cons_succ]
    refine wpAnyH_take (i := 6) (v := .pointer (some ⟨w.heap.size, 1, none⟩)) rfl (by kernel_rfl) (by kernel_rfl) (by kernel_rfl) (fun _ _ _ h => h) (Or.inl ⟨by rfl, fun W hSw => by (try dsimp only at hSw); go_simp⟩) (by assumption) ?_
    try simp only [List.getElem_toArray, List.getElem_cons_zero, List.getElem_cons_succ, Act.put, List.setIfInBounds_toArray, List.set_cons_zero, List.set_cons_succ]
    refine wpAnyH_take (i := 7) (v := .int .i64 o.off) rfl (by kernel_rfl) (by kernel_rfl) (by kernel_rfl) (fun _ _ _ h => h) (Or.inl ⟨by rfl, fun W hSw => by (try dsimp only at hSw); (have z := hSw.2.c1; go_simp)⟩) (by assumption) ?_
    try simp only [List.getElem_toArray, List.getElem_cons_zero, List.getElem_cons_succ, Act.put, List.setIfInBounds_toArray, List.set_cons_zero, List.set_cons_succ]
    refine wpAnyH_take (i := 8) (v := .pointer (some ⟨w.heap.size, 4, none⟩)) rfl (by kernel_rfl) (by kernel_rfl) (by kernel_rfl) (fun _ _ _ h => h) (Or.inl ⟨by rfl, fun W hSw => by (try dsimp only at hSw); go_simp⟩) (by assumption) ?_
    try simp only [List.getElem_toArray, List.getElem_cons_zero, List.getElem_cons_succ, Act.put, List.setIfInBounds_toArray, List.set_cons_zero, List.set_cons_succ]
    refine wpAnyH_take (i := 9) (v := .string o.data) rfl (by kernel_rfl) (by kernel_rfl) (by kernel_rfl) (fun _ _ _ h => h) (Or.inl ⟨by rfl, fun W hSw => by (try dsimp only at hSw); (have z := hSw.2.c4; go_simp)⟩) (by assumption) ?_
    try simp only [List.getElem_toArray, List.getElem_cons_zero, List.getElem_cons_succ, Act.put, List.setIfInBounds_toArray, List.set_cons_zero, List.set_cons_succ]
    refine wpAnyH_ready (rs := [10]) (by kernel_rfl) (by simp) ?_
    refine AllReadyH.cons rfl (fun K hK => ?_) AllReadyH.nil
    go_simp
    go_wp2_with (go_at_call 14; refine cw.mono ?_; rintro e w2 ⟨rfl, hb2⟩)
    have hb2 : SgOut B w1.drew a X (wrX s o.ino o.off o.data).1 w2 := hb2
    have HO : Hid (SgOut B w a X _ w2) := SgOut.pre HB1.out.drew hb2
    refine hK.out _ _ ⟨hb2.sole.row hHeld.1 HNX.out.1, hb2.sole.row (show w1.drew.heap[w.heap.size]? = some (.cells (eopC o) 30 (0, 0)) from hHeld.2) HNX.out.2⟩ (fun hHeld2 => ?_)
    clear hK K cw
    try simp only [List.getElem_toArray, List.getElem_cons_zero, List.getElem_cons_succ, Act.put, List.setIfInBounds_toArray, List.set_cons_zero, List.set_cons_succ]
    refine wpAnyH_take (i := 11) (v := .string ⟨#[]⟩) rfl (by kernel_rfl) (by kernel_rfl) (by kernel_rfl) (fun _ _ _ h => h) (Or.inl ⟨by rfl, fun W hSw => by (try dsimp only at hSw); go_simp⟩) (by assumption) ?_
    try simp only [List.getElem_toArray, List.getElem_cons_zero, List.getElem_cons_succ, Act.put, List.setIfInBounds_toArray, List.set_cons_zero, List.set_cons_succ]
    refine wpAnyH_take (i := 12) (v := .int .i64 (wrX s o.ino o.off o.data).2) rfl (by kernel_rfl) (by kernel_rfl) (by kernel_rfl) (fun _ _ _ h => h) (Or.inl ⟨by rfl, fun W hSw => by (try dsimp only at hSw); go_simp⟩) (by assumption) ?_
    try simp only [List.getElem_toArray, List.getElem_cons_zero, List.getElem_cons_succ, Act.put, List.setIfInBounds_toArray, List.set_cons_zero, List.set_cons_succ]
    refine wpAnyH_done (by kernel_rfl) ?_ _
    refine NoPanic.normal ?_
    clear hHeld hHeld2 hb2 hS0
    go_wp2
    go_ret2
    exact ⟨by rw [HE.out]; first | done | rfl, by rw [HE.out]; exact HO.out⟩
  by_cases e2 : f0 = 2
  · subst e2
    have HE : Hid (R = ((trX s o.ino o.n).1, ⟨#[]⟩, (trX s o.ino o.n).2)) := by unfold Hid; rw [HR.out, if_neg (by rw [HF0.out]; decide), if_pos HF0.out]
    clear HR cw cr HF0
    rw [hf0] at hw1 ⊢
    clear hf0
    have hS0 : PrAt w1.drew pp a x ∧ EoRow w1.drew w.heap.size o := ⟨HP1.out, HO1.out⟩
    go_enter Tryz.func22, Tryz.ntmps22
    go_wp2_with fail
    refine wp_region_noPanic ?_
    refine wp_region_held_drew (S := fun W => PrAt W pp a x ∧ EoRow W w.heap.size o) (by kernel_rfl) hS0 (fun hHeld => ?_)
    refine wpAnyH_take (i := 0) (v := .pointer (some ⟨pp, 0, none⟩)) rfl (by kernel_rfl) (by kernel_rfl) (by kernel_rfl) (fun _ _ _ h => h) (Or.inl ⟨by rfl, fun W hSw => by (try dsimp only at hSw); go_simp⟩) (by assumption) ?_
    try simp only [List.getElem_toArray, List.getElem_cons_zero, List.getElem_cons_succ, Act.put, List.setIfInBounds_toArray, List.set_cons_zero, List.set_cons_succ]
    refine wpAnyH_take (i := 1) (v := .pointer (some ⟨pp, 0, none⟩)) rfl (by kernel_rfl) (by kernel_rfl) (by kernel_rfl) (fun _ _ _ h => h) (Or.inl ⟨by rfl, fun W hSw => by (try dsimp only at hSw); go_simp⟩) (by assumption) ?_
    try simp only [List.getElem_toArray, List.getElem_cons_zero, List.getElem_cons_succ, Act.put, List.setIfInBounds_toArray, List.set_cons_zero, List.set_cons_succ]
    refine wpAnyH_take (i := 2) (v := .pointer (some ⟨pp, 0, none⟩)) rfl (by kernel_rfl) (by kernel_rfl) (by kernel_rfl) (fun _ _ _ h => h) (Or.inl ⟨by rfl, fun W hSw => by (try dsimp only at hSw); go_simp⟩) (by assumption) ?_
    try simp only [List.getElem_toArray, List.getElem_cons_zero, List.getElem_cons_succ, Act.put, List.setIfInBounds_toArray, List.set_cons_zero, List.set_cons_succ]
    refine wpAnyH_take (i := 3) (v := .pointer (some ⟨a.s, 0, none⟩)) rfl (by kernel_rfl) (by kernel_rfl) (by kernel_rfl) (fun _ _ _ h => h) (Or.inl ⟨by rfl, fun W hSw => by (try dsimp only at hSw); (have z := PrAt.c0 hSw.1; go_simp)⟩) (by assumption) ?_
    try simp only [List.getElem_toArray, List.getElem_cons_zero, List.getElem_cons_succ, Act.put, List.setIfInBounds_toArray, List.set_cons_zero, List.set_cons_succ]
    refine wpAnyH_take (i := 4) (v := .pointer (some ⟨w.heap.size, 3, none⟩)) rfl (by kernel_rfl) (by kernel_rfl) (by kernel_rfl) (fun _ _ _ h => h) (Or.inl ⟨by rfl, fun W hSw => by (try dsimp only at hSw); go_simp⟩) (by assumption) ?_
    try simp only [List.getElem_toArray, List.getElem_cons_zero, List.getElem_cons_succ, Act.put, List.setIfInBounds_toArray, List.set_cons_zero, List.set_cons_succ]
    refine wpAnyH_take (i := 5) (v := .int .u32 o.ino) rfl (by kernel_rfl) (by kernel_rfl) (by kernel_rfl) (fun _ _ _ h => h) (Or.inl ⟨by rfl, fun W hSw => by (try dsimp only at hSw); (have z := hSw.2.c3; go_simp)⟩) (by assumption) ?_
    try simp only [List.getElem_toArray, List.getElem_cons_zero, List.getElem_cons_succ, Act.put, List.setIfInBounds_toArray, List.set_cons_zero, List.set_cons_succ]
    refine wpAnyH_take (i := 6) (v := .pointer (some ⟨w.heap.size, 2, none⟩)) rfl (by kernel_rfl) (by kernel_rfl) (by kernel_rfl) (fun _ _ _ h => h) (Or.inl ⟨by rfl, fun W hSw => by (try dsimp only at hSw); go_simp⟩) (by assumption) ?_
    try simp only [List.getElem_toArray, List.getElem_cons_zero, List.getElem_cons_succ, Act.put, List.setIfInBounds_toArray, List.set_cons_zero, List.set_cons_succ]
    refine wpAnyH_take (i := 7) (v := .int .i64 o.n) rfl (by kernel_rfl) (by kernel_rfl) (by kernel_rfl) (fun _ _ _ h => h) (Or.inl ⟨by rfl, fun W hSw => by (try dsimp only at hSw); (have z := hSw.2.c2; go_simp)⟩) (by assumption) ?_
    try simp only [List.getElem_toArray, List.getElem_cons_zero, List.getElem_cons_succ, Act.put, List.setIfInBounds_toArray, List.set_cons_zero, List.set_cons_succ]
    refine wpAnyH_ready (rs := [8]) (by kernel_rfl) (by simp) ?_
    refine AllReadyH.cons rfl (fun K hK => ?_) AllReadyH.nil
    go_simp
    go_wp2_with (go_at_call 15; refine ct.mono ?_; rintro e w2 ⟨rfl, hb2⟩)
    have hb2 : SgOut B w1.drew a X (trX s o.ino o.n).1 w2 := hb2
    have HO : Hid (SgOut B w a X _ w2) := SgOut.pre HB1.out.drew hb2
    refine hK.out _ _ ⟨hb2.sole.row hHeld.1 HNX.out.1, hb2.sole.row (show w1.drew.heap[w.heap.size]? = some (.cells (eopC o) 30 (0, 0)) from hHeld.2) HNX.out.2⟩ (fun hHeld2 => ?_)
    clear hK K ct
    try simp only [List.getElem_toArray, List.getElem_cons_zero, List.getElem_cons_succ, Act.put, List.setIfInBounds_toArray, List.set_cons_zero, List.set_cons_succ]
    refine wpAnyH_take (i := 9) (v := .string ⟨#[]⟩) rfl (by kernel_rfl) (by kernel_rfl) (by kernel_rfl) (fun _ _ _ h => h) (Or.inl ⟨by rfl, fun W hSw => by (try dsimp only at hSw); go_simp⟩) (by assumption) ?_
    try simp only [List.getElem_toArray, List.getElem_cons_zero, List.getElem_cons_succ, Act.put, List.setIfInBounds_toArray, List.set_cons_zero, List.set_cons_succ]
    refine wpAnyH_take (i := 10) (v := .int .i64 (trX s o.ino o.n).2) rfl (by kernel_rfl) (by kernel_rfl) (by kernel_rfl) (fun _ _ _ h => h) (Or.inl ⟨by rfl, fun W hSw => by (try dsimp only at hSw); go_simp⟩) (by assumption) ?_
    try simp only [List.getElem_toArray, List.getElem_cons_zero, List.getElem_cons_succ, Act.put, List.setIfInBounds_toArray, List.set_cons_zero, List.set_cons_succ]
    refine wpAnyH_done (by kernel_rfl) ?_ _
    refine NoPanic.normal ?_
    clear hHeld hHeld2 hb2 hS0
    go_wp2
    go_ret2
    exact ⟨by rw [HE.out]; first | done | rfl, by rw [HE.out]; exact HO.out⟩
  · have HE : Hid (R = rdX s o.ino o.off o.n) := by unfold Hid; rw [HR.out, if_neg (by rw [HF0.out]; exact e1), if_neg (by rw [HF0.out]; exact e2)]
    clear HR cw ct HF0
    rw [hf0] at hw1 ⊢
    clear hf0
    have e1b : (f0 == 1) = false := by simpa using e1
    have e2b : (f0 == 2) = false := by simpa using e2
    have hS0 : PrAt w1.drew pp a x ∧ EoRow w1.drew w.heap.size o := ⟨HP1.out, HO1.out⟩
    go_enter Tryz.func22, Tryz.ntmps22
    go_wp2_with fail
    refine wp_region_noPanic ?_
    refine wp_region_held_drew (S := fun W => PrAt W pp a x ∧ EoRow W w.heap.size o) (by kernel_rfl) hS0 (fun hHeld => ?_)
    refine wpAnyH_take (i := 0) (v := .pointer (some ⟨pp, 0, none⟩)) rfl (by kernel_rfl) (by kernel_rfl) (by kernel_rfl) (fun _ _ _ h => h) (Or.inl ⟨by rfl, fun W hSw => by (try dsimp only at hSw); go_simp⟩) (by assumption) ?_
    try simp only [List.getElem_toArray, List.getElem_cons_zero, List.getElem_cons_succ, Act.put, List.setIfInBounds_toArray, List.set_cons_zero, List.set_cons_succ]
    refine wpAnyH_take (i := 1) (v := .pointer (some ⟨pp, 0, none⟩)) rfl (by kernel_rfl) (by kernel_rfl) (by kernel_rfl) (fun _ _ _ h => h) (Or.inl ⟨by rfl, fun W hSw => by (try dsimp only at hSw); go_simp⟩) (by assumption) ?_
    try simp only [List.getElem_toArray, List.getElem_cons_zero, List.getElem_cons_succ, Act.put, List.setIfInBounds_toArray, List.set_cons_zero, List.set_cons_succ]
    refine wpAnyH_take (i := 2) (v := .pointer (some ⟨pp, 0, none⟩)) rfl (by kernel_rfl) (by kernel_rfl) (by kernel_rfl) (fun _ _ _ h => h) (Or.inl ⟨by rfl, fun W hSw => by (try dsimp only at hSw); go_simp⟩) (by assumption) ?_
    try simp only [List.getElem_toArray, List.getElem_cons_zero, List.getElem_cons_succ, Act.put, List.setIfInBounds_toArray, List.set_cons_zero, List.set_cons_succ]
    refine wpAnyH_take (i := 3) (v := .pointer (some ⟨a.s, 0, none⟩)) rfl (by kernel_rfl) (by kernel_rfl) (by kernel_rfl) (fun _ _ _ h => h) (Or.inl ⟨by rfl, fun W hSw => by (try dsimp only at hSw); (have z := PrAt.c0 hSw.1; go_simp)⟩) (by assumption) ?_
    try simp only [List.getElem_toArray, List.getElem_cons_zero, List.getElem_cons_succ, Act.put, List.setIfInBounds_toArray, List.set_cons_zero, List.set_cons_succ]
    refine wpAnyH_take (i := 4) (v := .pointer (some ⟨w.heap.size, 3, none⟩)) rfl (by kernel_rfl) (by kernel_rfl) (by kernel_rfl) (fun _ _ _ h => h) (Or.inl ⟨by rfl, fun W hSw => by (try dsimp only at hSw); go_simp⟩) (by assumption) ?_
    try simp only [List.getElem_toArray, List.getElem_cons_zero, List.getElem_cons_succ, Act.put, List.setIfInBounds_toArray, List.set_cons_zero, List.set_cons_succ]
    refine wpAnyH_take (i := 5) (v := .int .u32 o.ino) rfl (by kernel_rfl) (by kernel_rfl) (by kernel_rfl) (fun _ _ _ h => h) (Or.inl ⟨by rfl, fun W hSw => by (try dsimp only at hSw); (have z := hSw.2.c3; go_simp)⟩) (by assumption) ?_
    try simp only [List.getElem_toArray, List.getElem_cons_zero, List.getElem_cons_succ, Act.put, List.setIfInBounds_toArray, List.set_cons_zero, List.set_cons_succ]
    refine wpAnyH_take (i := 6) (v := .pointer (some ⟨w.heap.size, 1, none⟩)) rfl (by kernel_rfl) (by kernel_rfl) (by kernel_rfl) (fun _ _ _ h => h) (Or.inl ⟨by rfl, fun W hSw => by (try dsimp only at hSw); go_simp⟩) (by assumption) ?_
    try simp only [List.getElem_toArray, List.getElem_cons_zero, List.getElem_cons_succ, Act.put, List.setIfInBounds_toArray, List.set_cons_zero, List.set_cons_succ]
    refine wpAnyH_take (i := 7) (v := .int .i64 o.off) rfl (by kernel_rfl) (by kernel_rfl) (by kernel_rfl) (fun _ _ _ h => h) (Or.inl ⟨by rfl, fun W hSw => by (try dsimp only at hSw); (have z := hSw.2.c1; go_simp)⟩) (by assumption) ?_
    try simp only [List.getElem_toArray, List.getElem_cons_zero, List.getElem_cons_succ, Act.put, List.setIfInBounds_toArray, List.set_cons_zero, List.set_cons_succ]
    refine wpAnyH_take (i := 8) (v := .pointer (some ⟨w.heap.size, 2, none⟩)) rfl (by kernel_rfl) (by kernel_rfl) (by kernel_rfl) (fun _ _ _ h => h) (Or.inl ⟨by rfl, fun W hSw => by (try dsimp only at hSw); go_simp⟩) (by assumption) ?_
    try simp only [List.getElem_toArray, List.getElem_cons_zero, List.getElem_cons_succ, Act.put, List.setIfInBounds_toArray, List.set_cons_zero, List.set_cons_succ]
    refine wpAnyH_take (i := 9) (v := .int .i64 o.n) rfl (by kernel_rfl) (by kernel_rfl) (by kernel_rfl) (fun _ _ _ h => h) (Or.inl ⟨by rfl, fun W hSw => by (try dsimp only at hSw); (have z := hSw.2.c2; go_simp)⟩) (by assumption) ?_
    try simp only [List.getElem_toArray, List.getElem_cons_zero, List.getElem_cons_succ, Act.put, List.setIfInBounds_toArray, List.set_cons_zero, List.set_cons_succ]
    refine wpAnyH_ready (rs := [10]) (by kernel_rfl) (by simp) ?_
    refine AllReadyH.cons rfl (fun K hK => ?_) AllReadyH.nil
    go_simp
    go_wp2_with (go_at_call 17; refine cr.mono ?_; rintro e w2 ⟨rfl, hb2⟩)
    have hb2 : SgOut B w1.drew a X (rdX s o.ino o.off o.n).1 w2 := hb2
    have HO : Hid (SgOut B w a X _ w2) := SgOut.pre HB1.out.drew hb2
    refine hK.out _ _ ⟨hb2.sole.row hHeld.1 HNX.out.1, hb2.sole.row (show w1.drew.heap[w.heap.size]? = some (.cells (eopC o) 30 (0, 0)) from hHeld.2) HNX.out.2⟩ (fun hHeld2 => ?_)
    clear hK K cr
    try simp only [List.getElem_toArray, List.getElem_cons_zero, List.getElem_cons_succ, Act.put, List.setIfInBounds_toArray, List.set_cons_zero, List.set_cons_succ]
    refine wpAnyH_take (i := 11) (v := .string (rdX s o.ino o.off o.n).2.1) rfl (by kernel_rfl) (by kernel_rfl) (by kernel_rfl) (fun _ _ _ h => h) (Or.inl ⟨by rfl, fun W hSw => by (try dsimp only at hSw); go_simp⟩) (by assumption) ?_
    try simp only [List.getElem_toArray, List.getElem_cons_zero, List.getElem_cons_succ, Act.put, List.setIfInBounds_toArray, List.set_cons_zero, List.set_cons_succ]
    refine wpAnyH_take (i := 12) (v := .int .i64 (rdX s o.ino o.off o.n).2.2) rfl (by kernel_rfl) (by kernel_rfl) (by kernel_rfl) (fun _ _ _ h => h) (Or.inl ⟨by rfl, fun W hSw => by (try dsimp only at hSw); go_simp⟩) (by assumption) ?_
    try simp only [List.getElem_toArray, List.getElem_cons_zero, List.getElem_cons_succ, Act.put, List.setIfInBounds_toArray, List.set_cons_zero, List.set_cons_succ]
    refine wpAnyH_take (i := 13) (v := .string (rdX s o.ino o.off o.n).2.1) rfl (by kernel_rfl) (by kernel_rfl) (by kernel_rfl) (fun _ _ _ h => h) (Or.inl ⟨by rfl, fun W hSw => by (try dsimp only at hSw); go_simp⟩) (by assumption) ?_
    try simp only [List.getElem_toArray, List.getElem_cons_zero, List.getElem_cons_succ, Act.put, List.setIfInBounds_toArray, List.set_cons_zero, List.set_cons_succ]
    refine wpAnyH_take (i := 14) (v := .int .i64 (rdX s o.ino o.off o.n).2.2) rfl (by kernel_rfl) (by kernel_rfl) (by kernel_rfl) (fun _ _ _ h => h) (Or.inl ⟨by rfl, fun W hSw => by (try dsimp only at hSw); go_simp⟩) (by assumption) ?_
    try simp only [List.getElem_toArray, List.getElem_cons_zero, List.getElem_cons_succ, Act.put, List.setIfInBounds_toArray, List.set_cons_zero, List.set_cons_succ]
    refine wpAnyH_done (by kernel_rfl) ?_ _
    refine NoPanic.normal ?_
    clear hHeld hHeld2 hb2 hS0
    go_wp2
    go_ret2
    exact ⟨by rw [HE.out]; first | done | rfl, by rw [HE.out]; exact HO.out⟩

end Go.Proofs.YtjjhfginmamlkaaGreat.L
