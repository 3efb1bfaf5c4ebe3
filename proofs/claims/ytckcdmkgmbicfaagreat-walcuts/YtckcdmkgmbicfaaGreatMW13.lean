/- WStepA, WStepB, WStepC, WStepD, WStepE, WStep: in one text. -/
import Derived.Test.YtckcdmkgmbicfaaGreatMW11
import Derived.Test.YtckcdmkgmbicfaaGreatMW12
import Derived.Deep.RegionHeld3
import Derived.Test.YtckcdmkgmbicfaaGreatWOps
namespace Go.Proofs.YtckcdmkgmbicfaaGreat
open Go.RowKit
set_option linter.unusedVariables false
set_option linter.unusedSimpArgs false
set_option maxRecDepth 4000

/-- A log, and the document's of the same records. -/
structure Both (B : Nat) (w : World) (q p : Nat) (f : Int) (N : Nat) (arm : Bool) (nx dn : Nat) (rs : List Rc) (x : Nat) (BX : List Nat) : Prop where
  log : LogV B (x :: BX) w q p f N arm nx dn rs
  ref : LgAt w x BX ⟨rs, dn, N, nx⟩
  shorts : ∀ r ∈ rs, longB r.grp = false
  lx : B ≤ x
  n1 : N ≤ 1000

theorem Both.lt {B : Nat} {w : World} {q p : Nat} {f : Int} {N : Nat} {arm : Bool} {nx dn : Nat} {rs : List Rc} {x : Nat} {BX : List Nat} (h : Both B w q p f N arm nx dn rs x BX) : B ≤ w.heap.size ∧ x < w.heap.size ∧ ∀ k ∈ BX, k < w.heap.size := by
  obtain ⟨s, l, T, K, New, G, D, h1, _⟩ := h.log
  exact ⟨h1.sz, h1.xs x List.mem_cons_self, fun k hk => h1.xs k (List.mem_cons_of_mem _ hk)⟩
theorem Both.ok {B : Nat} {w : World} {q p : Nat} {f : Int} {N : Nat} {arm : Bool} {nx dn : Nat} {rs : List Rc} {x : Nat} {BX : List Nat} (h : Both B w q p f N arm nx dn rs x BX) (hnx : nx ≤ 4611686018427387904) : LgOk ⟨rs, dn, N, nx⟩ := by
  obtain ⟨h1, h2, h3, _⟩ := h.log.lens
  have := h.n1
  exact ⟨by show nx ≤ _; omega, fun r hr => by have := h3 r hr; omega, h1, h.n1, by show rs.length ≤ _; omega⟩
theorem Both.below {B : Nat} {w w' : World} {q p : Nat} {f : Int} {N : Nat} {arm : Bool} {nx dn : Nat} {rs : List Rc} {x : Nat} {BX : List Nat} (h : Both B w q p f N arm nx dn rs x BX) (hb : Below w.heap.size w w') : Both B w' q p f N arm nx dn rs x BX := by
  obtain ⟨l1, l2, l3⟩ := h.lt
  exact ⟨h.log.below hb _ (fun k hk => ⟨.inl hk, by rcases List.mem_cons.1 hk with rfl | hk; exact Nat.lt_of_lt_of_le l2 hb.size; exact Nat.lt_of_lt_of_le (l3 k hk) hb.size⟩), h.ref.keep hb.size (hb.block x l2) (fun k hk hl => hb.block k hl), h.shorts, h.lx, h.n1⟩
/-- Behind a call on the log alone. -/
theorem LgAt.keepX {B : Nat} {X : List Nat} {w w' : World} {x : Nat} {BX : List Nat} {s : Lg} (h : LgAt w x BX s) (hk : KeepX B X w w') (hx : x ∈ X) (hl : x < w.heap.size) (hB : ∀ k ∈ BX, k ∈ X) : LgAt w' x BX s :=
  h.keep hk.size (hk.block x hl (.inr hx)) (fun k hkk hlt => hk.block k hlt (.inr (hB k hkk)))

theorem ref_type {w : World} {x : Nat} {BX : List Nat} {s : Lg} (h : LgAt w x BX s) : ∀ k ∈ [x], ∃ cs t fr, w.heap[k]? = some (.cells cs t fr) ∧ t ≠ 69 ∧ t ≠ 77 ∧ t ≠ 94 ∧ t ≠ 84 ∧ t ≠ 3 := fun k hk => by
  simp only [List.mem_singleton] at hk
  subst hk
  obtain ⟨v, hv, _⟩ := h.body
  exact ⟨_, _, _, hv, by decide, by decide, by decide, by decide, by decide⟩

/-- What a step leaves: the answers are the same, or the power was cut on the way; more: what would be there besides. -/
def StepOut (B : Nat) (w w' : World) (q p : Nat) (f : Int) (N : Nat) (arm : Bool) (nx dn : Nat) (rs : List Rc) (x : Nat) (BX : List Nat) (more : List Rc) (e : Ending) : Prop :=
  Below B w w' ∧ (∀ k ∈ BX, w'.heap[k]? = w.heap[k]?) ∧
  ((e = .returned (.bool true) ∧ ∃ nx' dn' rs' BX', Both B w' q p f N arm nx' dn' rs' x BX' ∧ nx ≤ nx' ∧ nx' ≤ nx + 9 ∧ (∀ k ∈ BX', k ∈ BX ∨ w.heap.size ≤ k)) ∨
   (arm = true ∧ ∃ b k nx' M, e = .returned (.bool b) ∧ M ≤ nx + 9 ∧ dn ≤ k ∧ k ≤ (rs ++ more).length ∧ LeftV B (x :: BX) w' p f N true false M (fromR nx rs) nx' (List.take k (rs ++ more)) ∧ (∃ s', LgAt w' x BX s')))

set_option maxRecDepth 100000 in
set_option maxHeartbeats 8000000 in
theorem step_sync {B : Nat} {w : World} {q p : Nat} {f : Int} {N : Nat} {arm : Bool} {nx dn : Nat} {rs : List Rc} {x : Nat} {BX : List Nat} (h : Both B w q p f N arm nx dn rs x BX) (hnx : nx ≤ 4611686018427380000) (n t : Int) (g : Value) :
    Calls Tryz.prog 17 #[ptrW q, ptrW x, .agg #[.int .i64 1, .int .i64 n, .int .i64 t, g]] w fun e w' => StepOut B w w' q p f N arm nx dn rs x BX [] e := by
  obtain ⟨l1, l2, l3⟩ := h.lt
  obtain ⟨w1, hw1⟩ : ∃ w1, w.alloc (.cells #[.int .i64 1, .int .i64 n, .int .i64 t, g] 44) = w1 := ⟨_, rfl⟩
  have hb1 : Below w.heap.size w w1 := by rw [← hw1]; exact (Below.refl _ w).alloc (Nat.le_refl _) _
  have hr1 : w1.heap[w.heap.size]? = some (.cells #[.int .i64 1, .int .i64 n, .int .i64 t, g] 44 (0, 0)) := by rw [← hw1]; exact heap_alloc_new w _
  have h1 := h.below hb1
  have c0 : w1.cell? ⟨w.heap.size, 0, none⟩ = some (.int .i64 1) := by rw [cell_of_row _ _ 0 _ _ (0, 0) hr1]; rfl
  obtain ⟨m1, m2, m3⟩ := h1.lt
  obtain ⟨v, hrow, hrd⟩ := h1.ref.body
  have HRD : Hid (RdR BX w1 v rs) := hrd
  obtain ⟨ra, rc, hv, _⟩ := hrd
  subst hv
  have x0 : w1.cell? ⟨x, 0, none⟩ = some (.slice ra rs.length rc) := by rw [cell_of_row _ _ 0 _ _ (0, 0) hrow]; rfl
  have x1 : w1.cell? ⟨x, 1, none⟩ = some (.int .i64 dn) := by rw [cell_of_row _ _ 1 _ _ (0, 0) hrow]; rfl
  have f1 := frozen_of_row w1 x 1 _ _ hrow
  have hx2 := heap_setCell_same w1 x 1 _ _ (.int .i64 rs.length) hrow
  obtain ⟨w2, hw2⟩ : ∃ w2, w1.setCell ⟨x, 1, none⟩ (.int .i64 rs.length) = w2 := ⟨_, rfl⟩
  have hS2 : Sole [x] w1 w2 := by rw [← hw2]; exact Sole.setCell _ _ (by simp)
  rw [hw2] at hx2
  have hap := h1.ref.apart
  have href : LgAt w2 x BX ⟨rs, rs.length, N, nx⟩ := ⟨⟨_, hx2, HRD.out.keep hS2.size (fun k hk hl => hS2.block k hl (fun e => by simp only [List.mem_singleton] at e; subst e; exact hap hk))⟩, hap⟩
  have hlog : LogV B (x :: BX) w2 q p f N arm nx dn rs := h1.log.others hS2 (ref_type h1.ref)
  have cs := sync_v hlog
  have HLX : Hid (Both B w q p f N arm nx dn rs x BX) := h
  have HREF : Hid _ := href
  have HK2 : Hid (∀ k ∈ BX, w2.heap[k]? = w.heap[k]?) := fun k hk => (hS2.block k (m3 k hk) (fun e => by simp only [List.mem_singleton] at e; subst e; exact hap hk)).trans (hb1.block k (l3 k hk))
  have HB2 : Hid (Below B w w2) := hS2.belowOf (hb1.mono l1) m1 (fun k hk => by simp only [List.mem_singleton] at hk; subst hk; exact h.lx)
  have s2 := hS2.size
  have s1 := hb1.size
  unfold ptrW at *
  clear h h1 hrow hx2 hS2 href hlog HRD hr1 hb1
  go_enter Tryz.func17, Tryz.ntmps17
  go_wp2_with fail
  (try rw [hw1])
  (try rw [hw2])
  refine cs.mono ?_
  rintro e3 w3 ⟨k3, ⟨rfl, hl3⟩ | ⟨ha, rfl, k, nx', hk1, hk2, hl3⟩⟩
  · have HF : Hid (StepOut B w w3 q p f N arm nx dn rs x BX [] (.returned (.bool true))) := ⟨HB2.out.trans (k3.below (by omega)), (fun k hk => (k3.block k (by have := m3 k hk; omega) (.inr (List.mem_cons_of_mem _ hk))).trans (HK2.out k hk)), .inl ⟨rfl, nx, rs.length, rs, BX, ⟨hl3, HREF.out.keepX k3 List.mem_cons_self (by omega) (fun k hk => List.mem_cons_of_mem _ hk), HLX.out.shorts, HLX.out.lx, HLX.out.n1⟩, Nat.le_refl _, by omega, fun k hk => .inl hk⟩⟩
    clear hl3 k3 cs
    go_wp2
    go_ret
    exact HF.out
  · have HF : Hid (StepOut B w w3 q p f N arm nx dn rs x BX [] (.returned (.bool false))) := ⟨HB2.out.trans (k3.below (by omega)), (fun k hk => (k3.block k (by have := m3 k hk; omega) (.inr (List.mem_cons_of_mem _ hk))).trans (HK2.out k hk)), .inr ⟨ha, false, k, nx', nx, rfl, by omega, hk1, by simpa using hk2, by rw [List.append_nil]; exact hl3, _, HREF.out.keepX k3 List.mem_cons_self (by omega) (fun k hk => List.mem_cons_of_mem _ hk)⟩⟩
    clear hl3 k3 cs
    go_wp2
    go_ret
    exact HF.out

theorem from_both (nx dn N : Nat) (rs : List Rc) : fromL ⟨rs, dn, N, nx⟩ = fromR nx rs := by cases rs <;> rfl

set_option maxRecDepth 100000 in
set_option maxHeartbeats 8000000 in
theorem step_ask {B : Nat} {w : World} {q p : Nat} {f : Int} {N : Nat} {arm : Bool} {nx dn : Nat} {rs : List Rc} {x : Nat} {BX : List Nat} (h : Both B w q p f N arm nx dn rs x BX) (hnx : nx ≤ 4611686018427380000) (d n t : Int) (g : Value) (h0 : d ≠ 0) (h1 : d ≠ 1) (h2 : d ≠ 2) (h4 : d ≠ 4) :
    Calls Tryz.prog 17 #[ptrW q, ptrW x, .agg #[.int .i64 d, .int .i64 n, .int .i64 t, g]] w fun e w' => StepOut B w w' q p f N arm nx dn rs x BX [] e := by
  obtain ⟨l1, l2, l3⟩ := h.lt
  obtain ⟨w1, hw1⟩ : ∃ w1, w.alloc (.cells #[.int .i64 d, .int .i64 n, .int .i64 t, g] 44) = w1 := ⟨_, rfl⟩
  have hb1 : Below w.heap.size w w1 := by rw [← hw1]; exact (Below.refl _ w).alloc (Nat.le_refl _) _
  have hr1 : w1.heap[w.heap.size]? = some (.cells #[.int .i64 d, .int .i64 n, .int .i64 t, g] 44 (0, 0)) := by rw [← hw1]; exact heap_alloc_new w _
  have hh := h.below hb1
  have c0 : w1.cell? ⟨w.heap.size, 0, none⟩ = some (.int .i64 d) := by rw [cell_of_row _ _ 0 _ _ (0, 0) hr1]; rfl
  have e0 : (d == 0) = false := by simpa using h0
  have e1 : (d == 1) = false := by simpa using h1
  have e2 : (d == 2) = false := by simpa using h2
  have e4 : (d == 4) = false := by simpa using h4
  have cf := fun W (hW : Below w1.heap.size w1 W) => from_v (hh.below hW).log
  have cx := fun W (hW : Below w1.heap.size w1 W) => from_any (hh.below hW).ref
  have cn := fun W (hW : Below w1.heap.size w1 W) => next_v (hh.below hW).log
  simp only [from_both] at cx
  have x3 : ∀ W, Below w1.heap.size w1 W → W.cell? ⟨x, 3, none⟩ = some (.int .u64 nx) := fun W hW => by
    obtain ⟨_, _, _, _, _, q3, _⟩ := (hh.below hW).ref.opened
    exact q3
  obtain ⟨FR, hFR⟩ : ∃ FR, fromR nx rs = FR := ⟨_, rfl⟩
  simp only [hFR] at cf cx
  have HH : Hid (Both B w1 q p f N arm nx dn rs x BX) := hh
  have HB : Hid (Below w.heap.size w w1) := hb1
  unfold ptrW at *
  clear h hh hr1 hb1 hFR
  go_enter Tryz.func17, Tryz.ntmps17
  go_wp2_with fail
  (try rw [hw1])
  clear c0 hw1
  refine wp_region_noPanic ?_
  go_region_held (fun W => Below w1.heap.size w1 W) (first | assumption | exact (Below.refl _ _).drew | exact Below.trans (by assumption) (Below.mono (by assumption) (by omega)))
    (first
      | (go_at_call 18; refine (cf _ ?_).mono ?_; (first | exact (Below.refl _ _).drew | assumption); rintro e5 w5 ⟨rfl, rfl⟩)
      | (go_at_call 15; refine (cx _ ?_).mono ?_; (first | exact (Below.refl _ _).drew | assumption); rintro e6 w6 ⟨rfl, rfl⟩)
      | (go_at_call 13; refine (cn _ ?_).mono ?_; (first | exact (Below.refl _ _).drew | assumption); rintro e7 w7 ⟨rfl, rfl⟩))
  refine NoPanic.normal ?_
  have HF : Hid (StepOut B w w1.drew q p f N arm nx dn rs x BX [] (.returned (.bool true))) := ⟨(HB.out.mono l1).drew, (fun k hk => HB.out.block k (l3 k hk)), .inl ⟨rfl, nx, dn, rs, BX, HH.out.below (Below.refl _ _).drew, Nat.le_refl _, by omega, fun k hk => .inl hk⟩⟩
  clear cf cx cn x3
  go_wp2
  go_ret
  exact HF.out

theorem let_both {B : Nat} {w w3 w4 : World} {q p : Nat} {f : Int} {N : Nat} {arm : Bool} {nx dn : Nat} {rs : List Rc} {x : Nat} {BX : List Nat} (h : Both B w q p f N arm nx dn rs x BX) (to : Nat) {e : Ending} (hk : KeepX B (x :: BX) w w3)
    (h3 : if to = nx then e = .returned (.int .i64 0) ∧ LogV B (x :: BX) w3 q p f N arm nx 0 [] else match whichR rs to with
      | some i => e = .returned (.int .i64 0) ∧ LogV B (x :: BX) w3 q p f N arm nx (dn - i) (rs.drop i)
      | none => e = .returned (.int .i64 1) ∧ LogV B (x :: BX) w3 q p f N arm nx dn rs)
    (h4 : LgAt w4 x BX (letF ⟨rs, dn, N, nx⟩ to)) (hS : Sole [x] w3 w4) (href : LgAt w3 x BX ⟨rs, dn, N, nx⟩) : e = .returned (.int .i64 (letE ⟨rs, dn, N, nx⟩ to)) ∧ Below B w w4 ∧ (∀ k ∈ BX, w4.heap[k]? = w.heap[k]?) ∧ ∃ dn' rs', Both B w4 q p f N arm nx dn' rs' x BX := by
  obtain ⟨l1, l2, l3⟩ := h.lt
  have hkeep : ∀ k ∈ BX, w4.heap[k]? = w.heap[k]? := fun k hkk => (hS.block k (Nat.lt_of_lt_of_le (l3 k hkk) hk.size) (fun e => by simp only [List.mem_singleton] at e; subst e; exact href.apart hkk)).trans (hk.block k (l3 k hkk) (.inr (List.mem_cons_of_mem _ hkk)))
  have hb : Below B w w4 := hS.belowOf (hk.below l1) (Nat.le_trans l1 hk.size) (fun k hk => by simp only [List.mem_singleton] at hk; subst hk; exact h.lx)
  unfold letE
  unfold letF at h4
  dsimp only at h4 ⊢
  by_cases hto : to = nx
  · rw [if_pos hto] at h3 h4 ⊢
    exact ⟨h3.1, hb, hkeep, 0, [], h3.2.others hS (ref_type href), h4, (fun r hr => by cases hr), h.lx, h.n1⟩
  · rw [if_neg hto] at h3 h4 ⊢
    cases hw : whichR rs to with
    | some i =>
      rw [hw] at h3 h4
      exact ⟨h3.1, hb, hkeep, dn - i, rs.drop i, h3.2.others hS (ref_type href), h4, fun r hr => h.shorts r (List.mem_of_mem_drop hr), h.lx, h.n1⟩
    | none =>
      rw [hw] at h3 h4
      exact ⟨h3.1, hb, hkeep, dn, rs, h3.2.others hS (ref_type href), h4, h.shorts, h.lx, h.n1⟩

theorem let_e {B : Nat} {w3 : World} {q p : Nat} {f : Int} {N : Nat} {arm : Bool} {nx dn : Nat} {rs : List Rc} {X : List Nat} (to : Nat) {e : Ending}
    (h3 : if to = nx then e = .returned (.int .i64 0) ∧ LogV B X w3 q p f N arm nx 0 [] else match whichR rs to with
      | some i => e = .returned (.int .i64 0) ∧ LogV B X w3 q p f N arm nx (dn - i) (rs.drop i)
      | none => e = .returned (.int .i64 1) ∧ LogV B X w3 q p f N arm nx dn rs) : e = .returned (.int .i64 (letE ⟨rs, dn, N, nx⟩ to)) := by
  unfold letE
  dsimp only
  by_cases hto : to = nx
  · rw [if_pos hto] at h3 ⊢
    exact h3.1
  · rw [if_neg hto] at h3 ⊢
    cases hw : whichR rs to with
    | some i => rw [hw] at h3; exact h3.1
    | none => rw [hw] at h3; exact h3.1

theorem mod_9 (x : Int) (h1 : -9223372036854775808 ≤ x) (h2 : x ≤ 9223372036854775807) : ∃ r : Nat, (wrap64 (x.tmod 9 + 9)).tmod 9 = (r : Int) ∧ r < 9 := by
  have t1 := Int.tmod_lt_of_pos x (show (0 : Int) < 9 by decide)
  have t2 := Int.lt_tmod_of_pos x (show (0 : Int) < 9 by decide)
  have e : wrap64 (x.tmod 9 + 9) = x.tmod 9 + 9 := by unfold wrap64; omega
  rw [e, Int.tmod_eq_emod_of_nonneg (by omega)]
  have p1 := Int.emod_nonneg (x.tmod 9 + 9) (show (9 : Int) ≠ 0 by decide)
  have p2 := Int.emod_lt_of_pos (x.tmod 9 + 9) (show (0 : Int) < 9 by decide)
  exact ⟨((x.tmod 9 + 9) % 9).toNat, by omega, by omega⟩

set_option maxRecDepth 100000 in
set_option maxHeartbeats 8000000 in
theorem step_let {B : Nat} {w : World} {q p : Nat} {f : Int} {N : Nat} {arm : Bool} {nx dn : Nat} {rs : List Rc} {x : Nat} {BX : List Nat} (h : Both B w q p f N arm nx dn rs x BX) (hnx : nx ≤ 4611686018427380000) (n t : Int) (hn0 : -9223372036854775808 ≤ n) (hn1 : n ≤ 9223372036854775807) (g : Value) :
    Calls Tryz.prog 17 #[ptrW q, ptrW x, .agg #[.int .i64 2, .int .i64 n, .int .i64 t, g]] w fun e w' => StepOut B w w' q p f N arm nx dn rs x BX [] e := by
  obtain ⟨l1, l2, l3⟩ := h.lt
  obtain ⟨k, hkk, hk9⟩ := mod_9 n hn0 hn1
  obtain ⟨w1, hw1⟩ : ∃ w1, w.alloc (.cells #[.int .i64 2, .int .i64 n, .int .i64 t, g] 44) = w1 := ⟨_, rfl⟩
  have hb1 : Below w.heap.size w w1 := by rw [← hw1]; exact (Below.refl _ w).alloc (Nat.le_refl _) _
  have hr1 : w1.heap[w.heap.size]? = some (.cells #[.int .i64 2, .int .i64 n, .int .i64 t, g] 44 (0, 0)) := by rw [← hw1]; exact heap_alloc_new w _
  have hh := h.below hb1
  have c0 : w1.cell? ⟨w.heap.size, 0, none⟩ = some (.int .i64 2) := by rw [cell_of_row _ _ 0 _ _ (0, 0) hr1]; rfl
  have c1 : w1.cell? ⟨w.heap.size, 1, none⟩ = some (.int .i64 n) := by rw [cell_of_row _ _ 1 _ _ (0, 0) hr1]; rfl
  obtain ⟨ra, rc, q0, _, _, q3, hx1, hrc, hrc2, _, hrd, _⟩ := hh.ref.opened
  have q0 : w1.cell? ⟨x, 0, none⟩ = some (.slice ra rs.length rc) := q0
  have q3 : w1.cell? ⟨x, 3, none⟩ = some (.int .u64 nx) := q3
  have hrc : rs.length ≤ rc := hrc
  have hok := hh.ok (by omega)
  have HKK : Hid _ := hkk
  have HH : Hid (Both B w1 q p f N arm nx dn rs x BX) := hh
  have HB : Hid (Below w.heap.size w w1) := hb1
  have s1 := hb1.size
  have hlen : rs.length ≤ 1000 := by have := hh.log.lens.2.1; have := hh.n1; omega
  have HOK : Hid (LgOk ⟨rs, dn, N, nx⟩) := hok
  have HH2 := HH
  have HKP : Hid (∀ k ∈ BX, w1.heap[k]? = w.heap[k]?) := fun k hk => hb1.block k (l3 k hk)
  have HB2 : Hid (Below B w w1) := HB.out.mono l1
  by_cases hlt : k < rs.length
  · have hltI : (k : Int) < rs.length := by omega
    obtain ⟨ra', rc', hv, _, _, _, hrow⟩ := hrd
    simp only [Value.slice.injEq] at hv
    obtain ⟨rfl, _, rfl⟩ := hv
    obtain ⟨b, off, rfl, hbl, _, hcell⟩ := hrow (by show 0 < rs.length; omega)
    obtain ⟨y0, _⟩ := hcell k rs[k] (List.getElem?_eq_getElem hlt)
    have hnum := hok.nums rs[k] (List.getElem_mem hlt)
    generalize rs[k].num = TO at *
    have cl := let_v HH.out.log (by omega) TO
    unfold ptrW at *
    clear h hh hr1 hb1 hrow hcell hok
    go_enter Tryz.func17, Tryz.ntmps17
    go_wp2_with fail
    (try rw [hw1])
    clear y0 q0 q3 c0 c1
    refine cl.mono ?_
    rintro e3 w3 ⟨k3, h3⟩
    clear cl
    obtain rfl := let_e (dn := dn) _ h3
    have H3 : Hid _ := h3
    have K3 : Hid (KeepX B (x :: BX) w1 w3) := k3
    have HREF : Hid (LgAt w3 x BX ⟨rs, dn, N, nx⟩) := HH2.out.ref.keepX k3 List.mem_cons_self (by omega) (fun k hk => List.mem_cons_of_mem _ hk)
    have cx := let_any HREF.out HOK.out TO (hnum)
    obtain ⟨LE, hLE⟩ : ∃ LE, letE ⟨rs, dn, N, nx⟩ TO = LE := ⟨_, rfl⟩
    rw [hLE] at cx ⊢
    rw [hLE] at H3
    unfold ptrW at cx
    clear h3 k3
    go_wp2_with fail
    refine cx.mono ?_
    rintro e4 w4 ⟨rfl, h4, hS4⟩
    clear cx
    obtain ⟨_, hb4, hkp4, dn', rs', hboth⟩ := let_both HH2.out _ K3.out H3.out h4 hS4 HREF.out
    have HF : Hid (StepOut B w w4 q p f N arm nx dn rs x BX [] (.returned (.bool true))) := ⟨HB2.out.trans hb4, (fun k hk => (hkp4 k hk).trans (HKP.out k hk)), .inl ⟨rfl, nx, dn', rs', BX, hboth, Nat.le_refl _, by omega, fun k hk => .inl hk⟩⟩
    clear hboth hb4 hkp4 hS4 h4 H3 K3 HREF
    go_wp2
    go_ret
    exact HF.out
  · have hltI : ¬ (k : Int) < rs.length := by omega
    unfold ptrW at *
    clear h hh hr1 hb1 hrd hok
    go_enter Tryz.func17, Tryz.ntmps17
    go_wp2_with fail
    (try rw [hw1])
    clear q0 q3 c0 c1
    have cl := let_v HH.out.log (by omega) nx
    refine cl.mono ?_
    rintro e3 w3 ⟨k3, h3⟩
    clear cl
    obtain rfl := let_e (dn := dn) _ h3
    have H3 : Hid _ := h3
    have K3 : Hid (KeepX B (x :: BX) w1 w3) := k3
    have HREF : Hid (LgAt w3 x BX ⟨rs, dn, N, nx⟩) := HH2.out.ref.keepX k3 List.mem_cons_self (by omega) (fun k hk => List.mem_cons_of_mem _ hk)
    have cx := let_any HREF.out HOK.out nx (by omega)
    obtain ⟨LE, hLE⟩ : ∃ LE, letE ⟨rs, dn, N, nx⟩ nx = LE := ⟨_, rfl⟩
    rw [hLE] at cx ⊢
    rw [hLE] at H3
    unfold ptrW at cx
    clear h3 k3
    go_wp2_with fail
    refine cx.mono ?_
    rintro e4 w4 ⟨rfl, h4, hS4⟩
    clear cx
    obtain ⟨_, hb4, hkp4, dn', rs', hboth⟩ := let_both HH2.out _ K3.out H3.out h4 hS4 HREF.out
    have HF : Hid (StepOut B w w4 q p f N arm nx dn rs x BX [] (.returned (.bool true))) := ⟨HB2.out.trans hb4, (fun k hk => (hkp4 k hk).trans (HKP.out k hk)), .inl ⟨rfl, nx, dn', rs', BX, hboth, Nat.le_refl _, by omega, fun k hk => .inl hk⟩⟩
    clear hboth hb4 hkp4 hS4 h4 H3 K3 HREF
    go_wp2
    go_ret
    exact HF.out

set_option maxRecDepth 100000 in
set_option maxHeartbeats 8000000 in
theorem step_none {B : Nat} {w : World} {q p : Nat} {f : Int} {N : Nat} {arm : Bool} {nx dn : Nat} {rs : List Rc} {x : Nat} {BX : List Nat} (h : Both B w q p f N arm nx dn rs x BX) (hnx : nx ≤ 4611686018427380000) (n t : Int) (hn0 : -9223372036854775808 ≤ n) (hn1 : n ≤ 9223372036854775807) (g : Value) :
    Calls Tryz.prog 17 #[ptrW q, ptrW x, .agg #[.int .i64 4, .int .i64 n, .int .i64 t, g]] w fun e w' => StepOut B w w' q p f N arm nx dn rs x BX [] e := by
  obtain ⟨l1, l2, l3⟩ := h.lt
  obtain ⟨k, hkk, hk9⟩ := mod_9 n hn0 hn1
  obtain ⟨w1, hw1⟩ : ∃ w1, w.alloc (.cells #[.int .i64 4, .int .i64 n, .int .i64 t, g] 44) = w1 := ⟨_, rfl⟩
  have hb1 : Below w.heap.size w w1 := by rw [← hw1]; exact (Below.refl _ w).alloc (Nat.le_refl _) _
  have hr1 : w1.heap[w.heap.size]? = some (.cells #[.int .i64 4, .int .i64 n, .int .i64 t, g] 44 (0, 0)) := by rw [← hw1]; exact heap_alloc_new w _
  have hh := h.below hb1
  have c0 : w1.cell? ⟨w.heap.size, 0, none⟩ = some (.int .i64 4) := by rw [cell_of_row _ _ 0 _ _ (0, 0) hr1]; rfl
  have c1 : w1.cell? ⟨w.heap.size, 1, none⟩ = some (.int .i64 n) := by rw [cell_of_row _ _ 1 _ _ (0, 0) hr1]; rfl
  obtain ⟨ra, rc, q0, _, _, q3, hx1, hrc, hrc2, _, hrd, _⟩ := hh.ref.opened
  have q0 : w1.cell? ⟨x, 0, none⟩ = some (.slice ra rs.length rc) := q0
  have q3 : w1.cell? ⟨x, 3, none⟩ = some (.int .u64 nx) := q3
  have hrc : rs.length ≤ rc := hrc
  have hok := hh.ok (by omega)
  have HKK : Hid _ := hkk
  have HH : Hid (Both B w1 q p f N arm nx dn rs x BX) := hh
  have HB : Hid (Below w.heap.size w w1) := hb1
  have s1 := hb1.size
  have hlen : rs.length ≤ 1000 := by have := hh.log.lens.2.1; have := hh.n1; omega
  have hw4 : IntKind.u64.wrap (IntKind.u64.wrap ((nx : Int) + 1) + IntKind.u64.wrap (k : Int)) = ((nx + 1 + k : Nat) : Int) := by simp only [IntKind.wrap_u64]; omega
  have HOK : Hid (LgOk ⟨rs, dn, N, nx⟩) := hok
  have HKP1 : Hid (∀ k ∈ BX, w1.heap[k]? = w.heap[k]?) := fun k hk => hb1.block k (l3 k hk)
  unfold ptrW at *
  clear h hh hr1 hb1 hrd hok
  go_enter Tryz.func17, Tryz.ntmps17
  go_wp2_with fail
  (try rw [hw1])
  go_quiet (fail)
  obtain ⟨w2, hw2⟩ : ∃ w2, w1.drewN nq = w2 := ⟨_, rfl⟩
  rw [hw2]
  have hb2 : Below w1.heap.size w1 w2 := by rw [← hw2]; exact below_q _ _ _
  have HH2 : Hid (Both B w2 q p f N arm nx dn rs x BX) := HH.out.below hb2
  have HKP : Hid (∀ k ∈ BX, w2.heap[k]? = w.heap[k]?) := fun k hk => (hb2.block k (by have := l3 k hk; omega)).trans (HKP1.out k hk)
  have HB2 : Hid (Below B w w2) := (HB.out.mono l1).trans (hb2.mono (by omega))
  have hcast : ((nx + 1 + k : Nat) : Int) = (nx : Int) + 1 + k := by omega
  obtain ⟨TO, hTO⟩ : ∃ TO, nx + 1 + k = TO := ⟨_, rfl⟩
  rw [hTO] at hcast
  have s2 := hb2.size
  have cl := let_v HH2.out.log (by omega) TO
  unfold ptrW at cl
  rw [← hcast]
  have hTOb : TO ≤ 18446744073709551615 := by omega
  clear q0 q3 c0 c1 hb2 hw2 hw1 HKK hkk hw4 hcast hTO
  go_wp2_with fail
  refine cl.mono ?_
  rintro e3 w3 ⟨k3, h3⟩
  clear cl
  obtain rfl := let_e (dn := dn) _ h3
  have H3 : Hid _ := h3
  have K3 : Hid (KeepX B (x :: BX) w2 w3) := k3
  have HREF : Hid (LgAt w3 x BX ⟨rs, dn, N, nx⟩) := HH2.out.ref.keepX k3 List.mem_cons_self (by omega) (fun k hk => List.mem_cons_of_mem _ hk)
  have cx := let_any HREF.out HOK.out TO (hTOb)
  obtain ⟨LE, hLE⟩ : ∃ LE, letE ⟨rs, dn, N, nx⟩ TO = LE := ⟨_, rfl⟩
  rw [hLE] at cx ⊢
  rw [hLE] at H3
  unfold ptrW at cx
  clear h3 k3
  go_wp2_with fail
  refine cx.mono ?_
  rintro e4 w4 ⟨rfl, h4, hS4⟩
  clear cx
  obtain ⟨_, hb4, hkp4, dn', rs', hboth⟩ := let_both HH2.out _ K3.out H3.out h4 hS4 HREF.out
  have HF : Hid (StepOut B w w4 q p f N arm nx dn rs x BX [] (.returned (.bool true))) := ⟨HB2.out.trans hb4, (fun k hk => (hkp4 k hk).trans (HKP.out k hk)), .inl ⟨rfl, nx, dn', rs', BX, hboth, Nat.le_refl _, by omega, fun k hk => .inl hk⟩⟩
  clear hboth hb4 hkp4 hS4 h4 H3 K3 HREF
  go_wp2
  go_ret
  exact HF.out

theorem LeftV.others {B : Nat} {X : List Nat} {w w' : World} {p : Nat} {f : Int} {N : Nat} {off arm : Bool} {M fr nx : Nat} {rs : List Rc} (h : LeftV B X w p f N off arm M fr nx rs) {S : List Nat} (hS : Sole S w w') (hk : ∀ k ∈ S, ∃ cs t fr, w.heap[k]? = some (.cells cs t fr) ∧ t ≠ 69) : LeftV B X w' p f N off arm M fr nx rs := by
  obtain ⟨bs, bp, s, U, G, D, hd, hp, h1, h2, hX, hz, hxs, hr⟩ := h
  have hdS : ∀ k ∈ [p, bs, bp], k ∉ S := fun k hkk hm => by
    obtain ⟨cs, t, fr, hc, t1⟩ := hk k hm
    exact not_disk hd hc t1 hkk
  have hsz := hS.size
  exact ⟨bs, bp, s, U, G, D, hd.other hS (hdS p (by simp)) (hdS bs (by simp)) (hdS bp (by simp)), hp, h1, h2, hX, by omega, fun k hk => by have := hxs k hk; omega, hr⟩
theorem LeftV.sub {B : Nat} {X X' : List Nat} {w : World} {p : Nat} {f : Int} {N : Nat} {off arm : Bool} {M fr nx : Nat} {rs : List Rc} (h : LeftV B X w p f N off arm M fr nx rs) (hX : ∀ k ∈ X', k ∈ X) : LeftV B X' w p f N off arm M fr nx rs := by
  obtain ⟨bs, bp, s, U, G, D, hd, hp, h1, h2, hXX, hz, hxs, hr⟩ := h
  exact ⟨bs, bp, s, U, G, D, hd, hp, h1, h2, fun k hk hx => hXX k hk (hX k hx), hz, fun k hk => hxs k (hX k hk), hr⟩
theorem LogV.sub {B : Nat} {X X' : List Nat} {w : World} {q p : Nat} {f : Int} {N : Nat} {arm : Bool} {nx dn : Nat} {rs : List Rc} (h : LogV B X w q p f N arm nx dn rs) (hX : ∀ k ∈ X', k ∈ X) : LogV B X' w q p f N arm nx dn rs := by
  obtain ⟨s, l, T, K, New, G, D, h1, h2⟩ := h
  obtain ⟨⟨bs, bp, tv, fv, a1, a2, a3, a4, a5⟩, b1, b2, b3, b4, b5, b6, b7, b8, b9⟩ := h1
  exact ⟨s, l, T, K, New, G, D, ⟨⟨bs, bp, tv, fv, a1, a2, a3, a4, fun k hk hx => a5 k hk (hX k hx)⟩, b1, b2, b3, fun k hk => b4 k (hX k hk), b5, b6, b7, b8, b9⟩, h2⟩

/-- Others write into blocks of other types, and make memory; X may grow by what is new. -/
theorem LogIn.grow {B : Nat} {X : List Nat} {w w' : World} {q p : Nat} {f : Int} {N : Nat} {s : St} {l : Lo} {T : Nat} {K New G D : List Rr} (h : LogIn B X w q p f N s l T K New G D) {S : List Nat} (hS : Sole S w w') (hk : ∀ k ∈ S, ∃ cs t fr, w.heap[k]? = some (.cells cs t fr) ∧ t ≠ 69 ∧ t ≠ 77 ∧ t ≠ 94 ∧ t ≠ 84 ∧ t ≠ 3) (X' : List Nat) (hX : ∀ k ∈ X', (k ∈ X ∨ w.heap.size ≤ k) ∧ k < w'.heap.size) : LogIn B X' w' q p f N s l T K New G D := by
  obtain ⟨⟨bs, bp, tv, fv, h1, h2, h3, h4, h5⟩, hq, hp, hz, hxs, hon, hrun, hD, hn4, hn1⟩ := h
  have hrow : ∀ {base n m : Nat} {e : TypeId} {v : Value} {xs : List Value}, w.ownsRow base e m v n xs → (∀ t : TypeId, t ≠ 69 → t ≠ 77 → t ≠ 94 → t ≠ 84 → t ≠ 3 → t ≠ e) → ∀ k, v.ownBlock = some k → k ∉ S := fun ho he k hv hm => by
    obtain ⟨cs, t, fr, hc, t1, t2, t3, t4, t5⟩ := hk k hm
    obtain ⟨_, ⟨rfl, _⟩ | ⟨g, c, cur, rfl, _, hg, _⟩⟩ := ho
    · cases hv
    · simp only [Value.ownBlock, Option.some.injEq] at hv
      subst hv
      rw [hc] at hg
      simp only [Option.some.injEq, Obj.cells.injEq] at hg
      exact he t t1 t2 t3 t4 t5 hg.2.1
  have hqS : q ∉ S := fun hm => by
    obtain ⟨cs, t, fr, hc, t1, t2, t3, t4, t5⟩ := hk q hm
    rw [h1.row] at hc
    simp only [Option.some.injEq, Obj.cells.injEq] at hc
    exact t2 hc.2.1.symm
  have hdS : ∀ k ∈ [p, bs, bp], k ∉ S := fun k hkk hm => by
    obtain ⟨cs, t, fr, hc, t1, t2, t3, t4, t5⟩ := hk k hm
    exact not_disk h2 hc t1 hkk
  refine ⟨⟨bs, bp, tv, fv, ⟨(hS.block q (Array.getElem?_eq_some_iff.1 h1.row).1 hqS).trans h1.row, own_keep h1.there hS.size (fun k hk' hl => hS.block k hl (hrow h1.there (fun t a b c d e => c) k hk')), own_keep h1.free hS.size (fun k hk' hl => hS.block k hl (hrow h1.free (fun t a b c d e => d) k hk')), fun x hx => own_keep (h1.each x hx) hS.size (fun k hk' hl => hS.block k hl (hrow (h1.each x hx) (fun t a b c d e => e) k hk'))⟩, h2.other hS (hdS p (by simp)) (hdS bs (by simp)) (hdS bp (by simp)), h3, h4, fun k hk hx => ?_⟩, hq, hp, Nat.le_trans hz hS.size, fun k hx => (hX k hx).2, hon, hrun, hD, hn4, hn1⟩
  have hlt : ∀ k ∈ [p, bs, bp] ++ q :: (tv.ownBlock.toList ++ fv.ownBlock.toList), k < w.heap.size := fun k hk => by
    rcases List.mem_append.1 hk with hk | hk
    · have := h2.lt
      simp only [List.mem_cons, List.mem_nil_iff, or_false] at hk
      rcases hk with rfl | rfl | rfl <;> omega
    · rcases List.mem_cons.1 hk with rfl | hk
      · exact (Array.getElem?_eq_some_iff.1 h1.row).1
      · rcases List.mem_append.1 hk with hk | hk
        · rw [Option.mem_toList] at hk; exact (World.ownsRow.lt h1.there k hk).2
        · rw [Option.mem_toList] at hk; exact (World.ownsRow.lt h1.free k hk).2
  rcases (hX k hx).1 with e | e
  · exact h5 k hk e
  · have := hlt k hk; omega
theorem LogV.grow {B : Nat} {X : List Nat} {w w' : World} {q p : Nat} {f : Int} {N : Nat} {arm : Bool} {nx dn : Nat} {rs : List Rc} (h : LogV B X w q p f N arm nx dn rs) {S : List Nat} (hS : Sole S w w') (hk : ∀ k ∈ S, ∃ cs t fr, w.heap[k]? = some (.cells cs t fr) ∧ t ≠ 69 ∧ t ≠ 77 ∧ t ≠ 94 ∧ t ≠ 84 ∧ t ≠ 3) (X' : List Nat) (hX : ∀ k ∈ X', (k ∈ X ∨ w.heap.size ≤ k) ∧ k < w'.heap.size) : LogV B X' w' q p f N arm nx dn rs := by
  obtain ⟨s, l, T, K, New, G, D, h1, h2⟩ := h
  exact ⟨s, l, T, K, New, G, D, h1.grow hS hk X' hX, h2⟩

/-- What Append tells, whatever the group is. -/
def AppCase (B : Nat) (X : List Nat) (w' : World) (q p : Nat) (f : Int) (N : Nat) (arm : Bool) (nx dn : Nat) (rs : List Rc) (g : List ByteArray) (n0 e0 : Int) : Prop :=
  (longB g = true ∧ n0 = 0 ∧ e0 = 2 ∧ LogV B X w' q p f N arm nx dn rs) ∨
  (longB g = false ∧ ¬ piecesN (layL g).length + usedR rs + 2 ≤ N ∧ n0 = 0 ∧ e0 = 5 ∧ LogV B X w' q p f N arm nx dn rs) ∨
  (longB g = false ∧ n0 = nx ∧ e0 = 0 ∧ LogV B X w' q p f N arm (nx + piecesN (layL g).length) dn (rs ++ [⟨nx, g⟩])) ∨
  (longB g = false ∧ arm = true ∧ n0 = 0 ∧ e0 = 20 ∧ ∃ k nx', dn ≤ k ∧ k ≤ rs.length + 1 ∧ LeftV B X w' p f N true false (nx + piecesN (layL g).length) (fromR nx rs) nx' (List.take k (rs ++ [(⟨nx, g⟩ : Rc)])))

theorem append_case {B : Nat} {X : List Nat} {w : World} {q p : Nat} {f : Int} {N : Nat} {arm : Bool} {nx dn : Nat} {rs : List Rc} (h : LogV B X w q p f N arm nx dn rs) (hnx : nx ≤ 4611686018427380000) {Bt : List Nat} {v : Value} {g : List ByteArray} (hr : RdT Bt w v g) (hsz : ∀ x ∈ g, x.size ≤ 140737488355328) :
    Calls Tryz.prog 27 #[ptrW q, v] w fun e w' => ∃ n0 e0 : Int, e = .returned (.tuple #[.int .u64 n0, .int .i64 e0]) ∧ KeepX B X w w' ∧ AppCase B X w' q p f N arm nx dn rs g n0 e0 := by
  cases hl : longB g
  · refine (append_v h hnx hr hl).mono ?_
    rintro e w' ⟨hk, ⟨n, rfl, hv⟩ | ⟨_, ⟨rfl, hv⟩ | ⟨a, rfl, k, nx', k1, k2, hv⟩⟩⟩
    · exact ⟨0, 5, rfl, hk, .inr (.inl ⟨hl, n, rfl, rfl, hv⟩)⟩
    · exact ⟨nx, 0, rfl, hk, .inr (.inr (.inl ⟨hl, rfl, rfl, hv⟩))⟩
    · exact ⟨0, 20, rfl, hk, .inr (.inr (.inr ⟨hl, a, rfl, rfl, k, nx', k1, k2, hv⟩))⟩
  · refine (app_long hr hsz hl).mono ?_
    rintro e w' ⟨rfl, rfl⟩
    exact ⟨0, 2, rfl, KeepX.refl _ _ _, .inl ⟨hl, rfl, rfl, h⟩⟩

theorem pieces_nb {g : List ByteArray} (h : ∀ x ∈ g, x.size ≤ 255) : piecesN (layL g).length ≤ nb g := by
  have := lay_lenG g h
  unfold piecesN nb
  split <;> omega
theorem used_sum : ∀ (rs : List Rc), (∀ r ∈ rs, longB r.grp = false) → usedR rs ≤ sumR rs
  | [], _ => Nat.le_refl _
  | r :: rs, h => by
    have h1 := used_sum rs (fun x hx => h x (List.mem_cons_of_mem _ hx))
    have h2 := pieces_nb (long_parts (h r List.mem_cons_self)).2.2
    show piecesN (layL r.grp).length + usedR rs ≤ nb r.grp + sumR rs
    omega

theorem lenG_bound : ∀ (l : List ByteArray), (∀ x ∈ l, x.size ≤ 140737488351232) → lenG l ≤ l.length * 140737488351234
  | [], _ => Nat.zero_le _
  | x :: l, h => by
    have h1 := lenG_bound l (fun y hy => h y (List.mem_cons_of_mem _ hy))
    have h2 := h x List.mem_cons_self
    show (2 + x.size) + lenG l ≤ (l.length + 1) * 140737488351234
    omega
theorem long_both {B : List Nat} {w : World} {v : Value} {l : List ByteArray} (hr : RdT B w v l) (hx : ∀ x ∈ l, x.size ≤ 140737488351232) :
    Calls Tryz.prog 22 #[v] w fun e w' => e = .returned (.bool (longB l)) ∧ w' = w := by
  by_cases h : 255 < l.length
  · have e : longB l = true := by unfold longB; rw [decide_eq_true h]; rfl
    rw [e]
    exact long_many hr h (fun x hxx => by have := hx x hxx; omega)
  · exact long_any hr (by
      unfold TxOk
      have h1 := lenG_bound l hx
      have h2 := Nat.mul_le_mul_right 140737488351234 (show l.length ≤ 255 by omega)
      omega)
theorem tx_short {l : List ByteArray} (h : longB l = false) : TxOk l := by
  unfold TxOk
  have := (long_parts h).2.1
  omega

set_option maxRecDepth 100000 in
set_option maxHeartbeats 8000000 in
theorem step_append {B : Nat} {w : World} {q p : Nat} {f : Int} {N : Nat} {arm : Bool} {nx dn : Nat} {rs : List Rc} {x : Nat} {BX : List Nat} (h : Both B w q p f N arm nx dn rs x BX) (hnx : nx ≤ 4611686018427380000) (n t : Int) (ht0 : -9223372036854775808 ≤ t) (ht1 : t ≤ 9223372036854775807) (gv : Value) (l : List ByteArray) (Bo : List Nat) (hr : RdT Bo w gv l) (hBo : ∀ k ∈ Bo, k < B) (hsz : ∀ x ∈ l, x.size ≤ 140737488351232) (hll : l.length ≤ 8796093021952) :
    Calls Tryz.prog 17 #[ptrW q, ptrW x, .agg #[.int .i64 0, .int .i64 n, .int .i64 t, gv]] w fun e w' => StepOut B w w' q p f N arm nx dn rs x BX (if longB (groupL l (timesN t)) then [] else [⟨nx, groupL l (timesN t)⟩]) e := by
  obtain ⟨l1, l2, l3⟩ := h.lt
  obtain ⟨t1, t2⟩ := timesN_ok t ht0 ht1
  obtain ⟨w1, hw1⟩ : ∃ w1, w.alloc (.cells #[.int .i64 0, .int .i64 n, .int .i64 t, gv] 44) = w1 := ⟨_, rfl⟩
  have hb1 : Below w.heap.size w w1 := by rw [← hw1]; exact (Below.refl _ w).alloc (Nat.le_refl _) _
  have hr1 : w1.heap[w.heap.size]? = some (.cells #[.int .i64 0, .int .i64 n, .int .i64 t, gv] 44 (0, 0)) := by rw [← hw1]; exact heap_alloc_new w _
  have c0 : w1.cell? ⟨w.heap.size, 0, none⟩ = some (.int .i64 0) := by rw [cell_of_row _ _ 0 _ _ (0, 0) hr1]; rfl
  have c1 : w1.cell? ⟨w.heap.size, 1, none⟩ = some (.int .i64 n) := by rw [cell_of_row _ _ 1 _ _ (0, 0) hr1]; rfl
  have c2 : w1.cell? ⟨w.heap.size, 2, none⟩ = some (.int .i64 t) := by rw [cell_of_row _ _ 2 _ _ (0, 0) hr1]; rfl
  have c3 : w1.cell? ⟨w.heap.size, 3, none⟩ = some gv := by rw [cell_of_row _ _ 3 _ _ (0, 0) hr1]; rfl
  have cg := group_at 0 n t gv l (hr.below hb1) (timesN t) t1 t2
  obtain ⟨L, hL⟩ : ∃ L, groupL l (timesN t) = L := ⟨_, rfl⟩
  have hLs : ∀ y ∈ L, y.size ≤ 140737488351232 := fun y hy => hsz y (groupL_mem (by rw [hL]; exact hy))
  have hLl : L.length ≤ 8796093021952 := by rw [← hL]; exact groupL_len t2 hll
  rw [hL] at cg ⊢
  obtain ⟨MO, hMO⟩ : ∃ MO : List Rc, (if longB L = true then [] else [(⟨nx, L⟩ : Rc)]) = MO := ⟨_, rfl⟩
  rw [hMO]
  have HMO : Hid ((if longB L = true then [] else [(⟨nx, L⟩ : Rc)]) = MO) := hMO
  clear hMO
  have HH : Hid (Both B w q p f N arm nx dn rs x BX) := h
  have HB1 : Hid (Below w.heap.size w w1) := hb1
  have s1 := hb1.size
  have HLs : Hid (∀ y ∈ L, y.size ≤ 140737488351232) := hLs
  have HBo : Hid (∀ k ∈ Bo, k < B) := hBo
  have HLX : Hid (Both B w q p f N arm nx dn rs x BX → nx ≤ nx) := fun _ => Nat.le_refl _
  unfold ptrW at *
  clear h hr1 hb1 t1 t2 hL hLs hr hsz hBo HLX
  go_enter Tryz.func17, Tryz.ntmps17
  go_wp2_with fail
  (try rw [hw1])
  refine cg.mono ?_
  rintro e2 w2 ⟨v2, B2, rfl, hr2, hB2, hb2⟩
  clear cg c0 c1 c2 c3 hw1
  have hr2' := hr2.trim
  obtain ⟨B3, hB3e⟩ : ∃ B3, (B2.filter fun k => decide (k < w2.heap.size)) = B3 := ⟨_, rfl⟩
  rw [hB3e] at hr2'
  have HB3 : Hid (∀ k ∈ B3, k < w2.heap.size ∧ (k < B ∨ w.heap.size ≤ k)) := fun k hk => by
    rw [← hB3e] at hk
    obtain ⟨z1, z2⟩ := List.mem_filter.1 hk
    refine ⟨by simpa using z2, ?_⟩
    rcases hB2 k z1 with z | z
    · exact .inl (HBo.out k z)
    · right; omega
  have HR2 : Hid (RdT B3 w2 v2 L) := hr2'
  obtain ⟨a2, cp2, rfl, hcp, _⟩ := hr2
  have s2 := hb2.size
  have HB2 : Hid (Below w.heap.size w w2) := HB1.out.trans (hb2.mono s1)
  clear hr2' hB2 hB3e hb2 HB1
  go_wp2_with (at_builtin; refine wpList_append_many rfl _ _ rfl w2.heap.size _ [] rfl (World.ownsRow_nil _ _ _ _) B3 _ L rfl HR2.out (by simpa using hLl) (Nat.le_refl _) ?_; intro v3 w3 ho3 hg3; obtain ⟨a3, c3, rfl⟩ := rowS_slice ho3)
  simp only [List.nil_append] at ho3 ⊢
  have hb3 : Below w2.heap.size w2 w3 := (Below.refl _ w2).grown hg3 (Nat.le_refl _) (fun q hq => by cases hq)
  obtain ⟨r3, o3⟩ := rdT_own ho3
  obtain ⟨OB, hOB⟩ : ∃ OB, ownB (.slice a3 L.length c3) = OB := ⟨_, rfl⟩
  rw [hOB] at r3 o3
  have HROW : Hid (0 < L.length → ∃ b cur, a3 = some ⟨b, 0, none⟩ ∧ OB = [b] ∧ w3.heap[b]? = some (.cells cur 9 (0, 0)) ∧ L.length ≤ cur.size) := fun hp => by
    obtain ⟨hx, ⟨e, hn⟩ | ⟨g, cap, cur, e, hb, hgc, h5, h6, h7, h8⟩⟩ := ho3
    · omega
    · simp only [Value.slice.injEq] at e
      obtain ⟨rfl, _, rfl⟩ := e
      refine ⟨g, cur, rfl, by rw [← hOB]; rfl, hgc, ?_⟩
      have := congrArg List.length h8
      rw [List.length_take, Array.length_toList] at this
      unfold strC at this
      rw [List.length_map] at this
      omega
  have HOT : Hid (∀ k ∈ OB, ∃ cur, w3.heap[k]? = some (.cells cur 9 (0, 0))) := fun k hk => by
    rw [← hOB] at hk
    unfold ownB at hk
    obtain ⟨hx, ⟨e, hn⟩ | ⟨g, cap, cur, e, hb, hgc, _⟩⟩ := ho3
    · rw [e] at hk; cases hk
    · rw [e] at hk
      have hk : k ∈ [g] := hk
      simp only [List.mem_singleton] at hk
      rw [hk]
      exact ⟨cur, hgc⟩
  obtain ⟨X2, hX2⟩ : ∃ X2, (x :: BX) ++ (B3.filter (fun k => decide (w.heap.size ≤ k))) ++ OB = X2 := ⟨_, rfl⟩
  have hbw3 : Below w.heap.size w w3 := HB2.out.trans (hb3.mono (by omega))
  have s3 := hb3.size
  have hlog3 : LogV B X2 w3 q p f N arm nx dn rs := HH.out.log.below hbw3 X2 (fun k hk => by
    rw [← hX2] at hk
    rcases List.mem_append.1 hk with hk | hk
    · rcases List.mem_append.1 hk with hk | hk
      · refine ⟨.inl hk, ?_⟩
        rcases List.mem_cons.1 hk with rfl | hk
        · omega
        · have := l3 k hk; omega
      · obtain ⟨z1, z2⟩ := List.mem_filter.1 hk
        have := (HB3.out k z1).1
        exact ⟨.inr (by simpa using z2), by omega⟩
    · have := o3 k hk; exact ⟨.inr (by omega), by omega⟩)
  have HXX : Hid (∀ k ∈ x :: BX, k ∈ X2) := fun k hk => by rw [← hX2]; exact List.mem_append_left _ (List.mem_append_left _ hk)
  have HXB : Hid (∀ k ∈ B3, k < B ∨ k ∈ X2) := fun k hk => by
    rcases (HB3.out k hk).2 with z | z
    · exact .inl z
    · right; rw [← hX2]; exact List.mem_append_left _ (List.mem_append_right _ (List.mem_filter.2 ⟨hk, by simpa using z⟩))
  have HXO : Hid (∀ k ∈ OB, k ∈ X2) := fun k hk => by rw [← hX2]; exact List.mem_append_right _ hk
  have HO3 : Hid (∀ k ∈ OB, w2.heap.size ≤ k ∧ k < w3.heap.size) := o3
  have HR3 : Hid (RdT B3 w3 (.slice a2 L.length cp2) L) := HR2.out.below hb3
  have href3 : Hid (LgAt w3 x BX ⟨rs, dn, N, nx⟩) := HH.out.ref.below hbw3
  have HBW3 : Hid (Below w.heap.size w w3) := hbw3
  have ca := append_case hlog3 hnx r3 (fun y hy => by have := HLs.out y hy; omega)
  unfold ptrW at ca
  clear hg3 ho3 hb3 r3 o3 hlog3 hX2 HR2 HB2 hbw3 hOB
  go_wp2_with fail
  refine ca.mono ?_
  rintro e4 w4 ⟨N0, E0, rfl, k4, hcase⟩
  clear ca
  have s4 := k4.size
  have hO4 : ∀ k ∈ OB, w4.heap[k]? = w3.heap[k]? := fun k hk => k4.block k (HO3.out k hk).2 (.inr (HXO.out k hk))
  have HROW4 : Hid (0 < L.length → ∃ b cur, a3 = some ⟨b, 0, none⟩ ∧ OB = [b] ∧ w4.heap[b]? = some (.cells cur 9 (0, 0)) ∧ L.length ≤ cur.size) := fun hp => by
    obtain ⟨b, cur, z1, z2, z3, z4⟩ := HROW.out hp
    exact ⟨b, cur, z1, z2, (hO4 b (by rw [z2]; simp)).trans z3, z4⟩
  have HOT4 : Hid (∀ k ∈ OB, ∃ cur, w4.heap[k]? = some (.cells cur 9 (0, 0))) := fun k hk => by
    obtain ⟨cur, z⟩ := HOT.out k hk
    exact ⟨cur, (hO4 k hk).trans z⟩
  have HR4 : Hid (RdT B3 w4 (.slice a2 L.length cp2) L) := HR3.out.keep k4.size (fun k hk hl => k4.block k hl (HXB.out k hk))
  have HREF4 : Hid (LgAt w4 x BX ⟨rs, dn, N, nx⟩) := href3.out.keepX k4 (HXX.out x List.mem_cons_self) (by omega) (fun k hk => HXX.out k (List.mem_cons_of_mem _ hk))
  have HKP4 : Hid (∀ k ∈ BX, w4.heap[k]? = w.heap[k]?) := fun k hk => (k4.block k (by have := l3 k hk; omega) (.inr (HXX.out k (List.mem_cons_of_mem _ hk)))).trans (HBW3.out.block k (l3 k hk))
  have HBW4 : Hid (Below B w w4) := (HBW3.out.mono l1).trans (k4.below (by omega))
  have HC : Hid (AppCase B X2 w4 q p f N arm nx dn rs L N0 E0) := hcase
  clear k4 hcase hO4 HROW HOT HR3 href3 HBW3
  go_wp2_with fail
  go_loopw [31] (fun t wr => ∃ i : Nat, i ≤ L.length ∧ t = .int .i64 i ∧ Hid (Sole OB w4 wr) ∧ Hid (0 < L.length → ∃ b cur, a3 = some ⟨b, 0, none⟩ ∧ OB = [b] ∧ wr.heap[b]? = some (.cells cur 9 (0, 0)) ∧ L.length ≤ cur.size)) (fun t _ => L.length - (RowKit.intOf t).toNat)
  case atStart => exact ⟨0, Nat.zero_le _, rfl, Sole.refl _ _, HROW4⟩
  case round =>
    clear HROW4
    obtain ⟨i, hi, rfl, HS, HRW⟩ := hrel
    obtain ⟨w5, hA⟩ : ∃ w5, w5 = wr := ⟨_, rfl⟩
    subst hA
    have s5 := HS.out.size
    by_cases hil : i < L.length
    · have hiI : (i : Int) < L.length := by omega
      obtain ⟨b, cur, rfl, hOB, hcur, hle⟩ := HRW.out (by omega)
      have hok : i < cur.size := by omega
      have xk : w5.cell? ⟨b, i, none⟩ = some cur[i] := by rw [cell_of_row _ _ _ _ _ (0, 0) hcur]; exact Array.getElem?_eq_getElem hok
      have fk := frozen_of_row w5 b i _ 9 hcur
      have hG := heap_setCell_same w5 b i _ _ (.string ⟨#[122, 122]⟩) hcur
      obtain ⟨w6, hw6⟩ : ∃ w6, w5.setCell ⟨b, i, none⟩ (.string ⟨#[122, 122]⟩) = w6 := ⟨_, rfl⟩
      have hS6 : Hid (Sole OB w4 w6) := HS.out.trans (by rw [← hw6]; exact Sole.setCell _ _ (by rw [hOB]; simp))
      rw [hw6] at hG
      have HRW6 : Hid (0 < L.length → ∃ b' cur, (some ⟨b, 0, none⟩ : Option Addr) = some ⟨b', 0, none⟩ ∧ OB = [b'] ∧ w6.heap[b']? = some (.cells cur 9 (0, 0)) ∧ L.length ≤ cur.size) := fun _ => ⟨b, _, rfl, hOB, hG, by simpa using hle⟩
      clear hG HS HRW hcur
      go_wp2_with fail
      (try rw [hw6])
      clear hw6 xk fk
      refine ⟨⟨i + 1, by omega, by go_num, hS6, HRW6⟩, ?_⟩
      simp [RowKit.intOf]; omega
    · obtain rfl : i = L.length := by omega
      have hiI : ¬ ((L.length : Nat) : Int) < (L.length : Nat) := by omega
      have hr5 : RdT B3 w5 (.slice a2 L.length cp2) L := HR4.out.keep HS.out.size (fun k hk hl => HS.out.block k hl (fun ho => by have := (HB3.out k hk).1; have := (HO3.out k ho).1; omega))
      have HREF5 : Hid (LgAt w5 x BX ⟨rs, dn, N, nx⟩) := HREF4.out.keep HS.out.size (HS.out.block x (by omega) (fun ho => by have := (HO3.out x ho).1; omega)) (fun k hk hl => HS.out.block k hl (fun ho => by have := (HO3.out k ho).1; have := l3 k hk; omega))
      have HKP5 : Hid (∀ k ∈ BX, w5.heap[k]? = w.heap[k]?) := fun k hk => (HS.out.block k (by have := l3 k hk; omega) (fun ho => by have := (HO3.out k ho).1; have := l3 k hk; omega)).trans (HKP4.out k hk)
      have HBW5 : Hid (Below B w w5) := HS.out.belowOf HBW4.out (by omega) (fun k hk => by have := (HO3.out k hk).1; omega)
      have HT4 : ∀ k ∈ OB, ∃ cs t fr, w4.heap[k]? = some (.cells cs t fr) ∧ t ≠ 69 ∧ t ≠ 77 ∧ t ≠ 94 ∧ t ≠ 84 ∧ t ≠ 3 := fun k hk => by
        obtain ⟨cur, z⟩ := HOT4.out k hk
        exact ⟨cur, 9, _, z, by decide, by decide, by decide, by decide, by decide⟩
      have cl := long_both hr5 HLs.out
      have HR5 : Hid (RdT B3 w5 (.slice a2 L.length cp2) L) := hr5
      have hLB := HH.out.ok (by omega)
      have HOK : Hid (LgOk ⟨rs, dn, N, nx⟩) := hLB
      rcases HC.out with ⟨hlg, rfl, rfl, hv⟩ | ⟨hlg, hno, rfl, rfl, hv⟩ | ⟨hlg, rfl, rfl, hv⟩ | ⟨hlg, harm, rfl, rfl, k, nx', hk1, hk2, hv⟩
      · have hv5 := (hv.others HS.out HT4).sub HXX.out
        have HF : Hid (StepOut B w w5 q p f N arm nx dn rs x BX MO (.returned (.bool true))) := ⟨HBW5.out, HKP5.out, .inl ⟨rfl, nx, dn, rs, BX, ⟨hv5, HREF5.out, HH.out.shorts, HH.out.lx, HH.out.n1⟩, Nat.le_refl _, by omega, fun k hk => .inl hk⟩⟩
        rw [hlg] at cl
        clear hv hv5 HC HRW HS HT4 hr5 HOT4 HR4 HREF4 HBW4
        go_wp2_with fail
        refine cl.mono ?_
        rintro e6 w6 ⟨rfl, rfl⟩
        clear cl
        go_wp2
        go_ret
        exact HF.out
      · have hv5 := (hv.others HS.out HT4).sub HXX.out
        have cr := room_any HREF5.out HOK.out (fun r hr => (long_parts (HH.out.shorts r hr)).2.1) HR5.out (tx_short hlg)
        have hroom : roomB ⟨rs, dn, N, nx⟩ L = false := by
          unfold roomB
          apply decide_eq_false
          have h1 := pieces_nb (long_parts hlg).2.2
          have h2 := used_sum rs HH.out.shorts
          show ¬ ((nb L : Int) + sumR rs ≤ (N : Int) - 2)
          omega
        rw [hroom] at cr
        rw [hlg] at cl
        have HB5 : Hid (Both B w5 q p f N arm nx dn rs x BX) := ⟨hv5, HREF5.out, HH.out.shorts, HH.out.lx, HH.out.n1⟩
        unfold ptrW at cr
        clear hv hv5 HC HRW HS HT4 hr5 HOT4 HR4 HREF4 HBW4 hno hroom
        go_wp2_with fail
        refine cl.mono ?_
        rintro e6 w6 ⟨rfl, rfl⟩
        clear cl
        go_wp2_with fail
        refine cr.mono ?_
        rintro e7 w7 ⟨rfl, hb7⟩
        clear cr
        have HF : Hid (StepOut B w w7 q p f N arm nx dn rs x BX MO (.returned (.bool true))) := ⟨HBW5.out.trans (hb7.mono (by omega)), (fun k hk => (hb7.block k (by have := l3 k hk; omega)).trans (HKP5.out k hk)), .inl ⟨rfl, nx, dn, rs, BX, HB5.out.below hb7, Nat.le_refl _, by omega, fun k hk => .inl hk⟩⟩
        clear hb7
        go_wp2
        go_ret
        exact HF.out
      · have hv5 := (hv.others HS.out HT4).sub HXX.out
        have hP9 := long_pieces hlg
        have hPp : 0 < piecesN (layL L).length := piecesN_pos _
        have HSH : Hid (∀ r ∈ rs ++ [(⟨nx, L⟩ : Rc)], longB r.grp = false) := fun r hr => by
          rcases List.mem_append.1 hr with hr | hr
          · exact HH.out.shorts r hr
          · simp only [List.mem_singleton] at hr; rw [hr]; exact hlg
        have hLlen := (long_parts hlg).1
        have HLG : Hid (longB L = false) := hlg
        generalize hP : piecesN (layL L).length = P at *
        have hq : q < w5.heap.size := hv5.lens.2.2.2.1
        have cn0 := next_v hv5
        rw [show (((nx + P : Nat) : Nat) : Int) = (nx : Int) + P from by omega] at cn0
        have ca := append_any HREF5.out HOK.out (fun k hk => by have := l3 k hk; omega) HR5.out (by omega) (nx + P) (by omega)
        rw [show (((nx + P : Nat) : Nat) : Int) = (nx : Int) + P from by omega] at ca
        rw [hlg] at cl
        obtain ⟨_, _, _, _, _, q3, _⟩ := HREF5.out.opened
        have q3 : w5.cell? ⟨x, 3, none⟩ = some (.int .u64 nx) := q3
        have HV5 : Hid (LogV B (x :: BX) w5 q p f N arm (nx + P) dn (rs ++ [⟨nx, L⟩])) := hv5
        have hle : ¬ ((nx : Int) + P ≤ nx) := by omega
        unfold ptrW at cn0 ca
        clear hv hv5 HC HRW HS HT4 hr5 HOT4 HR4 HREF4 HBW4
        go_wp2_with fail
        refine cl.mono ?_
        rintro e6 w6 ⟨rfl, rfl⟩
        clear cl
        go_wp2_with fail
        refine cn0.mono ?_
        rintro e7 w7 ⟨rfl, rfl⟩
        go_wp2_with fail
        refine cn0.mono ?_
        rintro e7 w7 ⟨rfl, rfl⟩
        clear cn0 q3
        go_wp2_with fail
        refine ca.mono ?_
        rintro e8 w8 ⟨rfl, B8, h8, hS8, hB8⟩
        clear ca
        have s8 := hS8.size
        have hv8 : LogV B (x :: B8) w8 q p f N arm (nx + P) dn (rs ++ [⟨nx, L⟩]) := HV5.out.grow hS8 (ref_type HREF5.out) _ (fun k hk => by
          rcases List.mem_cons.1 hk with rfl | hk
          · exact ⟨.inl List.mem_cons_self, by omega⟩
          · rcases hB8 k hk with z | z
            · exact ⟨.inl (List.mem_cons_of_mem _ z), by have := l3 k z; omega⟩
            · exact ⟨.inr z.1, z.2⟩)
        have hboth : Both B w8 q p f N arm (nx + P) dn (rs ++ [⟨nx, L⟩]) x B8 := ⟨hv8, h8, HSH.out, HH.out.lx, HH.out.n1⟩
        have cf := fun W (hW : Below w8.heap.size w8 W) => from_v (hboth.below hW).log
        have cx := fun W (hW : Below w8.heap.size w8 W) => from_any (hboth.below hW).ref
        have cn := fun W (hW : Below w8.heap.size w8 W) => next_v (hboth.below hW).log
        simp only [from_both] at cx
        have x3 : ∀ W, Below w8.heap.size w8 W → W.cell? ⟨x, 3, none⟩ = some (.int .u64 ((nx + P : Nat) : Int)) := fun W hW => by
          obtain ⟨_, _, _, _, _, q3, _⟩ := (hboth.below hW).ref.opened
          exact q3
        obtain ⟨FR, hFR⟩ : ∃ FR, fromR (nx + P) (rs ++ [(⟨nx, L⟩ : Rc)]) = FR := ⟨_, rfl⟩
        simp only [hFR] at cf cx
        obtain ⟨NP, hNP⟩ : ∃ NP, nx + P = NP := ⟨_, rfl⟩
        simp only [hNP] at cn x3
        have HBB : Hid (Both B w8 q p f N arm (nx + P) dn (rs ++ [⟨nx, L⟩]) x B8) := hboth
        have HBW8 : Hid (Below B w w8) := hS8.belowOf HBW5.out (by omega) (fun k hk => by simp only [List.mem_singleton] at hk; subst hk; exact HH.out.lx)
        have HKP8 : Hid (∀ k ∈ BX, w8.heap[k]? = w.heap[k]?) := fun k hk => (hS8.block k (by have := l3 k hk; omega) (fun e => by simp only [List.mem_singleton] at e; subst e; exact HREF5.out.apart hk)).trans (HKP5.out k hk)
        have HB8 : Hid (∀ k ∈ B8, k ∈ BX ∨ w.heap.size ≤ k) := fun k hk => by
          rcases hB8 k hk with z | z
          · exact .inl z
          · right; omega
        unfold ptrW at cf cx cn
        clear hv8 hboth h8 hS8 hB8 hFR HV5
        go_wp2_with fail
        refine wp_region_noPanic ?_
        go_region_held (fun W => Below w8.heap.size w8 W) (first | assumption | exact (Below.refl _ _).drew | exact Below.trans (by assumption) (Below.mono (by assumption) (by omega)))
          (first
            | (go_at_call 18; refine (cf _ ?_).mono ?_; (first | exact (Below.refl _ _).drew | assumption); rintro e15 w15 ⟨rfl, rfl⟩)
            | (go_at_call 15; refine (cx _ ?_).mono ?_; (first | exact (Below.refl _ _).drew | assumption); rintro e16 w16 ⟨rfl, rfl⟩)
            | (go_at_call 13; refine (cn _ ?_).mono ?_; (first | exact (Below.refl _ _).drew | assumption); rintro e17 w17 ⟨rfl, rfl⟩))
        refine NoPanic.normal ?_
        have HF : Hid (StepOut B w w8.drew q p f N arm nx dn rs x BX MO (.returned (.bool true))) := ⟨HBW8.out.drew, HKP8.out, .inl ⟨rfl, nx + P, dn, _, B8, HBB.out.below (Below.refl _ _).drew, by omega, by omega, HB8.out⟩⟩
        clear cf cx cn x3
        go_wp2
        go_ret
        exact HF.out
      · have hv5 := (hv.others HS.out (fun k hk => by obtain ⟨cs, t, fr, z1, z2, _⟩ := HT4 k hk; exact ⟨cs, t, fr, z1, z2⟩)).sub HXX.out
        have hP9 := long_pieces hlg
        rw [hlg] at cl
        have hMO : MO = [(⟨nx, L⟩ : Rc)] := by rw [← HMO.out, hlg]; rfl
        have HF : Hid (StepOut B w w5 q p f N arm nx dn rs x BX MO (.returned (.bool false))) := ⟨HBW5.out, HKP5.out, .inr ⟨harm, false, k, nx', nx + piecesN (layL L).length, rfl, by omega, hk1, by rw [hMO]; simpa using hk2, by rw [hMO]; exact hv5, _, HREF5.out⟩⟩
        clear harm hMO
        clear hv hv5 HC HRW HS HT4 hr5 HOT4 HR4 HREF4 HBW4
        go_wp2_with fail
        refine cl.mono ?_
        rintro e6 w6 ⟨rfl, rfl⟩
        clear cl
        go_wp2
        go_ret
        exact HF.out

/-- What an Append under way would add. -/
def moreOf (nx : Nat) (o : WopV) : List Rc := if o.f0 = 0 then (if longB (groupL o.f3 (timesN o.f2)) then [] else [⟨nx, groupL o.f3 (timesN o.f2)⟩]) else []
def opC (o : WopV) : Array Value := #[.int .i64 o.f0, .int .i64 o.f1, .int .i64 o.f2, o.v3]

theorem step_any {B : Nat} {w : World} {q p : Nat} {f : Int} {N : Nat} {arm : Bool} {nx dn : Nat} {rs : List Rc} {x : Nat} {BX : List Nat} (h : Both B w q p f N arm nx dn rs x BX) (hnx : nx ≤ 4611686018427380000) (o : WopV) (hok : WopOk o) (Bo : List Nat) (hr : RdT Bo w o.v3 o.f3) (hBo : ∀ k ∈ Bo, k < B) :
    Calls Tryz.prog 17 #[ptrW q, ptrW x, .agg (opC o)] w fun e w' => StepOut B w w' q p f N arm nx dn rs x BX (moreOf nx o) e := by
  obtain ⟨f0, f1, f2, v3, f3, b3⟩ := o
  obtain ⟨a0, a1, a2, a3, a4⟩ := hok
  unfold moreOf opC
  dsimp only at *
  by_cases h0 : f0 = 0
  · subst h0
    rw [if_pos rfl]
    exact step_append h hnx f1 f2 a2.1 a2.2 v3 f3 Bo hr hBo a3 a4
  rw [if_neg h0]
  by_cases h1 : f0 = 1
  · subst h1
    exact step_sync h hnx f1 f2 v3
  by_cases h2 : f0 = 2
  · subst h2
    exact step_let h hnx f1 f2 a1.1 a1.2 v3
  by_cases h4 : f0 = 4
  · subst h4
    exact step_none h hnx f1 f2 a1.1 a1.2 v3
  exact step_ask h hnx f0 f1 f2 v3 h0 h1 h2 h4

/-- One more block is held beside. -/
theorem Both.hold {B : Nat} {w w' : World} {q p : Nat} {f : Int} {N : Nat} {arm : Bool} {nx dn : Nat} {rs : List Rc} {x : Nat} {BX : List Nat} (h : Both B w q p f N arm nx dn rs x BX) (hb : Below w.heap.size w w') (k0 : Nat) (hk0 : w.heap.size ≤ k0) (hk1 : k0 < w'.heap.size) : Both B w' q p f N arm nx dn rs x (BX ++ [k0]) := by
  obtain ⟨l1, l2, l3⟩ := h.lt
  have hr := h.ref.below hb
  obtain ⟨v, r1, r2⟩ := hr.body
  refine ⟨h.log.below hb _ (fun k hk => ?_), ⟨⟨v, r1, ?_⟩, fun hm => ?_⟩, h.shorts, h.lx, h.n1⟩
  · rcases List.mem_cons.1 hk with rfl | hk
    · exact ⟨.inl List.mem_cons_self, Nat.lt_of_lt_of_le l2 hb.size⟩
    · rcases List.mem_append.1 hk with hk | hk
      · exact ⟨.inl (List.mem_cons_of_mem _ hk), Nat.lt_of_lt_of_le (l3 k hk) hb.size⟩
      · simp only [List.mem_singleton] at hk; subst hk; exact ⟨.inr hk0, hk1⟩
  · exact RdR.mono r2 (fun k hk => List.mem_append_left _ hk)
  · rcases List.mem_append.1 hm with hm | hm
    · exact h.ref.apart hm
    · simp only [List.mem_singleton] at hm; omega

/-- One call that is handed in, as it lies. -/
theorem wop_at {w : World} {a : Option Addr} {len cap : Nat} {os : List WopV} (ho : WopsAt w a len cap os) {w' : World} (hb : Below w.heap.size w w') (k : Nat) (hk : k < len) : ∃ b off o Bo, a = some ⟨b, off, none⟩ ∧ WopOk o ∧ WopAt w' b (off + k * 4) o ∧ RdT Bo w' o.v3 o.f3 ∧ (∀ j ∈ Bo, j < w.heap.size) ∧ os.getD k wop0 = o := by
  obtain ⟨h1, h2, h3, h4, h5⟩ := ho
  obtain ⟨b, off, rfl, hbl, hat⟩ := h5 (by omega)
  have hao := hat k hk
  have hmem : os.getD k wop0 ∈ os := by
    rw [List.getD_eq_getElem?_getD, List.getElem?_eq_getElem (by omega)]
    exact List.getElem_mem _
  have hr := (hao.rd).trim
  refine ⟨b, off, os.getD k wop0, _, rfl, h4 _ hmem, hao.below hbl hb, hr.below hb, fun j hj => by simpa using (List.mem_filter.1 hj).2, rfl⟩

end Go.Proofs.YtckcdmkgmbicfaaGreat
