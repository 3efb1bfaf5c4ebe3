/- XCopy, XWrite, XNew, XRel, XSame, XLaw: in one text. -/
import Derived.Test.YthgdbjpefjjeaaaGreatMY1
import Derived.Laws.AppendOwnNone
import Derived.Deep.RegionHeld3
import Derived.BigQuiet
import Derived.Deep.QuietTactic
namespace Go.Proofs.YthgdbjpefjjeaaaGreat
open Go.RowKit
set_option linter.unusedVariables false
set_option linter.unusedSimpArgs false
set_option maxRecDepth 4000

/-- A node that can be copied: nil is nil, and it is small. -/
structure NdSrc (w : World) (a1 : Option Addr) (c1 : Nat) (a2 : Option Addr) (c2 : Nat) (a3 : Option Addr) (c3 : Nat) (n : Nd) : Prop where
  p : RdP w (.slice a1 n.pairs.length c1) n.pairs
  k : RdS w (.slice a2 n.keys.length c2) n.keys
  u : RdU w (.slice a3 n.kids.length c3) n.kids
  z1 : a1 = none → c1 = 0
  z2 : a2 = none → c2 = 0
  z3 : a3 = none → c3 = 0
  l1 : n.pairs.length ≤ 1000
  l2 : n.keys.length ≤ 1000
  l3 : n.kids.length ≤ 1000

theorem NdSrc.below {w w' : World} {a1 a2 a3 : Option Addr} {c1 c2 c3 : Nat} {n : Nd} (h : NdSrc w a1 c1 a2 c2 a3 c3 n) (hb : Below w.heap.size w w') : NdSrc w' a1 c1 a2 c2 a3 c3 n :=
  ⟨RdE.below h.p hb, RdE.below h.k hb, RdE.below h.u hb, h.z1, h.z2, h.z3, h.l1, h.l2, h.l3⟩

/-- 'append([]T(nil), l...)', whatever T is. -/
theorem append_nil {α : Type} {k : Nat} {enc : α → List Value} (hk : ∀ x, (enc x).length = k) (h1 : ∀ x, ∀ u ∈ enc x, u.oneCell' = true) {t e : TypeId} {i : TypeInfo} {z : Value} {by' : Nat} (ht : Tryz.prog.underlying t = some (.slice e)) (hi : Tryz.prog.info? e = some i) (hz : i.zero = some z) (hsize : i.size = k) (hby : i.bytes = by') (hzs : z.cells.size = k) (hkp : 0 < k) (hsm : by' ≤ 1000)
    (w : World) (ad : Option Addr) (c : Nat) (l : List α) (hr : RdE k enc w (.slice ad l.length c) l) (hnil : ad = none → c = 0) (hl : l.length ≤ 1000) (ty : TypeId) :
    ∃ v' w', (Builtin.append_ #[t, t] ty #[.slice none 0 0, .slice ad l.length c]).run Tryz.prog w = .ok v' w' ∧ w'.ownsRow w.heap.size e k v' l.length (l.flatMap enc) ∧ Below w.heap.size w w' := by
  cases ad with
  | none =>
    have hc := hnil rfl
    subst hc
    obtain ⟨a', cap', e', h2, _⟩ := hr
    simp only [Value.slice.injEq] at e'
    obtain ⟨_, _, rfl⟩ := e'
    have hl0 : l.length = 0 := by omega
    obtain rfl : l = [] := List.eq_nil_of_length_eq_zero hl0
    have hrun := run_append_owned_none (P := Tryz.prog) (w := w) w.heap.size t ty e i k ht hi (.slice none 0 0) 0 [] (World.ownsRow_nil _ _ _ _)
    exact ⟨_, _, hrun, World.ownsRow_nil _ _ _ _, Below.refl _ _⟩
  | some ad =>
    obtain ⟨a', cap', e', h2, h3, h4⟩ := hr
    simp only [Value.slice.injEq, Option.some.injEq] at e'
    obtain ⟨rfl, _, rfl⟩ := e'
    have hll : (l.flatMap enc).length = l.length * k := by
      clear h4 h2 hl
      induction l with
      | nil => simp
      | cons x t ih => rw [List.flatMap_cons, List.length_append, hk, ih, List.length_cons, Nat.add_mul]; omega
    obtain ⟨v', w', hrun, ho, hg, _⟩ := run_append_own (P := Tryz.prog) w w.heap.size t ty e i z k by' ht hi hz hsize hby hzs hkp (.slice none 0 0) 0 [] (World.ownsRow_nil _ _ _ _) ad l.length c (l.flatMap enc) hll (fun j u hj => by
      have hjl := (List.getElem?_eq_some_iff.1 hj).1
      rw [hll] at hjl
      have hne : l ≠ [] := by intro e; subst e; simp at hjl
      obtain ⟨b, off, e1, _, hcell⟩ := h4 hne
      cases e1
      have hadd : (⟨b, off, none⟩ : Addr).add j = ⟨b, off + j, none⟩ := by unfold Addr.add; split <;> simp_all
      have hik : j / k < l.length := (Nat.div_lt_iff_lt_mul hkp).2 hjl
      have hx := List.getElem?_eq_getElem hik
      have hmk : j % k < (enc l[j / k]).length := by rw [hk]; exact Nat.mod_lt _ hkp
      have hu := List.getElem?_eq_getElem hmk
      have hfl := flat_at k enc hk l (j / k) _ (j % k) _ hx hu
      rw [Nat.div_add_mod' j k] at hfl
      rw [hfl] at hj
      cases hj
      have := hcell (j / k) _ (j % k) _ hx hu
      rw [Nat.add_assoc, Nat.div_add_mod' j k] at this
      rw [hadd]
      exact this) (fun u hu => by obtain ⟨x, _, hx⟩ := List.mem_flatMap.1 hu; exact h1 x u hx) (by unfold maxLen; omega) (by
        have : (0 + l.length) * by' ≤ 1000 * 1000 := Nat.mul_le_mul (by omega) hsm
        omega) (Nat.le_refl _)
    refine ⟨v', w', hrun, by simpa using ho, ⟨hg.os, hg.tape, hg.output, hg.size, fun k hk => hg.block k hk (by simp [Value.ownBlock])⟩⟩

theorem append_kv (w : World) {ad : Option Addr} {c : Nat} {l : List (ByteArray × ByteArray)} (hr : RdP w (.slice ad l.length c) l) (hnil : ad = none → c = 0) (hl : l.length ≤ 1000) (ty : TypeId) :
    ∃ v' w', (Builtin.append_ #[37, 37] ty #[.slice none 0 0, .slice ad l.length c]).run Tryz.prog w = .ok v' w' ∧ w'.ownsRow w.heap.size 85 2 v' l.length (l.flatMap kvE) ∧ Below w.heap.size w w' := by
  obtain ⟨i, hi, h0, h1, h2⟩ := info_parts Tryz.infoKV
  exact append_nil (enc := kvE) (fun _ => rfl) (fun x u hu => by simp [kvE] at hu; rcases hu with rfl | rfl <;> rfl) Tryz.underlying37 hi h0 h1 h2 rfl (by decide) (by decide) w ad c l hr hnil hl ty

theorem append_st (w : World) {ad : Option Addr} {c : Nat} {l : List ByteArray} (hr : RdS w (.slice ad l.length c) l) (hnil : ad = none → c = 0) (hl : l.length ≤ 1000) (ty : TypeId) :
    ∃ v' w', (Builtin.append_ #[38, 38] ty #[.slice none 0 0, .slice ad l.length c]).run Tryz.prog w = .ok v' w' ∧ w'.ownsRow w.heap.size 9 1 v' l.length (l.flatMap strE) ∧ Below w.heap.size w w' := by
  obtain ⟨i, hi, h0, h1, h2⟩ := info_parts Tryz.infoS
  exact append_nil (enc := strE) (fun _ => rfl) (fun x u hu => by simp [strE] at hu; subst hu; rfl) Tryz.underlying38 hi h0 h1 h2 rfl (by decide) (by decide) w ad c l hr hnil hl ty

theorem append_un (w : World) {ad : Option Addr} {c : Nat} {l : List Int} (hr : RdU w (.slice ad l.length c) l) (hnil : ad = none → c = 0) (hl : l.length ≤ 1000) (ty : TypeId) :
    ∃ v' w', (Builtin.append_ #[36, 36] ty #[.slice none 0 0, .slice ad l.length c]).run Tryz.prog w = .ok v' w' ∧ w'.ownsRow w.heap.size 35 1 v' l.length (l.flatMap u32E) ∧ Below w.heap.size w w' := by
  obtain ⟨i, hi, h0, h1, h2⟩ := info_parts Tryz.infoU
  exact append_nil (enc := u32E) (fun _ => rfl) (fun x u hu => by simp [u32E] at hu; subst hu; rfl) Tryz.underlying36 hi h0 h1 h2 rfl (by decide) (by decide) w ad c l hr hnil hl ty

theorem wp_appendR {w : World} {o : Oper} {a : Act} {K : Act → World → Prop} {Q : Exit → Act → World → Prop} (s x : Operand) (t : TypeId) (ho : o.op = .call { callee := .builtin .append, args := #[s, x], argTypes := #[t, t] }) (v u : Value) (hs : a.eval s = v) (hx : a.eval x = u) (v' : Value) (w' : World)
    (hrun : (Builtin.append_ #[t, t] o.type #[v, u]).run Tryz.prog w = .ok v' w') (h : K (a.put o.dst v') w') : o.wp Tryz.prog a w K Q := by
  unfold Oper.wp
  simp [execOp, ho, resolve, invoke, builtin, hs, hx, hrun, Result.andThen]
  exact h

set_option maxHeartbeats 8000000 in
theorem copy_any (w : World) {a1 a2 a3 : Option Addr} {c1 c2 c3 : Nat} {n : Nd} (h : NdSrc w a1 c1 a2 c2 a3 c3 n) :
    Calls Tryz.prog 41 #[.agg #[.bool n.leaf, .slice a1 n.pairs.length c1, .slice a2 n.keys.length c2, .slice a3 n.kids.length c3]] w fun e w' => ∃ u, e = .returned u ∧ NdOwn w' w.heap.size u n ∧ Below w.heap.size w w' := by
  have HSR : Hid (∀ W, Below w.heap.size w W → NdSrc W a1 c1 a2 c2 a3 c3 n) := fun W hW => h.below hW
  have HOW : Hid (∀ X p q r, X.ownsRow (w.heap.size + 2) 85 2 p n.pairs.length (n.pairs.flatMap kvE) → X.ownsRow (w.heap.size + 2) 9 1 q n.keys.length (n.keys.flatMap strE) → X.ownsRow (w.heap.size + 2) 35 1 r n.kids.length (n.kids.flatMap u32E) → NdOwn X (w.heap.size + 2) (.agg #[.bool n.leaf, p, q, r]) n) := fun X p q r h1 h2 h3 => ⟨p, q, r, rfl, h1, h2, h3⟩
  have ap1 := fun W (hW : Below w.heap.size w W) ty => append_kv W (h.below hW).p h.z1 h.l1 ty
  have ap2 := fun W (hW : Below w.heap.size w W) ty => append_st W (h.below hW).k h.z2 h.l2 ty
  have ap3 := fun W (hW : Below w.heap.size w W) ty => append_un W (h.below hW).u h.z3 h.l3 ty
  clear h
  generalize hlf : n.leaf = lf at *
  generalize hq1 : n.pairs.length = n1 at *
  generalize hq2 : n.keys.length = n2 at *
  generalize hq3 : n.kids.length = n3 at *
  generalize hr1 : n.pairs.flatMap kvE = f1 at *
  generalize hr2 : n.keys.flatMap strE = f2 at *
  generalize hr3 : n.kids.flatMap u32E = f3 at *
  have hB := ((Below.refl _ w).alloc (Nat.le_refl _) (.cells #[.bool lf, .slice a1 n1 c1, .slice a2 n2 c2, .slice a3 n3 c3] 40)).alloc (by simp) (.cells #[.bool false, .slice none 0 0, .slice none 0 0, .slice none 0 0] 40)
  have hg := heap_alloc_new (w.alloc (.cells #[.bool lf, .slice a1 n1 c1, .slice a2 n2 c2, .slice a3 n3 c3] 40)) (.cells #[.bool false, .slice none 0 0, .slice none 0 0, .slice none 0 0] 40)
  have hz : ((w.alloc (.cells #[.bool lf, .slice a1 n1 c1, .slice a2 n2 c2, .slice a3 n3 c3] 40)).alloc (.cells #[.bool false, .slice none 0 0, .slice none 0 0, .slice none 0 0] 40)).heap.size = w.heap.size + 2 := by simp
  have hz1 : (w.alloc (.cells #[.bool lf, .slice a1 n1 c1, .slice a2 n2 c2, .slice a3 n3 c3] 40)).heap.size = w.heap.size + 1 := by simp
  have ho : ((w.alloc (.cells #[.bool lf, .slice a1 n1 c1, .slice a2 n2 c2, .slice a3 n3 c3] 40)).alloc (.cells #[.bool false, .slice none 0 0, .slice none 0 0, .slice none 0 0] 40)).heap[w.heap.size]? = some (.cells #[.bool lf, .slice a1 n1 c1, .slice a2 n2 c2, .slice a3 n3 c3] 40) := by
    have := heap_alloc_new w (.cells #[.bool lf, .slice a1 n1 c1, .slice a2 n2 c2, .slice a3 n3 c3] 40)
    rw [← this]
    exact Below.heap_alloc _ _ _ (by simp)
  rw [hz1] at hg
  go_enter Tryz.func41, Tryz.ntmps41
  go_wp2_with fail
  generalize hW2 : (w.alloc (.cells #[.bool lf, .slice a1 n1 c1, .slice a2 n2 c2, .slice a3 n3 c3] 40)).alloc (.cells #[.bool false, .slice none 0 0, .slice none 0 0, .slice none 0 0] 40) = W2 at *
  have hcell : ∀ W, Sole [w.heap.size + 1] W2 W → W.heap[w.heap.size]? = some (.cells #[.bool lf, .slice a1 n1 c1, .slice a2 n2 c2, .slice a3 n3 c3] 40) := fun W hW => (hW.block w.heap.size (by omega) (by simp)).trans ho
  have q0 : ∀ W, Sole [w.heap.size + 1] W2 W → W.cell? ⟨w.heap.size, 0, none⟩ = some (.bool lf) := fun W hW => cell_of_row W _ 0 _ _ (0, 0) (hcell W hW)
  have q1 : ∀ W, Sole [w.heap.size + 1] W2 W → W.cell? ⟨w.heap.size, 1, none⟩ = some (.slice a1 n1 c1) := fun W hW => cell_of_row W _ 1 _ _ (0, 0) (hcell W hW)
  have q2 : ∀ W, Sole [w.heap.size + 1] W2 W → W.cell? ⟨w.heap.size, 2, none⟩ = some (.slice a2 n2 c2) := fun W hW => cell_of_row W _ 2 _ _ (0, 0) (hcell W hW)
  have q3 : ∀ W, Sole [w.heap.size + 1] W2 W → W.cell? ⟨w.heap.size, 3, none⟩ = some (.slice a3 n3 c3) := fun W hW => cell_of_row W _ 3 _ _ (0, 0) (hcell W hW)
  have HBW : Hid (∀ W, Sole [w.heap.size + 1] W2 W → Below w.heap.size w W) := fun W hS => hB.trans ⟨hS.os, hS.tape, hS.output, by have := hS.size; omega, fun k hk => hS.block k (by omega) (by simp; omega)⟩
  clear ho hcell
  refine wp_region_noPanic ?_
  refine wp_region_held_drew (S := fun W => Sole [w.heap.size + 1] W2 W) (by kernel_rfl) (Sole.drew _ _) (fun hHeld => ?_)
  refine wpAnyH_take (i := 0) (v := .pointer (some ⟨w.heap.size, 0, none⟩)) rfl (by kernel_rfl) (by kernel_rfl) (by kernel_rfl) (fun _ _ _ h => h) (Or.inl ⟨by rfl, fun W hSw => by (try dsimp only at hSw); go_simp⟩) (by assumption) ?_
  simp only [List.getElem_toArray, List.getElem_cons_zero, List.getElem_cons_succ, Act.put, List.setIfInBounds_toArray, List.set_cons_zero, List.set_cons_succ]
  refine wpAnyH_take (i := 1) (v := .bool lf) rfl (by kernel_rfl) (by kernel_rfl) (by kernel_rfl) (fun _ _ _ h => h) (Or.inl ⟨by rfl, fun W hSw => by (try dsimp only at hSw); go_simp⟩) (by assumption) ?_
  simp only [List.getElem_toArray, List.getElem_cons_zero, List.getElem_cons_succ, Act.put, List.setIfInBounds_toArray, List.set_cons_zero, List.set_cons_succ]
  refine wpAnyH_take (i := 2) (v := .pointer (some ⟨w.heap.size, 1, none⟩)) rfl (by kernel_rfl) (by kernel_rfl) (by kernel_rfl) (fun _ _ _ h => h) (Or.inl ⟨by rfl, fun W hSw => by (try dsimp only at hSw); go_simp⟩) (by assumption) ?_
  simp only [List.getElem_toArray, List.getElem_cons_zero, List.getElem_cons_succ, Act.put, List.setIfInBounds_toArray, List.set_cons_zero, List.set_cons_succ]
  refine wpAnyH_take (i := 3) (v := .slice a1 n1 c1) rfl (by kernel_rfl) (by kernel_rfl) (by kernel_rfl) (fun _ _ _ h => h) (Or.inl ⟨by rfl, fun W hSw => by (try dsimp only at hSw); go_simp⟩) (by assumption) ?_
  simp only [List.getElem_toArray, List.getElem_cons_zero, List.getElem_cons_succ, Act.put, List.setIfInBounds_toArray, List.set_cons_zero, List.set_cons_succ]
  refine wpAnyH_take (i := 5) (v := .pointer (some ⟨w.heap.size, 2, none⟩)) rfl (by kernel_rfl) (by kernel_rfl) (by kernel_rfl) (fun _ _ _ h => h) (Or.inl ⟨by rfl, fun W hSw => by (try dsimp only at hSw); go_simp⟩) (by assumption) ?_
  simp only [List.getElem_toArray, List.getElem_cons_zero, List.getElem_cons_succ, Act.put, List.setIfInBounds_toArray, List.set_cons_zero, List.set_cons_succ]
  refine wpAnyH_take (i := 6) (v := .slice a2 n2 c2) rfl (by kernel_rfl) (by kernel_rfl) (by kernel_rfl) (fun _ _ _ h => h) (Or.inl ⟨by rfl, fun W hSw => by (try dsimp only at hSw); go_simp⟩) (by assumption) ?_
  simp only [List.getElem_toArray, List.getElem_cons_zero, List.getElem_cons_succ, Act.put, List.setIfInBounds_toArray, List.set_cons_zero, List.set_cons_succ]
  refine wpAnyH_take (i := 8) (v := .pointer (some ⟨w.heap.size, 3, none⟩)) rfl (by kernel_rfl) (by kernel_rfl) (by kernel_rfl) (fun _ _ _ h => h) (Or.inl ⟨by rfl, fun W hSw => by (try dsimp only at hSw); go_simp⟩) (by assumption) ?_
  simp only [List.getElem_toArray, List.getElem_cons_zero, List.getElem_cons_succ, Act.put, List.setIfInBounds_toArray, List.set_cons_zero, List.set_cons_succ]
  refine wpAnyH_take (i := 9) (v := .slice a3 n3 c3) rfl (by kernel_rfl) (by kernel_rfl) (by kernel_rfl) (fun _ _ _ h => h) (Or.inl ⟨by rfl, fun W hSw => by (try dsimp only at hSw); go_simp⟩) (by assumption) ?_
  simp only [List.getElem_toArray, List.getElem_cons_zero, List.getElem_cons_succ, Act.put, List.setIfInBounds_toArray, List.set_cons_zero, List.set_cons_succ]
  obtain ⟨X0, hX0⟩ : ∃ X0, W2.drew = X0 := ⟨_, rfl⟩
  have gX0 : X0.heap[w.heap.size + 1]? = some (.cells #[.bool false, .slice none 0 0, .slice none 0 0, .slice none 0 0] 40 (0, 0)) := by rw [← hX0]; exact hg
  have SX0 : Sole [w.heap.size + 1] W2 X0 := by rw [← hX0]; exact Sole.drew _ _
  rw [hX0] at hHeld ⊢
  refine wpAnyH_ready (rs := [4]) (by kernel_rfl) (by simp) ?_
  refine AllReadyH.cons rfl (fun K hK => ?_) AllReadyH.nil
  obtain ⟨v1, X1, hrun, row1, hY1⟩ := ap1 X0 (HBW.out X0 SX0) 37
  rw [if_pos (by rfl)]
  refine wp_appendR _ (.tmp 6) 37 rfl _ _ rfl rfl _ _ hrun ?_
  clear hrun
  have gX1 := (hY1.block (w.heap.size + 1) (by have := SX0.size; omega)).trans gX0
  have SX1 : Sole [w.heap.size + 1] W2 X1 := SX0.trans (Sole.of_below hY1 _)
  replace row1 := row_mono row1 (base' := w.heap.size + 2) (by have := SX0.size; omega)
  obtain ⟨b1, d1, rfl⟩ := row_slice row1
  refine hK.out _ _ SX1 (fun hHeld2 => ?_)
  clear hK K
  try simp only [List.getElem_toArray, List.getElem_cons_zero, List.getElem_cons_succ, Act.put, List.setIfInBounds_toArray, List.set_cons_zero, List.set_cons_succ]
  refine wpAnyH_ready (rs := [7]) (by kernel_rfl) (by simp) ?_
  refine AllReadyH.cons rfl (fun K hK => ?_) AllReadyH.nil
  obtain ⟨v2, X2, hrun, row2, hY2⟩ := ap2 X1 (HBW.out X1 SX1) 38
  rw [if_pos (by rfl)]
  refine wp_appendR _ (.tmp 9) 38 rfl _ _ rfl rfl _ _ hrun ?_
  clear hrun
  have gX2 := (hY2.block (w.heap.size + 1) (by have := SX1.size; omega)).trans gX1
  have SX2 : Sole [w.heap.size + 1] W2 X2 := SX1.trans (Sole.of_below hY2 _)
  replace row2 := row_mono row2 (base' := w.heap.size + 2) (by have := SX1.size; omega)
  obtain ⟨b2, d2, rfl⟩ := row_slice row2
  replace row1 := row_below row1 hY2
  refine hK.out _ _ SX2 (fun hHeld2 => ?_)
  clear hK K
  try simp only [List.getElem_toArray, List.getElem_cons_zero, List.getElem_cons_succ, Act.put, List.setIfInBounds_toArray, List.set_cons_zero, List.set_cons_succ]
  refine wpAnyH_ready (rs := [10]) (by kernel_rfl) (by simp) ?_
  refine AllReadyH.cons rfl (fun K hK => ?_) AllReadyH.nil
  obtain ⟨v3, X3, hrun, row3, hY3⟩ := ap3 X2 (HBW.out X2 SX2) 36
  rw [if_pos (by rfl)]
  refine wp_appendR _ (.tmp 12) 36 rfl _ _ rfl rfl _ _ hrun ?_
  clear hrun
  have gX3 := (hY3.block (w.heap.size + 1) (by have := SX2.size; omega)).trans gX2
  have SX3 : Sole [w.heap.size + 1] W2 X3 := SX2.trans (Sole.of_below hY3 _)
  replace row3 := row_mono row3 (base' := w.heap.size + 2) (by have := SX2.size; omega)
  obtain ⟨b3, d3, rfl⟩ := row_slice row3
  replace row1 := row_below row1 hY3
  replace row2 := row_below row2 hY3
  refine hK.out _ _ SX3 (fun hHeld2 => ?_)
  clear hK K
  try simp only [List.getElem_toArray, List.getElem_cons_zero, List.getElem_cons_succ, Act.put, List.setIfInBounds_toArray, List.set_cons_zero, List.set_cons_succ]
  refine wpAnyH_take (i := 11) (v := .agg #[.bool lf, .slice b1 n1 d1, .slice b2 n2 d2, .slice b3 n3 d3]) rfl (by kernel_rfl) (by kernel_rfl) (by kernel_rfl) (fun _ _ _ h => h) (Or.inl ⟨by rfl, fun W hSw => by (try dsimp only at hSw); go_simp⟩) (by assumption) ?_
  simp only [List.getElem_toArray, List.getElem_cons_zero, List.getElem_cons_succ, Act.put, List.setIfInBounds_toArray, List.set_cons_zero, List.set_cons_succ]
  refine wpAnyH_ready (rs := [12]) (by kernel_rfl) (by simp) ?_
  refine AllReadyH.cons rfl (fun K hK => ?_) AllReadyH.nil
  have fN := HOW.out X3 _ _ _ row1 row2 row3
  have fB := HBW.out X3 SX3
  obtain ⟨r1, r2, r3⟩ := fin_node gX3 fN (by omega)
  obtain ⟨y0, y1, y2, y3, u0, u1, u2, u3⟩ := box4 gX3
  have HR1 : Hid _ := r1
  have HR2 : Hid _ := r2
  have HR3 : Hid _ := r3
  have SF : Sole [w.heap.size + 1] W2 ((((X3.setCell ⟨w.heap.size + 1, 0, none⟩ (.bool lf)).setCell ⟨w.heap.size + 1, 1, none⟩ (.slice b1 n1 d1)).setCell ⟨w.heap.size + 1, 2, none⟩ (.slice b2 n2 d2)).setCell ⟨w.heap.size + 1, 3, none⟩ (.slice b3 n3 d3)) := (((SX3.trans (Sole.setCell _ _ (by simp))).trans (Sole.setCell _ _ (by simp))).trans (Sole.setCell _ _ (by simp))).trans (Sole.setCell _ _ (by simp))
  clear r1 r2 r3 fN q0 q1 q2 q3 ap1 ap2 ap3
  go_simp
  go_wp2
  refine hK.out _ _ SF (fun hHeld3 => ?_)
  clear hK K
  refine wpAnyH_done (by kernel_rfl) ?_ _
  refine NoPanic.normal ?_
  go_wp2
  exact ret_node rfl (w.heap.size + 1) _ _ _ _ rfl HR1.out rfl ⟨_, rfl, NdOwn.mono HR2.out (by omega), fB.trans (HR3.out _ (by omega))⟩

/-- One of the nodes written anew. -/
theorem XAt.putN {w : World} {a : Xd} {s : Rx} (h : XAt w a s) (i : Nat) (hi : i < s.es.length) (en : En) (hown : NdOwn w 0 en.val en.n) :
    XAt ((((w.setCell ⟨a.g, i * 4, none⟩ (.bool en.n.leaf)).setCell ⟨a.g, i * 4 + 1, none⟩ en.p).setCell ⟨a.g, i * 4 + 2, none⟩ en.q).setCell ⟨a.g, i * 4 + 3, none⟩ en.r) a { s with es := s.es.set i en } := by
  have hx := h.apart
  have hS : Sole [a.g] w ((((w.setCell ⟨a.g, i * 4, none⟩ (.bool en.n.leaf)).setCell ⟨a.g, i * 4 + 1, none⟩ en.p).setCell ⟨a.g, i * 4 + 2, none⟩ en.q).setCell ⟨a.g, i * 4 + 3, none⟩ en.r) := (((Sole.setCell _ _ (by simp)).trans (Sole.setCell _ _ (by simp))).trans (Sole.setCell _ _ (by simp))).trans (Sole.setCell _ _ (by simp))
  have ho : ∀ k ∈ [a.g], Other w k := fun k hk => by simp at hk; subst hk; exact (h.blocks _ (by simp [Xd.all])).2
  have hlt := fun k hk => (h.blocks k hk).1
  obtain ⟨cur, g1, g2⟩ := h.nr
  have hcb : ∀ j, j < 4 → i * 4 + j < cur.size := fun j hj => by
    have hx := List.getElem?_eq_getElem hi
    have : ∃ u, (En.cells s.es[i])[j]? = some u := ⟨_, List.getElem?_eq_getElem (by simp [En.cells]; exact hj)⟩
    obtain ⟨u, hu⟩ := this
    exact (Array.getElem?_eq_some_iff.1 (g2 i _ j u hx hu)).1
  have r1 := heap_setCell_same _ a.g (i * 4 + 3) _ _ en.r (heap_setCell_same _ a.g (i * 4 + 2) _ _ en.q (heap_setCell_same _ a.g (i * 4 + 1) _ _ en.p (heap_setCell_same w a.g (i * 4) _ _ (.bool en.n.leaf) g1)))
  refine ⟨?_, h.map.other hS (by simp [hx]) (by simp [hx]), ⟨_, r1, fun i' e j u he hu => ?_⟩, (hS.block a.f (hlt _ (by simp [Xd.all])) (by simp [Ne.symm hx.2.2.2.2.2.2.2.2.2.2.2.2.1])).trans h.fr, (hS.block a.l (hlt _ (by simp [Xd.all])) (by simp [Ne.symm hx.2.2.2.2.2.2.2.2.2.2.2.2.2])).trans h.lt, h.ne, fun e he => ?_, ⟨h.ok.k, by simpa using h.ok.e, h.ok.f, h.ok.l⟩⟩
  · have := (hS.block a.x (hlt _ (by simp [Xd.all])) (by simp [hx])).trans h.row
    simpa using this
  · have hj : j < 4 := by
      have := (List.getElem?_eq_some_iff.1 hu).1
      simpa [En.cells] using this
    rw [List.getElem?_set] at he
    by_cases e1 : i = i'
    · subst e1
      rw [if_pos rfl, if_pos hi] at he
      cases he
      have b0 := hcb 0 (by omega)
      have b1 := hcb 1 (by omega)
      have b2 := hcb 2 (by omega)
      have b3 := hcb 3 (by omega)
      rw [Nat.add_zero] at b0
      match j, hj with
      | 0, _ =>
        simp only [En.cells, List.getElem?_cons_zero, Option.some.injEq] at hu
        subst hu
        rw [show i * 4 + 0 = i * 4 from rfl, Array.getElem?_setIfInBounds_ne (by omega), Array.getElem?_setIfInBounds_ne (by omega), Array.getElem?_setIfInBounds_ne (by omega), Array.getElem?_setIfInBounds_self_of_lt b0]
      | 1, _ =>
        simp only [En.cells, List.getElem?_cons_zero, List.getElem?_cons_succ, Option.some.injEq] at hu
        subst hu
        rw [Array.getElem?_setIfInBounds_ne (by omega), Array.getElem?_setIfInBounds_ne (by omega), Array.getElem?_setIfInBounds_self_of_lt (by simpa using b1)]
      | 2, _ =>
        simp only [En.cells, List.getElem?_cons_zero, List.getElem?_cons_succ, Option.some.injEq] at hu
        subst hu
        rw [Array.getElem?_setIfInBounds_ne (by omega), Array.getElem?_setIfInBounds_self_of_lt (by simpa using b2)]
      | 3, _ =>
        simp only [En.cells, List.getElem?_cons_zero, List.getElem?_cons_succ, Option.some.injEq] at hu
        subst hu
        rw [Array.getElem?_setIfInBounds_self_of_lt (by simpa using b3)]
    · rw [if_neg e1] at he
      rw [Array.getElem?_setIfInBounds_ne (by omega), Array.getElem?_setIfInBounds_ne (by omega), Array.getElem?_setIfInBounds_ne (by omega), Array.getElem?_setIfInBounds_ne (by omega)]
      exact g2 i' e j u he hu
  · rcases List.mem_or_eq_of_mem_set he with he | rfl
    · exact (h.own e he).sole hS ho
    · exact hown.sole hS ho

/-- The cells of a node in the list. -/
theorem XAt.cellN {w : World} {a : Xd} {s : Rx} (h : XAt w a s) (i : Nat) (hi : i < s.es.length) : w.cell? ⟨a.g, i * 4, none⟩ = some (.bool s.es[i].n.leaf) ∧ w.cell? ⟨a.g, i * 4 + 1, none⟩ = some s.es[i].p ∧ w.cell? ⟨a.g, i * 4 + 2, none⟩ = some s.es[i].q ∧ w.cell? ⟨a.g, i * 4 + 3, none⟩ = some s.es[i].r ∧ ∀ j, w.frozen? ⟨a.g, j, none⟩ = false := by
  obtain ⟨cur, g1, g2⟩ := h.nr
  have hx := List.getElem?_eq_getElem hi
  refine ⟨?_, ?_, ?_, ?_, fun j => frozen_of_row w a.g j _ _ g1⟩
  · rw [cell_of_row w _ _ _ _ (0, 0) g1]; exact g2 i _ 0 _ hx rfl
  · rw [cell_of_row w _ _ _ _ (0, 0) g1]; exact g2 i _ 1 _ hx rfl
  · rw [cell_of_row w _ _ _ _ (0, 0) g1]; exact g2 i _ 2 _ hx rfl
  · rw [cell_of_row w _ _ _ _ (0, 0) g1]; exact g2 i _ 3 _ hx rfl

def writeX (s : Rx) (j : Nat) (en : En) : Rx := { s with now := runF s.now 1 (some j), es := s.es.set (s.now.lo + j) en, fr := s.fr.set (s.now.lo + j) true }

/-- What Write tells, and what it leaves. -/
def XWr (w : World) (a : Xd) (s : Rx) (n : Nd) (e : Ending) (w' : World) : Prop :=
  (nodeE n ≠ 0 ∧ e = .returned (.tuple #[.int .u32 0, .int .i64 (nodeE n)]) ∧ XAt w' a s ∧ Sole [a.hm, a.g, a.f] w w') ∨
  (nodeE n = 0 ∧ IsFirst s.now.ks 1 none ∧ e = .returned (.tuple #[.int .u32 0, .int .i64 5]) ∧ XAt w' a s ∧ Sole [a.hm, a.g, a.f] w w') ∨
  (nodeE n = 0 ∧ ∃ j en, IsFirst s.now.ks 1 (some j) ∧ en.n = n ∧ e = .returned (.tuple #[.int .u32 ((s.now.lo + j : Nat) : Int), .int .i64 0]) ∧ XAt w' a (writeX s j en) ∧ Sole [a.hm, a.g, a.f] w w')

set_option maxHeartbeats 8000000 in
theorem xwrite_any {w : World} {a : Xd} {s : Rx} (h : XAt w a s) {a1 a2 a3 : Option Addr} {c1 c2 c3 : Nat} {n : Nd} (hat : NdAt w (.agg #[.bool n.leaf, .slice a1 n.pairs.length c1, .slice a2 n.keys.length c2, .slice a3 n.kids.length c3]) n) (hbig : n.pairs.length ≤ 4398046511104) (hsrc : nodeE n = 0 → ∀ W, Sole [a.hm] w W → NdSrc W a1 c1 a2 c2 a3 c3 n) :
    Calls Tryz.prog 14 #[ptr a.x, .agg #[.bool n.leaf, .slice a1 n.pairs.length c1, .slice a2 n.keys.length c2, .slice a3 n.kids.length c3]] w fun e w' => XWr w a s n e w' := by
  have hB := (Below.refl w.heap.size w).alloc (Nat.le_refl _) (.cells #[.bool n.leaf, .slice a1 n.pairs.length c1, .slice a2 n.keys.length c2, .slice a3 n.kids.length c3] 40)
  have hg := heap_alloc_new w (.cells #[.bool n.leaf, .slice a1 n.pairs.length c1, .slice a2 n.keys.length c2, .slice a3 n.kids.length c3] 40)
  have hz : (w.alloc (.cells #[.bool n.leaf, .slice a1 n.pairs.length c1, .slice a2 n.keys.length c2, .slice a3 n.kids.length c3] 40)).heap.size = w.heap.size + 1 := by simp
  have kC := kcheck_any _ _ n (hat.below hB) hbig
  have HX : Hid (XAt w a s) := h
  have HSR : Hid (nodeE n = 0 → ∀ W, Sole [a.hm] w W → NdSrc W a1 c1 a2 c2 a3 c3 n) := hsrc
  have kCp := fun W (hh : NdSrc W a1 c1 a2 c2 a3 c3 n) => copy_any W hh
  have hap := h.apart
  clear hat hsrc h
  generalize hlf : n.leaf = lf at *
  generalize hq1 : n.pairs.length = n1 at *
  generalize hq2 : n.keys.length = n2 at *
  generalize hq3 : n.kids.length = n3 at *
  generalize hW0 : w.alloc (.cells #[.bool lf, .slice a1 n1 c1, .slice a2 n2 c2, .slice a3 n3 c3] 40) = W0 at *
  obtain ⟨y0, y1, y2, y3, _⟩ := box4 hg
  unfold ptr
  go_enter Tryz.func14, Tryz.ntmps14
  go_wp2_with fail
  refine kC.mono ?_
  clear kC
  rintro e w1 ⟨rfl, hb1⟩
  have hB1 : Below w.heap.size w w1 := hB.trans (hb1.mono (by omega))
  have hX1 := HX.out.below hB1
  have hg1 := (hb1.block w.heap.size (by omega)).trans hg
  have hz1 := hb1.size
  clear hW0
  by_cases d : nodeE n = 0
  · have HD : Hid (nodeE n = 0) := d
    rw [d]
    have hsr := HSR.out d
    clear d HSR
    have kT := rtakeRun_ok hX1.map hX1.ok.k 1 (by omega) (by omega)
    have c0 := hX1.c0
    unfold ptr at kT c0
    rw [show ((1 : Nat) : Int) = 1 from rfl] at kT
    go_wp2_with fail
    refine kT.mono ?_
    clear kT c0
    rintro e w2 ⟨r, rfl, hF, hM2, hS2⟩
    cases r with
    | none =>
      have HF : Hid (IsFirst s.now.ks 1 none) := hF
      have hX2 : XAt w2 a s := hX1.putM hM2 hS2 hX1.ok.k rfl rfl
      rw [show runV s.now none = 0 from rfl, show runE none = 5 from rfl]
      clear hF hM2
      go_wp2
      go_ret2
      exact .inr (.inl ⟨HD.out, HF.out, rfl, hX2, (Sole.of_below hB1 _).trans (hS2.mono (by simp))⟩)
    | some j =>
      have hfa := first_at (s := s.now) hF
      have hmost := hX1.ok.k.most
      have hX2 := hX1.putM hM2 hS2 (run_ok hX1.ok.k 1 (some j)) rfl (takeF_len _ _)
      have HF : Hid (IsFirst s.now.ks 1 (some j)) := hF
      rw [show runV s.now (some j) = ((s.now.lo + j : Nat) : Int) from (by show (s.now.lo : Int) + (j : Int) = _; omega), show runE (some j) = 0 from rfl]
      have hlen : s.now.lo + j < s.es.length := by rw [hX1.ok.e]; omega
      have hlf2 : s.now.lo + j < s.fr.length := by rw [hX1.ok.f]; omega
      have hSw2 : Sole [a.hm, a.g, a.f] w w2 := (Sole.of_below hB1 _).trans (hS2.mono (by simp))
      have hhm := (HX.out.blocks a.hm (by simp [Xd.all])).1
      have hg2 := (hS2.block w.heap.size (by omega) (by simp; omega)).trans hg1
      have hsr2 : NdSrc w2 a1 c1 a2 c2 a3 c3 n := hsr w2 ((Sole.of_below hB1 _).trans hS2)
      have kC2 := kCp w2 hsr2
      have kC3 := kCp w2.drew (hsr w2.drew (((Sole.of_below hB1 _).trans hS2).trans (Sole.drew _ _)))
      obtain ⟨y0, y1, y2, y3, _⟩ := box4 hg2
      have hzz : w.heap.size + 1 ≤ w2.heap.size := by have := hS2.size; omega
      generalize hS3 : ({ s with now := runF s.now 1 (some j) } : Rx) = s2 at *
      have hes : s2.es = s.es := by rw [← hS3]
      have hfr : s2.fr = s.fr := by rw [← hS3]
      have c1x := hX2.c1
      rw [hes] at c1x
      have q1 : ∀ W, Sole [a.g] w2 W → W.cell? ⟨a.x, 1, none⟩ = some (.slice (some ⟨a.g, 0, none⟩) s.es.length s.es.length) := fun W hW => (World.cell?_of_block (a := ⟨a.x, 1, none⟩) (hW.block a.x (hX2.blocks _ (by simp [Xd.all])).1 (by simp [hap]))).trans c1x
      have hgl : a.g < w.heap.size := (HX.out.blocks a.g (by simp [Xd.all])).1
      have qn : ∀ W, Sole [a.g] w2 W → W.heap[w.heap.size]? = some (.cells #[.bool lf, .slice a1 n1 c1, .slice a2 n2 c2, .slice a3 n3 c3] 40 (0, 0)) := fun W hW => (hW.block w.heap.size (by omega) (by simp; omega)).trans hg2
      have v0 : ∀ W, Sole [a.g] w2 W → W.cell? ⟨w.heap.size, 0, none⟩ = some (.bool lf) := fun W hW => cell_of_row W _ 0 _ _ (0, 0) (qn W hW)
      have v1 : ∀ W, Sole [a.g] w2 W → W.cell? ⟨w.heap.size, 1, none⟩ = some (.slice a1 n1 c1) := fun W hW => cell_of_row W _ 1 _ _ (0, 0) (qn W hW)
      have v2 : ∀ W, Sole [a.g] w2 W → W.cell? ⟨w.heap.size, 2, none⟩ = some (.slice a2 n2 c2) := fun W hW => cell_of_row W _ 2 _ _ (0, 0) (qn W hW)
      have v3 : ∀ W, Sole [a.g] w2 W → W.cell? ⟨w.heap.size, 3, none⟩ = some (.slice a3 n3 c3) := fun W hW => cell_of_row W _ 3 _ _ (0, 0) (qn W hW)
      clear hF hM2 kC2 kCp hsr2 hsr c1x qn
      generalize hI : s.now.lo + j = I at *
      have HI : Hid (s.now.lo + j = I) := hI
      have hIb : I < 1024 := by omega
      have hIe : (I : Int) < (s.es.length : Int) := by omega
      have hIf : (I : Int) < (s.fr.length : Int) := by omega
      have hel : s.es.length ≤ 1024 := by have := hX1.ok.e; omega
      clear hI
      go_wp2_with fail
      refine wp_region_noPanic ?_
      refine wp_region_held_drew (S := fun W => Sole [a.g] w2 W) (by kernel_rfl) (Sole.drew _ _) (fun hHeld => ?_)
      refine wpAnyH_take (i := 0) (v := .pointer (some ⟨a.x, 0, none⟩)) rfl (by kernel_rfl) (by kernel_rfl) (by kernel_rfl) (fun _ _ _ h => h) (Or.inl ⟨by rfl, fun W hSw => by (try dsimp only at hSw); go_simp⟩) (by assumption) ?_
      simp only [List.getElem_toArray, List.getElem_cons_zero, List.getElem_cons_succ, Act.put, List.setIfInBounds_toArray, List.set_cons_zero, List.set_cons_succ]
      refine wpAnyH_take (i := 1) (v := .pointer (some ⟨a.x, 0, none⟩)) rfl (by kernel_rfl) (by kernel_rfl) (by kernel_rfl) (fun _ _ _ h => h) (Or.inl ⟨by rfl, fun W hSw => by (try dsimp only at hSw); go_simp⟩) (by assumption) ?_
      simp only [List.getElem_toArray, List.getElem_cons_zero, List.getElem_cons_succ, Act.put, List.setIfInBounds_toArray, List.set_cons_zero, List.set_cons_succ]
      refine wpAnyH_take (i := 2) (v := .pointer (some ⟨a.x, 1, none⟩)) rfl (by kernel_rfl) (by kernel_rfl) (by kernel_rfl) (fun _ _ _ h => h) (Or.inl ⟨by rfl, fun W hSw => by (try dsimp only at hSw); go_simp⟩) (by assumption) ?_
      simp only [List.getElem_toArray, List.getElem_cons_zero, List.getElem_cons_succ, Act.put, List.setIfInBounds_toArray, List.set_cons_zero, List.set_cons_succ]
      refine wpAnyH_take (i := 3) (v := .slice (some ⟨a.g, 0, none⟩) s.es.length s.es.length) rfl (by kernel_rfl) (by kernel_rfl) (by kernel_rfl) (fun _ _ _ h => h) (Or.inl ⟨by rfl, fun W hSw => by (try dsimp only at hSw); go_simp⟩) (by assumption) ?_
      simp only [List.getElem_toArray, List.getElem_cons_zero, List.getElem_cons_succ, Act.put, List.setIfInBounds_toArray, List.set_cons_zero, List.set_cons_succ]
      refine wpAnyH_take (i := 4) (v := .int .i64 I) rfl (by kernel_rfl) (by kernel_rfl) (by kernel_rfl) (fun _ _ _ h => h) (Or.inl ⟨by rfl, fun W hSw => by (try dsimp only at hSw); go_simp⟩) (by assumption) ?_
      simp only [List.getElem_toArray, List.getElem_cons_zero, List.getElem_cons_succ, Act.put, List.setIfInBounds_toArray, List.set_cons_zero, List.set_cons_succ]
      refine wpAnyH_take (i := 5) (v := .agg #[.bool lf, .slice a1 n1 c1, .slice a2 n2 c2, .slice a3 n3 c3]) rfl (by kernel_rfl) (by kernel_rfl) (by kernel_rfl) (fun _ _ _ h => h) (Or.inl ⟨by rfl, fun W hSw => by (try dsimp only at hSw); go_simp⟩) (by assumption) ?_
      simp only [List.getElem_toArray, List.getElem_cons_zero, List.getElem_cons_succ, Act.put, List.setIfInBounds_toArray, List.set_cons_zero, List.set_cons_succ]
      refine wpAnyH_ready (rs := [6]) (by kernel_rfl) (by simp) ?_
      refine AllReadyH.cons rfl (fun K hK => ?_) AllReadyH.nil
      go_simp
      go_wp2_with (go_at_call 41; refine kC3.mono ?_; rintro e w3 ⟨u, rfl, hown, hb3⟩)
      obtain ⟨p, q, r, rfl, o1, o2, o3⟩ := id hown
      obtain ⟨b1, d1, rfl⟩ := row_slice o1
      obtain ⟨b2, d2, rfl⟩ := row_slice o2
      obtain ⟨b3, d3, rfl⟩ := row_slice o3
      have hb23 : Below w2.heap.size w2 w3 := (Below.refl _ w2).drew.trans hb3
      have S3 : Sole [a.g] w2 w3 := Sole.of_below hb23 _
      refine hK.out _ _ S3 (fun hHeld2 => ?_)
      clear hK K kC3
      try simp only [List.getElem_toArray, List.getElem_cons_zero, List.getElem_cons_succ, Act.put, List.setIfInBounds_toArray, List.set_cons_zero, List.set_cons_succ]
      have hX3 := hX2.below hb23
      have hX4 := hX3.putN I (by rw [hes]; exact hlen) ⟨n, .slice b1 n.pairs.length d1, .slice b2 n.keys.length d2, .slice b3 n.kids.length d3⟩ (NdOwn.mono hown (Nat.zero_le _))
      obtain ⟨k0, k1, k2, k3, kf⟩ := hX3.cellN I (by rw [hes]; exact hlen)
      dsimp only at hX4
      rw [hlf, hq1, hq2, hq3] at hX4 ⊢
      refine wpAnyH_take (i := 7) (v := .pointer (some ⟨a.g, I * 4, none⟩)) rfl (by kernel_rfl) (by kernel_rfl) (by kernel_rfl) (fun _ _ _ h => h) (Or.inl ⟨by rfl, fun W hSw => by (try dsimp only at hSw); go_simp⟩) (by assumption) ?_
      simp only [List.getElem_toArray, List.getElem_cons_zero, List.getElem_cons_succ, Act.put, List.setIfInBounds_toArray, List.set_cons_zero, List.set_cons_succ]
      refine wpAnyH_ready (rs := [8]) (by kernel_rfl) (by simp) ?_
      refine AllReadyH.cons rfl (fun K hK => ?_) AllReadyH.nil
      have kf0 := kf (I * 4)
      have kf1 := kf (I * 4 + 1)
      have kf2 := kf (I * 4 + 2)
      have kf3 := kf (I * 4 + 3)
      have SF : Sole [a.g] w2 ((((w3.setCell ⟨a.g, I * 4, none⟩ (.bool lf)).setCell ⟨a.g, I * 4 + 1, none⟩ (.slice b1 n1 d1)).setCell ⟨a.g, I * 4 + 2, none⟩ (.slice b2 n2 d2)).setCell ⟨a.g, I * 4 + 3, none⟩ (.slice b3 n3 d3)) := (((S3.trans (Sole.setCell _ _ (by simp))).trans (Sole.setCell _ _ (by simp))).trans (Sole.setCell _ _ (by simp))).trans (Sole.setCell _ _ (by simp))
      clear q1 v0 v1 v2 v3 kf
      go_simp
      go_wp2
      refine hK.out _ _ SF (fun hHeld3 => ?_)
      clear hK K
      refine wpAnyH_done (by kernel_rfl) ?_ _
      refine NoPanic.normal ?_
      have HX4 : Hid _ := hX4
      have c2x := hX4.c2
      dsimp only at c2x
      rw [hfr] at c2x
      obtain ⟨x1, x2⟩ := bools_at hX4.fr (j := I) (by show I < s2.fr.length; rw [hfr]; exact hlf2)
      have HX5 : Hid _ := hX4.putF I true
      generalize hW5 : ((((w3.setCell ⟨a.g, I * 4, none⟩ (.bool lf)).setCell ⟨a.g, I * 4 + 1, none⟩ (.slice b1 n1 d1)).setCell ⟨a.g, I * 4 + 2, none⟩ (.slice b2 n2 d2)).setCell ⟨a.g, I * 4 + 3, none⟩ (.slice b3 n3 d3)) = W5 at *
      have hS5 : Sole [a.hm, a.g, a.f] w (W5.setCell ⟨a.f, I, none⟩ (.bool true)) := (hSw2.trans (SF.mono (by simp))).trans (Sole.setCell _ _ (by simp))
      have hmI : ((I : Nat) : Int) % 4294967296 = ((I : Nat) : Int) := by omega
      clear hX4 hX3 k0 k1 k2 k3 kf0 kf1 kf2 kf3
      go_wp2
      go_ret2
      obtain rfl := HI.out
      subst hS3
      exact .inr (.inr ⟨HD.out, j, _, HF.out, rfl, rfl, HX5.out, hS5⟩)
  · have HD : Hid (¬ nodeE n = 0) := d
    generalize hNE : nodeE n = NE at *
    have HN2 : Hid (nodeE n = NE) := hNE
    clear hNE
    go_wp2
    go_ret2
    obtain rfl := HN2.out
    exact .inl ⟨HD.out, rfl, hX1, Sole.of_below hB1 _⟩

theorem Tryz.infoNode3 : (Tryz.prog.info? 40).map (fun i => (i.zero, i.size, i.bytes)) = some (some (.agg #[.bool false, .slice none 0 0, .slice none 0 0, .slice none 0 0]), 4, 80) := by kernel_rfl

def nodesC (n : Nat) : Array Value := madeCells #[.bool false, .slice none 0 0, .slice none 0 0, .slice none 0 0] (n * 4)
def boolsC (n : Nat) : Array Value := ((List.replicate n false).map Value.bool).toArray

theorem make_nodes (w : World) (n : Nat) (hn : n ≤ 1024) : (Instr.makeSlice 79 (.int .i64 n) (.int .i64 n)).run Tryz.prog w = .ok (.slice (some ⟨w.heap.size, 0, none⟩) n n) (w.alloc (.cells (nodesC n) 40)) := by
  obtain ⟨i, hi, hz0, hz1, hz2⟩ := info_parts Tryz.infoNode3
  have h := run_make (P := Tryz.prog) w 79 40 i _ Tryz.underlying79 hi hz0 .i64 .i64 n n (by omega) (by omega) (by rw [hz2]; omega) (by omega)
  rw [h, hz1, Int.toNat_natCast]
  rfl

theorem make_bools2 (w : World) (n : Nat) (hn : n ≤ 1024) : (Instr.makeSlice 80 (.int .i64 n) (.int .i64 n)).run Tryz.prog w = .ok (.slice (some ⟨w.heap.size, 0, none⟩) n n) (w.alloc (.cells (boolsC n) 4)) := by
  have h := make_bools w (n : Int) n rfl (by omega)
  rw [h]
  unfold boolsC
  rw [List.map_replicate]

theorem nodesC_get (n i j : Nat) (u : Value) (hi : i < n) (hu : (En.cells en0)[j]? = some u) : (nodesC n)[i * 4 + j]? = some u := by
  have hj : j < 4 := by
    have := (List.getElem?_eq_some_iff.1 hu).1
    simpa [En.cells] using this
  unfold nodesC madeCells
  rw [Array.getElem?_map, Array.getElem?_range, if_pos (by omega)]
  simp only [Option.map_some, Option.some.injEq]
  have hm : (i * 4 + j) % 4 = j := by omega
  show (#[Value.bool false, .slice none 0 0, .slice none 0 0, .slice none 0 0] : Array Value)[(i * 4 + j) % 4]! = u
  rw [hm]
  match j, hj with
  | 0, _ => simpa [En.cells, en0, nd0] using hu
  | 1, _ => simpa [En.cells, en0, nd0] using hu
  | 2, _ => simpa [En.cells, en0, nd0] using hu
  | 3, _ => simpa [En.cells, en0, nd0] using hu

/-- The document's pool as it is made. -/
def newX (lo n : Nat) (ks : List Nat) : Rx := ⟨⟨lo, ks⟩, List.replicate (lo + n) en0, List.replicate (lo + n) false, List.replicate (lo + n) false⟩

theorem newX_at {w : World} {x m hm g f l lo n : Nat} {ks : List Nat} (hM : RAt w m hm ⟨lo, ks⟩) (hk : FrOk ⟨lo, ks⟩) (hl : ks.length = n) (hg : w.heap[g]? = some (.cells (nodesC (lo + n)) 40 (0, 0))) (hf : w.heap[f]? = some (.cells (boolsC (lo + n)) 4 (0, 0))) (hlt : w.heap[l]? = some (.cells (boolsC (lo + n)) 4 (0, 0))) (hne : f ≠ l)
    (hx : w.heap[x]? = some (.cells #[ptr m, .slice (some ⟨g, 0, none⟩) (lo + n) (lo + n), .slice (some ⟨f, 0, none⟩) (lo + n) (lo + n), .slice (some ⟨l, 0, none⟩) (lo + n) (lo + n)] 82 (0, 0))) : XAt w ⟨x, m, hm, g, f, l⟩ (newX lo n ks) := by
  have e1 : (newX lo n ks).es.length = lo + n := List.length_replicate
  have e2 : (newX lo n ks).fr.length = lo + n := List.length_replicate
  have e3 : (newX lo n ks).lt.length = lo + n := List.length_replicate
  refine ⟨by rw [e1, e2, e3]; exact hx, hM, ⟨_, hg, fun i e j u he hu => ?_⟩, hf, hlt, hne, fun e he => ?_, ⟨hk, ?_, ?_, ?_⟩⟩
  · have hi := (List.getElem?_eq_some_iff.1 he).1
    have hi' : i < lo + n := by rw [← e1]; exact hi
    have : e = en0 := by
      have he' : (List.replicate (lo + n) en0)[i]? = some e := he
      rw [List.getElem?_replicate, if_pos hi'] at he'
      cases he'
      rfl
    subst this
    exact nodesC_get _ i j u hi' hu
  · rw [List.eq_of_mem_replicate he]
    exact NdOwn.zero _ _
  · rw [e1]; show lo + n = lo + ks.length; rw [hl]
  · rw [e2]; show lo + n = lo + ks.length; rw [hl]
  · rw [e3]; show lo + n = lo + ks.length; rw [hl]

theorem xnew_arg (w : World) (b i : Int) (v : Value) (h : i < 1 ∨ b ≤ i) : Calls Tryz.prog 11 #[.int .i64 b, .int .i64 i, v] w fun e w' => e = .returned (.tuple #[.pointer none, .int .i64 1]) ∧ w' = w := by
  by_cases h1 : i < 1
  · go_enter Tryz.func11, Tryz.ntmps11
    go_wp2
    go_ret2
    exact ⟨rfl, rfl⟩
  · have h2 : b ≤ i := by omega
    clear h
    go_enter Tryz.func11, Tryz.ntmps11
    go_wp2
    go_ret2
    exact ⟨rfl, rfl⟩

def XNewOut (w : World) (lo n : Nat) (l : List Int) (e : Ending) (w' : World) : Prop :=
  Below w.heap.size w w' ∧
      ((anyOut (fresh lo n) l = true ∧ e = .returned (.tuple #[.pointer none, .int .i64 1])) ∨
       (anyOut (fresh lo n) l = false ∧ takeAll lo (List.replicate n 1) l = none ∧ e = .returned (.tuple #[.pointer none, .int .i64 1])) ∨
       (anyOut (fresh lo n) l = false ∧ ∃ ks a, takeAll lo (List.replicate n 1) l = some ks ∧ e = .returned (.tuple #[ptr a.x, .int .i64 0]) ∧ XAt w' a (newX lo n ks) ∧ ∀ k ∈ a.all, w.heap.size ≤ k))

set_option maxHeartbeats 8000000 in
theorem xnew_ok (w : World) (lo n : Nat) (h0 : 1 ≤ lo) (h1 : 1 ≤ n) (h2 : lo + n ≤ 1024) (v : Value) (l : List Int) (hr : RdI w v l) :
    Calls Tryz.prog 11 #[.int .i64 ((lo + n : Nat) : Int), .int .i64 lo, v] w fun e w' => XNewOut w lo n l e w' := by
  have kN := rnew_ok w lo n h1 h2 v l hr
  obtain ⟨va, vc, rfl, _⟩ := id hr
  have i1 : ¬ (lo : Int) < 1 := by omega
  have i2 : ¬ ((lo + n : Nat) : Int) ≤ (lo : Int) := by omega
  rw [show (lo : Int) + (n : Int) = ((lo + n : Nat) : Int) by omega] at kN
  have hmN := fun W => make_nodes W (lo + n) h2
  have hmB := fun W => make_bools2 W (lo + n) h2
  have HL : Hid (∀ ks, takeAll lo (List.replicate n 1) l = some ks → ks.length = n) := fun ks hk => by
    have := takeAll_len lo l (List.replicate n 1) ks hk
    simpa using this
  have HNX : Hid (∀ {w : World} {x m hm g f t : Nat} {ks : List Nat}, RAt w m hm ⟨lo, ks⟩ → FrOk ⟨lo, ks⟩ → ks.length = n → w.heap[g]? = some (.cells (nodesC (lo + n)) 40 (0, 0)) → w.heap[f]? = some (.cells (boolsC (lo + n)) 4 (0, 0)) → w.heap[t]? = some (.cells (boolsC (lo + n)) 4 (0, 0)) → f ≠ t → w.heap[x]? = some (.cells #[ptr m, .slice (some ⟨g, 0, none⟩) (lo + n) (lo + n), .slice (some ⟨f, 0, none⟩) (lo + n) (lo + n), .slice (some ⟨t, 0, none⟩) (lo + n) (lo + n)] 82 (0, 0)) → XAt w ⟨x, m, hm, g, f, t⟩ (newX lo n ks)) := fun a b c d e f g h => newX_at a b c d e f g h
  generalize hBn : lo + n = B at *
  generalize hON : Obj.cells (nodesC B) 40 (0, 0) = ON at *
  generalize hOB : Obj.cells (boolsC B) 4 (0, 0) = OB at *
  clear hON hOB
  have HBN : Hid (lo + n = B) := hBn
  clear hBn
  go_enter Tryz.func11, Tryz.ntmps11
  go_wp2_with fail
  refine kN.mono ?_
  clear kN
  rintro e w2 ⟨hb2, ⟨x1, rfl⟩ | ⟨x1, x2, rfl⟩ | ⟨x1, ks, p, hh, x2, rfl, hP, hok, hp1, hp2⟩⟩
  · clear hmN hmB
    go_wp2
    go_ret2
    exact ⟨hb2, .inl ⟨x1, rfl⟩⟩
  · have HX : Hid _ := x2
    clear x2 hmN hmB
    go_wp2
    go_ret2
    exact ⟨hb2, .inr (.inl ⟨x1, HX.out, rfl⟩)⟩
  · have HX : Hid _ := x2
    have hkl := HL.out ks x2
    clear x2
    unfold ptr
    go_wp2_with fail
    refine wp_region_noPanic ?_
    refine wp_region_held_drew (S := fun W => Below w2.heap.size w2 W) (by kernel_rfl) (Below.refl _ w2).drew (fun hHeld => ?_)
    refine wpAnyH_take (i := 0) (v := .pointer (some ⟨p, 0, none⟩)) rfl (by kernel_rfl) (by kernel_rfl) (by kernel_rfl) (fun _ _ _ h => h) (Or.inl ⟨by rfl, fun W hSw => by (try dsimp only at hSw); go_simp⟩) (by assumption) ?_
    simp only [List.getElem_toArray, List.getElem_cons_zero, List.getElem_cons_succ, Act.put, List.setIfInBounds_toArray, List.set_cons_zero, List.set_cons_succ]
    refine wpAnyH_take (i := 1) (v := .int .i64 B) rfl (by kernel_rfl) (by kernel_rfl) (by kernel_rfl) (fun _ _ _ h => h) (Or.inl ⟨by rfl, fun W hSw => by (try dsimp only at hSw); go_simp⟩) (by assumption) ?_
    simp only [List.getElem_toArray, List.getElem_cons_zero, List.getElem_cons_succ, Act.put, List.setIfInBounds_toArray, List.set_cons_zero, List.set_cons_succ]
    refine wpAnyH_take (i := 3) (v := .int .i64 B) rfl (by kernel_rfl) (by kernel_rfl) (by kernel_rfl) (fun _ _ _ h => h) (Or.inl ⟨by rfl, fun W hSw => by (try dsimp only at hSw); go_simp⟩) (by assumption) ?_
    simp only [List.getElem_toArray, List.getElem_cons_zero, List.getElem_cons_succ, Act.put, List.setIfInBounds_toArray, List.set_cons_zero, List.set_cons_succ]
    refine wpAnyH_take (i := 5) (v := .int .i64 B) rfl (by kernel_rfl) (by kernel_rfl) (by kernel_rfl) (fun _ _ _ h => h) (Or.inl ⟨by rfl, fun W hSw => by (try dsimp only at hSw); go_simp⟩) (by assumption) ?_
    simp only [List.getElem_toArray, List.getElem_cons_zero, List.getElem_cons_succ, Act.put, List.setIfInBounds_toArray, List.set_cons_zero, List.set_cons_succ]
    obtain ⟨X0, hX0⟩ : ∃ X0, w2.drew = X0 := ⟨_, rfl⟩
    have SX0 : Below w2.heap.size w2 X0 := by rw [← hX0]; exact (Below.refl _ w2).drew
    rw [hX0] at hHeld ⊢
    clear hX0
    refine wpAnyH_ready (rs := [2, 4, 6]) (by kernel_rfl) (by simp) ?_
    refine AllReadyH.cons rfl (fun K hK => ?_) (AllReadyH.cons rfl (fun K hK => ?_) (AllReadyH.cons rfl (fun K hK => ?_) AllReadyH.nil))
    · go_simp
      go_wp2
      obtain ⟨X1, hE1⟩ : ∃ X1, X0.alloc ON = X1 := ⟨_, rfl⟩
      have bg : X1.heap[X0.heap.size]? = some ON := by rw [← hE1]; exact heap_alloc_new _ _
      have hY1 : Below X0.heap.size X0 X1 := by rw [← hE1]; exact (Below.refl _ _).alloc (Nat.le_refl _) _
      have hz1 : X1.heap.size = X0.heap.size + 1 := by rw [← hE1]; simp
      have SX1 : Below w2.heap.size w2 X1 := SX0.trans (hY1.mono SX0.size)
      have HZ1 : Hid _ := hz1
      clear hz1
      try rw [hE1]
      clear hE1
      refine hK.out _ _ SX1 (fun hHeld2 => ?_)
      clear hK K
      try simp only [List.getElem_toArray, List.getElem_cons_zero, List.getElem_cons_succ, Act.put, List.setIfInBounds_toArray, List.set_cons_zero, List.set_cons_succ]
      refine wpAnyH_ready (rs := [4, 6]) (by kernel_rfl) (by simp) ?_
      refine AllReadyH.cons rfl (fun K hK => ?_) (AllReadyH.cons rfl (fun K hK => ?_) AllReadyH.nil)
      · go_simp
        go_wp2
        obtain ⟨X2, hE2⟩ : ∃ X2, X1.alloc OB = X2 := ⟨_, rfl⟩
        have bf : X2.heap[X1.heap.size]? = some OB := by rw [← hE2]; exact heap_alloc_new _ _
        have hY2 : Below X1.heap.size X1 X2 := by rw [← hE2]; exact (Below.refl _ _).alloc (Nat.le_refl _) _
        have hz2 : X2.heap.size = X1.heap.size + 1 := by rw [← hE2]; simp
        have SX2 : Below w2.heap.size w2 X2 := SX1.trans (hY2.mono SX1.size)
        have HZ2 : Hid _ := hz2
        clear hz2
        replace bg := (hY2.block _ (by have := HZ1.out; have := HZ2.out; omega)).trans bg
        try rw [hE2]
        clear hE2
        refine hK.out _ _ SX2 (fun hHeld2 => ?_)
        clear hK K
        try simp only [List.getElem_toArray, List.getElem_cons_zero, List.getElem_cons_succ, Act.put, List.setIfInBounds_toArray, List.set_cons_zero, List.set_cons_succ]
        refine wpAnyH_ready (rs := [6]) (by kernel_rfl) (by simp) ?_
        refine AllReadyH.cons rfl (fun K hK => ?_) AllReadyH.nil
        go_simp
        go_wp2
        obtain ⟨X3, hE3⟩ : ∃ X3, X2.alloc OB = X3 := ⟨_, rfl⟩
        have bt : X3.heap[X2.heap.size]? = some OB := by rw [← hE3]; exact heap_alloc_new _ _
        have hY3 : Below X2.heap.size X2 X3 := by rw [← hE3]; exact (Below.refl _ _).alloc (Nat.le_refl _) _
        have hz3 : X3.heap.size = X2.heap.size + 1 := by rw [← hE3]; simp
        have SX3 : Below w2.heap.size w2 X3 := SX2.trans (hY3.mono SX2.size)
        have HZ3 : Hid _ := hz3
        clear hz3
        replace bg := (hY3.block _ (by have := HZ1.out; have := HZ2.out; have := HZ3.out; omega)).trans bg
        replace bf := (hY3.block _ (by have := HZ1.out; have := HZ2.out; have := HZ3.out; omega)).trans bf
        try rw [hE3]
        clear hE3
        refine hK.out _ _ SX3 (fun hHeld2 => ?_)
        clear hK K
        try simp only [List.getElem_toArray, List.getElem_cons_zero, List.getElem_cons_succ, Act.put, List.setIfInBounds_toArray, List.set_cons_zero, List.set_cons_succ]
        refine wpAnyH_take (i := 7) (v := .agg #[.pointer (some ⟨p, 0, none⟩), .slice (some ⟨X0.heap.size, 0, none⟩) B B, .slice (some ⟨X1.heap.size, 0, none⟩) B B, .slice (some ⟨X2.heap.size, 0, none⟩) B B]) rfl (by kernel_rfl) (by kernel_rfl) (by kernel_rfl) (fun _ _ _ h => h) (Or.inl ⟨by rfl, fun W hSw => by (try dsimp only at hSw); go_simp⟩) (by assumption) ?_
        simp only [List.getElem_toArray, List.getElem_cons_zero, List.getElem_cons_succ, Act.put, List.setIfInBounds_toArray, List.set_cons_zero, List.set_cons_succ]
        refine wpAnyH_ready (rs := [8]) (by kernel_rfl) (by simp) ?_
        refine AllReadyH.cons rfl (fun K hK => ?_) AllReadyH.nil
        go_simp
        go_wp2
        have hbF : Below X3.heap.size X3 (X3.alloc (.cells #[.pointer (some ⟨p, 0, none⟩), .slice (some ⟨X0.heap.size, 0, none⟩) B B, .slice (some ⟨X1.heap.size, 0, none⟩) B B, .slice (some ⟨X2.heap.size, 0, none⟩) B B] 82)) := (Below.refl _ _).alloc (Nat.le_refl _) _
        have hgF := heap_alloc_new X3 (.cells #[.pointer (some ⟨p, 0, none⟩), .slice (some ⟨X0.heap.size, 0, none⟩) B B, .slice (some ⟨X1.heap.size, 0, none⟩) B B, .slice (some ⟨X2.heap.size, 0, none⟩) B B] 82)
        have SF : Below w2.heap.size w2 (X3.alloc (.cells #[.pointer (some ⟨p, 0, none⟩), .slice (some ⟨X0.heap.size, 0, none⟩) B B, .slice (some ⟨X1.heap.size, 0, none⟩) B B, .slice (some ⟨X2.heap.size, 0, none⟩) B B] 82)) := SX3.trans (hbF.mono SX3.size)
        have HXN : Hid (XAt (X3.alloc (.cells #[.pointer (some ⟨p, 0, none⟩), .slice (some ⟨X0.heap.size, 0, none⟩) B B, .slice (some ⟨X1.heap.size, 0, none⟩) B B, .slice (some ⟨X2.heap.size, 0, none⟩) B B] 82)) ⟨X3.heap.size, p, hh, X0.heap.size, X1.heap.size, X2.heap.size⟩ (newX lo n ks)) := HNX.out (FrAt.below hP SF) hok hkl ((hbF.block _ (by have := HZ1.out; have := HZ2.out; have := HZ3.out; omega)).trans bg) ((hbF.block _ (by have := HZ1.out; have := HZ2.out; have := HZ3.out; omega)).trans bf) ((hbF.block _ (by have := HZ1.out; have := HZ2.out; have := HZ3.out; omega)).trans bt) (by have := HZ1.out; have := HZ2.out; have := HZ3.out; omega) hgF
        have hz2 := hb2.size
        have hzz := SX0.size
        have HAL : Hid (∀ k ∈ (⟨X3.heap.size, p, hh, X0.heap.size, X1.heap.size, X2.heap.size⟩ : Xd).all, w.heap.size ≤ k) := fun k hk => by
          simp only [Xd.all, List.mem_cons, List.not_mem_nil, or_false] at hk
          have := HZ1.out
          have := HZ2.out
          have := HZ3.out
          omega
        have HBF : Hid _ := hb2.trans (SF.mono hb2.size)
        refine hK.out _ _ SF (fun hHeld3 => ?_)
        clear hK K
        try simp only [List.getElem_toArray, List.getElem_cons_zero, List.getElem_cons_succ, Act.put, List.setIfInBounds_toArray, List.set_cons_zero, List.set_cons_succ]
        refine wpAnyH_take (i := 9) (v := .pointer (some ⟨X3.heap.size, 0, none⟩)) rfl (by kernel_rfl) (by kernel_rfl) (by kernel_rfl) (fun _ _ _ h => h) (Or.inl ⟨by rfl, fun W hSw => by (try dsimp only at hSw); go_simp⟩) (by assumption) ?_
        simp only [List.getElem_toArray, List.getElem_cons_zero, List.getElem_cons_succ, Act.put, List.setIfInBounds_toArray, List.set_cons_zero, List.set_cons_succ]
        refine wpAnyH_take (i := 10) (v := .int .i64 0) rfl (by kernel_rfl) (by kernel_rfl) (by kernel_rfl) (fun _ _ _ h => h) (Or.inl ⟨by rfl, fun W hSw => by (try dsimp only at hSw); go_simp⟩) (by assumption) ?_
        simp only [List.getElem_toArray, List.getElem_cons_zero, List.getElem_cons_succ, Act.put, List.setIfInBounds_toArray, List.set_cons_zero, List.set_cons_succ]
        refine wpAnyH_done (by kernel_rfl) ?_ _
        refine NoPanic.normal ?_
        go_wp2
        go_ret2
        exact ⟨HBF.out, .inr (.inr ⟨x1, ks, _, HX.out, rfl, HXN.out, HAL.out⟩)⟩
      · go_simp
        go_wp2
        obtain ⟨X2, hE2⟩ : ∃ X2, X1.alloc OB = X2 := ⟨_, rfl⟩
        have bt : X2.heap[X1.heap.size]? = some OB := by rw [← hE2]; exact heap_alloc_new _ _
        have hY2 : Below X1.heap.size X1 X2 := by rw [← hE2]; exact (Below.refl _ _).alloc (Nat.le_refl _) _
        have hz2 : X2.heap.size = X1.heap.size + 1 := by rw [← hE2]; simp
        have SX2 : Below w2.heap.size w2 X2 := SX1.trans (hY2.mono SX1.size)
        have HZ2 : Hid _ := hz2
        clear hz2
        replace bg := (hY2.block _ (by have := HZ1.out; have := HZ2.out; omega)).trans bg
        try rw [hE2]
        clear hE2
        refine hK.out _ _ SX2 (fun hHeld2 => ?_)
        clear hK K
        try simp only [List.getElem_toArray, List.getElem_cons_zero, List.getElem_cons_succ, Act.put, List.setIfInBounds_toArray, List.set_cons_zero, List.set_cons_succ]
        refine wpAnyH_ready (rs := [4]) (by kernel_rfl) (by simp) ?_
        refine AllReadyH.cons rfl (fun K hK => ?_) AllReadyH.nil
        go_simp
        go_wp2
        obtain ⟨X3, hE3⟩ : ∃ X3, X2.alloc OB = X3 := ⟨_, rfl⟩
        have bf : X3.heap[X2.heap.size]? = some OB := by rw [← hE3]; exact heap_alloc_new _ _
        have hY3 : Below X2.heap.size X2 X3 := by rw [← hE3]; exact (Below.refl _ _).alloc (Nat.le_refl _) _
        have hz3 : X3.heap.size = X2.heap.size + 1 := by rw [← hE3]; simp
        have SX3 : Below w2.heap.size w2 X3 := SX2.trans (hY3.mono SX2.size)
        have HZ3 : Hid _ := hz3
        clear hz3
        replace bg := (hY3.block _ (by have := HZ1.out; have := HZ2.out; have := HZ3.out; omega)).trans bg
        replace bt := (hY3.block _ (by have := HZ1.out; have := HZ2.out; have := HZ3.out; omega)).trans bt
        try rw [hE3]
        clear hE3
        refine hK.out _ _ SX3 (fun hHeld2 => ?_)
        clear hK K
        try simp only [List.getElem_toArray, List.getElem_cons_zero, List.getElem_cons_succ, Act.put, List.setIfInBounds_toArray, List.set_cons_zero, List.set_cons_succ]
        refine wpAnyH_take (i := 7) (v := .agg #[.pointer (some ⟨p, 0, none⟩), .slice (some ⟨X0.heap.size, 0, none⟩) B B, .slice (some ⟨X2.heap.size, 0, none⟩) B B, .slice (some ⟨X1.heap.size, 0, none⟩) B B]) rfl (by kernel_rfl) (by kernel_rfl) (by kernel_rfl) (fun _ _ _ h => h) (Or.inl ⟨by rfl, fun W hSw => by (try dsimp only at hSw); go_simp⟩) (by assumption) ?_
        simp only [List.getElem_toArray, List.getElem_cons_zero, List.getElem_cons_succ, Act.put, List.setIfInBounds_toArray, List.set_cons_zero, List.set_cons_succ]
        refine wpAnyH_ready (rs := [8]) (by kernel_rfl) (by simp) ?_
        refine AllReadyH.cons rfl (fun K hK => ?_) AllReadyH.nil
        go_simp
        go_wp2
        have hbF : Below X3.heap.size X3 (X3.alloc (.cells #[.pointer (some ⟨p, 0, none⟩), .slice (some ⟨X0.heap.size, 0, none⟩) B B, .slice (some ⟨X2.heap.size, 0, none⟩) B B, .slice (some ⟨X1.heap.size, 0, none⟩) B B] 82)) := (Below.refl _ _).alloc (Nat.le_refl _) _
        have hgF := heap_alloc_new X3 (.cells #[.pointer (some ⟨p, 0, none⟩), .slice (some ⟨X0.heap.size, 0, none⟩) B B, .slice (some ⟨X2.heap.size, 0, none⟩) B B, .slice (some ⟨X1.heap.size, 0, none⟩) B B] 82)
        have SF : Below w2.heap.size w2 (X3.alloc (.cells #[.pointer (some ⟨p, 0, none⟩), .slice (some ⟨X0.heap.size, 0, none⟩) B B, .slice (some ⟨X2.heap.size, 0, none⟩) B B, .slice (some ⟨X1.heap.size, 0, none⟩) B B] 82)) := SX3.trans (hbF.mono SX3.size)
        have HXN : Hid (XAt (X3.alloc (.cells #[.pointer (some ⟨p, 0, none⟩), .slice (some ⟨X0.heap.size, 0, none⟩) B B, .slice (some ⟨X2.heap.size, 0, none⟩) B B, .slice (some ⟨X1.heap.size, 0, none⟩) B B] 82)) ⟨X3.heap.size, p, hh, X0.heap.size, X2.heap.size, X1.heap.size⟩ (newX lo n ks)) := HNX.out (FrAt.below hP SF) hok hkl ((hbF.block _ (by have := HZ1.out; have := HZ2.out; have := HZ3.out; omega)).trans bg) ((hbF.block _ (by have := HZ1.out; have := HZ2.out; have := HZ3.out; omega)).trans bf) ((hbF.block _ (by have := HZ1.out; have := HZ2.out; have := HZ3.out; omega)).trans bt) (by have := HZ1.out; have := HZ2.out; have := HZ3.out; omega) hgF
        have hz2 := hb2.size
        have hzz := SX0.size
        have HAL : Hid (∀ k ∈ (⟨X3.heap.size, p, hh, X0.heap.size, X2.heap.size, X1.heap.size⟩ : Xd).all, w.heap.size ≤ k) := fun k hk => by
          simp only [Xd.all, List.mem_cons, List.not_mem_nil, or_false] at hk
          have := HZ1.out
          have := HZ2.out
          have := HZ3.out
          omega
        have HBF : Hid _ := hb2.trans (SF.mono hb2.size)
        refine hK.out _ _ SF (fun hHeld3 => ?_)
        clear hK K
        try simp only [List.getElem_toArray, List.getElem_cons_zero, List.getElem_cons_succ, Act.put, List.setIfInBounds_toArray, List.set_cons_zero, List.set_cons_succ]
        refine wpAnyH_take (i := 9) (v := .pointer (some ⟨X3.heap.size, 0, none⟩)) rfl (by kernel_rfl) (by kernel_rfl) (by kernel_rfl) (fun _ _ _ h => h) (Or.inl ⟨by rfl, fun W hSw => by (try dsimp only at hSw); go_simp⟩) (by assumption) ?_
        simp only [List.getElem_toArray, List.getElem_cons_zero, List.getElem_cons_succ, Act.put, List.setIfInBounds_toArray, List.set_cons_zero, List.set_cons_succ]
        refine wpAnyH_take (i := 10) (v := .int .i64 0) rfl (by kernel_rfl) (by kernel_rfl) (by kernel_rfl) (fun _ _ _ h => h) (Or.inl ⟨by rfl, fun W hSw => by (try dsimp only at hSw); go_simp⟩) (by assumption) ?_
        simp only [List.getElem_toArray, List.getElem_cons_zero, List.getElem_cons_succ, Act.put, List.setIfInBounds_toArray, List.set_cons_zero, List.set_cons_succ]
        refine wpAnyH_done (by kernel_rfl) ?_ _
        refine NoPanic.normal ?_
        go_wp2
        go_ret2
        exact ⟨HBF.out, .inr (.inr ⟨x1, ks, _, HX.out, rfl, HXN.out, HAL.out⟩)⟩
    · go_simp
      go_wp2
      obtain ⟨X1, hE1⟩ : ∃ X1, X0.alloc OB = X1 := ⟨_, rfl⟩
      have bf : X1.heap[X0.heap.size]? = some OB := by rw [← hE1]; exact heap_alloc_new _ _
      have hY1 : Below X0.heap.size X0 X1 := by rw [← hE1]; exact (Below.refl _ _).alloc (Nat.le_refl _) _
      have hz1 : X1.heap.size = X0.heap.size + 1 := by rw [← hE1]; simp
      have SX1 : Below w2.heap.size w2 X1 := SX0.trans (hY1.mono SX0.size)
      have HZ1 : Hid _ := hz1
      clear hz1
      try rw [hE1]
      clear hE1
      refine hK.out _ _ SX1 (fun hHeld2 => ?_)
      clear hK K
      try simp only [List.getElem_toArray, List.getElem_cons_zero, List.getElem_cons_succ, Act.put, List.setIfInBounds_toArray, List.set_cons_zero, List.set_cons_succ]
      refine wpAnyH_ready (rs := [2, 6]) (by kernel_rfl) (by simp) ?_
      refine AllReadyH.cons rfl (fun K hK => ?_) (AllReadyH.cons rfl (fun K hK => ?_) AllReadyH.nil)
      · go_simp
        go_wp2
        obtain ⟨X2, hE2⟩ : ∃ X2, X1.alloc ON = X2 := ⟨_, rfl⟩
        have bg : X2.heap[X1.heap.size]? = some ON := by rw [← hE2]; exact heap_alloc_new _ _
        have hY2 : Below X1.heap.size X1 X2 := by rw [← hE2]; exact (Below.refl _ _).alloc (Nat.le_refl _) _
        have hz2 : X2.heap.size = X1.heap.size + 1 := by rw [← hE2]; simp
        have SX2 : Below w2.heap.size w2 X2 := SX1.trans (hY2.mono SX1.size)
        have HZ2 : Hid _ := hz2
        clear hz2
        replace bf := (hY2.block _ (by have := HZ1.out; have := HZ2.out; omega)).trans bf
        try rw [hE2]
        clear hE2
        refine hK.out _ _ SX2 (fun hHeld2 => ?_)
        clear hK K
        try simp only [List.getElem_toArray, List.getElem_cons_zero, List.getElem_cons_succ, Act.put, List.setIfInBounds_toArray, List.set_cons_zero, List.set_cons_succ]
        refine wpAnyH_ready (rs := [6]) (by kernel_rfl) (by simp) ?_
        refine AllReadyH.cons rfl (fun K hK => ?_) AllReadyH.nil
        go_simp
        go_wp2
        obtain ⟨X3, hE3⟩ : ∃ X3, X2.alloc OB = X3 := ⟨_, rfl⟩
        have bt : X3.heap[X2.heap.size]? = some OB := by rw [← hE3]; exact heap_alloc_new _ _
        have hY3 : Below X2.heap.size X2 X3 := by rw [← hE3]; exact (Below.refl _ _).alloc (Nat.le_refl _) _
        have hz3 : X3.heap.size = X2.heap.size + 1 := by rw [← hE3]; simp
        have SX3 : Below w2.heap.size w2 X3 := SX2.trans (hY3.mono SX2.size)
        have HZ3 : Hid _ := hz3
        clear hz3
        replace bf := (hY3.block _ (by have := HZ1.out; have := HZ2.out; have := HZ3.out; omega)).trans bf
        replace bg := (hY3.block _ (by have := HZ1.out; have := HZ2.out; have := HZ3.out; omega)).trans bg
        try rw [hE3]
        clear hE3
        refine hK.out _ _ SX3 (fun hHeld2 => ?_)
        clear hK K
        try simp only [List.getElem_toArray, List.getElem_cons_zero, List.getElem_cons_succ, Act.put, List.setIfInBounds_toArray, List.set_cons_zero, List.set_cons_succ]
        refine wpAnyH_take (i := 7) (v := .agg #[.pointer (some ⟨p, 0, none⟩), .slice (some ⟨X1.heap.size, 0, none⟩) B B, .slice (some ⟨X0.heap.size, 0, none⟩) B B, .slice (some ⟨X2.heap.size, 0, none⟩) B B]) rfl (by kernel_rfl) (by kernel_rfl) (by kernel_rfl) (fun _ _ _ h => h) (Or.inl ⟨by rfl, fun W hSw => by (try dsimp only at hSw); go_simp⟩) (by assumption) ?_
        simp only [List.getElem_toArray, List.getElem_cons_zero, List.getElem_cons_succ, Act.put, List.setIfInBounds_toArray, List.set_cons_zero, List.set_cons_succ]
        refine wpAnyH_ready (rs := [8]) (by kernel_rfl) (by simp) ?_
        refine AllReadyH.cons rfl (fun K hK => ?_) AllReadyH.nil
        go_simp
        go_wp2
        have hbF : Below X3.heap.size X3 (X3.alloc (.cells #[.pointer (some ⟨p, 0, none⟩), .slice (some ⟨X1.heap.size, 0, none⟩) B B, .slice (some ⟨X0.heap.size, 0, none⟩) B B, .slice (some ⟨X2.heap.size, 0, none⟩) B B] 82)) := (Below.refl _ _).alloc (Nat.le_refl _) _
        have hgF := heap_alloc_new X3 (.cells #[.pointer (some ⟨p, 0, none⟩), .slice (some ⟨X1.heap.size, 0, none⟩) B B, .slice (some ⟨X0.heap.size, 0, none⟩) B B, .slice (some ⟨X2.heap.size, 0, none⟩) B B] 82)
        have SF : Below w2.heap.size w2 (X3.alloc (.cells #[.pointer (some ⟨p, 0, none⟩), .slice (some ⟨X1.heap.size, 0, none⟩) B B, .slice (some ⟨X0.heap.size, 0, none⟩) B B, .slice (some ⟨X2.heap.size, 0, none⟩) B B] 82)) := SX3.trans (hbF.mono SX3.size)
        have HXN : Hid (XAt (X3.alloc (.cells #[.pointer (some ⟨p, 0, none⟩), .slice (some ⟨X1.heap.size, 0, none⟩) B B, .slice (some ⟨X0.heap.size, 0, none⟩) B B, .slice (some ⟨X2.heap.size, 0, none⟩) B B] 82)) ⟨X3.heap.size, p, hh, X1.heap.size, X0.heap.size, X2.heap.size⟩ (newX lo n ks)) := HNX.out (FrAt.below hP SF) hok hkl ((hbF.block _ (by have := HZ1.out; have := HZ2.out; have := HZ3.out; omega)).trans bg) ((hbF.block _ (by have := HZ1.out; have := HZ2.out; have := HZ3.out; omega)).trans bf) ((hbF.block _ (by have := HZ1.out; have := HZ2.out; have := HZ3.out; omega)).trans bt) (by have := HZ1.out; have := HZ2.out; have := HZ3.out; omega) hgF
        have hz2 := hb2.size
        have hzz := SX0.size
        have HAL : Hid (∀ k ∈ (⟨X3.heap.size, p, hh, X1.heap.size, X0.heap.size, X2.heap.size⟩ : Xd).all, w.heap.size ≤ k) := fun k hk => by
          simp only [Xd.all, List.mem_cons, List.not_mem_nil, or_false] at hk
          have := HZ1.out
          have := HZ2.out
          have := HZ3.out
          omega
        have HBF : Hid _ := hb2.trans (SF.mono hb2.size)
        refine hK.out _ _ SF (fun hHeld3 => ?_)
        clear hK K
        try simp only [List.getElem_toArray, List.getElem_cons_zero, List.getElem_cons_succ, Act.put, List.setIfInBounds_toArray, List.set_cons_zero, List.set_cons_succ]
        refine wpAnyH_take (i := 9) (v := .pointer (some ⟨X3.heap.size, 0, none⟩)) rfl (by kernel_rfl) (by kernel_rfl) (by kernel_rfl) (fun _ _ _ h => h) (Or.inl ⟨by rfl, fun W hSw => by (try dsimp only at hSw); go_simp⟩) (by assumption) ?_
        simp only [List.getElem_toArray, List.getElem_cons_zero, List.getElem_cons_succ, Act.put, List.setIfInBounds_toArray, List.set_cons_zero, List.set_cons_succ]
        refine wpAnyH_take (i := 10) (v := .int .i64 0) rfl (by kernel_rfl) (by kernel_rfl) (by kernel_rfl) (fun _ _ _ h => h) (Or.inl ⟨by rfl, fun W hSw => by (try dsimp only at hSw); go_simp⟩) (by assumption) ?_
        simp only [List.getElem_toArray, List.getElem_cons_zero, List.getElem_cons_succ, Act.put, List.setIfInBounds_toArray, List.set_cons_zero, List.set_cons_succ]
        refine wpAnyH_done (by kernel_rfl) ?_ _
        refine NoPanic.normal ?_
        go_wp2
        go_ret2
        exact ⟨HBF.out, .inr (.inr ⟨x1, ks, _, HX.out, rfl, HXN.out, HAL.out⟩)⟩
      · go_simp
        go_wp2
        obtain ⟨X2, hE2⟩ : ∃ X2, X1.alloc OB = X2 := ⟨_, rfl⟩
        have bt : X2.heap[X1.heap.size]? = some OB := by rw [← hE2]; exact heap_alloc_new _ _
        have hY2 : Below X1.heap.size X1 X2 := by rw [← hE2]; exact (Below.refl _ _).alloc (Nat.le_refl _) _
        have hz2 : X2.heap.size = X1.heap.size + 1 := by rw [← hE2]; simp
        have SX2 : Below w2.heap.size w2 X2 := SX1.trans (hY2.mono SX1.size)
        have HZ2 : Hid _ := hz2
        clear hz2
        replace bf := (hY2.block _ (by have := HZ1.out; have := HZ2.out; omega)).trans bf
        try rw [hE2]
        clear hE2
        refine hK.out _ _ SX2 (fun hHeld2 => ?_)
        clear hK K
        try simp only [List.getElem_toArray, List.getElem_cons_zero, List.getElem_cons_succ, Act.put, List.setIfInBounds_toArray, List.set_cons_zero, List.set_cons_succ]
        refine wpAnyH_ready (rs := [2]) (by kernel_rfl) (by simp) ?_
        refine AllReadyH.cons rfl (fun K hK => ?_) AllReadyH.nil
        go_simp
        go_wp2
        obtain ⟨X3, hE3⟩ : ∃ X3, X2.alloc ON = X3 := ⟨_, rfl⟩
        have bg : X3.heap[X2.heap.size]? = some ON := by rw [← hE3]; exact heap_alloc_new _ _
        have hY3 : Below X2.heap.size X2 X3 := by rw [← hE3]; exact (Below.refl _ _).alloc (Nat.le_refl _) _
        have hz3 : X3.heap.size = X2.heap.size + 1 := by rw [← hE3]; simp
        have SX3 : Below w2.heap.size w2 X3 := SX2.trans (hY3.mono SX2.size)
        have HZ3 : Hid _ := hz3
        clear hz3
        replace bf := (hY3.block _ (by have := HZ1.out; have := HZ2.out; have := HZ3.out; omega)).trans bf
        replace bt := (hY3.block _ (by have := HZ1.out; have := HZ2.out; have := HZ3.out; omega)).trans bt
        try rw [hE3]
        clear hE3
        refine hK.out _ _ SX3 (fun hHeld2 => ?_)
        clear hK K
        try simp only [List.getElem_toArray, List.getElem_cons_zero, List.getElem_cons_succ, Act.put, List.setIfInBounds_toArray, List.set_cons_zero, List.set_cons_succ]
        refine wpAnyH_take (i := 7) (v := .agg #[.pointer (some ⟨p, 0, none⟩), .slice (some ⟨X2.heap.size, 0, none⟩) B B, .slice (some ⟨X0.heap.size, 0, none⟩) B B, .slice (some ⟨X1.heap.size, 0, none⟩) B B]) rfl (by kernel_rfl) (by kernel_rfl) (by kernel_rfl) (fun _ _ _ h => h) (Or.inl ⟨by rfl, fun W hSw => by (try dsimp only at hSw); go_simp⟩) (by assumption) ?_
        simp only [List.getElem_toArray, List.getElem_cons_zero, List.getElem_cons_succ, Act.put, List.setIfInBounds_toArray, List.set_cons_zero, List.set_cons_succ]
        refine wpAnyH_ready (rs := [8]) (by kernel_rfl) (by simp) ?_
        refine AllReadyH.cons rfl (fun K hK => ?_) AllReadyH.nil
        go_simp
        go_wp2
        have hbF : Below X3.heap.size X3 (X3.alloc (.cells #[.pointer (some ⟨p, 0, none⟩), .slice (some ⟨X2.heap.size, 0, none⟩) B B, .slice (some ⟨X0.heap.size, 0, none⟩) B B, .slice (some ⟨X1.heap.size, 0, none⟩) B B] 82)) := (Below.refl _ _).alloc (Nat.le_refl _) _
        have hgF := heap_alloc_new X3 (.cells #[.pointer (some ⟨p, 0, none⟩), .slice (some ⟨X2.heap.size, 0, none⟩) B B, .slice (some ⟨X0.heap.size, 0, none⟩) B B, .slice (some ⟨X1.heap.size, 0, none⟩) B B] 82)
        have SF : Below w2.heap.size w2 (X3.alloc (.cells #[.pointer (some ⟨p, 0, none⟩), .slice (some ⟨X2.heap.size, 0, none⟩) B B, .slice (some ⟨X0.heap.size, 0, none⟩) B B, .slice (some ⟨X1.heap.size, 0, none⟩) B B] 82)) := SX3.trans (hbF.mono SX3.size)
        have HXN : Hid (XAt (X3.alloc (.cells #[.pointer (some ⟨p, 0, none⟩), .slice (some ⟨X2.heap.size, 0, none⟩) B B, .slice (some ⟨X0.heap.size, 0, none⟩) B B, .slice (some ⟨X1.heap.size, 0, none⟩) B B] 82)) ⟨X3.heap.size, p, hh, X2.heap.size, X0.heap.size, X1.heap.size⟩ (newX lo n ks)) := HNX.out (FrAt.below hP SF) hok hkl ((hbF.block _ (by have := HZ1.out; have := HZ2.out; have := HZ3.out; omega)).trans bg) ((hbF.block _ (by have := HZ1.out; have := HZ2.out; have := HZ3.out; omega)).trans bf) ((hbF.block _ (by have := HZ1.out; have := HZ2.out; have := HZ3.out; omega)).trans bt) (by have := HZ1.out; have := HZ2.out; have := HZ3.out; omega) hgF
        have hz2 := hb2.size
        have hzz := SX0.size
        have HAL : Hid (∀ k ∈ (⟨X3.heap.size, p, hh, X2.heap.size, X0.heap.size, X1.heap.size⟩ : Xd).all, w.heap.size ≤ k) := fun k hk => by
          simp only [Xd.all, List.mem_cons, List.not_mem_nil, or_false] at hk
          have := HZ1.out
          have := HZ2.out
          have := HZ3.out
          omega
        have HBF : Hid _ := hb2.trans (SF.mono hb2.size)
        refine hK.out _ _ SF (fun hHeld3 => ?_)
        clear hK K
        try simp only [List.getElem_toArray, List.getElem_cons_zero, List.getElem_cons_succ, Act.put, List.setIfInBounds_toArray, List.set_cons_zero, List.set_cons_succ]
        refine wpAnyH_take (i := 9) (v := .pointer (some ⟨X3.heap.size, 0, none⟩)) rfl (by kernel_rfl) (by kernel_rfl) (by kernel_rfl) (fun _ _ _ h => h) (Or.inl ⟨by rfl, fun W hSw => by (try dsimp only at hSw); go_simp⟩) (by assumption) ?_
        simp only [List.getElem_toArray, List.getElem_cons_zero, List.getElem_cons_succ, Act.put, List.setIfInBounds_toArray, List.set_cons_zero, List.set_cons_succ]
        refine wpAnyH_take (i := 10) (v := .int .i64 0) rfl (by kernel_rfl) (by kernel_rfl) (by kernel_rfl) (fun _ _ _ h => h) (Or.inl ⟨by rfl, fun W hSw => by (try dsimp only at hSw); go_simp⟩) (by assumption) ?_
        simp only [List.getElem_toArray, List.getElem_cons_zero, List.getElem_cons_succ, Act.put, List.setIfInBounds_toArray, List.set_cons_zero, List.set_cons_succ]
        refine wpAnyH_done (by kernel_rfl) ?_ _
        refine NoPanic.normal ?_
        go_wp2
        go_ret2
        exact ⟨HBF.out, .inr (.inr ⟨x1, ks, _, HX.out, rfl, HXN.out, HAL.out⟩)⟩
    · go_simp
      go_wp2
      obtain ⟨X1, hE1⟩ : ∃ X1, X0.alloc OB = X1 := ⟨_, rfl⟩
      have bt : X1.heap[X0.heap.size]? = some OB := by rw [← hE1]; exact heap_alloc_new _ _
      have hY1 : Below X0.heap.size X0 X1 := by rw [← hE1]; exact (Below.refl _ _).alloc (Nat.le_refl _) _
      have hz1 : X1.heap.size = X0.heap.size + 1 := by rw [← hE1]; simp
      have SX1 : Below w2.heap.size w2 X1 := SX0.trans (hY1.mono SX0.size)
      have HZ1 : Hid _ := hz1
      clear hz1
      try rw [hE1]
      clear hE1
      refine hK.out _ _ SX1 (fun hHeld2 => ?_)
      clear hK K
      try simp only [List.getElem_toArray, List.getElem_cons_zero, List.getElem_cons_succ, Act.put, List.setIfInBounds_toArray, List.set_cons_zero, List.set_cons_succ]
      refine wpAnyH_ready (rs := [2, 4]) (by kernel_rfl) (by simp) ?_
      refine AllReadyH.cons rfl (fun K hK => ?_) (AllReadyH.cons rfl (fun K hK => ?_) AllReadyH.nil)
      · go_simp
        go_wp2
        obtain ⟨X2, hE2⟩ : ∃ X2, X1.alloc ON = X2 := ⟨_, rfl⟩
        have bg : X2.heap[X1.heap.size]? = some ON := by rw [← hE2]; exact heap_alloc_new _ _
        have hY2 : Below X1.heap.size X1 X2 := by rw [← hE2]; exact (Below.refl _ _).alloc (Nat.le_refl _) _
        have hz2 : X2.heap.size = X1.heap.size + 1 := by rw [← hE2]; simp
        have SX2 : Below w2.heap.size w2 X2 := SX1.trans (hY2.mono SX1.size)
        have HZ2 : Hid _ := hz2
        clear hz2
        replace bt := (hY2.block _ (by have := HZ1.out; have := HZ2.out; omega)).trans bt
        try rw [hE2]
        clear hE2
        refine hK.out _ _ SX2 (fun hHeld2 => ?_)
        clear hK K
        try simp only [List.getElem_toArray, List.getElem_cons_zero, List.getElem_cons_succ, Act.put, List.setIfInBounds_toArray, List.set_cons_zero, List.set_cons_succ]
        refine wpAnyH_ready (rs := [4]) (by kernel_rfl) (by simp) ?_
        refine AllReadyH.cons rfl (fun K hK => ?_) AllReadyH.nil
        go_simp
        go_wp2
        obtain ⟨X3, hE3⟩ : ∃ X3, X2.alloc OB = X3 := ⟨_, rfl⟩
        have bf : X3.heap[X2.heap.size]? = some OB := by rw [← hE3]; exact heap_alloc_new _ _
        have hY3 : Below X2.heap.size X2 X3 := by rw [← hE3]; exact (Below.refl _ _).alloc (Nat.le_refl _) _
        have hz3 : X3.heap.size = X2.heap.size + 1 := by rw [← hE3]; simp
        have SX3 : Below w2.heap.size w2 X3 := SX2.trans (hY3.mono SX2.size)
        have HZ3 : Hid _ := hz3
        clear hz3
        replace bt := (hY3.block _ (by have := HZ1.out; have := HZ2.out; have := HZ3.out; omega)).trans bt
        replace bg := (hY3.block _ (by have := HZ1.out; have := HZ2.out; have := HZ3.out; omega)).trans bg
        try rw [hE3]
        clear hE3
        refine hK.out _ _ SX3 (fun hHeld2 => ?_)
        clear hK K
        try simp only [List.getElem_toArray, List.getElem_cons_zero, List.getElem_cons_succ, Act.put, List.setIfInBounds_toArray, List.set_cons_zero, List.set_cons_succ]
        refine wpAnyH_take (i := 7) (v := .agg #[.pointer (some ⟨p, 0, none⟩), .slice (some ⟨X1.heap.size, 0, none⟩) B B, .slice (some ⟨X2.heap.size, 0, none⟩) B B, .slice (some ⟨X0.heap.size, 0, none⟩) B B]) rfl (by kernel_rfl) (by kernel_rfl) (by kernel_rfl) (fun _ _ _ h => h) (Or.inl ⟨by rfl, fun W hSw => by (try dsimp only at hSw); go_simp⟩) (by assumption) ?_
        simp only [List.getElem_toArray, List.getElem_cons_zero, List.getElem_cons_succ, Act.put, List.setIfInBounds_toArray, List.set_cons_zero, List.set_cons_succ]
        refine wpAnyH_ready (rs := [8]) (by kernel_rfl) (by simp) ?_
        refine AllReadyH.cons rfl (fun K hK => ?_) AllReadyH.nil
        go_simp
        go_wp2
        have hbF : Below X3.heap.size X3 (X3.alloc (.cells #[.pointer (some ⟨p, 0, none⟩), .slice (some ⟨X1.heap.size, 0, none⟩) B B, .slice (some ⟨X2.heap.size, 0, none⟩) B B, .slice (some ⟨X0.heap.size, 0, none⟩) B B] 82)) := (Below.refl _ _).alloc (Nat.le_refl _) _
        have hgF := heap_alloc_new X3 (.cells #[.pointer (some ⟨p, 0, none⟩), .slice (some ⟨X1.heap.size, 0, none⟩) B B, .slice (some ⟨X2.heap.size, 0, none⟩) B B, .slice (some ⟨X0.heap.size, 0, none⟩) B B] 82)
        have SF : Below w2.heap.size w2 (X3.alloc (.cells #[.pointer (some ⟨p, 0, none⟩), .slice (some ⟨X1.heap.size, 0, none⟩) B B, .slice (some ⟨X2.heap.size, 0, none⟩) B B, .slice (some ⟨X0.heap.size, 0, none⟩) B B] 82)) := SX3.trans (hbF.mono SX3.size)
        have HXN : Hid (XAt (X3.alloc (.cells #[.pointer (some ⟨p, 0, none⟩), .slice (some ⟨X1.heap.size, 0, none⟩) B B, .slice (some ⟨X2.heap.size, 0, none⟩) B B, .slice (some ⟨X0.heap.size, 0, none⟩) B B] 82)) ⟨X3.heap.size, p, hh, X1.heap.size, X2.heap.size, X0.heap.size⟩ (newX lo n ks)) := HNX.out (FrAt.below hP SF) hok hkl ((hbF.block _ (by have := HZ1.out; have := HZ2.out; have := HZ3.out; omega)).trans bg) ((hbF.block _ (by have := HZ1.out; have := HZ2.out; have := HZ3.out; omega)).trans bf) ((hbF.block _ (by have := HZ1.out; have := HZ2.out; have := HZ3.out; omega)).trans bt) (by have := HZ1.out; have := HZ2.out; have := HZ3.out; omega) hgF
        have hz2 := hb2.size
        have hzz := SX0.size
        have HAL : Hid (∀ k ∈ (⟨X3.heap.size, p, hh, X1.heap.size, X2.heap.size, X0.heap.size⟩ : Xd).all, w.heap.size ≤ k) := fun k hk => by
          simp only [Xd.all, List.mem_cons, List.not_mem_nil, or_false] at hk
          have := HZ1.out
          have := HZ2.out
          have := HZ3.out
          omega
        have HBF : Hid _ := hb2.trans (SF.mono hb2.size)
        refine hK.out _ _ SF (fun hHeld3 => ?_)
        clear hK K
        try simp only [List.getElem_toArray, List.getElem_cons_zero, List.getElem_cons_succ, Act.put, List.setIfInBounds_toArray, List.set_cons_zero, List.set_cons_succ]
        refine wpAnyH_take (i := 9) (v := .pointer (some ⟨X3.heap.size, 0, none⟩)) rfl (by kernel_rfl) (by kernel_rfl) (by kernel_rfl) (fun _ _ _ h => h) (Or.inl ⟨by rfl, fun W hSw => by (try dsimp only at hSw); go_simp⟩) (by assumption) ?_
        simp only [List.getElem_toArray, List.getElem_cons_zero, List.getElem_cons_succ, Act.put, List.setIfInBounds_toArray, List.set_cons_zero, List.set_cons_succ]
        refine wpAnyH_take (i := 10) (v := .int .i64 0) rfl (by kernel_rfl) (by kernel_rfl) (by kernel_rfl) (fun _ _ _ h => h) (Or.inl ⟨by rfl, fun W hSw => by (try dsimp only at hSw); go_simp⟩) (by assumption) ?_
        simp only [List.getElem_toArray, List.getElem_cons_zero, List.getElem_cons_succ, Act.put, List.setIfInBounds_toArray, List.set_cons_zero, List.set_cons_succ]
        refine wpAnyH_done (by kernel_rfl) ?_ _
        refine NoPanic.normal ?_
        go_wp2
        go_ret2
        exact ⟨HBF.out, .inr (.inr ⟨x1, ks, _, HX.out, rfl, HXN.out, HAL.out⟩)⟩
      · go_simp
        go_wp2
        obtain ⟨X2, hE2⟩ : ∃ X2, X1.alloc OB = X2 := ⟨_, rfl⟩
        have bf : X2.heap[X1.heap.size]? = some OB := by rw [← hE2]; exact heap_alloc_new _ _
        have hY2 : Below X1.heap.size X1 X2 := by rw [← hE2]; exact (Below.refl _ _).alloc (Nat.le_refl _) _
        have hz2 : X2.heap.size = X1.heap.size + 1 := by rw [← hE2]; simp
        have SX2 : Below w2.heap.size w2 X2 := SX1.trans (hY2.mono SX1.size)
        have HZ2 : Hid _ := hz2
        clear hz2
        replace bt := (hY2.block _ (by have := HZ1.out; have := HZ2.out; omega)).trans bt
        try rw [hE2]
        clear hE2
        refine hK.out _ _ SX2 (fun hHeld2 => ?_)
        clear hK K
        try simp only [List.getElem_toArray, List.getElem_cons_zero, List.getElem_cons_succ, Act.put, List.setIfInBounds_toArray, List.set_cons_zero, List.set_cons_succ]
        refine wpAnyH_ready (rs := [2]) (by kernel_rfl) (by simp) ?_
        refine AllReadyH.cons rfl (fun K hK => ?_) AllReadyH.nil
        go_simp
        go_wp2
        obtain ⟨X3, hE3⟩ : ∃ X3, X2.alloc ON = X3 := ⟨_, rfl⟩
        have bg : X3.heap[X2.heap.size]? = some ON := by rw [← hE3]; exact heap_alloc_new _ _
        have hY3 : Below X2.heap.size X2 X3 := by rw [← hE3]; exact (Below.refl _ _).alloc (Nat.le_refl _) _
        have hz3 : X3.heap.size = X2.heap.size + 1 := by rw [← hE3]; simp
        have SX3 : Below w2.heap.size w2 X3 := SX2.trans (hY3.mono SX2.size)
        have HZ3 : Hid _ := hz3
        clear hz3
        replace bt := (hY3.block _ (by have := HZ1.out; have := HZ2.out; have := HZ3.out; omega)).trans bt
        replace bf := (hY3.block _ (by have := HZ1.out; have := HZ2.out; have := HZ3.out; omega)).trans bf
        try rw [hE3]
        clear hE3
        refine hK.out _ _ SX3 (fun hHeld2 => ?_)
        clear hK K
        try simp only [List.getElem_toArray, List.getElem_cons_zero, List.getElem_cons_succ, Act.put, List.setIfInBounds_toArray, List.set_cons_zero, List.set_cons_succ]
        refine wpAnyH_take (i := 7) (v := .agg #[.pointer (some ⟨p, 0, none⟩), .slice (some ⟨X2.heap.size, 0, none⟩) B B, .slice (some ⟨X1.heap.size, 0, none⟩) B B, .slice (some ⟨X0.heap.size, 0, none⟩) B B]) rfl (by kernel_rfl) (by kernel_rfl) (by kernel_rfl) (fun _ _ _ h => h) (Or.inl ⟨by rfl, fun W hSw => by (try dsimp only at hSw); go_simp⟩) (by assumption) ?_
        simp only [List.getElem_toArray, List.getElem_cons_zero, List.getElem_cons_succ, Act.put, List.setIfInBounds_toArray, List.set_cons_zero, List.set_cons_succ]
        refine wpAnyH_ready (rs := [8]) (by kernel_rfl) (by simp) ?_
        refine AllReadyH.cons rfl (fun K hK => ?_) AllReadyH.nil
        go_simp
        go_wp2
        have hbF : Below X3.heap.size X3 (X3.alloc (.cells #[.pointer (some ⟨p, 0, none⟩), .slice (some ⟨X2.heap.size, 0, none⟩) B B, .slice (some ⟨X1.heap.size, 0, none⟩) B B, .slice (some ⟨X0.heap.size, 0, none⟩) B B] 82)) := (Below.refl _ _).alloc (Nat.le_refl _) _
        have hgF := heap_alloc_new X3 (.cells #[.pointer (some ⟨p, 0, none⟩), .slice (some ⟨X2.heap.size, 0, none⟩) B B, .slice (some ⟨X1.heap.size, 0, none⟩) B B, .slice (some ⟨X0.heap.size, 0, none⟩) B B] 82)
        have SF : Below w2.heap.size w2 (X3.alloc (.cells #[.pointer (some ⟨p, 0, none⟩), .slice (some ⟨X2.heap.size, 0, none⟩) B B, .slice (some ⟨X1.heap.size, 0, none⟩) B B, .slice (some ⟨X0.heap.size, 0, none⟩) B B] 82)) := SX3.trans (hbF.mono SX3.size)
        have HXN : Hid (XAt (X3.alloc (.cells #[.pointer (some ⟨p, 0, none⟩), .slice (some ⟨X2.heap.size, 0, none⟩) B B, .slice (some ⟨X1.heap.size, 0, none⟩) B B, .slice (some ⟨X0.heap.size, 0, none⟩) B B] 82)) ⟨X3.heap.size, p, hh, X2.heap.size, X1.heap.size, X0.heap.size⟩ (newX lo n ks)) := HNX.out (FrAt.below hP SF) hok hkl ((hbF.block _ (by have := HZ1.out; have := HZ2.out; have := HZ3.out; omega)).trans bg) ((hbF.block _ (by have := HZ1.out; have := HZ2.out; have := HZ3.out; omega)).trans bf) ((hbF.block _ (by have := HZ1.out; have := HZ2.out; have := HZ3.out; omega)).trans bt) (by have := HZ1.out; have := HZ2.out; have := HZ3.out; omega) hgF
        have hz2 := hb2.size
        have hzz := SX0.size
        have HAL : Hid (∀ k ∈ (⟨X3.heap.size, p, hh, X2.heap.size, X1.heap.size, X0.heap.size⟩ : Xd).all, w.heap.size ≤ k) := fun k hk => by
          simp only [Xd.all, List.mem_cons, List.not_mem_nil, or_false] at hk
          have := HZ1.out
          have := HZ2.out
          have := HZ3.out
          omega
        have HBF : Hid _ := hb2.trans (SF.mono hb2.size)
        refine hK.out _ _ SF (fun hHeld3 => ?_)
        clear hK K
        try simp only [List.getElem_toArray, List.getElem_cons_zero, List.getElem_cons_succ, Act.put, List.setIfInBounds_toArray, List.set_cons_zero, List.set_cons_succ]
        refine wpAnyH_take (i := 9) (v := .pointer (some ⟨X3.heap.size, 0, none⟩)) rfl (by kernel_rfl) (by kernel_rfl) (by kernel_rfl) (fun _ _ _ h => h) (Or.inl ⟨by rfl, fun W hSw => by (try dsimp only at hSw); go_simp⟩) (by assumption) ?_
        simp only [List.getElem_toArray, List.getElem_cons_zero, List.getElem_cons_succ, Act.put, List.setIfInBounds_toArray, List.set_cons_zero, List.set_cons_succ]
        refine wpAnyH_take (i := 10) (v := .int .i64 0) rfl (by kernel_rfl) (by kernel_rfl) (by kernel_rfl) (fun _ _ _ h => h) (Or.inl ⟨by rfl, fun W hSw => by (try dsimp only at hSw); go_simp⟩) (by assumption) ?_
        simp only [List.getElem_toArray, List.getElem_cons_zero, List.getElem_cons_succ, Act.put, List.setIfInBounds_toArray, List.set_cons_zero, List.set_cons_succ]
        refine wpAnyH_done (by kernel_rfl) ?_ _
        refine NoPanic.normal ?_
        go_wp2
        go_ret2
        exact ⟨HBF.out, .inr (.inr ⟨x1, ks, _, HX.out, rfl, HXN.out, HAL.out⟩)⟩

structure Flags (l : List Bool) (lo n : Nat) (P : Nat → Bool) : Prop where
  len : l.length = lo + n
  low : ∀ i, i < lo → l.getD i false = false
  is : ∀ j, j < n → l.getD (lo + j) false = P j

def frB (p : Pu) (j : Nat) : Bool := decide (p.now.ks.getD j 0 = 2) && decide (p.st.ks.getD j 0 = 1)
def ltB (p : Pu) (j : Nat) : Bool := decide (p.now.ks.getD j 0 = 3) && decide (p.st.ks.getD j 0 = 2)

def NodeIs (p : Pu) (j : Nat) (e : En) : Prop := e.n = nd0 ∨ (nodeOk e.n = true ∧ NdOk e.n ∧ seen p.d ((p.now.lo + j : Nat) : Int) = blockL e.n)

structure Rel (p : Pu) (s : Rx) : Prop where
  now : s.now = p.now
  fr : Flags s.fr p.now.lo p.now.ks.length (frB p)
  lt : Flags s.lt p.now.lo p.now.ks.length (ltB p)
  nd : ∀ j, j < p.now.ks.length → p.now.ks.getD j 0 ≠ 1 → ∀ e, s.es[p.now.lo + j]? = some e → NodeIs p j e

theorem getB_set (l : List Bool) (i j : Nat) (v : Bool) (hj : j < l.length) : (l.set i v).getD j false = if i = j then v else l.getD j false := by
  rw [List.getD_eq_getElem?_getD, List.getD_eq_getElem?_getD, List.getElem?_set]
  by_cases e : i = j
  · rw [if_pos e, if_pos e, if_pos (by omega)]; rfl
  · rw [if_neg e, if_neg e]

theorem getB_rep (n i : Nat) : (List.replicate n false).getD i false = false := by
  rw [List.getD_eq_getElem?_getD, List.getElem?_replicate]
  split <;> rfl

theorem Flags.off {lo n m : Nat} {P : Nat → Bool} (hm : m = lo + n) (hP : ∀ j, j < n → P j = false) : Flags (List.replicate m false) lo n P :=
  ⟨by rw [List.length_replicate, hm], fun i _ => getB_rep _ _, fun j hj => by rw [getB_rep, hP j hj]⟩

theorem Flags.put {l : List Bool} {lo n : Nat} {P Q : Nat → Bool} (h : Flags l lo n P) {t : Nat} (ht : t < n) {v : Bool} (hv : Q t = v) (hQ : ∀ j, j < n → j ≠ t → Q j = P j) : Flags (l.set (lo + t) v) lo n Q := by
  have hl := h.len
  refine ⟨by rw [List.length_set]; exact hl, fun i hi => ?_, fun j hj => ?_⟩
  · rw [getB_set _ _ _ _ (by omega), if_neg (by omega)]; exact h.low i hi
  · rw [getB_set _ _ _ _ (by omega)]
    by_cases e : t = j
    · subst e; rw [if_pos rfl, hv]
    · rw [if_neg (by omega), h.is j hj, hQ j hj (fun h => e h.symm)]

theorem Flags.same {l : List Bool} {lo n : Nat} {P Q : Nat → Bool} (h : Flags l lo n P) (hQ : ∀ j, j < n → Q j = P j) : Flags l lo n Q := ⟨h.len, h.low, fun j hj => by rw [h.is j hj, hQ j hj]⟩

theorem Rel.start {d : St} {lo n : Nat} {ks : List Nat} (hl : ks.length = n) (hk : FrOk ⟨lo, ks⟩) : Rel ⟨d, ⟨lo, ks⟩, ⟨lo, ks⟩⟩ (newX lo n ks) := by
  refine ⟨rfl, Flags.off (by show lo + n = lo + ks.length; rw [hl]) fun j _ => ?_, Flags.off (by show lo + n = lo + ks.length; rw [hl]) fun j _ => ?_, fun j hj hne e he => ?_⟩
  · unfold frB
    dsimp only
    generalize ks.getD j 0 = K
    by_cases e : K = 2
    · subst e; rfl
    · rw [decide_eq_false e]; rfl
  · unfold ltB
    dsimp only
    generalize ks.getD j 0 = K
    by_cases e : K = 3
    · subst e; rfl
    · rw [decide_eq_false e]; rfl
  · left
    have he' : (List.replicate (lo + n) en0)[lo + j]? = some e := he
    rw [List.getElem?_replicate] at he'
    split at he'
    · cases he'; rfl
    · cases he'

theorem Rel.settle {p : Pu} {s : Rx} (h : Rel p s) : Rel { p with st := p.now } (settleX s) := by
  refine ⟨h.now, Flags.off h.fr.len fun j _ => ?_, Flags.off h.lt.len fun j _ => ?_, h.nd⟩
  · unfold frB
    dsimp only
    generalize p.now.ks.getD j 0 = K
    by_cases e : K = 2
    · subst e; rfl
    · rw [decide_eq_false e]; rfl
  · unfold ltB
    dsimp only
    generalize p.now.ks.getD j 0 = K
    by_cases e : K = 3
    · subst e; rfl
    · rw [decide_eq_false e]; rfl

theorem undoK_get (lo : Nat) (fr lt : List Bool) (ks : List Nat) (hf : ∀ i, i < lo → fr.getD i false = false) (hl : ∀ i, i < lo → lt.getD i false = false) : ∀ J t, t < ks.length → (undoK lo fr lt ks J).getD t 0 = if lo + t < J then (if lt.getD (lo + t) false then 2 else if fr.getD (lo + t) false then 1 else ks.getD t 0) else ks.getD t 0
  | 0, t, _ => by rw [if_neg (by omega)]; rfl
  | J + 1, t, ht => by
    have ih := undoK_get lo fr lt ks hf hl J t ht
    have hkl := undoK_len lo fr lt ks J
    unfold undoK
    by_cases hJ : J < lo
    · rw [hf J hJ, hl J hJ, if_neg (by simp), if_neg (by simp), ih, if_neg (by omega), if_neg (by omega)]
    · obtain ⟨q, rfl⟩ : ∃ q, J = lo + q := ⟨J - lo, by omega⟩
      rw [show lo + q - lo = q by omega]
      by_cases e : t = q
      · subst e
        rw [if_neg (show ¬ lo + t < lo + t by omega)] at ih
        rw [if_pos (show lo + t < lo + t + 1 by omega)]
        cases h1 : lt.getD (lo + t) false <;> cases h2 : fr.getD (lo + t) false <;> simp only [if_true, if_false, Bool.false_eq_true]
        · exact ih
        · rw [getD_set _ _ _ _ (by rw [hkl]; exact ht), if_pos rfl]
        · rw [getD_set _ _ _ _ (by rw [hkl]; exact ht), if_pos rfl]
        · rw [getD_set _ _ _ _ (by rw [List.length_set, hkl]; exact ht), if_pos rfl]
      · have e' : ¬ q = t := fun h => e h.symm
        have goal : ∀ L : List Nat, L = undoK lo fr lt ks (lo + q) ∨ (∃ v, L = (undoK lo fr lt ks (lo + q)).set q v) ∨ (∃ v u, L = ((undoK lo fr lt ks (lo + q)).set q v).set q u) → L.getD t 0 = (undoK lo fr lt ks (lo + q)).getD t 0 := fun L hL => by
          rcases hL with rfl | ⟨v, rfl⟩ | ⟨v, u, rfl⟩
          · rfl
          · rw [getD_set _ _ _ _ (by rw [hkl]; exact ht), if_neg e']
          · rw [getD_set _ _ _ _ (by rw [List.length_set, hkl]; exact ht), if_neg e', getD_set _ _ _ _ (by rw [hkl]; exact ht), if_neg e']
        have hc : (lo + t < lo + q + 1) ↔ (lo + t < lo + q) := by omega
        have key : (if lt.getD (lo + q) false then (if fr.getD (lo + q) false then (undoK lo fr lt ks (lo + q)).set q 1 else undoK lo fr lt ks (lo + q)).set q 2 else if fr.getD (lo + q) false then (undoK lo fr lt ks (lo + q)).set q 1 else undoK lo fr lt ks (lo + q)).getD t 0 = (undoK lo fr lt ks (lo + q)).getD t 0 := by
          apply goal
          cases lt.getD (lo + q) false <;> cases fr.getD (lo + q) false
          · exact .inl rfl
          · exact .inr (.inl ⟨1, rfl⟩)
          · exact .inr (.inl ⟨2, rfl⟩)
          · exact .inr (.inr ⟨1, 2, rfl⟩)
        rw [key, ih]
        simp only [hc]

theorem ks_ext {l l' : List Nat} (hl : l.length = l'.length) (h : ∀ j, j < l.length → l.getD j 0 = l'.getD j 0) : l = l' := by
  apply List.ext_getElem hl
  intro i h1 h2
  have := h i h1
  rw [List.getD_eq_getElem?_getD, List.getD_eq_getElem?_getD, List.getElem?_eq_getElem h1, List.getElem?_eq_getElem h2] at this
  exact this

theorem Rel.undo {p : Pu} {s : Rx} (h : Rel p s) (hok : PuOk p) : Rel { p with now := p.st } (undoX s) := by
  have hnow : (undoX s).now = p.st := by
    show Fr.mk s.now.lo (undoK s.now.lo s.fr s.lt s.now.ks s.fr.length) = p.st
    rw [h.now]
    have hlen := undoK_len p.now.lo s.fr s.lt p.now.ks s.fr.length
    have hks : undoK p.now.lo s.fr s.lt p.now.ks s.fr.length = p.st.ks := by
      refine ks_ext (by rw [hlen, hok.sl]) fun j hj => ?_
      rw [hlen] at hj
      rw [undoK_get _ _ _ _ h.fr.low h.lt.low _ _ hj, if_pos (by rw [h.fr.len]; omega), h.fr.is j hj, h.lt.is j hj]
      have hr := hok.rel j hj
      unfold frB ltB
      generalize p.now.ks.getD j 0 = A at *
      generalize p.st.ks.getD j 0 = C at *
      unfold pairOk at hr
      rcases hr with ⟨rfl, rfl⟩ | ⟨rfl, rfl⟩ | ⟨rfl, rfl⟩ | ⟨rfl, rfl⟩ | ⟨rfl, rfl⟩ <;> rfl
    rw [hks, ← hok.slo]
  have hl1 : p.st.lo = p.now.lo := hok.slo
  have hl2 : p.st.ks.length = p.now.ks.length := hok.sl
  refine ⟨hnow, ?_, ?_, fun j hj hne e he => ?_⟩
  · show Flags (List.replicate s.fr.length false) p.st.lo p.st.ks.length _
    rw [hl1, hl2]
    refine Flags.off h.fr.len fun j _ => ?_
    unfold frB
    dsimp only
    generalize p.st.ks.getD j 0 = K
    by_cases e : K = 2
    · subst e; rfl
    · rw [decide_eq_false e]; rfl
  · show Flags (List.replicate s.lt.length false) p.st.lo p.st.ks.length _
    rw [hl1, hl2]
    refine Flags.off h.lt.len fun j _ => ?_
    unfold ltB
    dsimp only
    generalize p.st.ks.getD j 0 = K
    by_cases e : K = 3
    · subst e; rfl
    · rw [decide_eq_false e]; rfl
  · have hj' : j < p.now.ks.length := by rw [← hl2]; exact hj
    have hne1 : p.st.ks.getD j 0 ≠ 1 := hne
    have hne2 : p.now.ks.getD j 0 ≠ 1 := by
      have hr := hok.rel j hj'
      unfold pairOk at hr
      omega
    have he' : s.es[p.now.lo + j]? = some e := by rw [← hl1]; exact he
    have := h.nd j hj' hne2 e he'
    unfold NodeIs at *
    show e.n = nd0 ∨ nodeOk e.n = true ∧ NdOk e.n ∧ seen p.d ((p.st.lo + j : Nat) : Int) = blockL e.n
    rw [hl1]
    exact this

theorem Rel.drop {p : Pu} {s : Rx} (h : Rel p s) (hok : PuOk p) (i : Nat) : Rel (dropP p (i : Int)) (dropX s i) := by
  unfold dropX
  rw [h.now]
  by_cases e2 : kindOfN p.now (i : Int) = 2
  · rw [if_pos e2]
    obtain ⟨t, ht, e⟩ := kindOfN_in (s := p.now) (i := (i : Int)) (by rw [e2]; omega)
    obtain rfl : i = p.now.lo + t := by omega
    have hk2 : p.now.ks.getD t 0 = 2 := by rw [← kindOfN_at ht]; exact e2
    have hst : kindOfN p.st ((p.now.lo + t : Nat) : Int) = p.st.ks.getD t 0 := by
      have := kindOfN_at (s := p.st) (j := t) (by rw [hok.sl]; exact ht)
      rw [hok.slo] at this
      exact this
    have hr := hok.rel t ht
    rw [hk2] at hr
    have hlo : ∀ to, (turnF p.now ((p.now.lo + t : Nat) : Int) to).lo = p.now.lo := fun to => turnF_lo _ _ _
    have hle : ∀ to, (turnF p.now ((p.now.lo + t : Nat) : Int) to).ks.length = p.now.ks.length := fun to => turnF_len _ _ _
    have hget : ∀ to j, j < p.now.ks.length → (turnF p.now ((p.now.lo + t : Nat) : Int) to).ks.getD j 0 = if j = t then to else p.now.ks.getD j 0 := fun to j hj => by
      rw [turnF_get _ _ _ _ hj]
      by_cases c : j = t
      · subst c; rw [if_pos ⟨e2, rfl⟩, if_pos rfl]
      · rw [if_neg (fun h => c (by omega)), if_neg c]
    rw [h.fr.is t ht]
    unfold dropP freshB
    rw [hst]
    by_cases c1 : p.st.ks.getD t 0 = 1
    · have hb : frB p t = true := by unfold frB; rw [hk2, c1]; rfl
      rw [hb, if_pos rfl, c1]
      simp only [ne_eq, show ¬ (1 : Nat) = 2 by decide, not_false_eq_true, decide_true, if_true]
      refine ⟨rfl, ?_, ?_, fun j hj hne e he => ?_⟩
      · show Flags (s.fr.set (p.now.lo + t) false) (turnF p.now _ 1).lo (turnF p.now _ 1).ks.length _
        rw [hlo, hle]
        refine h.fr.put ht ?_ fun j hj hne => ?_
        · unfold frB; dsimp only; rw [hget 1 t ht, if_pos rfl]; rfl
        · unfold frB; dsimp only; rw [hget 1 j hj, if_neg hne]
      · show Flags s.lt (turnF p.now _ 1).lo (turnF p.now _ 1).ks.length _
        rw [hlo, hle]
        refine h.lt.same fun j hj => ?_
        unfold ltB; dsimp only; rw [hget 1 j hj]
        by_cases c : j = t
        · subst c; rw [if_pos rfl, hk2]; rfl
        · rw [if_neg c]
      · have hj' : j < p.now.ks.length := by rw [← hle 1]; exact hj
        have hne' : (turnF p.now ((p.now.lo + t : Nat) : Int) 1).ks.getD j 0 ≠ 1 := hne
        rw [hget 1 j hj'] at hne'
        have hjt : j ≠ t := fun c => hne' (by rw [if_pos c])
        rw [if_neg hjt] at hne'
        have he' : s.es[p.now.lo + j]? = some e := by rw [← hlo 1]; exact he
        have := h.nd j hj' hne' e he'
        unfold NodeIs at *
        show e.n = nd0 ∨ nodeOk e.n = true ∧ NdOk e.n ∧ seen p.d (((turnF p.now _ 1).lo + j : Nat) : Int) = blockL e.n
        rw [hlo]
        exact this
    · have c2 : p.st.ks.getD t 0 = 2 := by unfold pairOk at hr; omega
      have hb : frB p t = false := by unfold frB; rw [hk2, c2]; rfl
      rw [hb, c2]
      simp only [ne_eq, not_true_eq_false, decide_false, Bool.false_eq_true, if_false]
      refine ⟨rfl, ?_, ?_, fun j hj hne e he => ?_⟩
      · show Flags s.fr (turnF p.now _ 3).lo (turnF p.now _ 3).ks.length _
        rw [hlo, hle]
        refine h.fr.same fun j hj => ?_
        unfold frB; dsimp only; rw [hget 3 j hj]
        by_cases c : j = t
        · subst c; rw [if_pos rfl, hk2, c2]; rfl
        · rw [if_neg c]
      · show Flags (s.lt.set (p.now.lo + t) true) (turnF p.now _ 3).lo (turnF p.now _ 3).ks.length _
        rw [hlo, hle]
        refine h.lt.put ht ?_ fun j hj hne => ?_
        · unfold ltB; dsimp only; rw [hget 3 t ht, if_pos rfl, c2]; rfl
        · unfold ltB; dsimp only; rw [hget 3 j hj, if_neg hne]
      · have hj' : j < p.now.ks.length := by rw [← hle 3]; exact hj
        have hne' : (turnF p.now ((p.now.lo + t : Nat) : Int) 3).ks.getD j 0 ≠ 1 := hne
        rw [hget 3 j hj'] at hne'
        have hne2 : p.now.ks.getD j 0 ≠ 1 := by
          by_cases c : j = t
          · subst c; rw [hk2]; omega
          · rw [if_neg c] at hne'; exact hne'
        have he' : s.es[p.now.lo + j]? = some e := by rw [← hlo 3]; exact he
        have := h.nd j hj' hne2 e he'
        unfold NodeIs at *
        show e.n = nd0 ∨ nodeOk e.n = true ∧ NdOk e.n ∧ seen p.d (((turnF p.now _ 3).lo + j : Nat) : Int) = blockL e.n
        rw [hlo]
        exact this
  · rw [if_neg e2]
    have : dropP p (i : Int) = p := by
      unfold dropP turnF
      rw [if_neg e2]
    rw [this]
    exact h

theorem Rel.write {p : Pu} {s : Rx} (h : Rel p s) (hok : PuOk p) (hd : DOn p.d) {j : Nat} (hj : firstR p.now.ks = some j) {en : En} (hn : nodeOk en.n = true) (hk : NdOk en.n) (he : s.es.length = p.now.lo + p.now.ks.length) :
    Rel { takeP p j with d := doneSt p.d ((p.now.lo + j : Nat) : Int) (blockL en.n) } (writeX s j en) := by
  have hf := firstR_is p.now.ks
  rw [hj] at hf
  obtain ⟨ht, h1⟩ := first_at (s := p.now) hf
  have hle : (takeP p j).now.ks.length = p.now.ks.length := takeF_len _ _
  have hget : ∀ i, i < p.now.ks.length → (takeP p j).now.ks.getD i 0 = if j = i then 2 else p.now.ks.getD i 0 := fun i hi => takeF_get _ _ _ hi
  have hs1 : p.st.ks.getD j 0 = 1 := by
    have hr := hok.rel j ht
    rw [h1] at hr
    unfold pairOk at hr
    omega
  refine ⟨?_, ?_, ?_, fun i hi hne e hee => ?_⟩
  · show runF s.now 1 (some j) = runF p.now 1 (some j)
    rw [h.now]
  · show Flags (s.fr.set (s.now.lo + j) true) p.now.lo (takeP p j).now.ks.length _
    rw [h.now, hle]
    refine h.fr.put ht ?_ fun i hi hne => ?_
    · unfold frB
      show (decide ((takeP p j).now.ks.getD j 0 = 2) && decide (p.st.ks.getD j 0 = 1)) = true
      rw [hget j ht, if_pos rfl, hs1]; rfl
    · unfold frB
      show (decide ((takeP p j).now.ks.getD i 0 = 2) && decide (p.st.ks.getD i 0 = 1)) = _
      rw [hget i hi, if_neg (fun h => hne h.symm)]
  · show Flags s.lt p.now.lo (takeP p j).now.ks.length _
    rw [hle]
    refine h.lt.same fun i hi => ?_
    unfold ltB
    show (decide ((takeP p j).now.ks.getD i 0 = 3) && decide (p.st.ks.getD i 0 = 2)) = _
    rw [hget i hi]
    by_cases c : j = i
    · subst c; rw [if_pos rfl, h1, hs1]; rfl
    · rw [if_neg c]
  · have hi' : i < p.now.ks.length := by rw [← hle]; exact hi
    have hee' : (s.es.set (s.now.lo + j) en)[p.now.lo + i]? = some e := hee
    rw [h.now] at hee'
    unfold NodeIs
    show e.n = nd0 ∨ nodeOk e.n = true ∧ NdOk e.n ∧ seen (doneSt p.d ((p.now.lo + j : Nat) : Int) (blockL en.n)) ((p.now.lo + i : Nat) : Int) = blockL e.n
    rw [seen_done hd]
    by_cases c : i = j
    · subst c
      rw [List.getElem?_set, if_pos rfl, if_pos (by rw [he]; omega)] at hee'
      cases hee'
      rw [if_pos rfl]
      exact .inr ⟨hn, hk, rfl⟩
    · rw [List.getElem?_set, if_neg (by omega)] at hee'
      rw [if_neg (by omega)]
      have hne' : (takeP p j).now.ks.getD i 0 ≠ 1 := hne
      rw [hget i hi', if_neg (fun h => c h.symm)] at hne'
      exact h.nd i hi' hne' e hee'

theorem Rel.sweep {p : Pu} {s : Rx} (h : Rel p s) (hok : PuOk p) (l : List Int) : Rel (sweepP p l) (sweepX s l) := by
  have hle : (sweepP p l).now.ks.length = p.now.ks.length := sweepF_len _ _
  have hlo : (sweepP p l).now.lo = p.now.lo := rfl
  have hnow : (sweepX s l).now = (sweepP p l).now := by show sweepF s.now l = sweepF p.now l; rw [h.now]
  refine ⟨hnow, ?_, ?_, fun j hj hne e he => ?_⟩
  · show Flags s.fr p.now.lo (sweepP p l).now.ks.length _
    rw [hle]
    refine h.fr.same fun j hj => ?_
    unfold frB
    rw [sweepP_now p l j hj, sweepP_st hok l j hj]
    have hr := hok.rel j hj
    split
    · rename_i c
      rw [c.1]
      rfl
    · rfl
  · show Flags (wipeL (sweepF s.now l) s.lt s.lt.length) p.now.lo (sweepP p l).now.ks.length _
    rw [hle, h.now]
    have hll := h.lt.len
    refine ⟨by rw [wipeL_len]; exact hll, fun i hi => ?_, fun j hj => ?_⟩
    · rw [wipeL_done _ _ _ _ (by omega) (by omega), h.lt.low i hi]; rfl
    · rw [wipeL_done _ _ _ _ (by omega) (by omega), h.lt.is j hj]
      have hk : kindOfN (sweepF p.now l) ((p.now.lo + j : Nat) : Int) = (sweepP p l).now.ks.getD j 0 := kindOfN_at (s := sweepF p.now l) (j := j) (by rw [sweepF_len]; exact hj)
      rw [hk]
      unfold ltB
      rw [sweepP_now p l j hj, sweepP_st hok l j hj]
      split
      · rw [show decide ((1 : Nat) = 3) = false from rfl]; simp
      · rw [Bool.and_comm, ← Bool.and_assoc, Bool.and_self]
  · have hj' : j < p.now.ks.length := by rw [← hle]; exact hj
    have hne' : p.now.ks.getD j 0 ≠ 1 := fun c => hne (by
      rw [sweepP_now p l j hj', c, if_neg (by omega)])
    exact h.nd j hj' hne' e he

/-- A row that can be written over. -/
def RowIs (w : World) (base e k : Nat) (v : Value) (n : Nat) : Prop := ∃ a c, v = .slice a n c ∧ n ≤ c ∧ c ≤ maxLen ∧ (0 < n → ∃ g cur, a = some ⟨g, 0, none⟩ ∧ base ≤ g ∧ w.heap[g]? = some (.cells cur e (0, 0)) ∧ n * k ≤ cur.size)

theorem RowIs.of {w : World} {base e k n : Nat} {v : Value} {xs : List Value} (h : w.ownsRow base e k v n xs) : RowIs w base e k v n := by
  rcases h.2 with ⟨rfl, rfl⟩ | ⟨g, cap, cur, rfl, g1, g2, g3, g4, g5, _⟩
  · exact ⟨none, 0, rfl, Nat.le_refl _, by simp, fun h => by omega⟩
  · exact ⟨_, cap, rfl, g3, g4, fun _ => ⟨g, cur, rfl, g1, g2, by rw [g5]; exact Nat.mul_le_mul_right k g3⟩⟩

theorem RowIs.below {w w' : World} {base e k n : Nat} {v : Value} (h : RowIs w base e k v n) (hb : Below w.heap.size w w') : RowIs w' base e k v n := by
  obtain ⟨a, c, rfl, h1, h2, h3⟩ := h
  refine ⟨a, c, rfl, h1, h2, fun hp => ?_⟩
  obtain ⟨g, cur, e1, g1, g2, g3⟩ := h3 hp
  exact ⟨g, cur, e1, g1, (hb.block g (Array.getElem?_eq_some_iff.1 g2).1).trans g2, g3⟩

theorem RowIs.weak {w : World} {base base' e k n : Nat} {v : Value} (h : RowIs w base e k v n) (hb : base' ≤ base) : RowIs w base' e k v n := by
  obtain ⟨a, c, rfl, h1, h2, h3⟩ := h
  refine ⟨a, c, rfl, h1, h2, fun hp => ?_⟩
  obtain ⟨g, cur, e1, g1, g2, g3⟩ := h3 hp
  exact ⟨g, cur, e1, by omega, g2, g3⟩

/-- One of its cells written: it is one still, and so is a row of another type. -/
theorem RowIs.put {w : World} {base e k n : Nat} {v : Value} (h : RowIs w base e k v n) (b i : Nat) (u : Value) : RowIs (w.setCell ⟨b, i, none⟩ u) base e k v n := by
  obtain ⟨a, c, rfl, h1, h2, h3⟩ := h
  refine ⟨a, c, rfl, h1, h2, fun hp => ?_⟩
  obtain ⟨g, cur, e1, g1, g2, g3⟩ := h3 hp
  by_cases e : b = g
  · subst e
    exact ⟨b, _, e1, g1, heap_setCell_same w b i _ _ u g2, by simpa using g3⟩
  · exact ⟨g, cur, e1, g1, (heap_setCell_other w _ _ _ (by show g ≠ b; exact fun h => e h.symm)).trans g2, g3⟩

theorem RowIs.at {w : World} {base e k n : Nat} {v : Value} (h : RowIs w base e k v n) (i : Nat) (hi : i < n) (hk : 0 < k) : ∃ g c, v = .slice (some ⟨g, 0, none⟩) n c ∧ n ≤ c ∧ c ≤ maxLen ∧ base ≤ g ∧ (∃ u, w.cell? ⟨g, i * k, none⟩ = some u) ∧ w.frozen? ⟨g, i * k, none⟩ = false ∧ ∃ cs, w.heap[g]? = some (.cells cs e (0, 0)) := by
  obtain ⟨a, c, rfl, h1, h2, h3⟩ := h
  obtain ⟨g, cur, rfl, g1, g2, g3⟩ := h3 (by omega)
  have hlt : i * k < cur.size := Nat.lt_of_lt_of_le (Nat.mul_lt_mul_of_pos_right hi hk) g3
  exact ⟨g, c, rfl, h1, h2, g1, ⟨cur[i * k], by rw [cell_of_row w g _ _ _ (0, 0) g2]; exact Array.getElem?_eq_getElem hlt⟩, frozen_of_row w g _ _ _ g2, cur, g2⟩

theorem xall {w : World} {a : Xd} {s : Rx} (h : XAt w a s) (k : Nat) (hk : 1 ≤ k) (c : Int) (hc : c = (k : Int) - 1) : Calls Tryz.prog 53 #[.pointer (some ⟨a.m, 0, none⟩), .int .i64 c] w fun e w' => ∃ u, e = .returned u ∧ w'.ownsRow w.heap.size 3 1 u (blocksL s.now k).length (natC (blocksL s.now k)) ∧ Below w.heap.size w w' := by
  subst hc
  exact rall_any h.map h.ok.k k hk

set_option maxHeartbeats 4000000 in
theorem samel_any {w : World} {a : Ad} {p : Pu} {x : Xd} {s : Rx} (hP : PuAt w a p) (hX : XAt w x s) (hR : Rel p s) (hon : DOn p.d) :
    Calls Tryz.prog 23 #[ptr a.q, ptr x.x] w fun e w' => e = .returned (.bool true) ∧ Below w.heap.size w w' := by
  have kSp := space_any hP
  have hnow := hR.now
  have kA2 := fun W (hW : Below w.heap.size w W) => xall (hX.below hW) 2 (by omega) 1 rfl
  have kA3 := fun W (hW : Below w.heap.size w W) => xall (hX.below hW) 3 (by omega) 2 rfl
  have kA1 := fun W (hW : Below w.heap.size w W) => xall (hX.below hW) 1 (by omega) 0 rfl
  have hc0 := fun W (hW : Below w.heap.size w W) => (hX.below hW).c0
  rw [hnow] at kA1 kA2 kA3
  have HP : Hid (PuAt w a p) := hP
  have HX : Hid (XAt w x s) := hX
  have HR : Hid (Rel p s) := hR
  clear hP hX hR
  unfold ptr at *
  go_enter Tryz.func23, Tryz.ntmps23
  go_wp2_with fail
  refine kSp.mono ?_
  clear kSp
  rintro e w1 ⟨u1, u2, u3, b1, b2, rfl, hsp, hb1⟩
  obtain ⟨xa, xc, rfl⟩ := rowI_slice hsp.t
  obtain ⟨ya, yc, rfl⟩ := rowI_slice hsp.wt
  obtain ⟨za, zc, rfl⟩ := rowI_slice hsp.f
  have oT := hsp.t
  have oW := hsp.wt
  have oF := hsp.f
  have pg1 := own_ge oT
  have pg2 := own_ge oW
  have pg3 := own_ge oF
  have pl1 := own_lt oT
  have pl2 := own_lt oW
  have pl3 := own_lt oF
  have m0 := hsp.l0
  have m1 := hsp.l1
  have tl := hsp.tl
  have wl := hsp.wl
  clear hsp
  have k1 := kA2 w1 hb1
  have x0 := hc0 w1 hb1
  go_wp2_with fail
  refine k1.mono ?_
  clear k1 x0
  rintro e w2 ⟨v1, rfl, rT, hb2⟩
  have hB2 := hb1.trans (hb2.mono hb1.size)
  have qg1 := own_ge rT
  have kL1 := list_any (row_below oT hb2) rT (fun q hq hq' => by have h1 := pl1 q hq; have h2 := qg1 q hq'; omega)
  obtain ⟨va, vc, rfl⟩ := rowI_slice rT
  go_wp2_with fail
  refine kL1.mono ?_
  clear kL1
  rintro e w3 ⟨rfl, S1, hS1, hQ1⟩
  have hB3 := Sole.belowOf hB2 hQ1 hB2.size (fun q hm => by have := pg1 q (hS1 q hm); omega)
  have oW3 := row_sole (row_below oW hb2) hQ1 (fun q hq hm => by have h1 := pg2 q hq; have h2 := tl q (hS1 q hm); omega)
  have oF3 := row_sole (row_below oF hb2) hQ1 (fun q hq hm => by have h1 := pg3 q hq; have h2 := tl q (hS1 q hm); omega)
  have sz3 : w1.heap.size ≤ w3.heap.size := Nat.le_trans hb2.size hQ1.size
  have k2 := kA3 w3 hB3
  have x0 := hc0 w3 hB3
  clear rT oT oW oF
  go_wp2_with fail
  refine k2.mono ?_
  clear k2 x0
  rintro e w4 ⟨v2, rfl, rW, hb4⟩
  have hB4 := hB3.trans (hb4.mono hB3.size)
  have qg2 := own_ge rW
  have kL2 := list_any (row_below oW3 hb4) rW (fun q hq hq' => by have h1 := pl2 q hq; have h2 := qg2 q hq'; omega)
  obtain ⟨wa, wc', rfl⟩ := rowI_slice rW
  go_wp2_with fail
  refine kL2.mono ?_
  clear kL2
  rintro e w5 ⟨rfl, S2, hS2, hQ2⟩
  have hB5 := Sole.belowOf hB4 hQ2 hB4.size (fun q hm => by have := pg2 q (hS2 q hm); omega)
  have oF5 := row_sole (row_below oF3 hb4) hQ2 (fun q hq hm => by have h1 := pg3 q hq; have h2 := wl q (hS2 q hm); omega)
  have sz5 : w1.heap.size ≤ w5.heap.size := Nat.le_trans sz3 (Nat.le_trans hb4.size hQ2.size)
  have k3 := kA1 w5 hB5
  have x0 := hc0 w5 hB5
  clear rW oW3 oF3 kA1 kA2 kA3
  go_wp2_with fail
  refine k3.mono ?_
  clear k3 x0
  rintro e w6 ⟨v3, rfl, rF, hb6⟩
  have hB6 := hB5.trans (hb6.mono hB5.size)
  have qg3 := own_ge rF
  have kL3 := list_any (row_below oF5 hb6) rF (fun q hq hq' => by have h1 := pl3 q hq; have h2 := qg3 q hq'; omega)
  obtain ⟨fa, fc, rfl⟩ := rowI_slice rF
  go_wp2_with fail
  refine kL3.mono ?_
  clear kL3
  rintro e w7 ⟨rfl, S3, hS3, hQ3⟩
  have hB7 := Sole.belowOf hB6 hQ3 hB6.size (fun q hm => by have := pg3 q (hS3 q hm); omega)
  have c1 := (HX.out.below hB7).c1
  have hN := HX.out.ok.e
  have hmost := HX.out.ok.k.most
  clear rF oF5 hQ1 hQ2 hQ3 hS1 hS2 hS3 qg1 qg2 qg3 pg1 pg2 pg3 pl1 pl2 pl3 tl wl hc0
  generalize hNn : s.es.length = N at *
  have hN1 : N ≤ 1024 := by omega
  clear hN
  go_wp2_with fail
  go_loopw [8, 52] (fun _ t wr => ∃ j : Nat, j ≤ N ∧ t = .int .i64 j ∧ Below w.heap.size w wr) (fun _ t _ => N - (Go.RowKit.intOf t).toNat)
  case atStart => exact ⟨0, Nat.zero_le _, rfl, hB7⟩
  case round =>
    obtain ⟨j, hj, rfl, hBr⟩ := hrel
    clear c1 hB7
    by_cases hlt : j < N
    · have hltI : (j : Int) < N := by omega
      have hmd : ((j : Nat) : Int) % 4294967296 = ((j : Nat) : Int) := by omega
      have hPr := HP.out.below hBr
      have hXr := HX.out.below hBr
      have kR := read_any hPr ((j : Nat) : Int) (by omega) (by omega)
      unfold ptr at kR
      have hrs := hBr.size
      generalize hRE : prdE p ((j : Nat) : Int) = RE at *
      have HRE : Hid (prdE p ((j : Nat) : Int) = RE) := hRE
      generalize hRN : prdN p ((j : Nat) : Int) = RN at *
      have HRN : Hid (prdN p ((j : Nat) : Int) = RN) := hRN
      clear hRE hRN
      go_wp2_with fail
      refine kR.mono ?_
      clear kR
      rintro e x1 ⟨u, rfl, hown, hb1x⟩
      obtain ⟨r1, r2, r3, rfl, o1, o2, o3⟩ := id hown
      have R1 := RowIs.of o1
      have R3 := RowIs.of o3
      obtain ⟨r1, t1, rfl⟩ := row_slice o1
      obtain ⟨r2, t2, rfl⟩ := row_slice o2
      obtain ⟨r3, t3, rfl⟩ := row_slice o3
      have hba2 := (Below.refl x1.heap.size x1).alloc (Nat.le_refl _) (.cells #[.bool RN.leaf, .slice r1 RN.pairs.length t1, .slice r2 RN.keys.length t2, .slice r3 RN.kids.length t3] 40)
      have hgb := heap_alloc_new x1 (.cells #[.bool RN.leaf, .slice r1 RN.pairs.length t1, .slice r2 RN.keys.length t2, .slice r3 RN.kids.length t3] 40)
      have hzb : x1.heap.size < (x1.alloc (.cells #[.bool RN.leaf, .slice r1 RN.pairs.length t1, .slice r2 RN.keys.length t2, .slice r3 RN.kids.length t3] 40)).heap.size := by simp
      have hB1x : Below w.heap.size w x1 := hBr.trans (hb1x.mono hBr.size)
      have hBx := hB1x.trans (hba2.mono hB1x.size)
      have kH := has_any (HX.out.below hBx) ((j : Nat) : Int) (by omega) (by omega)
      unfold ptr at kH
      rw [hnow] at kH
      have hownx := hown.below hba2
      replace R1 := R1.below hba2
      replace R3 := R3.below hba2
      clear o1 o2 o3 hown hba2 hPr hXr
      generalize hL0 : RN.leaf = l0 at *
      generalize hL1 : RN.pairs.length = l1 at *
      generalize hL2 : RN.keys.length = l2 at *
      generalize hL3 : RN.kids.length = l3 at *
      generalize hX2 : x1.alloc (.cells #[.bool l0, .slice r1 l1 t1, .slice r2 l2 t2, .slice r3 l3 t3] 40) = X2 at *
      go_wp2_with fail
      refine kH.mono ?_
      clear kH
      rintro e x3 ⟨rfl, hb3⟩
      have hB3x := hBx.trans (hb3.mono hBx.size)
      by_cases hk : 2 ≤ kindOfN p.now ((j : Nat) : Int)
      · rw [decide_eq_true hk]
        obtain ⟨t, ht, e⟩ := kindOfN_in (s := p.now) (i := ((j : Nat) : Int)) (by omega)
        have hjt : j = p.now.lo + t := by omega
        have hkt : p.now.ks.getD t 0 ≠ 1 := by
          rw [hjt] at hk
          rw [kindOfN_at ht] at hk
          omega
        have hje : j < s.es.length := by omega
        have hXq := HX.out.below hB3x
        obtain ⟨n0, n1, n2, n3, _⟩ := hXq.cellN j hje
        have c1 := hXq.c1
        rw [hNn] at c1
        have hEo := hXq.own s.es[j] (List.getElem_mem hje)
        have hNI := HR.out.nd t ht hkt s.es[j] (by rw [← hjt]; exact List.getElem?_eq_getElem hje)
        have hRD : ¬ s.es[j].n = nd0 → RE = 0 ∧ RN = s.es[j].n := fun hne => by
          rcases hNI with h | ⟨g1, g2, g3⟩
          · exact absurd h hne
          · have hb := node_back g1 g2
            have hs3 : seen p.d ((j : Nat) : Int) = blockL s.es[j].n := by
              have e0 : ((j : Nat) : Int) = ((p.now.lo + t : Nat) : Int) := by omega
              rw [e0]
              exact g3
            have he : prdE p ((j : Nat) : Int) = 0 := by
              unfold prdE
              rw [if_neg (by omega), hon.on, if_neg (by simp), hs3]
              exact hb.1
            refine ⟨HRE.out.symm.trans he, HRN.out.symm.trans ?_⟩
            unfold prdN
            rw [if_pos he, hs3]
            exact hb.2
        have hsmall : s.es[j].n.pairs.length ≤ 1000 ∧ s.es[j].n.kids.length ≤ 1000 := by
          rcases hNI with h | ⟨g1, g2, g3⟩
          · rw [h]; simp [nd0]
          · cases hl : s.es[j].n.leaf with
            | true =>
              have h1 := nodeOk_leaf g1 hl
              rw [h1.2.2.2]
              exact ⟨by omega, by simp⟩
            | false =>
              have h1 := nodeOk_inner g1 hl
              rw [h1.2.2.2]
              exact ⟨by simp, by omega⟩
        have hpos : ¬ s.es[j].n = nd0 → ¬ (s.es[j].n.pairs.length + s.es[j].n.kids.length = 0) := fun hne => by
          rcases hNI with h | ⟨g1, g2, g3⟩
          · exact absurd h hne
          · cases hl : s.es[j].n.leaf with
            | true => have := (nodeOk_leaf g1 hl).1; omega
            | false => have := (nodeOk_inner g1 hl).1; omega
        have hzero : s.es[j].n = nd0 → s.es[j].n.pairs.length = 0 ∧ s.es[j].n.kids.length = 0 := fun h => by rw [h]; exact ⟨rfl, rfl⟩
        clear hNI hjt e
        obtain ⟨q1, q2, q3, eq, w1o, w2o, w3o⟩ := id hEo
        unfold En.val at eq
        simp only [Value.agg.injEq, Array.mk.injEq, List.cons.injEq, and_true, true_and] at eq
        obtain ⟨e1, e2, e3⟩ := eq
        rw [e1] at n1
        rw [e2] at n2
        rw [e3] at n3
        obtain ⟨q1, z1, rfl⟩ := row_slice w1o
        obtain ⟨q2, z2, rfl⟩ := row_slice w2o
        obtain ⟨q3, z3, rfl⟩ := row_slice w3o
        unfold En.val at hEo
        rw [e1, e2, e3] at hEo
        have HEO : Hid _ := hEo
        clear w1o w2o w3o e1 e2 e3 hEo
        generalize hE : s.es[j].n = EN at *
        clear hE
        by_cases hz : EN = nd0
        · obtain ⟨y1, y2⟩ := hzero hz
          rw [y1] at n1
          rw [y2] at n3
          clear hRD hpos hzero hsmall
          go_wp2_with fail
          go_quiet (fail)
          go_wp2_with fail
          go_roundw
          case rel => exact ⟨j + 1, by omega, by go_num, hB3x.trans (belowQ _ _ _)⟩
          case measure => simp [Go.RowKit.intOf]; omega
        · obtain ⟨hE0, hEN⟩ := hRD hz
          have hp := hpos hz
          subst hE0
          subst hEN
          rw [hL0] at n0
          rw [hL1] at n1
          rw [hL2] at n2
          rw [hL3] at n3
          rw [hL1, hL3] at hp hsmall
          have hsI : ¬ ((l1 : Int) + (l3 : Int) = 0) := by omega
          have hEO : NdOwn x3 0 (.agg #[.bool l0, .slice q1 l1 z1, .slice q2 l2 z2, .slice q3 l3 z3]) RN := by
            rw [← hL0, ← hL1, ← hL2, ← hL3]
            exact HEO.out
          have hgx : x3.heap[x1.heap.size]? = some (.cells #[.bool l0, .slice r1 l1 t1, .slice r2 l2 t2, .slice r3 l3 t3] 40 (0, 0)) := (hb3.block _ hzb).trans hgb
          have hz3 : x1.heap.size < x3.heap.size := Nat.lt_of_lt_of_le hzb hb3.size
          have qb : ∀ W, Below x3.heap.size x3 W → W.heap[x1.heap.size]? = some (.cells #[.bool l0, .slice r1 l1 t1, .slice r2 l2 t2, .slice r3 l3 t3] 40 (0, 0)) := fun W hW => (hW.block _ hz3).trans hgx
          have q0 : ∀ W, Below x3.heap.size x3 W → W.cell? ⟨x1.heap.size, 0, none⟩ = some (.bool l0) := fun W hW => cell_of_row W _ 0 _ _ (0, 0) (qb W hW)
          have q1' : ∀ W, Below x3.heap.size x3 W → W.cell? ⟨x1.heap.size, 1, none⟩ = some (.slice r1 l1 t1) := fun W hW => cell_of_row W _ 1 _ _ (0, 0) (qb W hW)
          have q2' : ∀ W, Below x3.heap.size x3 W → W.cell? ⟨x1.heap.size, 2, none⟩ = some (.slice r2 l2 t2) := fun W hW => cell_of_row W _ 2 _ _ (0, 0) (qb W hW)
          have q3' : ∀ W, Below x3.heap.size x3 W → W.cell? ⟨x1.heap.size, 3, none⟩ = some (.slice r3 l3 t3) := fun W hW => cell_of_row W _ 3 _ _ (0, 0) (qb W hW)
          have hxl := (hXq.blocks x.x (by simp [Xd.all])).1
          have hgl := (hXq.blocks x.g (by simp [Xd.all])).1
          have p1 : ∀ W, Below x3.heap.size x3 W → W.cell? ⟨x.x, 1, none⟩ = some (.slice (some ⟨x.g, 0, none⟩) N N) := fun W hW => (hW.cell (p := ⟨x.x, 1, none⟩) hxl).trans c1
          have g0 : ∀ W, Below x3.heap.size x3 W → W.cell? ⟨x.g, j * 4, none⟩ = some (.bool l0) := fun W hW => (hW.cell (p := ⟨x.g, j * 4, none⟩) hgl).trans n0
          have g1 : ∀ W, Below x3.heap.size x3 W → W.cell? ⟨x.g, j * 4 + 1, none⟩ = some (.slice q1 l1 z1) := fun W hW => (hW.cell (p := ⟨x.g, j * 4 + 1, none⟩) hgl).trans n1
          have g2 : ∀ W, Below x3.heap.size x3 W → W.cell? ⟨x.g, j * 4 + 2, none⟩ = some (.slice q2 l2 z2) := fun W hW => (hW.cell (p := ⟨x.g, j * 4 + 2, none⟩) hgl).trans n2
          have g3 : ∀ W, Below x3.heap.size x3 W → W.cell? ⟨x.g, j * 4 + 3, none⟩ = some (.slice q3 l3 z3) := fun W hW => (hW.cell (p := ⟨x.g, j * 4 + 3, none⟩) hgl).trans n3
          have hA1 : ∀ W, Below x3.heap.size x3 W → NdAt W (.agg #[.bool l0, .slice r1 l1 t1, .slice r2 l2 t2, .slice r3 l3 t3]) RN := fun W hW => ((hownx.below hb3).below hW).at (by rw [hL1]; omega)
          have hA2 : ∀ W, Below x3.heap.size x3 W → NdAt W (.agg #[.bool l0, .slice q1 l1 z1, .slice q2 l2 z2, .slice q3 l3 z3]) RN := fun W hW => (hEO.below hW).at (by rw [hL1]; omega)
          have HR1 : Hid (∀ W, Below x3.heap.size x3 W → RowIs W w.heap.size 85 2 (.slice r1 l1 t1) l1 ∧ RowIs W w.heap.size 35 1 (.slice r3 l3 t3) l3) := fun W hW => ⟨((R1.weak (by omega)).below hb3).below hW, ((R3.weak (by omega)).below hb3).below hW⟩
          have hws : w.heap.size ≤ x1.heap.size := hB1x.size
          clear hRD hpos hzero HEO hEO hownx R1 R3 hXq
          go_wp2_with fail
          go_quiet (fail)
          clear n0 n1 n2 n3 c1
          go_wp2_with fail
          refine wp_region_noPanic ?_
          refine wp_region_held_drew (S := fun W => Below x3.heap.size x3 W) (by kernel_rfl) ((belowQ x3 _ _).drew) (fun hHeld => ?_)
          refine wpAnyH_take (i := 0) (v := .int .i64 0) rfl (by kernel_rfl) (by kernel_rfl) (by kernel_rfl) (fun _ _ _ h => h) (Or.inl ⟨by rfl, fun W hSw => by (try dsimp only at hSw); go_simp⟩) (by assumption) ?_
          simp only [List.getElem_toArray, List.getElem_cons_zero, List.getElem_cons_succ, Act.put, List.setIfInBounds_toArray, List.set_cons_zero, List.set_cons_succ]
          refine wpAnyH_take (i := 1) (v := .bool false) rfl (by kernel_rfl) (by kernel_rfl) (by kernel_rfl) (fun _ _ _ h => h) (Or.inl ⟨by rfl, fun W hSw => by (try dsimp only at hSw); go_simp⟩) (by assumption) ?_
          simp only [List.getElem_toArray, List.getElem_cons_zero, List.getElem_cons_succ, Act.put, List.setIfInBounds_toArray, List.set_cons_zero, List.set_cons_succ]
          refine wpAnyH_take (i := 2) (v := .bool false) rfl (by kernel_rfl) (by kernel_rfl) (by kernel_rfl) (fun _ _ _ h => h) (Or.inl ⟨by rfl, fun W hSw => by (try dsimp only at hSw); go_simp⟩) (by assumption) ?_
          simp only [List.getElem_toArray, List.getElem_cons_zero, List.getElem_cons_succ, Act.put, List.setIfInBounds_toArray, List.set_cons_zero, List.set_cons_succ]
          refine wpAnyH_take (i := 3) (v := .agg #[.bool l0, .slice r1 l1 t1, .slice r2 l2 t2, .slice r3 l3 t3]) rfl (by kernel_rfl) (by kernel_rfl) (by kernel_rfl) (fun _ _ _ h => h) (Or.inl ⟨by rfl, fun W hSw => by (try dsimp only at hSw); go_simp⟩) (by assumption) ?_
          simp only [List.getElem_toArray, List.getElem_cons_zero, List.getElem_cons_succ, Act.put, List.setIfInBounds_toArray, List.set_cons_zero, List.set_cons_succ]
          refine wpAnyH_take (i := 4) (v := .pointer (some ⟨x.x, 0, none⟩)) rfl (by kernel_rfl) (by kernel_rfl) (by kernel_rfl) (fun _ _ _ h => h) (Or.inl ⟨by rfl, fun W hSw => by (try dsimp only at hSw); go_simp⟩) (by assumption) ?_
          simp only [List.getElem_toArray, List.getElem_cons_zero, List.getElem_cons_succ, Act.put, List.setIfInBounds_toArray, List.set_cons_zero, List.set_cons_succ]
          refine wpAnyH_take (i := 5) (v := .pointer (some ⟨x.x, 0, none⟩)) rfl (by kernel_rfl) (by kernel_rfl) (by kernel_rfl) (fun _ _ _ h => h) (Or.inl ⟨by rfl, fun W hSw => by (try dsimp only at hSw); go_simp⟩) (by assumption) ?_
          simp only [List.getElem_toArray, List.getElem_cons_zero, List.getElem_cons_succ, Act.put, List.setIfInBounds_toArray, List.set_cons_zero, List.set_cons_succ]
          refine wpAnyH_take (i := 6) (v := .pointer (some ⟨x.x, 1, none⟩)) rfl (by kernel_rfl) (by kernel_rfl) (by kernel_rfl) (fun _ _ _ h => h) (Or.inl ⟨by rfl, fun W hSw => by (try dsimp only at hSw); go_simp⟩) (by assumption) ?_
          simp only [List.getElem_toArray, List.getElem_cons_zero, List.getElem_cons_succ, Act.put, List.setIfInBounds_toArray, List.set_cons_zero, List.set_cons_succ]
          refine wpAnyH_take (i := 7) (v := .slice (some ⟨x.g, 0, none⟩) N N) rfl (by kernel_rfl) (by kernel_rfl) (by kernel_rfl) (fun _ _ _ h => h) (Or.inl ⟨by rfl, fun W hSw => by (try dsimp only at hSw); go_simp⟩) (by assumption) ?_
          simp only [List.getElem_toArray, List.getElem_cons_zero, List.getElem_cons_succ, Act.put, List.setIfInBounds_toArray, List.set_cons_zero, List.set_cons_succ]
          refine wpAnyH_take (i := 8) (v := .int .i64 j) rfl (by kernel_rfl) (by kernel_rfl) (by kernel_rfl) (fun _ _ _ h => h) (Or.inl ⟨by rfl, fun W hSw => by (try dsimp only at hSw); go_simp⟩) (by assumption) ?_
          simp only [List.getElem_toArray, List.getElem_cons_zero, List.getElem_cons_succ, Act.put, List.setIfInBounds_toArray, List.set_cons_zero, List.set_cons_succ]
          refine wpAnyH_take (i := 9) (v := .pointer (some ⟨x.g, j * 4, none⟩)) rfl (by kernel_rfl) (by kernel_rfl) (by kernel_rfl) (fun _ _ _ h => h) (Or.inl ⟨by rfl, fun W hSw => by (try dsimp only at hSw); go_simp⟩) (by assumption) ?_
          simp only [List.getElem_toArray, List.getElem_cons_zero, List.getElem_cons_succ, Act.put, List.setIfInBounds_toArray, List.set_cons_zero, List.set_cons_succ]
          refine wpAnyH_take (i := 10) (v := .agg #[.bool l0, .slice q1 l1 z1, .slice q2 l2 z2, .slice q3 l3 z3]) rfl (by kernel_rfl) (by kernel_rfl) (by kernel_rfl) (fun _ _ _ h => h) (Or.inl ⟨by rfl, fun W hSw => by (try dsimp only at hSw); go_simp⟩) (by assumption) ?_
          simp only [List.getElem_toArray, List.getElem_cons_zero, List.getElem_cons_succ, Act.put, List.setIfInBounds_toArray, List.set_cons_zero, List.set_cons_succ]
          refine wpAnyH_ready (rs := [11]) (by kernel_rfl) (by simp) ?_
          refine AllReadyH.cons rfl (fun K hK => ?_) AllReadyH.nil
          go_simp
          go_wp2_with (go_at_call 26; refine (same_any _ _ _ RN (hA1 _ (by assumption)) (hA2 _ (by assumption))).mono ?_; rintro e x5 ⟨rfl, hb5⟩)
          refine hK.out _ _ (keep2 (by assumption) (by assumption)) (fun hHeld2 => ?_)
          clear hK K
          refine wpAnyH_take (i := 12) (v := .bool false) rfl (by kernel_rfl) (by kernel_rfl) (by kernel_rfl) (fun _ _ _ h => h) (Or.inl ⟨by rfl, fun W hSw => by (try dsimp only at hSw); go_simp⟩) (by assumption) ?_
          simp only [List.getElem_toArray, List.getElem_cons_zero, List.getElem_cons_succ, Act.put, List.setIfInBounds_toArray, List.set_cons_zero, List.set_cons_succ]
          refine wpAnyH_take (i := 13) (v := .bool false) rfl (by kernel_rfl) (by kernel_rfl) (by kernel_rfl) (fun _ _ _ h => h) (Or.inl ⟨by rfl, fun W hSw => by (try dsimp only at hSw); go_simp⟩) (by assumption) ?_
          simp only [List.getElem_toArray, List.getElem_cons_zero, List.getElem_cons_succ, Act.put, List.setIfInBounds_toArray, List.set_cons_zero, List.set_cons_succ]
          refine wpAnyH_done (by kernel_rfl) ?_ _
          refine NoPanic.normal ?_
          have hx5 : Below x3.heap.size x3 x5 := by assumption
          have hB5x := hB3x.trans (hx5.mono hB3x.size)
          have hbox := qb x5 hx5
          have hrows := HR1.out x5 hx5
          clear q0 q1' q2' q3' qb p1 g0 g1 g2 g3 hA1 hA2 HR1
          obtain ⟨z0, z1', z2', z3', _⟩ := box4 hbox
          go_wp2_with fail
          go_loopw [11, 106] (fun _ t wi => ∃ k : Nat, k ≤ l1 ∧ t = .int .i64 k ∧ Below w.heap.size w wi ∧ Hid (wi.heap[x1.heap.size]? = some (.cells #[.bool l0, .slice r1 l1 t1, .slice r2 l2 t2, .slice r3 l3 t3] 40 (0, 0))) ∧ Hid (RowIs wi w.heap.size 85 2 (.slice r1 l1 t1) l1 ∧ RowIs wi w.heap.size 35 1 (.slice r3 l3 t3) l3)) (fun _ t _ => l1 - (Go.RowKit.intOf t).toNat)
          case atStart => exact ⟨0, Nat.zero_le _, rfl, hB5x, hbox, hrows⟩
          case round =>
            obtain ⟨k, hk1, rfl, hBi, HBX, HRW⟩ := hrel
            clear hbox hrows z0 z1' z2' z3'
            obtain ⟨y0, y1, y2, y3, _⟩ := box4 HBX.out
            by_cases hkl : k < l1
            · have hklI : (k : Int) < l1 := by omega
              obtain ⟨gp, cp, ep, hcp, hcm, hgp, ⟨uu, hcu⟩, hfu, cs, hcs⟩ := HRW.out.1.at k hkl (by decide)
              unfold maxLen at hcm
              simp only [Value.slice.injEq] at ep
              obtain ⟨rfl, _, rfl⟩ := ep
              have hne : x1.heap.size ≠ gp := kinds_ne HBX.out hcs (by simp)
              have HBX2 : Hid ((wr.setCell ⟨gp, k * 2, none⟩ (.string ⟨#[122, 122]⟩)).heap[x1.heap.size]? = some (.cells #[.bool l0, .slice (some ⟨gp, 0, none⟩) l1 t1, .slice r2 l2 t2, .slice r3 l3 t3] 40 (0, 0))) := (heap_setCell_other wr _ _ _ (by show x1.heap.size ≠ gp; exact hne)).trans HBX.out
              have HRW2 : Hid (RowIs (wr.setCell ⟨gp, k * 2, none⟩ (.string ⟨#[122, 122]⟩)) w.heap.size 85 2 (.slice (some ⟨gp, 0, none⟩) l1 t1) l1 ∧ RowIs (wr.setCell ⟨gp, k * 2, none⟩ (.string ⟨#[122, 122]⟩)) w.heap.size 35 1 (.slice r3 l3 t3) l3) := ⟨HRW.out.1.put _ _ _, HRW.out.2.put _ _ _⟩
              have hBn : Below w.heap.size w (wr.setCell ⟨gp, k * 2, none⟩ (.string ⟨#[122, 122]⟩)) := hBi.setCell (p := ⟨gp, k * 2, none⟩) (by show w.heap.size ≤ gp; omega) _
              clear HBX HRW hcs
              go_wp2_with fail
              go_roundw
              case rel => exact ⟨k + 1, by omega, by go_num, hBn, HBX2, HRW2⟩
              case measure => simp [Go.RowKit.intOf]; omega
            · obtain rfl : k = l1 := by omega
              have hklI : ¬ (k : Int) < k := by omega
              go_wp2_with fail
              go_loopw [12, 118] (fun _ t wi => ∃ m : Nat, m ≤ l3 ∧ t = .int .i64 m ∧ Below w.heap.size w wi ∧ Hid (wi.heap[x1.heap.size]? = some (.cells #[.bool l0, .slice r1 k t1, .slice r2 l2 t2, .slice r3 l3 t3] 40 (0, 0))) ∧ Hid (RowIs wi w.heap.size 35 1 (.slice r3 l3 t3) l3)) (fun _ t _ => l3 - (Go.RowKit.intOf t).toNat)
              case atStart => exact ⟨0, Nat.zero_le _, rfl, hBi, HBX, HRW.out.2⟩
              case round =>
                obtain ⟨m, hm1, rfl, hBj, HBY, HRY⟩ := hrel
                clear y0 y1 y2 y3 HBX HRW hBi
                obtain ⟨y0, y1, y2, y3, _⟩ := box4 HBY.out
                by_cases hml : m < l3
                · have hmlI : (m : Int) < l3 := by omega
                  obtain ⟨gk, ck, ek, hck, hcm, hgk, ⟨uu, hcu⟩, hfu, cs, hcs⟩ := HRY.out.at m hml (by decide)
                  unfold maxLen at hcm
                  rw [Nat.mul_one] at hcu hfu
                  simp only [Value.slice.injEq] at ek
                  obtain ⟨rfl, _, rfl⟩ := ek
                  have hne : x1.heap.size ≠ gk := kinds_ne HBY.out hcs (by simp)
                  have HBX2 : Hid ((wr.setCell ⟨gk, m, none⟩ (.int .u32 0)).heap[x1.heap.size]? = some (.cells #[.bool l0, .slice r1 k t1, .slice r2 l2 t2, .slice (some ⟨gk, 0, none⟩) l3 t3] 40 (0, 0))) := (heap_setCell_other wr _ _ _ (by show x1.heap.size ≠ gk; exact hne)).trans HBY.out
                  have HRW2 : Hid (RowIs (wr.setCell ⟨gk, m, none⟩ (.int .u32 0)) w.heap.size 35 1 (.slice (some ⟨gk, 0, none⟩) l3 t3) l3) := HRY.out.put _ _ _
                  have hBn : Below w.heap.size w (wr.setCell ⟨gk, m, none⟩ (.int .u32 0)) := hBj.setCell (p := ⟨gk, m, none⟩) (by show w.heap.size ≤ gk; omega) _
                  clear HBY HRY hcs
                  go_wp2_with fail
                  go_roundw
                  case rel => exact ⟨m + 1, by omega, by go_num, hBn, HBX2, HRW2⟩
                  case measure => simp [Go.RowKit.intOf]; omega
                · obtain rfl : m = l3 := by omega
                  have hmlI : ¬ (m : Int) < m := by omega
                  go_wp2_with fail
                  go_roundw
                  case rel => exact ⟨j + 1, by omega, by go_num, hBj⟩
                  case measure => simp [Go.RowKit.intOf]; omega
      · rw [decide_eq_false hk]
        have h4 : RE = 4 := by
          rw [← HRE.out]
          unfold prdE
          rw [if_pos (by omega)]
        subst h4
        go_wp2_with fail
        go_roundw
        case rel => exact ⟨j + 1, by omega, by go_num, hB3x⟩
        case measure => simp [Go.RowKit.intOf]; omega
    · obtain rfl : j = N := by omega
      have hltI : ¬ (j : Int) < j := by omega
      go_wp2
      go_ret
      exact ⟨rfl, hBr⟩

def Apart (b : Ad) (x : Xd) : Prop := ∀ k ∈ b.all, k ∉ x.all

theorem both_pool {w w' : World} {b b' : Ad} {P : Pu} {x : Xd} {S : Rx} (hP : PuAt w b P) (hX : XAt w x S) (ha : Apart b x) (hM : Moves w w' b b') : XAt w' x S ∧ Apart b' x :=
  ⟨hX.other hM.sole (fun k hk hb => ha k hb hk) hP.blocks, fun k hk hx => by
    rcases hM.new k hk with h | h
    · exact ha k h hx
    · have := (hX.blocks k hx).1; omega⟩

theorem both_ref {w w' : World} {b : Ad} {P : Pu} {x : Xd} {T : List Nat} (hP : PuAt w b P) (ha : Apart b x) (hS : Sole T w w') (hT : ∀ k ∈ T, k ∈ x.all) : PuAt w' b P :=
  hP.other hS fun k hk hm => ha k hk (hT k hm)

/-- A call's slices: nil is nil. -/
structure PopZ (o : PopV) : Prop where
  z5 : ∀ n c, o.v5 = .slice none n c → c = 0
  z6 : ∀ n c, o.v6 = .slice none n c → c = 0
  z7 : ∀ n c, o.v7 = .slice none n c → c = 0

theorem slice_nil {H : Type} {enc : TypeId × Value → H} {W : World} {base : Nat} {held : Bool} {fuel : Nat} {t e : TypeId} (ht : Tryz.prog.underlying t = some (.slice e)) {n c : Nat} {x : DataW H × List MemPlace}
    (h : DataW.trod enc Tryz.prog W base (fun _ => true) held fuel t [.slice none n c] = some x) : c = 0 := by
  rcases Deep.open_slice ht h with ⟨hcs, _⟩ | ⟨a', l, c', m, n', D, Pl, hcs, _⟩
  · simp at hcs
    exact hcs.2
  · simp at hcs

set_option maxRecDepth 100000 in
set_option maxHeartbeats 2000000 in
theorem pops_nil {H : Type} {enc : TypeId × Value → H} {W : World} {base : Nat} {held : Bool} {fuel : Nat} {a : Option Addr} {len cap : Nat} {x : DataW H × List MemPlace}
    (h : DataW.trod enc Tryz.prog W base (fun _ => true) held fuel 23 [.slice a len cap] = some x) {os : List PopV} (ho : PopsAt W a len cap os) : ∀ o ∈ os, PopZ o := by
  intro o hoo
  obtain ⟨h1, _, _, _, h5⟩ := ho
  obtain ⟨i, hi⟩ := List.getElem?_of_mem hoo
  have hil : i < len := by rw [← h1]; exact (List.getElem?_eq_some_iff.1 hi).1
  obtain ⟨b, off, rfl, hb, hat⟩ := h5 (by omega)
  have hA := hat i hil
  rw [show os.getD i pop0 = o by rw [List.getD_eq_getElem?_getD, hi]; rfl] at hA
  rcases Deep.open_slice Tryz.underlying23 h with ⟨hcs, _⟩ | ⟨a', l, c, m, n, D, Pl, hcs, hb', hl, hm, hmm, hxe, hx⟩
  · simp at hcs
  · simp at hcs
    obtain ⟨rfl, rfl, rfl⟩ := hcs
    obtain ⟨cs', k1, k2⟩ := hx i (by rw [hmm]; simp; omega)
    rw [show Tryz.prog.cellsOf 42 = 8 from by kernel_rfl] at k1
    obtain ⟨_, hlen, hcell⟩ := World.cells?_some k1
    obtain ⟨xs, k, hk, hxy, _, hxl, hf⟩ := DataW.trod_struct Tryz.underlying42 k2
    have hxl : xs.length = 5 := hxl
    clear hk k1 k2 hxy
    match xs, hxl, cs', hlen with
    | [y0, y1, y2, y3, y4], _, [v0, v1, v2, v3, v4, v5, v6, v7], _ =>
      have g4 : DataW.trod enc Tryz.prog W base (fun _ => true) held k 40 (([v0, v1, v2, v3, v4, v5, v6, v7].drop 4).take (Tryz.prog.cellsOf 40)) = some y4 := hf 4 _ rfl
      rw [show Tryz.prog.cellsOf 40 = 4 from by kernel_rfl] at g4
      simp only [List.drop_succ_cons, List.drop_zero, List.take_succ_cons, List.take_zero] at g4
      obtain ⟨zs, k', hk', _, _, hzl, hg⟩ := DataW.trod_struct Tryz.underlying40 g4
      have hzl : zs.length = 4 := hzl
      have q5 := hcell 5 (by omega)
      have q6 := hcell 6 (by omega)
      have q7 := hcell 7 (by omega)
      rw [Deep.add_add] at q5 q6 q7
      have hadd : ∀ j, (⟨b, off, none⟩ : Addr).add j = ⟨b, off + j, none⟩ := fun j => by unfold Addr.add; split <;> simp_all
      rw [hadd, ← Nat.add_assoc] at q5 q6 q7
      have e5 := Option.some.inj (q5.symm.trans hA.c5)
      have e6 := Option.some.inj (q6.symm.trans hA.c6)
      have e7 := Option.some.inj (q7.symm.trans hA.c7)
      match zs, hzl with
      | [w0, w1, w2, w3], _ =>
        have t5 : DataW.trod enc Tryz.prog W base (fun _ => true) held k' 37 (([v4, v5, v6, v7].drop 1).take (Tryz.prog.cellsOf 37)) = some w1 := hg 1 _ rfl
        have t6 : DataW.trod enc Tryz.prog W base (fun _ => true) held k' 38 (([v4, v5, v6, v7].drop 2).take (Tryz.prog.cellsOf 38)) = some w2 := hg 2 _ rfl
        have t7 : DataW.trod enc Tryz.prog W base (fun _ => true) held k' 36 (([v4, v5, v6, v7].drop 3).take (Tryz.prog.cellsOf 36)) = some w3 := hg 3 _ rfl
        rw [show Tryz.prog.cellsOf 37 = 1 from by kernel_rfl] at t5
        rw [show Tryz.prog.cellsOf 38 = 1 from by kernel_rfl] at t6
        rw [show Tryz.prog.cellsOf 36 = 1 from by kernel_rfl] at t7
        simp only [List.drop_succ_cons, List.drop_zero, List.take_succ_cons, List.take_zero] at t5 t6 t7
        have f5 : v5 = o.v5 := e5
        have f6 : v6 = o.v6 := e6
        have f7 : v7 = o.v7 := e7
        exact ⟨fun n c e => slice_nil Tryz.underlying37 (by rw [f5, e] at t5; exact t5), fun n c e => slice_nil Tryz.underlying38 (by rw [f6, e] at t6; exact t6), fun n c e => slice_nil Tryz.underlying36 (by rw [f7, e] at t7; exact t7)⟩

theorem node_sizes {n : Nd} (h : nodeE n = 0) : n.pairs.length ≤ 1000 ∧ n.keys.length ≤ 1000 ∧ n.kids.length ≤ 1000 := by
  have hk := nodeE_ok h
  cases hl : n.leaf with
  | true =>
    have h1 := nodeOk_leaf hk hl
    rw [h1.2.2.1, h1.2.2.2]
    exact ⟨by omega, by simp, by simp⟩
  | false =>
    have h1 := nodeOk_inner hk hl
    rw [h1.2.2.2]
    exact ⟨by simp, by omega, by omega⟩

theorem src_own {w : World} {a1 a2 a3 : Option Addr} {c1 c2 c3 : Nat} {n : Nd} {base : Nat} (h : NdOwn w base (.agg #[.bool n.leaf, .slice a1 n.pairs.length c1, .slice a2 n.keys.length c2, .slice a3 n.kids.length c3]) n) (he : nodeE n = 0) : NdSrc w a1 c1 a2 c2 a3 c3 n := by
  obtain ⟨p, q, r, e, h1, h2, h3⟩ := h
  simp only [Value.agg.injEq, Array.mk.injEq, List.cons.injEq, and_true, true_and] at e
  obtain ⟨rfl, rfl, rfl⟩ := e
  have hz := node_sizes he
  have nilc : ∀ {a : Option Addr} {e k m c : Nat} {xs : List Value}, w.ownsRow base e k (.slice a m c) m xs → a = none → c = 0 := fun ho ha => by
    subst ha
    rcases ho.2 with ⟨e, _⟩ | ⟨g, cap, cur, e, _⟩
    · simp only [Value.slice.injEq] at e; exact e.2.2
    · cases e
  exact ⟨rdE_own (enc := kvE) (fun _ => rfl) h1, rdE_own (enc := strE) (fun _ => rfl) h2, rdE_own (enc := u32E) (fun _ => rfl) h3, nilc h1, nilc h2, nilc h3, hz.1, hz.2.1, hz.2.2⟩

/-- A call's node as it is handed on: read in every world to come. -/
structure NodeSrc (w0 : World) (n : Nd) (a1 : Option Addr) (c1 : Nat) (a2 : Option Addr) (c2 : Nat) (a3 : Option Addr) (c3 : Nat) (W : World) : Prop where
  base : Below w0.heap.size w0 W
  is : NdSrc W a1 c1 a2 c2 a3 c3 n ∨ True
  way : (∀ V, Below w0.heap.size w0 V → NdAt V (.agg #[.bool n.leaf, .slice a1 n.pairs.length c1, .slice a2 n.keys.length c2, .slice a3 n.kids.length c3]) n ∧ (nodeE n = 0 → NdSrc V a1 c1 a2 c2 a3 c3 n)) ∨ NdOwn W 0 (.agg #[.bool n.leaf, .slice a1 n.pairs.length c1, .slice a2 n.keys.length c2, .slice a3 n.kids.length c3]) n

theorem NodeSrc.at {w0 : World} {n : Nd} {a1 a2 a3 : Option Addr} {c1 c2 c3 : Nat} {W : World} (h : NodeSrc w0 n a1 c1 a2 c2 a3 c3 W) (hf : n.pairs.length ≤ 4398046511104) : NdAt W (.agg #[.bool n.leaf, .slice a1 n.pairs.length c1, .slice a2 n.keys.length c2, .slice a3 n.kids.length c3]) n := by
  rcases h.way with hw | hw
  · exact (hw W h.base).1
  · exact hw.at hf

theorem NodeSrc.src {w0 : World} {n : Nd} {a1 a2 a3 : Option Addr} {c1 c2 c3 : Nat} {W : World} (h : NodeSrc w0 n a1 c1 a2 c2 a3 c3 W) (he : nodeE n = 0) : NdSrc W a1 c1 a2 c2 a3 c3 n := by
  rcases h.way with hw | hw
  · exact (hw W h.base).2 he
  · exact src_own hw he

theorem NodeSrc.sole {w0 : World} {n : Nd} {a1 a2 a3 : Option Addr} {c1 c2 c3 : Nat} {W W' : World} (h : NodeSrc w0 n a1 c1 a2 c2 a3 c3 W) {S : List Nat} (hS : Sole S W W') (ho : ∀ k ∈ S, Other W k) (hb : ∀ k ∈ S, w0.heap.size ≤ k) : NodeSrc w0 n a1 c1 a2 c2 a3 c3 W' :=
  ⟨Sole.belowOf h.base hS h.base.size hb, .inr trivial, h.way.imp id fun hw => hw.sole hS ho⟩

theorem NodeSrc.below {w0 : World} {n : Nd} {a1 a2 a3 : Option Addr} {c1 c2 c3 : Nat} {W W' : World} (h : NodeSrc w0 n a1 c1 a2 c2 a3 c3 W) (hb : Below W.heap.size W W') : NodeSrc w0 n a1 c1 a2 c2 a3 c3 W' := h.sole (Sole.of_below hb []) (fun _ h => by cases h) (fun _ h => by cases h)

/-- The node of a call. -/
theorem gnode_any {w0 : World} (w : World) (o : PopV) (hk : PopOk o) (hz : PopZ o) (hi : PopIn w0 o) (hb : Below w0.heap.size w0 w) : Calls Tryz.prog 12 #[.agg o.cells] w fun e w' => ∃ a1 c1 a2 c2 a3 c3, e = .returned (.agg #[.bool (nodeN o).leaf, .slice a1 (nodeN o).pairs.length c1, .slice a2 (nodeN o).keys.length c2, .slice a3 (nodeN o).kids.length c3]) ∧ NodeSrc w0 (nodeN o) a1 c1 a2 c2 a3 c3 w' ∧ Below w.heap.size w w' := by
  by_cases h6 : o.f0 = 6
  · have hn : nodeN o = o.nd := by unfold nodeN; rw [if_pos h6]
    rw [hn]
    obtain ⟨a1, c1, a2, c2, a3, c3, e, h1, h2, h3, _⟩ := id hi.node
    unfold PopV.node at e
    simp only [Value.agg.injEq, Array.mk.injEq, List.cons.injEq, and_true, true_and] at e
    refine (nodeSix w o h6 a1 a2 a3 _ _ _ c1 c2 c3 e.1 e.2.1 e.2.2).mono ?_
    rintro e' w' ⟨rfl, hb'⟩
    have hval : o.node = .agg #[.bool o.nd.leaf, .slice a1 o.nd.pairs.length c1, .slice a2 o.nd.keys.length c2, .slice a3 o.nd.kids.length c3] := by unfold PopV.node; rw [e.1, e.2.1, e.2.2]
    rw [hval]
    refine ⟨a1, c1, a2, c2, a3, c3, rfl, ⟨hb.trans (hb'.mono hb.size), .inr trivial, .inl fun V hV => ⟨by rw [← hval]; exact hi.node.below hV, fun he => ?_⟩⟩, hb'⟩
    have hs := node_sizes he
    exact ⟨RdE.below h1 hV, RdE.below h2 hV, RdE.below h3 hV, fun ha => hz.z5 _ _ (by rw [e.1, ha]), fun ha => hz.z6 _ _ (by rw [e.2.1, ha]), fun ha => hz.z7 _ _ (by rw [e.2.2, ha]), hs.1, hs.2.1, hs.2.2⟩
  · refine (node_any w o hk (hi.below hb)).mono ?_
    rintro e w' ⟨u, rfl, hat, hown, hb'⟩
    have ho := hown h6
    obtain ⟨a1, c1, a2, c2, a3, c3, rfl, _⟩ := id hat
    exact ⟨a1, c1, a2, c2, a3, c3, rfl, ⟨hb.trans (hb'.mono hb.size), .inr trivial, .inr (NdOwn.mono ho (Nat.zero_le _))⟩, hb'⟩

end Go.Proofs.YthgdbjpefjjeaaaGreat
