/- WCopy, WAppend, WLong: in one text. -/
import Derived.Test.YtckcdmkgmbicfaaGreatMW1
import Derived.Laws.OwnMore
import Derived.Deep.RegionHeld3
import Derived.Deep.AppendSrc
import Derived.Great.BuildSlice
import Derived.Test.YtckcdmkgmbicfaaGreatWSink
namespace Go.Proofs.YtckcdmkgmbicfaaGreat
open Go.RowKit
set_option linter.unusedVariables false
set_option linter.unusedSimpArgs false
set_option maxRecDepth 4000

theorem Tryz.infoR : (Tryz.prog.info? 62).map (fun i => (i.zero, i.size, i.bytes)) = some (some (.agg #[.int .u64 0, .slice none 0 0]), 2, 32) := by kernel_rfl

theorem info_partsR : ∃ i, Tryz.prog.info? 62 = some i ∧ i.zero = some (.agg #[.int .u64 0, .slice none 0 0]) ∧ i.size = 2 ∧ i.bytes = 32 := by
  have h := Tryz.infoR
  cases hi : Tryz.prog.info? 62 with
  | none => rw [hi] at h; cases h
  | some i =>
    rw [hi] at h
    simp only [Option.map_some, Option.some.injEq, Prod.mk.injEq] at h
    exact ⟨i, rfl, h.1, h.2.1, h.2.2⟩

/-- The cells of a row of records, as they lie there. -/
def recCells (w : World) (b off n : Nat) : List Value := (List.range (n * 2)).map (fun j => (w.cell? ⟨b, off + j, none⟩).getD undef)

theorem recCells_at {w : World} {b off n j : Nat} (hj : j < n * 2) : (recCells w b off n)[j]? = some ((w.cell? ⟨b, off + j, none⟩).getD undef) := by
  unfold recCells
  rw [List.getElem?_map, List.getElem?_range hj]
  rfl

/-- A row of records of the call's own, whose cells are those of another one. -/
theorem rdR_own {B : List Nat} {w W : World} {base b off : Nat} {v : Value} {l : List Rc} (hb : Below w.heap.size w W) (hc : ∀ (i : Nat) (x : Rc), l[i]? = some x → w.cell? ⟨b, off + i * 2, none⟩ = some (.int .u64 x.num) ∧ ∃ g, w.cell? ⟨b, off + i * 2 + 1, none⟩ = some g ∧ RdT B w g x.grp)
    (h : W.ownsRow base 62 2 v l.length (recCells w b off l.length)) : ∃ B', RdR B' W v l ∧ (∀ k ∈ B', k ∈ B ∨ base ≤ k ∧ k < W.heap.size) := by
  rcases h.2 with ⟨rfl, h0⟩ | ⟨g, cap, cur, rfl, hbs, hg, hn, hm, hs, ht⟩
  · have : l = [] := List.length_eq_zero_iff.1 h0
    subst this
    exact ⟨B, RdR.nil _ _, fun k hk => .inl hk⟩
  · have hgl := (Array.getElem?_eq_some_iff.1 hg).1
    refine ⟨g :: B, ⟨_, cap, rfl, hn, hm, (by intro e; cases e), fun _ => ⟨g, 0, rfl, hgl, by simp, fun i x hx => ?_⟩⟩, fun k hk => ?_⟩
    · have hlt := (List.getElem?_eq_some_iff.1 hx).1
      obtain ⟨c1, gv, c2, hgv⟩ := hc i x hx
      have cell : ∀ j u, j < l.length * 2 → w.cell? ⟨b, off + j, none⟩ = some u → W.cell? ⟨g, j, none⟩ = some u := fun j u hj hu => by
        have e := recCells_at (w := w) (b := b) (off := off) (n := l.length) hj
        rw [hu] at e
        rw [cell_of_row W g j _ _ (0, 0) hg]
        rw [← ht, List.getElem?_take, if_pos (by omega)] at e
        rw [← Array.getElem?_toList]
        exact e
      rw [Nat.zero_add]
      refine ⟨cell (i * 2) _ (by omega) c1, gv, cell (i * 2 + 1) _ (by omega) (by rw [show off + (i * 2 + 1) = off + i * 2 + 1 from by omega]; exact c2), ?_⟩
      exact (hgv.below hb).mono (fun k hk => List.mem_cons_of_mem _ hk)
    · rcases List.mem_cons.1 hk with e | e
      · subst e; exact .inr ⟨hbs, hgl⟩
      · exact .inl e

/-- 'append([]Rec(nil), l...)'. -/
theorem wp_copy_recs {w : World} {o : Oper} {a : Act} {K : Act → World → Prop} {Q : Exit → Act → World → Prop} (s x : Operand)
    (ho : o.op = .call { callee := .builtin .append, args := #[s, x], argTypes := #[39, 39] })
    (hs : a.eval s = .slice none 0 0) (B : List Nat) (u : Value) (l : List Rc) (hx : a.eval x = u) (hrd : RdR B w u l) (hlen : l.length ≤ 1000000)
    (h : ∀ av cv w' B', RdR B' w' (.slice av l.length cv) l → (∀ k ∈ B', k ∈ B ∨ w.heap.size ≤ k ∧ k < w'.heap.size) → Below w.heap.size w w' → K (a.put o.dst (.slice av l.length cv)) w') : o.wp Tryz.prog a w K Q := by
  obtain ⟨iI, hii, hi0, hi1, hi2⟩ := info_partsR
  obtain ⟨ad, cap, rfl, h1, h2, h3, h4⟩ := hrd
  cases ad with
  | none =>
    obtain rfl := h3 rfl
    have hl : l.length = 0 := by omega
    obtain rfl : l = [] := List.eq_nil_of_length_eq_zero hl
    have hr := run_append_owned_none (P := Tryz.prog) (w := w) w.heap.size 39 o.type 62 iI 2 Tryz.underlying39 hii (.slice none 0 0) 0 [] (World.ownsRow_nil _ _ _ _)
    unfold Oper.wp execOp
    simp only [ho, resolve, invoke, builtin, Sem.run_bind, Sem.run_pure, Result.andThen_ok, List.map_toArray, List.map_cons, List.map_nil, hs, hx, List.length_nil, hr]
    exact h none 0 w B (RdR.nil _ _) (fun k hk => .inl hk) (Below.refl _ _)
  | some ad =>
    rcases Nat.eq_zero_or_pos l.length with h0 | hp
    · obtain rfl : l = [] := List.eq_nil_of_length_eq_zero h0
      refine wp_append_own w s x 39 ho w.heap.size 62 iI (.agg #[.int .u64 0, .slice none 0 0]) 2 32 Tryz.underlying39 hii hi0 hi1 hi2 rfl (by decide) _ 0 [] hs (World.ownsRow_nil _ _ _ _) ad 0 cap [] hx rfl (fun j u hj => by simp at hj) (by simp) (by unfold maxLen; omega) (by omega) (Nat.le_refl _) ?_
      intro v' w' ho' hg hz
      obtain rfl := hz.2 ⟨rfl, rfl⟩
      exact h none 0 w' B (RdR.nil _ _) (fun k hk => .inl hk) ((Below.refl _ _).grown hg (Nat.le_refl _) (fun q hq => by cases hq))
    · obtain ⟨b, off, e, hbl, hbB, hc⟩ := h4 hp
      simp only [Option.some.injEq] at e
      subst e
      have some_at : ∀ j, j < l.length * 2 → ∃ u, w.cell? ⟨b, off + j, none⟩ = some u ∧ u.oneCell' = true := fun j hj => by
        have hxi : l[j / 2]? = some l[j / 2] := List.getElem?_eq_getElem (by omega)
        obtain ⟨c1, g, c2, hg⟩ := hc (j / 2) _ hxi
        rcases Nat.mod_two_eq_zero_or_one j with e | e
        · exact ⟨_, by rw [show off + j = off + j / 2 * 2 from by omega]; exact c1, rfl⟩
        · obtain ⟨ag, cg, rfl, _⟩ := hg
          exact ⟨_, by rw [show off + j = off + j / 2 * 2 + 1 from by omega]; exact c2, rfl⟩
      refine wp_append_own w s x 39 ho w.heap.size 62 iI (.agg #[.int .u64 0, .slice none 0 0]) 2 32 Tryz.underlying39 hii hi0 hi1 hi2 rfl (by decide) _ 0 [] hs (World.ownsRow_nil _ _ _ _) ⟨b, off, none⟩ l.length cap (recCells w b off l.length) hx (by simp [recCells]) ?_ ?_ (by unfold maxLen; omega) (by omega) (Nat.le_refl _) ?_
      · intro j u hj
        have hjl : j < l.length * 2 := by have := (List.getElem?_eq_some_iff.1 hj).1; simpa [recCells] using this
        rw [recCells_at hjl] at hj
        obtain ⟨y, hy, _⟩ := some_at j hjl
        have hadd : (⟨b, off, none⟩ : Addr).add j = ⟨b, off + j, none⟩ := by unfold Addr.add; split <;> simp_all
        rw [hadd, hy]
        rw [hy] at hj
        exact hj
      · intro u hu
        obtain ⟨j, hj, rfl⟩ := List.mem_map.1 hu
        obtain ⟨y, hy, h1⟩ := some_at j (List.mem_range.1 hj)
        rw [hy]
        exact h1
      · intro v' w' ho' hg _
        rw [Nat.zero_add, List.nil_append] at ho'
        have hb : Below w.heap.size w w' := (Below.refl _ _).grown hg (Nat.le_refl _) (fun q hq => by cases hq)
        obtain ⟨B', r1, r2⟩ := rdR_own hb hc ho'
        obtain ⟨av, cv, hv, _⟩ := r1
        subst hv
        obtain ⟨B', r1, r2⟩ := rdR_own hb hc ho'
        exact h av cv w' B' r1 r2 hb

set_option maxHeartbeats 8000000 in
theorem copy_any {w : World} {p : Nat} {B : List Nat} {s : Lg} (H : LgAt w p B s) (hk : LgOk s) (hBin : ∀ k ∈ B, k < w.heap.size) :
    Calls Tryz.prog 20 #[ptrW p] w fun e w' => ∃ p' B', e = .returned (ptrW p') ∧ LgAt w' p' B' s ∧ w.heap.size ≤ p' ∧ (∀ k ∈ B', k ∈ B ∨ w.heap.size ≤ k) ∧ Below w.heap.size w w' := by
  obtain ⟨a, cap, c0, c1, c2, c3, hp, k1, k2, k3, hR, _⟩ := H.opened
  have hm := hk.recs
  obtain ⟨rs, dn, cn, nx⟩ := s
  dsimp only at *
  have q0 : ∀ W, Below w.heap.size w W → W.cell? ⟨p, 0, none⟩ = some (.slice a rs.length cap) := fun W hW => (hW.cell (p := ⟨p, 0, none⟩) hp).trans c0
  have q1 : ∀ W, Below w.heap.size w W → W.cell? ⟨p, 1, none⟩ = some (.int .i64 dn) := fun W hW => (hW.cell (p := ⟨p, 1, none⟩) hp).trans c1
  have q2 : ∀ W, Below w.heap.size w W → W.cell? ⟨p, 2, none⟩ = some (.int .i64 cn) := fun W hW => (hW.cell (p := ⟨p, 2, none⟩) hp).trans c2
  have q3 : ∀ W, Below w.heap.size w W → W.cell? ⟨p, 3, none⟩ = some (.int .u64 nx) := fun W hW => (hW.cell (p := ⟨p, 3, none⟩) hp).trans c3
  have HR : Hid (RdR B w (.slice a rs.length cap) rs) := hR
  clear hR H hk c0 c1 c2 c3
  unfold ptrW
  go_enter Tryz.func20, Tryz.ntmps20
  go_wp2_with fail
  refine wp_region_noPanic ?_
  refine wp_region_held_drew (S := fun W => Below w.heap.size w W) (by kernel_rfl) (Below.refl _ _).drew (fun hHeld => ?_)
  refine wpAnyH_take (i := 0) (v := .pointer (some ⟨p, 0, none⟩)) rfl (by kernel_rfl) (by kernel_rfl) (by kernel_rfl) (fun _ _ _ h => h) (Or.inl ⟨by rfl, fun W hSw => by (try dsimp only at hSw); go_simp⟩) (by assumption) ?_
  simp only [List.getElem_toArray, List.getElem_cons_zero, List.getElem_cons_succ, Act.put, List.setIfInBounds_toArray, List.set_cons_zero, List.set_cons_succ]
  refine wpAnyH_take (i := 1) (v := .pointer (some ⟨p, 0, none⟩)) rfl (by kernel_rfl) (by kernel_rfl) (by kernel_rfl) (fun _ _ _ h => h) (Or.inl ⟨by rfl, fun W hSw => by (try dsimp only at hSw); go_simp⟩) (by assumption) ?_
  simp only [List.getElem_toArray, List.getElem_cons_zero, List.getElem_cons_succ, Act.put, List.setIfInBounds_toArray, List.set_cons_zero, List.set_cons_succ]
  refine wpAnyH_take (i := 2) (v := .pointer (some ⟨p, 0, none⟩)) rfl (by kernel_rfl) (by kernel_rfl) (by kernel_rfl) (fun _ _ _ h => h) (Or.inl ⟨by rfl, fun W hSw => by (try dsimp only at hSw); go_simp⟩) (by assumption) ?_
  simp only [List.getElem_toArray, List.getElem_cons_zero, List.getElem_cons_succ, Act.put, List.setIfInBounds_toArray, List.set_cons_zero, List.set_cons_succ]
  refine wpAnyH_take (i := 3) (v := .slice a rs.length cap) rfl (by kernel_rfl) (by kernel_rfl) (by kernel_rfl) (fun _ _ _ h => h) (Or.inl ⟨by rfl, fun W hSw => by (try dsimp only at hSw); go_simp⟩) (by assumption) ?_
  simp only [List.getElem_toArray, List.getElem_cons_zero, List.getElem_cons_succ, Act.put, List.setIfInBounds_toArray, List.set_cons_zero, List.set_cons_succ]
  refine wpAnyH_take (i := 5) (v := .pointer (some ⟨p, 0, none⟩)) rfl (by kernel_rfl) (by kernel_rfl) (by kernel_rfl) (fun _ _ _ h => h) (Or.inl ⟨by rfl, fun W hSw => by (try dsimp only at hSw); go_simp⟩) (by assumption) ?_
  simp only [List.getElem_toArray, List.getElem_cons_zero, List.getElem_cons_succ, Act.put, List.setIfInBounds_toArray, List.set_cons_zero, List.set_cons_succ]
  refine wpAnyH_take (i := 6) (v := .pointer (some ⟨p, 0, none⟩)) rfl (by kernel_rfl) (by kernel_rfl) (by kernel_rfl) (fun _ _ _ h => h) (Or.inl ⟨by rfl, fun W hSw => by (try dsimp only at hSw); go_simp⟩) (by assumption) ?_
  simp only [List.getElem_toArray, List.getElem_cons_zero, List.getElem_cons_succ, Act.put, List.setIfInBounds_toArray, List.set_cons_zero, List.set_cons_succ]
  refine wpAnyH_take (i := 7) (v := .pointer (some ⟨p, 1, none⟩)) rfl (by kernel_rfl) (by kernel_rfl) (by kernel_rfl) (fun _ _ _ h => h) (Or.inl ⟨by rfl, fun W hSw => by (try dsimp only at hSw); go_simp⟩) (by assumption) ?_
  simp only [List.getElem_toArray, List.getElem_cons_zero, List.getElem_cons_succ, Act.put, List.setIfInBounds_toArray, List.set_cons_zero, List.set_cons_succ]
  refine wpAnyH_take (i := 8) (v := .int .i64 dn) rfl (by kernel_rfl) (by kernel_rfl) (by kernel_rfl) (fun _ _ _ h => h) (Or.inl ⟨by rfl, fun W hSw => by (try dsimp only at hSw); go_simp⟩) (by assumption) ?_
  simp only [List.getElem_toArray, List.getElem_cons_zero, List.getElem_cons_succ, Act.put, List.setIfInBounds_toArray, List.set_cons_zero, List.set_cons_succ]
  refine wpAnyH_take (i := 9) (v := .pointer (some ⟨p, 0, none⟩)) rfl (by kernel_rfl) (by kernel_rfl) (by kernel_rfl) (fun _ _ _ h => h) (Or.inl ⟨by rfl, fun W hSw => by (try dsimp only at hSw); go_simp⟩) (by assumption) ?_
  simp only [List.getElem_toArray, List.getElem_cons_zero, List.getElem_cons_succ, Act.put, List.setIfInBounds_toArray, List.set_cons_zero, List.set_cons_succ]
  refine wpAnyH_take (i := 10) (v := .pointer (some ⟨p, 0, none⟩)) rfl (by kernel_rfl) (by kernel_rfl) (by kernel_rfl) (fun _ _ _ h => h) (Or.inl ⟨by rfl, fun W hSw => by (try dsimp only at hSw); go_simp⟩) (by assumption) ?_
  simp only [List.getElem_toArray, List.getElem_cons_zero, List.getElem_cons_succ, Act.put, List.setIfInBounds_toArray, List.set_cons_zero, List.set_cons_succ]
  refine wpAnyH_take (i := 11) (v := .pointer (some ⟨p, 2, none⟩)) rfl (by kernel_rfl) (by kernel_rfl) (by kernel_rfl) (fun _ _ _ h => h) (Or.inl ⟨by rfl, fun W hSw => by (try dsimp only at hSw); go_simp⟩) (by assumption) ?_
  simp only [List.getElem_toArray, List.getElem_cons_zero, List.getElem_cons_succ, Act.put, List.setIfInBounds_toArray, List.set_cons_zero, List.set_cons_succ]
  refine wpAnyH_take (i := 12) (v := .int .i64 cn) rfl (by kernel_rfl) (by kernel_rfl) (by kernel_rfl) (fun _ _ _ h => h) (Or.inl ⟨by rfl, fun W hSw => by (try dsimp only at hSw); go_simp⟩) (by assumption) ?_
  simp only [List.getElem_toArray, List.getElem_cons_zero, List.getElem_cons_succ, Act.put, List.setIfInBounds_toArray, List.set_cons_zero, List.set_cons_succ]
  refine wpAnyH_take (i := 13) (v := .pointer (some ⟨p, 0, none⟩)) rfl (by kernel_rfl) (by kernel_rfl) (by kernel_rfl) (fun _ _ _ h => h) (Or.inl ⟨by rfl, fun W hSw => by (try dsimp only at hSw); go_simp⟩) (by assumption) ?_
  simp only [List.getElem_toArray, List.getElem_cons_zero, List.getElem_cons_succ, Act.put, List.setIfInBounds_toArray, List.set_cons_zero, List.set_cons_succ]
  refine wpAnyH_take (i := 14) (v := .pointer (some ⟨p, 0, none⟩)) rfl (by kernel_rfl) (by kernel_rfl) (by kernel_rfl) (fun _ _ _ h => h) (Or.inl ⟨by rfl, fun W hSw => by (try dsimp only at hSw); go_simp⟩) (by assumption) ?_
  simp only [List.getElem_toArray, List.getElem_cons_zero, List.getElem_cons_succ, Act.put, List.setIfInBounds_toArray, List.set_cons_zero, List.set_cons_succ]
  refine wpAnyH_take (i := 15) (v := .pointer (some ⟨p, 3, none⟩)) rfl (by kernel_rfl) (by kernel_rfl) (by kernel_rfl) (fun _ _ _ h => h) (Or.inl ⟨by rfl, fun W hSw => by (try dsimp only at hSw); go_simp⟩) (by assumption) ?_
  simp only [List.getElem_toArray, List.getElem_cons_zero, List.getElem_cons_succ, Act.put, List.setIfInBounds_toArray, List.set_cons_zero, List.set_cons_succ]
  refine wpAnyH_take (i := 16) (v := .int .u64 nx) rfl (by kernel_rfl) (by kernel_rfl) (by kernel_rfl) (fun _ _ _ h => h) (Or.inl ⟨by rfl, fun W hSw => by (try dsimp only at hSw); go_simp⟩) (by assumption) ?_
  simp only [List.getElem_toArray, List.getElem_cons_zero, List.getElem_cons_succ, Act.put, List.setIfInBounds_toArray, List.set_cons_zero, List.set_cons_succ]
  refine wpAnyH_ready (rs := [4]) (by kernel_rfl) (by simp) ?_
  refine AllReadyH.cons rfl (fun K hK => ?_) AllReadyH.nil
  rw [if_pos (by rfl)]
  refine wp_copy_recs _ _ rfl rfl B _ rs rfl (HR.out.below (Below.refl _ _).drew) hm ?_
  intro av cv w4 B4 r4 rB hb4
  have hB4 : Below w.heap.size w w4 := (Below.refl w.heap.size w).drew.trans hb4
  refine hK.out _ _ hB4 (fun hHeld2 => ?_)
  clear hK K
  simp only [List.getElem_toArray, List.getElem_cons_zero, List.getElem_cons_succ, Act.put, List.setIfInBounds_toArray, List.set_cons_zero, List.set_cons_succ]
  refine wpAnyH_take (i := 17) (v := .agg #[.slice av rs.length cv, .int .i64 dn, .int .i64 cn, .int .u64 nx]) rfl (by kernel_rfl) (by kernel_rfl) (by kernel_rfl) (fun _ _ _ h => h) (Or.inl ⟨by rfl, fun W hSw => by (try dsimp only at hSw); go_simp⟩) (by assumption) ?_
  simp only [List.getElem_toArray, List.getElem_cons_zero, List.getElem_cons_succ, Act.put, List.setIfInBounds_toArray, List.set_cons_zero, List.set_cons_succ]
  refine wpAnyH_ready (rs := [18]) (by kernel_rfl) (by simp) ?_
  refine AllReadyH.cons rfl (fun K hK => ?_) AllReadyH.nil
  go_simp
  go_wp2
  have hbx : Below w4.heap.size w4 (w4.alloc (.cells #[.slice av rs.length cv, .int .i64 dn, .int .i64 cn, .int .u64 nx] 41)) := (Below.refl _ w4).alloc (Nat.le_refl _) _
  have hgx := heap_alloc_new w4 (.cells #[.slice av rs.length cv, .int .i64 dn, .int .i64 cn, .int .u64 nx] 41)
  have hBx := hB4.trans (hbx.mono hB4.size)
  refine hK.out _ _ hBx (fun hHeld3 => ?_)
  clear hK K
  generalize w4.alloc (.cells #[.slice av rs.length cv, .int .i64 dn, .int .i64 cn, .int .u64 nx] 41) = W5 at *
  refine wpAnyH_ready (rs := [19]) (by kernel_rfl) (by simp) ?_
  refine AllReadyH.cons rfl (fun K hK => ?_) AllReadyH.nil
  go_simp
  refine hK.out _ _ hBx (fun hHeld4 => ?_)
  clear hK K
  refine wpAnyH_done (by kernel_rfl) ?_ _
  refine NoPanic.normal ?_
  have hs4 := hb4.size
  have hapt : w4.heap.size ∉ B4 := fun q => by
    rcases rB _ q with e | e
    · exact absurd (hBin _ e) (by have := hB4.size; omega)
    · omega
  have HL : LgAt W5 w4.heap.size B4 ⟨rs, dn, cn, nx⟩ := ⟨⟨_, hgx, r4.below hbx⟩, hapt⟩
  have hp4 : w.heap.size ≤ w4.heap.size := hB4.size
  clear q0 q1 q2 q3 r4 hgx
  go_wp2
  go_ret
  exact ⟨w4.heap.size, B4, rfl, HL, hp4, fun k hk => by rcases rB k hk with e | e; exact .inl e; exact .inr e.1, hBx⟩

theorem run_append_rec (w : World) (B : List Nat) (a : Option Addr) (l : List Rc) (hR : RdR B w (.slice a l.length l.length) l) (hlen : l.length ≤ 1000000) (g0 num : Nat) (gv : Value) (grp : List ByteArray) (hg0 : w.heap[g0]? = some (.cells #[.int .u64 num, gv] 62 (0, 0))) (hgv : RdT B w gv grp) (ty : TypeId) :
    ∃ cv W, (Builtin.append_ #[39, 39] ty #[.slice a l.length l.length, .slice (some ⟨g0, 0, none⟩) 1 1]).run Tryz.prog w = .ok (.slice (some ⟨w.heap.size, 0, none⟩) (l.length + 1) cv) W ∧ RdR (w.heap.size :: B) W (.slice (some ⟨w.heap.size, 0, none⟩) (l.length + 1) cv) (l ++ [⟨num, grp⟩]) ∧ Below w.heap.size w W ∧ W.heap.size = w.heap.size + 1 := by
  obtain ⟨i, hi, hz0, hz1, hz2⟩ := info_partsR
  have hgv1 : gv.oneCell' = true := by obtain ⟨_, _, rfl, _⟩ := hgv; rfl
  have hsrc := Src.ofSlice (P := Tryz.prog) w (size := i.size) (tx := 39) Tryz.underlying39 ⟨g0, 0, none⟩ 1 1 [.int .u64 num, gv] (by rw [hz1]; rfl) (fun j u hj => by
    have hadd : (⟨g0, 0, none⟩ : Addr).add j = ⟨g0, j, none⟩ := by unfold Addr.add; split <;> simp_all
    rw [hadd, cell_of_row w g0 j _ _ (0, 0) hg0, ← hj]
    exact List.getElem?_toArray) (by intro u hu; simp only [List.mem_cons, List.not_mem_nil, or_false] at hu; rcases hu with rfl | rfl; rfl; exact hgv1)
  obtain ⟨olds, hold, hol, hcell⟩ : ∃ olds : List Value, (Builtin.firstCells i.size l.length (.slice a l.length l.length)).run Tryz.prog w.drew = .ok olds.toArray w.drew ∧ olds.length = l.length * 2 ∧ ∀ (k : Nat) (x : Rc), l[k]? = some x → olds[k * 2]? = some (.int .u64 x.num) ∧ ∃ g, olds[k * 2 + 1]? = some g ∧ RdT B w g x.grp := by
    obtain ⟨a', c', e, _, _, _, h4⟩ := hR
    simp only [Value.slice.injEq] at e
    obtain ⟨rfl, _, _⟩ := e
    rcases Nat.eq_zero_or_pos l.length with h0 | hp
    · obtain rfl : l = [] := List.eq_nil_of_length_eq_zero h0
      cases a with
      | none => exact ⟨[], by simp [Builtin.firstCells], rfl, fun k x hk => by simp at hk⟩
      | some ad => exact ⟨[], by simpa using run_firstCells_some (P := Tryz.prog) w.drew i.size 0 ad 0 0 [] (by simp) (fun j u hj => by simp at hj), rfl, fun k x hk => by simp at hk⟩
    · obtain ⟨b, off, rfl, hb, _, hc⟩ := h4 hp
      refine ⟨recCells w b off l.length, run_firstCells_some (P := Tryz.prog) w.drew i.size l.length ⟨b, off, none⟩ l.length l.length _ (by rw [hz1]; simp [recCells]) (fun j u hj => ?_), by simp [recCells], fun k x hk => ?_⟩
      · have hjl : j < l.length * 2 := by have := (List.getElem?_eq_some_iff.1 hj).1; simpa [recCells] using this
        rw [recCells_at hjl] at hj
        have hadd : (⟨b, off, none⟩ : Addr).add j = ⟨b, off + j, none⟩ := by unfold Addr.add; split <;> simp_all
        have hxi : l[j / 2]? = some l[j / 2] := List.getElem?_eq_getElem (by omega)
        obtain ⟨c1, g, c2, _⟩ := hc (j / 2) _ hxi
        have hs : ∃ y, w.cell? ⟨b, off + j, none⟩ = some y := by
          rcases Nat.mod_two_eq_zero_or_one j with e | e
          · exact ⟨_, by rw [show off + j = off + j / 2 * 2 from by omega]; exact c1⟩
          · exact ⟨_, by rw [show off + j = off + j / 2 * 2 + 1 from by omega]; exact c2⟩
        obtain ⟨y, hy⟩ := hs
        rw [hy] at hj
        rw [hadd]
        show w.cell? ⟨b, off + j, none⟩ = some u
        rw [hy]
        exact hj
      · have hlt := (List.getElem?_eq_some_iff.1 hk).1
        obtain ⟨c1, g, c2, hg⟩ := hc k x hk
        refine ⟨by rw [recCells_at (by omega), c1]; rfl, g, ?_, hg⟩
        rw [recCells_at (by omega), show off + (k * 2 + 1) = off + k * 2 + 1 from by omega, c2]
        rfl
  have hr := run_append_grow_src (P := Tryz.prog) w 39 39 ty 62 i (.agg #[.int .u64 0, .slice none 0 0]) Tryz.underlying39 hi hz0 a l.length l.length olds hold _ 1 _ hsrc (by omega) (by omega) (by rw [hz2]; exact growslice_fits (by omega) (by omega))
  obtain ⟨c, hge, hcl, hce⟩ : ∃ c, l.length + 1 ≤ c ∧ c ≤ maxLen ∧ c = grownCap w (l.length + 1) l.length 62 := ⟨_, grownCap_ge w _ _ _, grownCap_le_maxLen w _ _ _ (by unfold maxLen; omega), rfl⟩
  rw [← hce] at hr
  generalize hZ : Builtin.zeroCells (Value.agg #[.int .u64 0, .slice none 0 0]).cells (c - (l.length + 1)) = Z at *
  have hbW : Below w.heap.size w (w.drew.alloc (.cells ((olds ++ [.int .u64 num, gv]).toArray ++ Z) 62)) := (Below.refl _ w).drew.alloc (Nat.le_refl _) _
  have hgW : (w.drew.alloc (.cells ((olds ++ [.int .u64 num, gv]).toArray ++ Z) 62)).heap[w.heap.size]? = some (.cells ((olds ++ [.int .u64 num, gv]).toArray ++ Z) 62 (0, 0)) := heap_alloc_new w.drew _
  have hszW : (w.drew.alloc (.cells ((olds ++ [.int .u64 num, gv]).toArray ++ Z) 62)).heap.size = w.heap.size + 1 := by simp
  generalize w.drew.alloc (.cells ((olds ++ [.int .u64 num, gv]).toArray ++ Z) 62) = W at *
  refine ⟨c, W, hr, ?_, hbW, hszW⟩
  refine ⟨_, c, by rw [List.length_append]; rfl, by rw [List.length_append]; exact hge, hcl, (by intro e; cases e), fun _ => ⟨w.heap.size, 0, rfl, by omega, by simp, fun k x hk => ?_⟩⟩
  have cell : ∀ j u, (olds ++ [.int .u64 num, gv])[j]? = some u → W.cell? ⟨w.heap.size, j, none⟩ = some u := fun j u hj => by
    have hjl := (List.getElem?_eq_some_iff.1 hj).1
    rw [cell_of_row W _ j _ _ (0, 0) hgW, Array.getElem?_append_left (by simpa using hjl), List.getElem?_toArray]
    exact hj
  rw [Nat.zero_add]
  rcases Nat.lt_or_ge k l.length with hlt | hge'
  · rw [List.getElem?_append_left hlt] at hk
    obtain ⟨c1, g, c2, hg⟩ := hcell k x hk
    exact ⟨cell _ _ (by rw [List.getElem?_append_left (by omega)]; exact c1), g, cell _ _ (by rw [List.getElem?_append_left (by omega)]; exact c2), (hg.below hbW).mono (fun q hq => List.mem_cons_of_mem _ hq)⟩
  · have hkl : k = l.length := by have := (List.getElem?_eq_some_iff.1 hk).1; rw [List.length_append] at this; simp at this; omega
    subst hkl
    rw [List.getElem?_append_right (Nat.le_refl _), Nat.sub_self] at hk
    simp only [List.getElem?_cons_zero, Option.some.injEq] at hk
    subst hk
    refine ⟨cell _ _ (by rw [List.getElem?_append_right (by omega), hol, Nat.sub_self]; rfl), gv, cell _ _ (by rw [List.getElem?_append_right (by omega), hol, show l.length * 2 + 1 - l.length * 2 = 1 from by omega]; rfl), (hgv.below hbW).mono (fun q hq => List.mem_cons_of_mem _ hq)⟩

/-- 'append([]string(nil), l...)' at an operation of a drawn region. -/
theorem wp_copy_strs {w : World} {o : Oper} {a : Act} {K : Act → World → Prop} {Q : Exit → Act → World → Prop} (s x : Operand)
    (ho : o.op = .call { callee := .builtin .append, args := #[s, x], argTypes := #[42, 42] })
    (hs : a.eval s = .slice none 0 0) (B : List Nat) (u : Value) (l : List ByteArray) (hx : a.eval x = u) (hrd : RdT B w u l) (hlen : l.length ≤ 1000000)
    (h : ∀ av cv w' B', RdT B' w' (.slice av l.length cv) l → (∀ k ∈ B', w.heap.size ≤ k ∧ k < w'.heap.size) → Below w.heap.size w w' → K (a.put o.dst (.slice av l.length cv)) w') : o.wp Tryz.prog a w K Q := by
  obtain ⟨iI, hii, hi0, hi1, hi2⟩ := info_partsS
  obtain ⟨ad, cap, rfl, h1, h2, h3, h4⟩ := hrd
  cases ad with
  | none =>
    obtain rfl := h3 rfl
    have hl : l.length = 0 := by omega
    obtain rfl : l = [] := List.eq_nil_of_length_eq_zero hl
    have hr := run_append_owned_none (P := Tryz.prog) (w := w) w.heap.size 42 o.type 9 iI 1 Tryz.underlying42 hii (.slice none 0 0) 0 [] (World.ownsRow_nil _ _ _ _)
    unfold Oper.wp execOp
    simp only [ho, resolve, invoke, builtin, Sem.run_bind, Sem.run_pure, Result.andThen_ok, List.map_toArray, List.map_cons, List.map_nil, hs, hx, List.length_nil, hr]
    exact h none 0 w [] (RdT.nil _ _) (fun k hk => by cases hk) (Below.refl _ _)
  | some ad =>
    refine wp_append_own w s x 42 ho w.heap.size 9 iI (.string ⟨#[]⟩) 1 16 Tryz.underlying42 hii hi0 hi1 hi2 rfl (by decide) _ 0 [] hs (World.ownsRow_nil _ _ _ _) ad l.length cap (strC l) hx (by simp [strC]) ?_ (by intro u hu; obtain ⟨y, _, rfl⟩ := List.mem_map.1 hu; rfl) (by unfold maxLen; omega) (by omega) (Nat.le_refl _) ?_
    · intro j u hj
      unfold strC at hj
      rw [List.getElem?_map] at hj
      cases hy : l[j]? with
      | none => rw [hy] at hj; cases hj
      | some y =>
        rw [hy] at hj
        simp only [Option.map_some, Option.some.injEq] at hj
        have hlt := (List.getElem?_eq_some_iff.1 hy).1
        obtain ⟨b, off, e, _, _, hcell⟩ := h4 (by omega)
        simp only [Option.some.injEq] at e
        subst e
        have hadd : (⟨b, off, none⟩ : Addr).add j = ⟨b, off + j, none⟩ := by unfold Addr.add; split <;> simp_all
        rw [hadd, hcell j y hy, hj]
    · intro v' w' ho' hg _
      rw [Nat.zero_add, List.nil_append] at ho'
      obtain ⟨r1, r2⟩ := rdT_own ho'
      obtain ⟨av, cv, rfl⟩ := rowS_slice ho'
      exact h av cv w' _ r1 r2 ((Below.refl _ _).grown hg (Nat.le_refl _) (fun q hq => by cases hq))

theorem RdR.mono {B B' : List Nat} {w : World} {v : Value} {l : List Rc} (h : RdR B w v l) (hB : ∀ k ∈ B, k ∈ B') : RdR B' w v l := by
  obtain ⟨a, cap, rfl, h1, h2, h3, h4⟩ := h
  refine ⟨a, cap, rfl, h1, h2, h3, fun hp => ?_⟩
  obtain ⟨b, off, rfl, hl, hb, hc⟩ := h4 hp
  refine ⟨b, off, rfl, hl, hB b hb, fun i x hx => ?_⟩
  obtain ⟨c1, g, c2, hg⟩ := hc i x hx
  exact ⟨c1, g, c2, hg.mono hB⟩

theorem RdR.cut {B : List Nat} {w : World} {a : Option Addr} {n cap : Nat} {l : List Rc} (h : RdR B w (.slice a n cap) l) : RdR B w (.slice a l.length l.length) l := by
  obtain ⟨a', cap', e, h1, h2, h3, h4⟩ := h
  simp only [Value.slice.injEq] at e
  obtain ⟨rfl, rfl, rfl⟩ := e
  exact ⟨a, l.length, rfl, Nat.le_refl _, by omega, fun e => by have := h3 e; omega, h4⟩

/-- An append whose run is known. -/
theorem wp_of_append {w w' : World} {v' : Value} {o : Oper} {a : Act} {K : Act → World → Prop} {Q : Exit → Act → World → Prop} (s x : Operand) (t : TypeId)
    (ho : o.op = .call { callee := .builtin .append, args := #[s, x], argTypes := #[t, t] }) (v u : Value) (hs : a.eval s = v) (hx : a.eval x = u)
    (hr : (Builtin.append_ #[t, t] o.type #[v, u]).run Tryz.prog w = .ok v' w') (h : K (a.put o.dst v') w') : o.wp Tryz.prog a w K Q := by
  unfold Oper.wp execOp
  simp only [ho, resolve, invoke, builtin, Sem.run_bind, Sem.run_pure, Result.andThen_ok, List.map_toArray, List.map_cons, List.map_nil, hs, hx, hr]
  exact h

/-- Behind Append. -/
def AppOut (w : World) (p : Nat) (B : List Nat) (s : Lg) (g : List ByteArray) (nxt : Nat) (e : Ending) (w' : World) : Prop :=
  e = .returned (.tuple #[]) ∧ ∃ B2, LgAt w' p B2 ⟨s.recs ++ [⟨s.next, g⟩], s.done, s.count, nxt⟩ ∧ Sole [p] w w' ∧ (∀ k ∈ B2, k ∈ B ∨ w.heap.size ≤ k ∧ k < w'.heap.size)

set_option maxHeartbeats 8000000 in
theorem append_some {w : World} {p : Nat} {B B' : List Nat} {rs : List Rc} {dn cn nx : Nat} (ad : Addr) (cap : Nat) (H : LgAt w p B ⟨rs, dn, cn, nx⟩) (hc0 : w.cell? ⟨p, 0, none⟩ = some (.slice (some ad) rs.length cap)) (hk : LgOk ⟨rs, dn, cn, nx⟩) (hBin : ∀ k ∈ B, k < w.heap.size) {ga : Option Addr} {gc : Nat} {g : List ByteArray} (hr : RdT B' w (.slice ga g.length gc) g) (hgl : g.length ≤ 1000000) (nxt : Nat) (hnxt : nxt ≤ 18446744073709551615) :
    Calls Tryz.prog 24 #[ptrW p, .slice ga g.length gc, .int .u64 nxt] w fun e w' => AppOut w p B ⟨rs, dn, cn, nx⟩ g nxt e w' := by
  obtain ⟨a, cap1, c0, c1, c2, c3, hp, k1, k2, k3, hR, hfz⟩ := H.opened
  dsimp only at *
  rw [hc0] at c0
  simp only [Option.some.injEq, Value.slice.injEq, true_and] at c0
  obtain ⟨rfl, rfl⟩ := c0
  have hm : rs.length ≤ 1000000 := hk.recs
  have q0 : ∀ W, Below w.heap.size w W → W.cell? ⟨p, 0, none⟩ = some (.slice (some ad) rs.length cap) := fun W hW => (hW.cell (p := ⟨p, 0, none⟩) hp).trans hc0
  have q3 : ∀ W, Below w.heap.size w W → W.cell? ⟨p, 3, none⟩ = some (.int .u64 nx) := fun W hW => (hW.cell (p := ⟨p, 3, none⟩) hp).trans c3
  have HR : Hid (RdR B w (.slice (some ad) rs.length cap) rs) := hR
  have HRg : Hid (RdT B' w (.slice ga g.length gc) g) := hr
  have HH : Hid (LgAt w p B ⟨rs, dn, cn, nx⟩) := H
  clear hR H hk c1 c2 c3 hc0 hr
  unfold ptrW
  go_enter Tryz.func24, Tryz.ntmps24
  go_wp2_with fail
  refine wp_region_noPanic ?_
  refine wp_region_sink 27 (S := fun W => Below w.heap.size w W) (by kernel_rfl) (by kernel_rfl) (Below.refl _ _).drew (fun hHeld => ?_)
  refine wpAnyH_take (i := 0) (v := .pointer (some ⟨p, 0, none⟩)) rfl (by kernel_rfl) (by kernel_rfl) (by kernel_rfl) (fun _ _ _ h => h) (Or.inl ⟨by rfl, fun W hSw => by (try dsimp only at hSw); go_simp⟩) (by assumption) ?_
  simp only [List.getElem_toArray, List.getElem_cons_zero, List.getElem_cons_succ, Act.put, List.setIfInBounds_toArray, List.set_cons_zero, List.set_cons_succ]
  refine wpAnyH_take (i := 1) (v := .pointer (some ⟨p, 0, none⟩)) rfl (by kernel_rfl) (by kernel_rfl) (by kernel_rfl) (fun _ _ _ h => h) (Or.inl ⟨by rfl, fun W hSw => by (try dsimp only at hSw); go_simp⟩) (by assumption) ?_
  simp only [List.getElem_toArray, List.getElem_cons_zero, List.getElem_cons_succ, Act.put, List.setIfInBounds_toArray, List.set_cons_zero, List.set_cons_succ]
  refine wpAnyH_take (i := 2) (v := .pointer (some ⟨p, 0, none⟩)) rfl (by kernel_rfl) (by kernel_rfl) (by kernel_rfl) (fun _ _ _ h => h) (Or.inl ⟨by rfl, fun W hSw => by (try dsimp only at hSw); go_simp⟩) (by assumption) ?_
  simp only [List.getElem_toArray, List.getElem_cons_zero, List.getElem_cons_succ, Act.put, List.setIfInBounds_toArray, List.set_cons_zero, List.set_cons_succ]
  refine wpAnyH_take (i := 3) (v := .pointer (some ⟨p, 0, none⟩)) rfl (by kernel_rfl) (by kernel_rfl) (by kernel_rfl) (fun _ _ _ h => h) (Or.inl ⟨by rfl, fun W hSw => by (try dsimp only at hSw); go_simp⟩) (by assumption) ?_
  simp only [List.getElem_toArray, List.getElem_cons_zero, List.getElem_cons_succ, Act.put, List.setIfInBounds_toArray, List.set_cons_zero, List.set_cons_succ]
  refine wpAnyH_take (i := 4) (v := .slice (some ad) rs.length cap) rfl (by kernel_rfl) (by kernel_rfl) (by kernel_rfl) (fun _ _ _ h => h) (Or.inl ⟨by rfl, fun W hSw => by (try dsimp only at hSw); go_simp⟩) (by assumption) ?_
  simp only [List.getElem_toArray, List.getElem_cons_zero, List.getElem_cons_succ, Act.put, List.setIfInBounds_toArray, List.set_cons_zero, List.set_cons_succ]
  refine wpAnyH_take (i := 5) (v := .pointer (some ⟨p, 0, none⟩)) rfl (by kernel_rfl) (by kernel_rfl) (by kernel_rfl) (fun _ _ _ h => h) (Or.inl ⟨by rfl, fun W hSw => by (try dsimp only at hSw); go_simp⟩) (by assumption) ?_
  simp only [List.getElem_toArray, List.getElem_cons_zero, List.getElem_cons_succ, Act.put, List.setIfInBounds_toArray, List.set_cons_zero, List.set_cons_succ]
  refine wpAnyH_take (i := 6) (v := .pointer (some ⟨p, 0, none⟩)) rfl (by kernel_rfl) (by kernel_rfl) (by kernel_rfl) (fun _ _ _ h => h) (Or.inl ⟨by rfl, fun W hSw => by (try dsimp only at hSw); go_simp⟩) (by assumption) ?_
  simp only [List.getElem_toArray, List.getElem_cons_zero, List.getElem_cons_succ, Act.put, List.setIfInBounds_toArray, List.set_cons_zero, List.set_cons_succ]
  refine wpAnyH_take (i := 7) (v := .pointer (some ⟨p, 0, none⟩)) rfl (by kernel_rfl) (by kernel_rfl) (by kernel_rfl) (fun _ _ _ h => h) (Or.inl ⟨by rfl, fun W hSw => by (try dsimp only at hSw); go_simp⟩) (by assumption) ?_
  simp only [List.getElem_toArray, List.getElem_cons_zero, List.getElem_cons_succ, Act.put, List.setIfInBounds_toArray, List.set_cons_zero, List.set_cons_succ]
  refine wpAnyH_take (i := 8) (v := .slice (some ad) rs.length cap) rfl (by kernel_rfl) (by kernel_rfl) (by kernel_rfl) (fun _ _ _ h => h) (Or.inl ⟨by rfl, fun W hSw => by (try dsimp only at hSw); go_simp⟩) (by assumption) ?_
  simp only [List.getElem_toArray, List.getElem_cons_zero, List.getElem_cons_succ, Act.put, List.setIfInBounds_toArray, List.set_cons_zero, List.set_cons_succ]
  refine wpAnyH_take (i := 9) (v := .int .i64 rs.length) rfl (by kernel_rfl) (by kernel_rfl) (by kernel_rfl) (fun _ _ _ h => h) (Or.inl ⟨by rfl, fun W hSw => by (try dsimp only at hSw); go_simp⟩) (by assumption) ?_
  simp only [List.getElem_toArray, List.getElem_cons_zero, List.getElem_cons_succ, Act.put, List.setIfInBounds_toArray, List.set_cons_zero, List.set_cons_succ]
  refine wpAnyH_take (i := 10) (v := .pointer (some ⟨p, 0, none⟩)) rfl (by kernel_rfl) (by kernel_rfl) (by kernel_rfl) (fun _ _ _ h => h) (Or.inl ⟨by rfl, fun W hSw => by (try dsimp only at hSw); go_simp⟩) (by assumption) ?_
  simp only [List.getElem_toArray, List.getElem_cons_zero, List.getElem_cons_succ, Act.put, List.setIfInBounds_toArray, List.set_cons_zero, List.set_cons_succ]
  refine wpAnyH_take (i := 11) (v := .pointer (some ⟨p, 0, none⟩)) rfl (by kernel_rfl) (by kernel_rfl) (by kernel_rfl) (fun _ _ _ h => h) (Or.inl ⟨by rfl, fun W hSw => by (try dsimp only at hSw); go_simp⟩) (by assumption) ?_
  simp only [List.getElem_toArray, List.getElem_cons_zero, List.getElem_cons_succ, Act.put, List.setIfInBounds_toArray, List.set_cons_zero, List.set_cons_succ]
  refine wpAnyH_take (i := 12) (v := .pointer (some ⟨p, 0, none⟩)) rfl (by kernel_rfl) (by kernel_rfl) (by kernel_rfl) (fun _ _ _ h => h) (Or.inl ⟨by rfl, fun W hSw => by (try dsimp only at hSw); go_simp⟩) (by assumption) ?_
  simp only [List.getElem_toArray, List.getElem_cons_zero, List.getElem_cons_succ, Act.put, List.setIfInBounds_toArray, List.set_cons_zero, List.set_cons_succ]
  refine wpAnyH_take (i := 13) (v := .slice (some ad) rs.length cap) rfl (by kernel_rfl) (by kernel_rfl) (by kernel_rfl) (fun _ _ _ h => h) (Or.inl ⟨by rfl, fun W hSw => by (try dsimp only at hSw); go_simp⟩) (by assumption) ?_
  simp only [List.getElem_toArray, List.getElem_cons_zero, List.getElem_cons_succ, Act.put, List.setIfInBounds_toArray, List.set_cons_zero, List.set_cons_succ]
  refine wpAnyH_take (i := 14) (v := .int .i64 rs.length) rfl (by kernel_rfl) (by kernel_rfl) (by kernel_rfl) (fun _ _ _ h => h) (Or.inl ⟨by rfl, fun W hSw => by (try dsimp only at hSw); go_simp⟩) (by assumption) ?_
  simp only [List.getElem_toArray, List.getElem_cons_zero, List.getElem_cons_succ, Act.put, List.setIfInBounds_toArray, List.set_cons_zero, List.set_cons_succ]
  refine wpAnyH_take (i := 15) (v := .slice (some ad) rs.length rs.length) rfl (by kernel_rfl) (by kernel_rfl) (by kernel_rfl) (fun _ _ _ h => h) (Or.inl ⟨by rfl, fun W hSw => by (try dsimp only at hSw); go_simp⟩) (by assumption) ?_
  simp only [List.getElem_toArray, List.getElem_cons_zero, List.getElem_cons_succ, Act.put, List.setIfInBounds_toArray, List.set_cons_zero, List.set_cons_succ]
  refine wpAnyH_take (i := 16) (v := .pointer (some ⟨p, 0, none⟩)) rfl (by kernel_rfl) (by kernel_rfl) (by kernel_rfl) (fun _ _ _ h => h) (Or.inl ⟨by rfl, fun W hSw => by (try dsimp only at hSw); go_simp⟩) (by assumption) ?_
  simp only [List.getElem_toArray, List.getElem_cons_zero, List.getElem_cons_succ, Act.put, List.setIfInBounds_toArray, List.set_cons_zero, List.set_cons_succ]
  refine wpAnyH_take (i := 17) (v := .pointer (some ⟨p, 0, none⟩)) rfl (by kernel_rfl) (by kernel_rfl) (by kernel_rfl) (fun _ _ _ h => h) (Or.inl ⟨by rfl, fun W hSw => by (try dsimp only at hSw); go_simp⟩) (by assumption) ?_
  simp only [List.getElem_toArray, List.getElem_cons_zero, List.getElem_cons_succ, Act.put, List.setIfInBounds_toArray, List.set_cons_zero, List.set_cons_succ]
  refine wpAnyH_take (i := 18) (v := .pointer (some ⟨p, 3, none⟩)) rfl (by kernel_rfl) (by kernel_rfl) (by kernel_rfl) (fun _ _ _ h => h) (Or.inl ⟨by rfl, fun W hSw => by (try dsimp only at hSw); go_simp⟩) (by assumption) ?_
  simp only [List.getElem_toArray, List.getElem_cons_zero, List.getElem_cons_succ, Act.put, List.setIfInBounds_toArray, List.set_cons_zero, List.set_cons_succ]
  refine wpAnyH_take (i := 19) (v := .int .u64 nx) rfl (by kernel_rfl) (by kernel_rfl) (by kernel_rfl) (fun _ _ _ h => h) (Or.inl ⟨by rfl, fun W hSw => by (try dsimp only at hSw); go_simp⟩) (by assumption) ?_
  simp only [List.getElem_toArray, List.getElem_cons_zero, List.getElem_cons_succ, Act.put, List.setIfInBounds_toArray, List.set_cons_zero, List.set_cons_succ]
  refine wpAnyH_take (i := 20) (v := .slice ga g.length gc) rfl (by kernel_rfl) (by kernel_rfl) (by kernel_rfl) (fun _ _ _ h => h) (Or.inl ⟨by rfl, fun W hSw => by (try dsimp only at hSw); go_simp⟩) (by assumption) ?_
  simp only [List.getElem_toArray, List.getElem_cons_zero, List.getElem_cons_succ, Act.put, List.setIfInBounds_toArray, List.set_cons_zero, List.set_cons_succ]
  refine wpAnyH_ready (rs := [21]) (by kernel_rfl) (by simp) ?_
  refine AllReadyH.cons rfl (fun K hK => ?_) AllReadyH.nil
  rw [if_pos (by rfl)]
  refine wp_copy_strs _ _ rfl rfl B' _ g rfl (HRg.out.below (Below.refl _ _).drew) hgl ?_
  intro av cv w4 B4 r4 rB hb4
  have hB4 : Below w.heap.size w w4 := (Below.refl w.heap.size w).drew.trans hb4
  refine hK.out _ _ hB4 (fun hHeld2 => ?_)
  clear hK K
  simp only [List.getElem_toArray, List.getElem_cons_zero, List.getElem_cons_succ, Act.put, List.setIfInBounds_toArray, List.set_cons_zero, List.set_cons_succ]
  refine wpAnyH_take (i := 22) (v := .agg #[.int .u64 nx, .slice av g.length cv]) rfl (by kernel_rfl) (by kernel_rfl) (by kernel_rfl) (fun _ _ _ h => h) (Or.inl ⟨by rfl, fun W hSw => by (try dsimp only at hSw); go_simp⟩) (by assumption) ?_
  simp only [List.getElem_toArray, List.getElem_cons_zero, List.getElem_cons_succ, Act.put, List.setIfInBounds_toArray, List.set_cons_zero, List.set_cons_succ]
  refine wpAnyH_ready (rs := [23]) (by kernel_rfl) (by simp) ?_
  refine AllReadyH.cons rfl (fun K hK => ?_) AllReadyH.nil
  go_simp
  go_wp2
  have hb5 : Below w4.heap.size w4 (w4.alloc (.cells #[.int .u64 nx, .slice av g.length cv] 62)) := (Below.refl _ w4).alloc (Nat.le_refl _) _
  have hg5 := heap_alloc_new w4 (.cells #[.int .u64 nx, .slice av g.length cv] 62)
  have hz5 : (w4.alloc (.cells #[.int .u64 nx, .slice av g.length cv] 62)).heap.size = w4.heap.size + 1 := by simp
  have hB5 := hB4.trans (hb5.mono hB4.size)
  refine hK.out _ _ hB5 (fun hHeld3 => ?_)
  clear hK K
  generalize w4.alloc (.cells #[.int .u64 nx, .slice av g.length cv] 62) = W5 at *
  have hR5 : RdR (B ++ B4) W5 (.slice (some ad) rs.length rs.length) rs := ((HR.out.below hB5).cut).mono (fun k hk => List.mem_append_left _ hk)
  have hg5' : RdT (B ++ B4) W5 (.slice av g.length cv) g := (r4.below hb5).mono (fun k hk => List.mem_append_right _ hk)
  refine wpAnyH_ready (rs := [24]) (by kernel_rfl) (by simp) ?_
  refine AllReadyH.cons rfl (fun K hK => ?_) AllReadyH.nil
  rw [if_pos (by rfl)]
  obtain ⟨c6, W6, hrun, hR6, hb6, hz6⟩ := run_append_rec W5 (B ++ B4) (some ad) rs hR5 hm w4.heap.size nx (.slice av g.length cv) g hg5 hg5' 39
  refine wp_of_append _ _ 39 rfl _ _ rfl rfl hrun ?_
  have hB6 := hB5.trans (hb6.mono hB5.size)
  refine hK.out _ _ hB6 (fun hHeld4 => ?_)
  clear hK K
  simp only [List.getElem_toArray, List.getElem_cons_zero, List.getElem_cons_succ, Act.put, List.setIfInBounds_toArray, List.set_cons_zero, List.set_cons_succ]
  refine wpAnyH_take (i := 25) (v := .pointer (some ⟨p, 0, none⟩)) rfl (by kernel_rfl) (by kernel_rfl) (by kernel_rfl) (fun _ _ _ h => h) (Or.inl ⟨by rfl, fun W hSw => by (try dsimp only at hSw); go_simp⟩) (by assumption) ?_
  simp only [List.getElem_toArray, List.getElem_cons_zero, List.getElem_cons_succ, Act.put, List.setIfInBounds_toArray, List.set_cons_zero, List.set_cons_succ]
  refine wpAnyH_take (i := 26) (v := .pointer (some ⟨p, 0, none⟩)) rfl (by kernel_rfl) (by kernel_rfl) (by kernel_rfl) (fun _ _ _ h => h) (Or.inl ⟨by rfl, fun W hSw => by (try dsimp only at hSw); go_simp⟩) (by assumption) ?_
  simp only [List.getElem_toArray, List.getElem_cons_zero, List.getElem_cons_succ, Act.put, List.setIfInBounds_toArray, List.set_cons_zero, List.set_cons_succ]
  have hbp : W6.heap[p]? = w.heap[p]? := hB6.block p hp
  have f60 : W6.frozen? ⟨p, 0, none⟩ = false := by
    obtain ⟨v, hv, _⟩ := HH.out.body
    exact frozen_of_row W6 p 0 _ _ (hbp.trans hv)
  have x60 := q0 W6 hB6
  refine wpAnyH_done (by kernel_rfl) ?_ _
  refine Behind.run (by rfl) ?_
  go_simp
  go_wp2
  refine NoPanic.normal ?_
  obtain ⟨vb, hvb, _⟩ := HH.out.body
  have hap := HH.out.apart
  have g1 := heap_setCell_same W6 p 0 _ _ (.slice (some ⟨w4.heap.size + 1, 0, none⟩) (rs.length + 1) c6) (hbp.trans hvb)
  have g2 := heap_setCell_same _ p 3 _ _ (.int .u64 nxt) g1
  have x73 : (W6.setCell ⟨p, 0, none⟩ (.slice (some ⟨w4.heap.size + 1, 0, none⟩) (rs.length + 1) c6)).cell? ⟨p, 3, none⟩ = some (.int .u64 nx) := by rw [cell_of_row _ _ 3 _ _ (0, 0) g1]; rfl
  have f73 := frozen_of_row (W6.setCell ⟨p, 0, none⟩ (.slice (some ⟨w4.heap.size + 1, 0, none⟩) (rs.length + 1) c6)) p 3 _ _ g1
  have hS8 : Sole [p] w ((W6.setCell ⟨p, 0, none⟩ (.slice (some ⟨w4.heap.size + 1, 0, none⟩) (rs.length + 1) c6)).setCell ⟨p, 3, none⟩ (.int .u64 nxt)) := ((Sole.of_below hB6 [p]).trans (Sole.setCell _ _ (by simp))).trans (Sole.setCell _ _ (by simp))
  have hz4 := hb4.size
  have hz4' : w.heap.size ≤ w4.heap.size := hB4.size
  have hpB : p ∉ W5.heap.size :: (B ++ B4) := fun q => by
    rcases List.mem_cons.1 q with e | e
    · omega
    · rcases List.mem_append.1 e with e | e
      · exact hap e
      · have := (rB p e).1
        have hd : w.drew.heap.size = w.heap.size := rfl
        omega
  have hR8 : RdR (W5.heap.size :: (B ++ B4)) ((W6.setCell ⟨p, 0, none⟩ (.slice (some ⟨w4.heap.size + 1, 0, none⟩) (rs.length + 1) c6)).setCell ⟨p, 3, none⟩ (.int .u64 nxt)) (.slice (some ⟨w4.heap.size + 1, 0, none⟩) (rs.length + 1) c6) (rs ++ [⟨nx, g⟩]) := by
    rw [hz5] at hR6
    rw [hz5]
    refine hR6.keep (by simp [World.setCell]) (fun k hk _ => ?_)
    have hne : k ≠ p := fun e => hpB (by rw [hz5]; exact e ▸ hk)
    rw [heap_setCell_other _ _ _ _ hne, heap_setCell_other _ _ _ _ hne]
  have HF : Hid (AppOut w p B ⟨rs, dn, cn, nx⟩ g nxt (.returned (.tuple #[])) ((W6.setCell ⟨p, 0, none⟩ (.slice (some ⟨w4.heap.size + 1, 0, none⟩) (rs.length + 1) c6)).setCell ⟨p, 3, none⟩ (.int .u64 nxt))) := by
    refine ⟨rfl, W5.heap.size :: (B ++ B4), ⟨⟨_, g2, hR8⟩, hpB⟩, hS8, fun k hk => ?_⟩
    have hd : w.drew.heap.size = w.heap.size := rfl
    have hsz : ((W6.setCell ⟨p, 0, none⟩ (.slice (some ⟨w4.heap.size + 1, 0, none⟩) (rs.length + 1) c6)).setCell ⟨p, 3, none⟩ (.int .u64 nxt)).heap.size = W6.heap.size := by simp [World.setCell]
    rcases List.mem_cons.1 hk with e | e
    · right; omega
    · rcases List.mem_append.1 e with e | e
      · exact .inl e
      · have := rB k e
        right; omega
  clear q0 q3 HR HRg HH hR5 hg5' hrun hR6 hR8 g1 g2 hvb rB r4 hpB
  go_wp2
  first
    | exact ⟨rfl, .tuple #[], by simp [results, Tryz.results24], HF.out⟩
    | (refine bodyPost_ret (v := .tuple #[]) ?_ rfl HF.out; simp [results, Tryz.results24])

set_option maxHeartbeats 8000000 in
theorem append_none {w : World} {p : Nat} {B B' : List Nat} {dn cn nx : Nat} (H : LgAt w p B ⟨[], dn, cn, nx⟩) (hc0 : w.cell? ⟨p, 0, none⟩ = some (.slice none 0 0)) (hk : LgOk ⟨[], dn, cn, nx⟩) (hBin : ∀ k ∈ B, k < w.heap.size) {ga : Option Addr} {gc : Nat} {g : List ByteArray} (hr : RdT B' w (.slice ga g.length gc) g) (hgl : g.length ≤ 1000000) (nxt : Nat) (hnxt : nxt ≤ 18446744073709551615) :
    Calls Tryz.prog 24 #[ptrW p, .slice ga g.length gc, .int .u64 nxt] w fun e w' => AppOut w p B ⟨[], dn, cn, nx⟩ g nxt e w' := by
  obtain ⟨a, cap1, c0, c1, c2, c3, hp, k1, k2, k3, hR, hfz⟩ := H.opened
  dsimp only at *
  rw [hc0] at c0
  simp only [Option.some.injEq, Value.slice.injEq, List.length_nil, true_and] at c0
  obtain ⟨rfl, rfl⟩ := c0
  have hm : ([] : List Rc).length ≤ 1000000 := Nat.zero_le _
  have q0 : ∀ W, Below w.heap.size w W → W.cell? ⟨p, 0, none⟩ = some (.slice none 0 0) := fun W hW => (hW.cell (p := ⟨p, 0, none⟩) hp).trans hc0
  have q3 : ∀ W, Below w.heap.size w W → W.cell? ⟨p, 3, none⟩ = some (.int .u64 nx) := fun W hW => (hW.cell (p := ⟨p, 3, none⟩) hp).trans c3
  have HR : Hid (RdR B w (.slice none 0 0) []) := hR
  have HRg : Hid (RdT B' w (.slice ga g.length gc) g) := hr
  have HH : Hid (LgAt w p B ⟨[], dn, cn, nx⟩) := H
  clear hR H hk c1 c2 c3 hc0 hr
  unfold ptrW
  go_enter Tryz.func24, Tryz.ntmps24
  go_wp2_with fail
  refine wp_region_noPanic ?_
  refine wp_region_sink 27 (S := fun W => Below w.heap.size w W) (by kernel_rfl) (by kernel_rfl) (Below.refl _ _).drew (fun hHeld => ?_)
  refine wpAnyH_take (i := 0) (v := .pointer (some ⟨p, 0, none⟩)) rfl (by kernel_rfl) (by kernel_rfl) (by kernel_rfl) (fun _ _ _ h => h) (Or.inl ⟨by rfl, fun W hSw => by (try dsimp only at hSw); go_simp⟩) (by assumption) ?_
  simp only [List.getElem_toArray, List.getElem_cons_zero, List.getElem_cons_succ, Act.put, List.setIfInBounds_toArray, List.set_cons_zero, List.set_cons_succ]
  refine wpAnyH_take (i := 1) (v := .pointer (some ⟨p, 0, none⟩)) rfl (by kernel_rfl) (by kernel_rfl) (by kernel_rfl) (fun _ _ _ h => h) (Or.inl ⟨by rfl, fun W hSw => by (try dsimp only at hSw); go_simp⟩) (by assumption) ?_
  simp only [List.getElem_toArray, List.getElem_cons_zero, List.getElem_cons_succ, Act.put, List.setIfInBounds_toArray, List.set_cons_zero, List.set_cons_succ]
  refine wpAnyH_take (i := 2) (v := .pointer (some ⟨p, 0, none⟩)) rfl (by kernel_rfl) (by kernel_rfl) (by kernel_rfl) (fun _ _ _ h => h) (Or.inl ⟨by rfl, fun W hSw => by (try dsimp only at hSw); go_simp⟩) (by assumption) ?_
  simp only [List.getElem_toArray, List.getElem_cons_zero, List.getElem_cons_succ, Act.put, List.setIfInBounds_toArray, List.set_cons_zero, List.set_cons_succ]
  refine wpAnyH_take (i := 3) (v := .pointer (some ⟨p, 0, none⟩)) rfl (by kernel_rfl) (by kernel_rfl) (by kernel_rfl) (fun _ _ _ h => h) (Or.inl ⟨by rfl, fun W hSw => by (try dsimp only at hSw); go_simp⟩) (by assumption) ?_
  simp only [List.getElem_toArray, List.getElem_cons_zero, List.getElem_cons_succ, Act.put, List.setIfInBounds_toArray, List.set_cons_zero, List.set_cons_succ]
  refine wpAnyH_take (i := 4) (v := .slice none 0 0) rfl (by kernel_rfl) (by kernel_rfl) (by kernel_rfl) (fun _ _ _ h => h) (Or.inl ⟨by rfl, fun W hSw => by (try dsimp only at hSw); go_simp⟩) (by assumption) ?_
  simp only [List.getElem_toArray, List.getElem_cons_zero, List.getElem_cons_succ, Act.put, List.setIfInBounds_toArray, List.set_cons_zero, List.set_cons_succ]
  refine wpAnyH_take (i := 5) (v := .pointer (some ⟨p, 0, none⟩)) rfl (by kernel_rfl) (by kernel_rfl) (by kernel_rfl) (fun _ _ _ h => h) (Or.inl ⟨by rfl, fun W hSw => by (try dsimp only at hSw); go_simp⟩) (by assumption) ?_
  simp only [List.getElem_toArray, List.getElem_cons_zero, List.getElem_cons_succ, Act.put, List.setIfInBounds_toArray, List.set_cons_zero, List.set_cons_succ]
  refine wpAnyH_take (i := 6) (v := .pointer (some ⟨p, 0, none⟩)) rfl (by kernel_rfl) (by kernel_rfl) (by kernel_rfl) (fun _ _ _ h => h) (Or.inl ⟨by rfl, fun W hSw => by (try dsimp only at hSw); go_simp⟩) (by assumption) ?_
  simp only [List.getElem_toArray, List.getElem_cons_zero, List.getElem_cons_succ, Act.put, List.setIfInBounds_toArray, List.set_cons_zero, List.set_cons_succ]
  refine wpAnyH_take (i := 7) (v := .pointer (some ⟨p, 0, none⟩)) rfl (by kernel_rfl) (by kernel_rfl) (by kernel_rfl) (fun _ _ _ h => h) (Or.inl ⟨by rfl, fun W hSw => by (try dsimp only at hSw); go_simp⟩) (by assumption) ?_
  simp only [List.getElem_toArray, List.getElem_cons_zero, List.getElem_cons_succ, Act.put, List.setIfInBounds_toArray, List.set_cons_zero, List.set_cons_succ]
  refine wpAnyH_take (i := 8) (v := .slice none 0 0) rfl (by kernel_rfl) (by kernel_rfl) (by kernel_rfl) (fun _ _ _ h => h) (Or.inl ⟨by rfl, fun W hSw => by (try dsimp only at hSw); go_simp⟩) (by assumption) ?_
  simp only [List.getElem_toArray, List.getElem_cons_zero, List.getElem_cons_succ, Act.put, List.setIfInBounds_toArray, List.set_cons_zero, List.set_cons_succ]
  refine wpAnyH_take (i := 9) (v := .int .i64 0) rfl (by kernel_rfl) (by kernel_rfl) (by kernel_rfl) (fun _ _ _ h => h) (Or.inl ⟨by rfl, fun W hSw => by (try dsimp only at hSw); go_simp⟩) (by assumption) ?_
  simp only [List.getElem_toArray, List.getElem_cons_zero, List.getElem_cons_succ, Act.put, List.setIfInBounds_toArray, List.set_cons_zero, List.set_cons_succ]
  refine wpAnyH_take (i := 10) (v := .pointer (some ⟨p, 0, none⟩)) rfl (by kernel_rfl) (by kernel_rfl) (by kernel_rfl) (fun _ _ _ h => h) (Or.inl ⟨by rfl, fun W hSw => by (try dsimp only at hSw); go_simp⟩) (by assumption) ?_
  simp only [List.getElem_toArray, List.getElem_cons_zero, List.getElem_cons_succ, Act.put, List.setIfInBounds_toArray, List.set_cons_zero, List.set_cons_succ]
  refine wpAnyH_take (i := 11) (v := .pointer (some ⟨p, 0, none⟩)) rfl (by kernel_rfl) (by kernel_rfl) (by kernel_rfl) (fun _ _ _ h => h) (Or.inl ⟨by rfl, fun W hSw => by (try dsimp only at hSw); go_simp⟩) (by assumption) ?_
  simp only [List.getElem_toArray, List.getElem_cons_zero, List.getElem_cons_succ, Act.put, List.setIfInBounds_toArray, List.set_cons_zero, List.set_cons_succ]
  refine wpAnyH_take (i := 12) (v := .pointer (some ⟨p, 0, none⟩)) rfl (by kernel_rfl) (by kernel_rfl) (by kernel_rfl) (fun _ _ _ h => h) (Or.inl ⟨by rfl, fun W hSw => by (try dsimp only at hSw); go_simp⟩) (by assumption) ?_
  simp only [List.getElem_toArray, List.getElem_cons_zero, List.getElem_cons_succ, Act.put, List.setIfInBounds_toArray, List.set_cons_zero, List.set_cons_succ]
  refine wpAnyH_take (i := 13) (v := .slice none 0 0) rfl (by kernel_rfl) (by kernel_rfl) (by kernel_rfl) (fun _ _ _ h => h) (Or.inl ⟨by rfl, fun W hSw => by (try dsimp only at hSw); go_simp⟩) (by assumption) ?_
  simp only [List.getElem_toArray, List.getElem_cons_zero, List.getElem_cons_succ, Act.put, List.setIfInBounds_toArray, List.set_cons_zero, List.set_cons_succ]
  refine wpAnyH_take (i := 14) (v := .int .i64 0) rfl (by kernel_rfl) (by kernel_rfl) (by kernel_rfl) (fun _ _ _ h => h) (Or.inl ⟨by rfl, fun W hSw => by (try dsimp only at hSw); go_simp⟩) (by assumption) ?_
  simp only [List.getElem_toArray, List.getElem_cons_zero, List.getElem_cons_succ, Act.put, List.setIfInBounds_toArray, List.set_cons_zero, List.set_cons_succ]
  refine wpAnyH_take (i := 15) (v := .slice none 0 0) rfl (by kernel_rfl) (by kernel_rfl) (by kernel_rfl) (fun _ _ _ h => h) (Or.inl ⟨by rfl, fun W hSw => by (try dsimp only at hSw); go_simp⟩) (by assumption) ?_
  simp only [List.getElem_toArray, List.getElem_cons_zero, List.getElem_cons_succ, Act.put, List.setIfInBounds_toArray, List.set_cons_zero, List.set_cons_succ]
  refine wpAnyH_take (i := 16) (v := .pointer (some ⟨p, 0, none⟩)) rfl (by kernel_rfl) (by kernel_rfl) (by kernel_rfl) (fun _ _ _ h => h) (Or.inl ⟨by rfl, fun W hSw => by (try dsimp only at hSw); go_simp⟩) (by assumption) ?_
  simp only [List.getElem_toArray, List.getElem_cons_zero, List.getElem_cons_succ, Act.put, List.setIfInBounds_toArray, List.set_cons_zero, List.set_cons_succ]
  refine wpAnyH_take (i := 17) (v := .pointer (some ⟨p, 0, none⟩)) rfl (by kernel_rfl) (by kernel_rfl) (by kernel_rfl) (fun _ _ _ h => h) (Or.inl ⟨by rfl, fun W hSw => by (try dsimp only at hSw); go_simp⟩) (by assumption) ?_
  simp only [List.getElem_toArray, List.getElem_cons_zero, List.getElem_cons_succ, Act.put, List.setIfInBounds_toArray, List.set_cons_zero, List.set_cons_succ]
  refine wpAnyH_take (i := 18) (v := .pointer (some ⟨p, 3, none⟩)) rfl (by kernel_rfl) (by kernel_rfl) (by kernel_rfl) (fun _ _ _ h => h) (Or.inl ⟨by rfl, fun W hSw => by (try dsimp only at hSw); go_simp⟩) (by assumption) ?_
  simp only [List.getElem_toArray, List.getElem_cons_zero, List.getElem_cons_succ, Act.put, List.setIfInBounds_toArray, List.set_cons_zero, List.set_cons_succ]
  refine wpAnyH_take (i := 19) (v := .int .u64 nx) rfl (by kernel_rfl) (by kernel_rfl) (by kernel_rfl) (fun _ _ _ h => h) (Or.inl ⟨by rfl, fun W hSw => by (try dsimp only at hSw); go_simp⟩) (by assumption) ?_
  simp only [List.getElem_toArray, List.getElem_cons_zero, List.getElem_cons_succ, Act.put, List.setIfInBounds_toArray, List.set_cons_zero, List.set_cons_succ]
  refine wpAnyH_take (i := 20) (v := .slice ga g.length gc) rfl (by kernel_rfl) (by kernel_rfl) (by kernel_rfl) (fun _ _ _ h => h) (Or.inl ⟨by rfl, fun W hSw => by (try dsimp only at hSw); go_simp⟩) (by assumption) ?_
  simp only [List.getElem_toArray, List.getElem_cons_zero, List.getElem_cons_succ, Act.put, List.setIfInBounds_toArray, List.set_cons_zero, List.set_cons_succ]
  refine wpAnyH_ready (rs := [21]) (by kernel_rfl) (by simp) ?_
  refine AllReadyH.cons rfl (fun K hK => ?_) AllReadyH.nil
  rw [if_pos (by rfl)]
  refine wp_copy_strs _ _ rfl rfl B' _ g rfl (HRg.out.below (Below.refl _ _).drew) hgl ?_
  intro av cv w4 B4 r4 rB hb4
  have hB4 : Below w.heap.size w w4 := (Below.refl w.heap.size w).drew.trans hb4
  refine hK.out _ _ hB4 (fun hHeld2 => ?_)
  clear hK K
  simp only [List.getElem_toArray, List.getElem_cons_zero, List.getElem_cons_succ, Act.put, List.setIfInBounds_toArray, List.set_cons_zero, List.set_cons_succ]
  refine wpAnyH_take (i := 22) (v := .agg #[.int .u64 nx, .slice av g.length cv]) rfl (by kernel_rfl) (by kernel_rfl) (by kernel_rfl) (fun _ _ _ h => h) (Or.inl ⟨by rfl, fun W hSw => by (try dsimp only at hSw); go_simp⟩) (by assumption) ?_
  simp only [List.getElem_toArray, List.getElem_cons_zero, List.getElem_cons_succ, Act.put, List.setIfInBounds_toArray, List.set_cons_zero, List.set_cons_succ]
  refine wpAnyH_ready (rs := [23]) (by kernel_rfl) (by simp) ?_
  refine AllReadyH.cons rfl (fun K hK => ?_) AllReadyH.nil
  go_simp
  go_wp2
  have hb5 : Below w4.heap.size w4 (w4.alloc (.cells #[.int .u64 nx, .slice av g.length cv] 62)) := (Below.refl _ w4).alloc (Nat.le_refl _) _
  have hg5 := heap_alloc_new w4 (.cells #[.int .u64 nx, .slice av g.length cv] 62)
  have hz5 : (w4.alloc (.cells #[.int .u64 nx, .slice av g.length cv] 62)).heap.size = w4.heap.size + 1 := by simp
  have hB5 := hB4.trans (hb5.mono hB4.size)
  refine hK.out _ _ hB5 (fun hHeld3 => ?_)
  clear hK K
  generalize w4.alloc (.cells #[.int .u64 nx, .slice av g.length cv] 62) = W5 at *
  have hR5 : RdR (B ++ B4) W5 (.slice none 0 0) [] := ((HR.out.below hB5).cut).mono (fun k hk => List.mem_append_left _ hk)
  have hg5' : RdT (B ++ B4) W5 (.slice av g.length cv) g := (r4.below hb5).mono (fun k hk => List.mem_append_right _ hk)
  refine wpAnyH_ready (rs := [24]) (by kernel_rfl) (by simp) ?_
  refine AllReadyH.cons rfl (fun K hK => ?_) AllReadyH.nil
  rw [if_pos (by rfl)]
  obtain ⟨c6, W6, hrun, hR6, hb6, hz6⟩ := run_append_rec W5 (B ++ B4) none [] hR5 hm w4.heap.size nx (.slice av g.length cv) g hg5 hg5' 39
  simp only [List.length_nil, Nat.zero_add, List.nil_append] at hrun hR6
  refine wp_of_append _ _ 39 rfl _ _ rfl rfl hrun ?_
  have hB6 := hB5.trans (hb6.mono hB5.size)
  refine hK.out _ _ hB6 (fun hHeld4 => ?_)
  clear hK K
  simp only [List.getElem_toArray, List.getElem_cons_zero, List.getElem_cons_succ, Act.put, List.setIfInBounds_toArray, List.set_cons_zero, List.set_cons_succ]
  refine wpAnyH_take (i := 25) (v := .pointer (some ⟨p, 0, none⟩)) rfl (by kernel_rfl) (by kernel_rfl) (by kernel_rfl) (fun _ _ _ h => h) (Or.inl ⟨by rfl, fun W hSw => by (try dsimp only at hSw); go_simp⟩) (by assumption) ?_
  simp only [List.getElem_toArray, List.getElem_cons_zero, List.getElem_cons_succ, Act.put, List.setIfInBounds_toArray, List.set_cons_zero, List.set_cons_succ]
  refine wpAnyH_take (i := 26) (v := .pointer (some ⟨p, 0, none⟩)) rfl (by kernel_rfl) (by kernel_rfl) (by kernel_rfl) (fun _ _ _ h => h) (Or.inl ⟨by rfl, fun W hSw => by (try dsimp only at hSw); go_simp⟩) (by assumption) ?_
  simp only [List.getElem_toArray, List.getElem_cons_zero, List.getElem_cons_succ, Act.put, List.setIfInBounds_toArray, List.set_cons_zero, List.set_cons_succ]
  have hbp : W6.heap[p]? = w.heap[p]? := hB6.block p hp
  have f60 : W6.frozen? ⟨p, 0, none⟩ = false := by
    obtain ⟨v, hv, _⟩ := HH.out.body
    exact frozen_of_row W6 p 0 _ _ (hbp.trans hv)
  have x60 := q0 W6 hB6
  refine wpAnyH_done (by kernel_rfl) ?_ _
  refine Behind.run (by rfl) ?_
  go_simp
  go_wp2
  refine NoPanic.normal ?_
  obtain ⟨vb, hvb, _⟩ := HH.out.body
  have hap := HH.out.apart
  have g1 := heap_setCell_same W6 p 0 _ _ (.slice (some ⟨w4.heap.size + 1, 0, none⟩) 1 c6) (hbp.trans hvb)
  have g2 := heap_setCell_same _ p 3 _ _ (.int .u64 nxt) g1
  have x73 : (W6.setCell ⟨p, 0, none⟩ (.slice (some ⟨w4.heap.size + 1, 0, none⟩) 1 c6)).cell? ⟨p, 3, none⟩ = some (.int .u64 nx) := by rw [cell_of_row _ _ 3 _ _ (0, 0) g1]; rfl
  have f73 := frozen_of_row (W6.setCell ⟨p, 0, none⟩ (.slice (some ⟨w4.heap.size + 1, 0, none⟩) 1 c6)) p 3 _ _ g1
  have hS8 : Sole [p] w ((W6.setCell ⟨p, 0, none⟩ (.slice (some ⟨w4.heap.size + 1, 0, none⟩) 1 c6)).setCell ⟨p, 3, none⟩ (.int .u64 nxt)) := ((Sole.of_below hB6 [p]).trans (Sole.setCell _ _ (by simp))).trans (Sole.setCell _ _ (by simp))
  have hz4 := hb4.size
  have hz4' : w.heap.size ≤ w4.heap.size := hB4.size
  have hpB : p ∉ W5.heap.size :: (B ++ B4) := fun q => by
    rcases List.mem_cons.1 q with e | e
    · omega
    · rcases List.mem_append.1 e with e | e
      · exact hap e
      · have := (rB p e).1
        have hd : w.drew.heap.size = w.heap.size := rfl
        omega
  have hR8 : RdR (W5.heap.size :: (B ++ B4)) ((W6.setCell ⟨p, 0, none⟩ (.slice (some ⟨w4.heap.size + 1, 0, none⟩) 1 c6)).setCell ⟨p, 3, none⟩ (.int .u64 nxt)) (.slice (some ⟨w4.heap.size + 1, 0, none⟩) 1 c6) [⟨nx, g⟩] := by
    rw [hz5] at hR6
    rw [hz5]
    refine hR6.keep (by simp [World.setCell]) (fun k hk _ => ?_)
    have hne : k ≠ p := fun e => hpB (by rw [hz5]; exact e ▸ hk)
    rw [heap_setCell_other _ _ _ _ hne, heap_setCell_other _ _ _ _ hne]
  have HF : Hid (AppOut w p B ⟨[], dn, cn, nx⟩ g nxt (.returned (.tuple #[])) ((W6.setCell ⟨p, 0, none⟩ (.slice (some ⟨w4.heap.size + 1, 0, none⟩) 1 c6)).setCell ⟨p, 3, none⟩ (.int .u64 nxt))) := by
    refine ⟨rfl, W5.heap.size :: (B ++ B4), ⟨⟨_, g2, hR8⟩, hpB⟩, hS8, fun k hk => ?_⟩
    have hd : w.drew.heap.size = w.heap.size := rfl
    have hsz : ((W6.setCell ⟨p, 0, none⟩ (.slice (some ⟨w4.heap.size + 1, 0, none⟩) 1 c6)).setCell ⟨p, 3, none⟩ (.int .u64 nxt)).heap.size = W6.heap.size := by simp [World.setCell]
    rcases List.mem_cons.1 hk with e | e
    · right; omega
    · rcases List.mem_append.1 e with e | e
      · exact .inl e
      · have := rB k e
        right; omega
  clear q0 q3 HR HRg HH hR5 hg5' hrun hR6 hR8 g1 g2 hvb rB r4 hpB
  go_wp2
  first
    | exact ⟨rfl, .tuple #[], by simp [results, Tryz.results24], HF.out⟩
    | (refine bodyPost_ret (v := .tuple #[]) ?_ rfl HF.out; simp [results, Tryz.results24])

theorem append_any {w : World} {p : Nat} {B B' : List Nat} {s : Lg} (H : LgAt w p B s) (hk : LgOk s) (hBin : ∀ k ∈ B, k < w.heap.size) {v : Value} {g : List ByteArray} (hr : RdT B' w v g) (hgl : g.length ≤ 1000000) (nxt : Nat) (hnxt : nxt ≤ 18446744073709551615) :
    Calls Tryz.prog 24 #[ptrW p, v, .int .u64 nxt] w fun e w' => AppOut w p B s g nxt e w' := by
  obtain ⟨a, cap, c0, _, _, _, _, k1, _, k3, _, _⟩ := H.opened
  have hv := hr
  obtain ⟨ga, gc, rfl, _⟩ := hv
  obtain ⟨rs, dn, cn, nx⟩ := s
  dsimp only at *
  cases a with
  | some ad => exact append_some ad cap H c0 hk hBin hr hgl nxt hnxt
  | none =>
    obtain rfl := k3 rfl
    obtain rfl : rs = [] := List.eq_nil_of_length_eq_zero (by omega)
    exact append_none H c0 hk hBin hr hgl nxt hnxt

/-- 'append(v, u...)' of texts, v a row of the call's own. -/
theorem wpList_append_many {w : World} {ops : Array Oper} {rest : List Oper} {o : Oper} {a : Act} {Q : Exit → Act → World → Prop} (hgd : o.guard = none) (s x : Operand)
    (ho : o.op = .call { callee := .builtin .append, args := #[s, x], argTypes := #[42, 42] })
    (base : Nat) (v : Value) (l : List ByteArray) (hs : a.eval s = v) (hown : w.ownsRow base 9 1 v l.length (strC l)) (B : List Nat) (u : Value) (l' : List ByteArray) (hx : a.eval x = u) (hrd : RdT B w u l') (hlen : l.length + l'.length ≤ 8796093021952) (hbase : base ≤ w.heap.size)
    (h : ∀ v' w', w'.ownsRow base 9 1 v' (l ++ l').length (strC (l ++ l')) → w.grownBy w' v.ownBlock → wpList Tryz.prog ops Q rest (a.put o.dst v') w') : wpList Tryz.prog ops Q (o :: rest) a w := by
  obtain ⟨iI, hii, hi0, hi1, hi2⟩ := info_partsS
  obtain ⟨ad, cap, rfl, h1, h2, h3, h4⟩ := hrd
  cases ad with
  | none =>
    obtain rfl := h3 rfl
    have hl : l'.length = 0 := by omega
    obtain rfl : l' = [] := List.eq_nil_of_length_eq_zero hl
    exact wpList_append_own_none hgd s x 42 ho base 9 iI 1 Tryz.underlying42 hii _ _ _ hs hown hx (h _ w (by rw [List.append_nil]; exact hown) (World.grownBy.refl _ _))
  | some ad =>
    refine wpList_append_own w hgd s x 42 ho base 9 iI (.string ⟨#[]⟩) 1 16 Tryz.underlying42 hii hi0 hi1 hi2 rfl (by decide) _ _ _ hs hown ad l'.length cap (strC l') hx (by simp [strC]) ?_ (by intro u hu; obtain ⟨y, _, rfl⟩ := List.mem_map.1 hu; rfl) ?_ ?_ hbase ?_
    · intro j u hj
      unfold strC at hj
      rw [List.getElem?_map] at hj
      cases hy : l'[j]? with
      | none => rw [hy] at hj; cases hj
      | some y =>
        rw [hy] at hj
        simp only [Option.map_some, Option.some.injEq] at hj
        have hlt := (List.getElem?_eq_some_iff.1 hy).1
        obtain ⟨b, off, e, _, _, hcell⟩ := h4 (by omega)
        simp only [Option.some.injEq] at e
        subst e
        have hadd : (⟨b, off, none⟩ : Addr).add j = ⟨b, off + j, none⟩ := by unfold Addr.add; split <;> simp_all
        rw [hadd, hcell j y hy, hj]
    · unfold maxLen; omega
    · omega
    · intro v' w' ho' hg _
      refine h v' w' ?_ hg
      rw [List.length_append]
      unfold strC at *
      rw [List.map_append]
      exact ho'

set_option maxHeartbeats 2000000 in
theorem long_many {B : List Nat} {w : World} {v : Value} {l : List ByteArray} (hr : RdT B w v l) (hl : 255 < l.length) (hx : ∀ x ∈ l, x.size ≤ 140737488355328) :
    Calls Tryz.prog 22 #[v] w fun e w' => e = .returned (.bool true) ∧ w' = w := by
  obtain ⟨a, cap, rfl, h1, h2, _, h4⟩ := hr
  obtain ⟨b, off, rfl, hb, _, hc⟩ := h4 (by omega)
  unfold maxLen at h2
  have hlI : (255 : Int) < l.length := by omega
  clear h4
  go_enter Tryz.func22, Tryz.ntmps22
  go_wp2
  go_loop [3, 16] (fun x t => ∃ i : Nat, i ≤ l.length ∧ t = .int .i64 i ∧ x = .bool true) (fun _ t => l.length - (RowKit.intOf t).toNat)
  case atStart => exact ⟨0, Nat.zero_le _, rfl, rfl⟩
  case round =>
    obtain ⟨i, hi, rfl, rfl⟩ := hrel
    by_cases hil : i < l.length
    · have hiI : (i : Int) < l.length := by omega
      have xi := hc i _ (List.getElem?_eq_getElem hil)
      generalize l[i] = x at *
      clear hc
      go_wp2
      go_round
      case rel => exact ⟨i + 1, by omega, by go_num, rfl⟩
      case measure => simp [RowKit.intOf]; omega
    · have hiI : ¬ (i : Int) < l.length := by omega
      clear hc
      go_wp2
      go_ret
      exact ⟨rfl, rfl⟩

set_option maxHeartbeats 4000000 in
theorem group_at {w : World} {B : List Nat} (d n t : Int) (g : Value) (l : List ByteArray) (hr : RdT B w g l) (k : Nat) (hk : wrap64 (1 + (wrap64 (t.tmod 9 + 9)).tmod 9) = (k : Int)) (hk9 : k ≤ 9) :
    Calls Tryz.prog 23 #[.agg #[.int .i64 d, .int .i64 n, .int .i64 t, g]] w fun e w' => TextsOut w B (groupL l k) e w' := by
  have HK : Hid (wrap64 (1 + (wrap64 (t.tmod 9 + 9)).tmod 9) = (k : Int)) := hk
  clear hk
  have hr0 : Hid (RdT B w g l) := hr
  obtain ⟨a, cap, rfl, h1, h2, _, _⟩ := hr
  unfold maxLen at h2
  obtain ⟨W1, hW1⟩ : ∃ W1, w.alloc (.cells #[.int .i64 d, .int .i64 n, .int .i64 t, .slice a l.length cap] 44) = W1 := ⟨_, rfl⟩
  have hb1 : Below w.heap.size w W1 := by rw [← hW1]; exact (Below.refl _ w).alloc (Nat.le_refl _) _
  have hg1 : W1.heap[w.heap.size]? = some (.cells #[.int .i64 d, .int .i64 n, .int .i64 t, .slice a l.length cap] 44 (0, 0)) := by rw [← hW1]; exact heap_alloc_new w _
  have hl1 := (Array.getElem?_eq_some_iff.1 hg1).1
  have q2 : ∀ W, Below W1.heap.size W1 W → W.cell? ⟨w.heap.size, 2, none⟩ = some (.int .i64 t) ∧ W.cell? ⟨w.heap.size, 3, none⟩ = some (.slice a l.length cap) := fun W hW => by
    have e := (hW.block _ hl1).trans hg1
    exact ⟨by rw [cell_of_row _ _ 2 _ _ (0, 0) e]; rfl, by rw [cell_of_row _ _ 3 _ _ (0, 0) e]; rfl⟩
  obtain ⟨x2, x3⟩ := q2 W1 (Below.refl _ _)
  clear hg1
  unfold groupL
  by_cases hbig : 300 < l.length
  · have hbI : (300 : Int) < l.length := by omega
    rw [if_pos hbig]
    clear q2
    go_enter Tryz.func23, Tryz.ntmps23
    go_wp2_with fail
    go_ret
    exact ⟨_, B, rfl, (by first | exact hr0.out.below hb1 | (rw [hW1]; exact hr0.out.below hb1)), fun k hk => .inl hk, by first | exact hb1 | (rw [hW1]; exact hb1)⟩
  · have hbI : ¬ (300 : Int) < l.length := by omega
    rw [if_neg hbig]
    have hol := often_len l
    go_enter Tryz.func23, Tryz.ntmps23
    go_wp2_with fail
    (try rw [HK.out])
    (try rw [hW1])
    clear hW1
    go_loopw [3, 16] (fun v t wr => ∃ (i : Nat) (a' : Option Addr) (c' : Nat), i ≤ k ∧ t = .int .i64 i ∧ v = .slice a' (oftenL l i).length c' ∧ wr.ownsRow W1.heap.size 9 1 (.slice a' (oftenL l i).length c') (oftenL l i).length (strC (oftenL l i)) ∧ Below W1.heap.size W1 wr) (fun _ t _ => k - (RowKit.intOf t).toNat)
    case atStart => exact ⟨0, none, 0, Nat.zero_le _, rfl, rfl, World.ownsRow_nil _ _ _ _, Below.refl _ _⟩
    case round =>
      clear x2 x3
      obtain ⟨i, a', c', hi, rfl, rfl, hown, HB⟩ := hrel
      obtain ⟨wA, hA⟩ : ∃ wA, wA = wr := ⟨_, rfl⟩
      subst hA
      by_cases hil : i < k
      · have hiI : (i : Int) < k := by omega
        obtain ⟨x2, x3⟩ := q2 wA HB
        have hrA := hr0.out.below (hb1.trans (HB.mono hb1.size))
        have hoi := hol i
        have hle : (oftenL l i).length + l.length ≤ 1000000000 := by rw [hoi]; have := Nat.mul_le_mul hi (show l.length ≤ 300 by omega); omega
        have hnx : oftenL l (i + 1) = oftenL l i ++ l := rfl
        clear q2 hol hoi hr0
        generalize oftenL l i = U at *
        generalize hUL : U.length = L at *
        go_wp2_with (at_builtin; refine wpList_append_strs rfl _ _ rfl W1.heap.size _ U rfl (by rw [hUL]; exact hown) B _ l rfl hrA (by omega) HB.size ?_; intro v3 w3 ho3 hg3; obtain ⟨a3, c3, rfl⟩ := rowS_slice ho3)
        have hb3 : Below W1.heap.size W1 w3 := HB.grown hg3 HB.size (fun q hq => (World.ownsRow.lt hown q hq).1)
        rw [← hnx] at ho3
        clear hown hg3 hrA x2 x3
        go_wp2_with fail
        go_roundw
        case rel => exact ⟨i + 1, a3, c3, by omega, by go_num, by rw [hnx, List.length_append, hUL], ho3, hb3⟩
        case measure => simp [RowKit.intOf]; omega
      · obtain rfl : i = k := by omega
        have hiI : ¬ (i : Int) < i := by omega
        obtain ⟨r1, r2⟩ := rdT_own hown
        clear q2 hol
        have hbF := hb1.trans (HB.mono hb1.size)
        have hs1 := hb1.size
        generalize hU : oftenL l i = U at *
        go_wp2
        go_ret
        exact ⟨.slice a' U.length c', _, rfl, r1, fun k hk => .inr (by have := (r2 k hk).1; omega), hbF⟩

/-- How often a group's texts are taken. -/
def timesN (t : Int) : Nat := (wrap64 (1 + (wrap64 (t.tmod 9 + 9)).tmod 9)).toNat
theorem timesN_ok (t : Int) (ht0 : -9223372036854775808 ≤ t) (ht1 : t ≤ 9223372036854775807) : wrap64 (1 + (wrap64 (t.tmod 9 + 9)).tmod 9) = (timesN t : Int) ∧ timesN t ≤ 9 := by
  obtain ⟨k, hk, hk1, hk9⟩ := mod_nine t ht0 ht1
  unfold timesN
  rw [hk]
  exact ⟨by simp, by simpa using hk9⟩
theorem often_mem (l : List ByteArray) : ∀ (k : Nat) (x : ByteArray), x ∈ oftenL l k → x ∈ l
  | 0, x, h => by cases h
  | k + 1, x, h => by
    rcases List.mem_append.1 (show x ∈ oftenL l k ++ l from h) with h | h
    · exact often_mem l k x h
    · exact h
theorem groupL_mem {l : List ByteArray} {k : Nat} {x : ByteArray} (h : x ∈ groupL l k) : x ∈ l := by
  unfold groupL at h
  split at h
  · exact h
  · exact often_mem l k x h
theorem groupL_len {l : List ByteArray} {k : Nat} (hk : k ≤ 9) (hl : l.length ≤ 8796093021952) : (groupL l k).length ≤ 8796093021952 := by
  unfold groupL
  split
  · exact hl
  · rw [often_len]
    have := Nat.mul_le_mul hk (show l.length ≤ 300 by omega)
    omega
theorem RdT.trim {B : List Nat} {w : World} {v : Value} {l : List ByteArray} (h : RdT B w v l) : RdT (B.filter fun k => decide (k < w.heap.size)) w v l := by
  obtain ⟨a, cap, rfl, h1, h2, h3, h4⟩ := h
  refine ⟨a, cap, rfl, h1, h2, h3, fun hp => ?_⟩
  obtain ⟨b, off, rfl, hl, hb, hc⟩ := h4 hp
  exact ⟨b, off, rfl, hl, List.mem_filter.2 ⟨hb, by simpa using hl⟩, hc⟩

end Go.Proofs.YtckcdmkgmbicfaaGreat
