/- The contract of page.innerOf. -/
import Derived.Test.YthgdbjpefjjeaaaGreatQSmall
import Derived.RangeFuncBox
import Derived.Deep.RegionHeld3
namespace Go.Proofs.YthgdbjpefjjeaaaGreat
open Go.RowKit
set_option linter.unusedVariables false
set_option linter.unusedSimpArgs false
set_option maxRecDepth 4000

/-- A node whose rows are the call's own. -/
def NdOwn (w : World) (base : Nat) (v : Value) (n : Nd) : Prop :=
  ∃ p q r, v = .agg #[.bool n.leaf, p, q, r] ∧ w.ownsRow base 85 2 p n.pairs.length (n.pairs.flatMap kvE) ∧ w.ownsRow base 9 1 q n.keys.length (n.keys.flatMap strE) ∧ w.ownsRow base 35 1 r n.kids.length (n.kids.flatMap u32E)

theorem row_slice {w : World} {base e k : Nat} {v : Value} {n : Nat} {xs : List Value} (h : w.ownsRow base e k v n xs) : ∃ a c, v = .slice a n c := by
  rcases h.2 with ⟨rfl, rfl⟩ | ⟨g, cap, cur, rfl, _⟩
  · exact ⟨_, _, rfl⟩
  · exact ⟨_, _, rfl⟩

theorem NdOwn.at {w : World} {base : Nat} {v : Value} {n : Nd} (h : NdOwn w base v n) (hb : n.pairs.length ≤ 4398046511104) : NdAt w v n := by
  obtain ⟨p, q, r, rfl, hp, hq, hr⟩ := h
  obtain ⟨a1, c1, rfl⟩ := row_slice hp
  obtain ⟨a2, c2, rfl⟩ := row_slice hq
  obtain ⟨a3, c3, rfl⟩ := row_slice hr
  exact ⟨a1, c1, a2, c2, a3, c3, rfl, rdE_own (enc := kvE) (fun _ => rfl) hp, rdE_own (enc := strE) (fun _ => rfl) hq, rdE_own (enc := u32E) (fun _ => rfl) hr, trivial⟩

theorem row_below {w w' : World} {base e k : Nat} {v : Value} {n : Nat} {xs : List Value} (h : w.ownsRow base e k v n xs) (hb : Below w.heap.size w w') : w'.ownsRow base e k v n xs :=
  World.ownsRow.kept h (row := Option.none) ⟨hb.os, hb.tape, hb.output, hb.size, fun k hk _ => hb.block k hk⟩ (by cases hv : v.ownBlock <;> simp)

theorem row_mono {w : World} {base base' e k : Nat} {v : Value} {n : Nat} {xs : List Value} (h : w.ownsRow base e k v n xs) (hb : base' ≤ base) : w.ownsRow base' e k v n xs := by
  obtain ⟨h1, h2⟩ := h
  refine ⟨h1, ?_⟩
  rcases h2 with h2 | ⟨g, cap, cur, hv, hg, r⟩
  · exact .inl h2
  · exact .inr ⟨g, cap, cur, hv, Nat.le_trans hb hg, r⟩

theorem NdOwn.below {w w' : World} {base : Nat} {v : Value} {n : Nd} (h : NdOwn w base v n) (hb : Below w.heap.size w w') : NdOwn w' base v n := by
  obtain ⟨p, q, r, rfl, hp, hq, hr⟩ := h
  exact ⟨p, q, r, rfl, row_below hp hb, row_below hq hb, row_below hr hb⟩

theorem NdOwn.mono {w : World} {base base' : Nat} {v : Value} {n : Nd} (h : NdOwn w base v n) (hb : base' ≤ base) : NdOwn w base' v n := by
  obtain ⟨p, q, r, rfl, hp, hq, hr⟩ := h
  exact ⟨p, q, r, rfl, row_mono hp hb, row_mono hq hb, row_mono hr hb⟩

theorem NdOwn.zero (w : World) (base : Nat) : NdOwn w base (.agg #[.bool false, .slice none 0 0, .slice none 0 0, .slice none 0 0]) nd0 :=
  ⟨_, _, _, rfl, World.ownsRow_nil _ _ _ _, World.ownsRow_nil _ _ _ _, World.ownsRow_nil _ _ _ _⟩

/-- Rows of other types lie in other blocks. -/
theorem rows_apart {w : World} {b1 e1 k1 n1 b2 e2 k2 n2 : Nat} {v1 v2 : Value} {x1 x2 : List Value} (h1 : w.ownsRow b1 e1 k1 v1 n1 x1) (h2 : w.ownsRow b2 e2 k2 v2 n2 x2) (hne : e1 ≠ e2) : v1.ownBlock = none ∨ v1.ownBlock ≠ v2.ownBlock := by
  rcases h1.2 with ⟨rfl, _⟩ | ⟨g1, c1, cur1, rfl, _, hg1, _⟩
  · exact .inl rfl
  · rcases h2.2 with ⟨rfl, _⟩ | ⟨g2, c2, cur2, rfl, _, hg2, _⟩
    · exact .inr (by simp [Value.ownBlock])
    · refine .inr fun e => ?_
      obtain rfl : g1 = g2 := by simpa [Value.ownBlock] using e
      have := hg1.symm.trans hg2
      simp at this
      exact hne this.2

theorem setCell_grown (W : World) (B j : Nat) (v : Value) : W.grownBy (W.setCell ⟨B, j, none⟩ v) (some B) :=
  ⟨rfl, rfl, rfl, by simp [World.setCell], fun k _ hk => Below.heap_setCell _ _ _ k (fun e => hk (by rw [e]))⟩

theorem setCell_row {W : World} {B : Nat} {cs : Array Value} {t : TypeId} {fr : Nat × Nat} (h : W.heap[B]? = some (.cells cs t fr)) (j : Nat) (v : Value) : (W.setCell ⟨B, j, none⟩ v).heap[B]? = some (.cells (cs.setIfInBounds j v) t fr) := by
  show (W.heap.modify B _)[B]? = _
  rw [Array.getElem?_modify, if_pos rfl, h]
  rfl

theorem own_set {W : World} {base e k : Nat} {v : Value} {n : Nat} {xs : List Value} (h : W.ownsRow base e k v n xs) {B : Nat} (hB : B < base) (j : Nat) (u : Value) : (W.setCell ⟨B, j, none⟩ u).ownsRow base e k v n xs :=
  World.ownsRow.kept h (setCell_grown W B j u) (.inr (fun q => by have := (World.ownsRow.lt h B q).1; omega))

theorem new_one {W : World} {u : Value} {e : TypeId} {g : Nat} {fr : Nat × Nat} (h : W.heap[g]? = some (.cells #[u] e fr)) : ∀ j x, [u][j]? = some x → W.cell? ((⟨g, 0, none⟩ : Addr).add j) = some x := by
  intro j x hj
  have hadd : (⟨g, 0, none⟩ : Addr).add j = ⟨g, j, none⟩ := by unfold Addr.add; split <;> simp_all
  rw [hadd, cell_of_row _ _ j _ _ _ h, ← hj]
  exact List.getElem?_toArray

theorem grown_new_d (W : World) (o : Obj) : W.grownBy (W.drew.alloc o) none := by
  have h := World.grownBy_alloc W.drew o none
  exact ⟨h.os, h.tape, h.output, h.size, h.block⟩
theorem grown_d_new (W : World) (o : Obj) : W.grownBy (W.alloc o).drew none := by
  have h := World.grownBy_alloc W.drew o none
  exact ⟨h.os, h.tape, h.output, h.size, h.block⟩

def kidsL (xs : List Int) (i : Nat) : List Int := (List.range i).map fun j => (valB ((xs.drop (4 * j)).take 4) : Int)
def keysL (xs : List Int) (i : Nat) : List ByteArray := (List.range i).map fun j => strOfNums ((xs.drop (14 * j)).take 14)

theorem rdKids_eq (m : Nat) : ∀ xs : List Int, 4 * m ≤ xs.length → rdKids m xs = kidsL xs m := by
  induction m with
  | zero => intro xs _; rfl
  | succ m ih =>
    intro xs h
    unfold rdKids
    rw [if_neg (by omega), ih (xs.drop 4) (by rw [List.length_drop]; omega)]
    unfold kidsL
    rw [List.range_succ_eq_map, List.map_cons, List.map_map]
    congr 1
    apply List.map_congr_left
    intro j _
    rw [List.drop_drop]
    simp only [Function.comp]
    rw [show 4 + 4 * j = 4 * (j + 1) from by omega]

theorem rdKeys_eq (m : Nat) : ∀ xs : List Int, 14 * m ≤ xs.length → rdKeys m xs = keysL xs m := by
  induction m with
  | zero => intro xs _; rfl
  | succ m ih =>
    intro xs h
    unfold rdKeys
    rw [if_neg (by omega), ih (xs.drop 14) (by rw [List.length_drop]; omega)]
    unfold keysL
    rw [List.range_succ_eq_map, List.map_cons, List.map_map]
    congr 1
    apply List.map_congr_left
    intro j _
    rw [List.drop_drop]
    simp only [Function.comp]
    rw [show 14 + 14 * j = 14 * (j + 1) from by omega]

theorem kidsL_next (xs : List Int) (i : Nat) : kidsL xs (i + 1) = kidsL xs i ++ [(valB ((xs.drop (4 * i)).take 4) : Int)] := by simp [kidsL, List.range_succ]
theorem keysL_next (xs : List Int) (i : Nat) : keysL xs (i + 1) = keysL xs i ++ [strOfNums ((xs.drop (14 * i)).take 14)] := by simp [keysL, List.range_succ]
theorem kidsL_len (xs : List Int) (i : Nat) : (kidsL xs i).length = i := by simp [kidsL]
theorem keysL_len (xs : List Int) (i : Nat) : (keysL xs i).length = i := by simp [keysL]

theorem Tryz.infoU : (Tryz.prog.info? 35).map (fun i => (i.zero, i.size, i.bytes)) = some (some (.int .u32 0), 1, 4) := by kernel_rfl
theorem Tryz.infoS : (Tryz.prog.info? 9).map (fun i => (i.zero, i.size, i.bytes)) = some (some (.string ⟨#[]⟩), 1, 16) := by kernel_rfl

/-- A result that lies in a variable: a node's four cells. -/
theorem ret_node {fn : Func} {R : Ending → World → Prop} {a : Act} {w : World} {p : Tmp} (h : fn.results = #[.cell p 40]) (g : Nat) (v0 v1 v2 v3 : Value) {t : TypeId} {fr : Nat × Nat} (hp : a.tmps.getD p undef = .pointer (some ⟨g, 0, none⟩))
    (hg : w.heap[g]? = some (.cells #[v0, v1, v2, v3] t fr)) (hd : a.defers = []) (hR : R (.returned (.agg #[v0, v1, v2, v3])) w) : bodyPost Tryz.prog fn R .ret a w :=
  bodyPost_ret (results_cell_row h a.tmps w g t #[v0, v1, v2, v3] fr _ hp hg Tryz.underlying40 rfl (by kernel_rfl)) hd hR

theorem innerOf_no (w : World) (a : Option Addr) (n cap : Nat) (cnt : Int) (h : ¬ (2 ≤ cnt ∧ cnt ≤ 24)) :
    Calls Tryz.prog 94 #[.slice a n cap, .int .i64 cnt] w fun e w' => ∃ v, e = .returned v ∧ NdOwn w' w.heap.size v nd0 ∧ Below w.heap.size w w' := by
  have hw := fun W => within_any W cnt 2 24
  have e1 : (decide ((2 : Int) ≤ cnt) && decide (cnt ≤ 24)) = false := by simp; omega
  rw [e1] at hw
  clear e1 h
  go_enter Tryz.func94, Tryz.ntmps94
  go_wp2_with (go_at_call 100; refine (hw _).mono ?_; rintro e w' ⟨rfl, rfl⟩)
  exact ret_node rfl w.heap.size _ _ _ _ rfl (heap_alloc_new w _) rfl ⟨_, rfl, NdOwn.zero _ _, (Below.refl _ _).alloc (Nat.le_refl _) _⟩

set_option maxHeartbeats 16000000 in
theorem innerOf_yes (w : World) (b off cap cnt : Nat) (xs : List Int) (hr : Rd w (.slice (some ⟨b, off, none⟩) 506 cap) xs) (hy : Byt xs) (h2 : 2 ≤ cnt) (h24 : cnt ≤ 24) :
    Calls Tryz.prog 94 #[.slice (some ⟨b, off, none⟩) 506 cap, .int .i64 cnt] w fun e w' => ∃ v, e = .returned v ∧ NdOwn w' w.heap.size v ⟨false, [], keysL (xs.drop (4 * cnt)) (cnt - 1), kidsL xs cnt⟩ ∧ Below w.heap.size w w' := by
  have hw := fun W => within_any W cnt 2 24
  have e1 : (decide ((2 : Int) ≤ cnt) && decide ((cnt : Int) ≤ 24)) = true := by simp; omega
  rw [e1] at hw
  clear e1
  have hl := rd_length hr
  have hcap := hr.cap
  have hmax := hr.capMax
  unfold maxLen at hmax
  obtain ⟨KD, hKD⟩ : ∃ KD, kidsL xs = KD := ⟨_, rfl⟩
  obtain ⟨KY, hKY⟩ : ∃ KY, keysL (xs.drop (4 * cnt)) = KY := ⟨_, rfl⟩
  rw [hKD, hKY]
  obtain ⟨iU, hui, hu0, hu1, hu2⟩ := info_parts Tryz.infoU
  obtain ⟨iS, hsi, hs0, hs1, hs2⟩ := info_parts Tryz.infoS
  go_enter Tryz.func94, Tryz.ntmps94
  go_wp2_with (go_at_call 100; refine (hw _).mono ?_; rintro e w' ⟨rfl, rfl⟩)
  clear hw
  have hB0 : Below w.heap.size w ((w.alloc (.cells #[.bool false, .slice none 0 0, .slice none 0 0, .slice none 0 0] 40)).alloc (.cells #[.bool false, .slice none 0 0, .slice none 0 0, .slice none 0 0] 40)) := ((Below.refl _ w).alloc (Nat.le_refl _) _).alloc (by simp) _
  have hx0 := heap_alloc2_old w (.cells #[.bool false, .slice none 0 0, .slice none 0 0, .slice none 0 0] 40) (.cells #[.bool false, .slice none 0 0, .slice none 0 0, .slice none 0 0] 40)
  have hx1 := heap_alloc2_new w (.cells #[.bool false, .slice none 0 0, .slice none 0 0, .slice none 0 0] 40) (.cells #[.bool false, .slice none 0 0, .slice none 0 0, .slice none 0 0] 40)
  have hz0 : ((w.alloc (.cells #[.bool false, .slice none 0 0, .slice none 0 0, .slice none 0 0] 40)).alloc (.cells #[.bool false, .slice none 0 0, .slice none 0 0, .slice none 0 0] 40)).heap.size = w.heap.size + 2 := by simp
  generalize (w.alloc (.cells #[.bool false, .slice none 0 0, .slice none 0 0, .slice none 0 0] 40)).alloc (.cells #[.bool false, .slice none 0 0, .slice none 0 0, .slice none 0 0] 40) = W0 at *
  go_loopw [0, 12] (fun sl t wr => ∃ (i o m c : Nat) (kv : Value), i ≤ cnt ∧ t = .int .i64 i ∧ sl = .slice (some ⟨b, o, none⟩) m c ∧ m + 4 * i = 506 ∧ Rd w (.slice (some ⟨b, o, none⟩) m c) (xs.drop (4 * i)) ∧ wr.heap[w.heap.size + 1]? = some (.cells #[.bool false, .slice none 0 0, .slice none 0 0, kv] 40 (0, 0)) ∧ (∃ a c, kv = .slice a i c) ∧ wr.ownsRow (w.heap.size + 2) 35 1 kv i ((KD i).flatMap u32E) ∧ Below (w.heap.size + 1) W0 wr ∧ w.heap.size + 2 ≤ wr.heap.size) (fun _ t _ => cnt - (intOf t).toNat)
  case atStart => exact ⟨0, off, 506, cap, _, Nat.zero_le _, rfl, rfl, rfl, by rw [Nat.mul_zero, List.drop_zero]; exact hr, hx1, ⟨_, _, rfl⟩, by rw [← hKD]; exact World.ownsRow_nil _ _ _ _, Below.refl _ _, by omega⟩
  case round =>
    obtain ⟨i, o, m, c, kv, hi, rfl, rfl, hm, hrd, hbx, ⟨ka, kc, hkv⟩, hoU0, hb, hsz⟩ := hrel
    have hcm := hrd.cap
    have hcx := hrd.capMax
    unfold maxLen at hcx
    have hbw : Below w.heap.size w wr := hB0.trans (hb.mono (by omega))
    by_cases hlt : i < cnt
    · have hnum : Calls Tryz.prog 113 #[.slice (some ⟨b, o, none⟩) m c, .int .i64 4] wr.drew fun e w' => e = .returned (.int .u64 (valB ((xs.drop (4 * i)).take 4))) ∧ w' = wr.drew := number_ok wr.drew _ _ 4 (hrd.below hbw.drew) (hy.drop _) (by decide) (by decide) (by rw [rd_length hrd]; omega)
      obtain ⟨hv0, hv1⟩ := valB_byt4 (xs.drop (4 * i)) (hy.drop _)
      have HN : Hid (KD (i + 1) = KD i ++ [(valB ((xs.drop (4 * i)).take 4) : Int)]) := by unfold Hid; rw [← hKD]; exact kidsL_next xs i
      generalize (valB ((xs.drop (4 * i)).take 4) : Int) = V at *
      have hkc : wr.cell? ⟨w.heap.size + 1, 3, none⟩ = some kv := cell_of_row wr _ 3 _ _ (0, 0) hbx
      have hkc2 : ∀ o', (wr.alloc o').cell? ⟨w.heap.size + 1, 3, none⟩ = some kv := fun o' => (((Below.refl _ wr).alloc (Nat.le_refl _) o').cell (p := ⟨w.heap.size + 1, 3, none⟩) (by show w.heap.size + 1 < wr.heap.size; omega)).trans hkc
      have hmid := hrd.mid 4 (m - 4) (by omega) (by omega)
      have hmd : ((xs.drop (4 * i)).drop 4).take (m - 4) = xs.drop (4 * (i + 1)) := by
        rw [List.drop_drop, show 4 * i + 4 = 4 * (i + 1) from by omega]
        exact List.take_of_length_le (by rw [List.length_drop]; omega)
      rw [hmd] at hmid
      have hlt4 : wr.heap.size + 0 = wr.heap.size := rfl
      have hoU : ∀ W', Below wr.heap.size wr W' → W'.ownsRow (w.heap.size + 2) 35 1 kv i ((KD i).flatMap u32E) := fun W' h => row_below hoU0 h
      clear hmd hlt4 hrd hr hy hx0 hx1
      subst hkv
      go_wp2_with fail
      refine wp_region_noPanic ?_
      refine wp_region_held_drew (S := fun _ => True) (by kernel_rfl) trivial (fun hHeld => ?_)
      refine wpAnyH_take (i := 0) (v := .pointer (some ⟨w.heap.size + 1, 3, none⟩)) rfl (by kernel_rfl) (by kernel_rfl) (by kernel_rfl) (fun _ _ _ h => h) (Or.inl ⟨by rfl, fun W hSw => by (try dsimp only at hSw); go_simp⟩) trivial ?_
      simp only [List.getElem_toArray, List.getElem_cons_zero, List.getElem_cons_succ, Act.put, List.setIfInBounds_toArray, List.set_cons_zero, List.set_cons_succ]
      refine wpAnyH_take (i := 2) (v := .slice (some ⟨b, o, none⟩) m c) rfl (by kernel_rfl) (by kernel_rfl) (by kernel_rfl) (fun _ _ _ h => h) (Or.inl ⟨by rfl, fun W hSw => by (try dsimp only at hSw); go_simp⟩) trivial ?_
      simp only [List.getElem_toArray, List.getElem_cons_zero, List.getElem_cons_succ, Act.put, List.setIfInBounds_toArray, List.set_cons_zero, List.set_cons_succ]
      refine wpAnyH_ready (rs := [1, 3]) (by kernel_rfl) (by simp) ?_
      refine AllReadyH.cons rfl (fun K hK => ?_) (AllReadyH.cons rfl (fun K hK => ?_) AllReadyH.nil)
      · go_simp
        go_wp2
        refine hK.out _ _ trivial (fun _ => ?_)
        clear hK K
        refine wpAnyH_ready (rs := [3]) (by kernel_rfl) (by simp) ?_
        refine AllReadyH.cons rfl (fun K hK => ?_) AllReadyH.nil
        go_simp
        go_wp2_with (go_at_call 113; refine hnum.mono ?_; rintro e w' ⟨rfl, rfl⟩)
        refine hK.out _ _ trivial (fun _ => ?_)
        clear hK K
        refine wpAnyH_take (i := 4) (v := .int .u32 V) rfl (by kernel_rfl) (by kernel_rfl) (by kernel_rfl) (fun _ _ _ h => h) (Or.inl ⟨by rfl, fun W hSw => by (try dsimp only at hSw); (go_simp; rw [IntKind.wrap_u32]; omega)⟩) trivial ?_
        simp only [List.getElem_toArray, List.getElem_cons_zero, List.getElem_cons_succ, Act.put, List.setIfInBounds_toArray, List.set_cons_zero, List.set_cons_succ]
        refine wpAnyH_ready (rs := [5]) (by kernel_rfl) (by simp) ?_
        refine AllReadyH.cons rfl (fun K hK => ?_) AllReadyH.nil
        go_simp
        go_wp2
        refine hK.out _ _ trivial (fun _ => ?_)
        clear hK K
        refine wpAnyH_ready (rs := [6]) (by kernel_rfl) (by simp) ?_
        refine AllReadyH.cons rfl (fun K hK => ?_) AllReadyH.nil
        rw [if_pos (by rfl)]
        refine wp_append_own _ (.tmp 15) (.tmp 19) 36 rfl (w.heap.size + 2) 35 iU (.int .u32 0) 1 4 Tryz.underlying36 hui hu0 hu1 hu2 rfl (by decide) (.slice ka i kc) i ((KD i).flatMap u32E) rfl (hoU _ (by first | exact ((Below.refl _ _).drew.alloc (Nat.le_refl _) _) | exact ((Below.refl _ _).alloc (Nat.le_refl _) _).drew)) ⟨wr.heap.size, 0, none⟩ 1 1 [.int .u32 V] rfl rfl (new_one (by first | exact heap_alloc_new wr.drew _ | exact heap_alloc_new wr _)) (by simp [Value.oneCell']) (by unfold maxLen; omega) (by omega) (by simp; omega) ?_
        intro v6 w6 ho6 hg6 _
        obtain ⟨g6, cap6, rfl⟩ := ownsRow_succ ho6
        have hA6 : Below (w.heap.size + 2) wr w6 := ((by first | exact (Below.refl _ wr).drew.alloc (by simp; omega) _ | exact ((Below.refl _ wr).alloc (by omega) _).drew : Below (w.heap.size + 2) wr _)).grown hg6 (by simp; omega) (fun q hq => (World.ownsRow.lt hoU0 q hq).1)
        have hB6 : w6.heap[w.heap.size + 1]? = some (.cells #[.bool false, .slice none 0 0, .slice none 0 0, .slice ka i kc] 40 (0, 0)) := (hA6.block _ (by omega)).trans hbx
        have hcb6 : w6.cell? ⟨w.heap.size + 1, 3, none⟩ = some (.slice ka i kc) := cell_of_row w6 _ 3 _ _ (0, 0) hB6
        have hfb6 : w6.frozen? ⟨w.heap.size + 1, 3, none⟩ = false := by simp [World.frozen?, hB6]
        refine hK.out _ _ trivial (fun _ => ?_)
        clear hK K
        simp only [List.getElem_toArray, List.getElem_cons_zero, List.getElem_cons_succ, Act.put, List.setIfInBounds_toArray, List.set_cons_zero, List.set_cons_succ]
        refine wpAnyH_take (i := 7) (v := .pointer (some ⟨w.heap.size + 1, 3, none⟩)) rfl (by kernel_rfl) (by kernel_rfl) (by kernel_rfl) (fun _ _ _ h => h) (Or.inl ⟨by rfl, fun W hSw => by (try dsimp only at hSw); go_simp⟩) trivial ?_
        simp only [List.getElem_toArray, List.getElem_cons_zero, List.getElem_cons_succ, Act.put, List.setIfInBounds_toArray, List.set_cons_zero, List.set_cons_succ]
        refine wpAnyH_ready (rs := [8]) (by kernel_rfl) (by simp) ?_
        refine AllReadyH.cons rfl (fun K hK => ?_) AllReadyH.nil
        go_simp
        go_wp2
        refine hK.out _ _ trivial (fun _ => ?_)
        clear hK K
        refine wpAnyH_done (by kernel_rfl) ?_ _
        refine NoPanic.normal ?_
        have hB7 := setCell_row hB6 3 (.slice (some ⟨g6, 0, none⟩) (i + 1) cap6)
        have ho7 := World.ownsRow.kept ho6 (setCell_grown w6 (w.heap.size + 1) 3 (.slice (some ⟨g6, 0, none⟩) (i + 1) cap6)) (.inr (fun e => by have := (World.ownsRow.lt ho6 (w.heap.size + 1) e).1; omega))
        go_wp2
        go_roundw
        case rel => exact ⟨i + 1, o + 4, m - 4, c - 4, _, by omega, by go_num, rfl, by omega, hmid, hB7, ⟨_, _, rfl⟩, by rw [HN.out, List.flatMap_append]; exact ho7, (hb.trans (hA6.mono (by omega))).setCell (p := ⟨w.heap.size + 1, 3, none⟩) (Nat.le_refl _) _, by have := (setCell_grown w6 (w.heap.size + 1) 3 (.slice (some ⟨g6, 0, none⟩) (i + 1) cap6)).size; have := hA6.size; omega⟩
        case measure => simp [intOf]; omega
      · go_simp
        go_wp2_with (go_at_call 113; refine hnum.mono ?_; rintro e w' ⟨rfl, rfl⟩)
        refine hK.out _ _ trivial (fun _ => ?_)
        clear hK K
        refine wpAnyH_take (i := 4) (v := .int .u32 V) rfl (by kernel_rfl) (by kernel_rfl) (by kernel_rfl) (fun _ _ _ h => h) (Or.inl ⟨by rfl, fun W hSw => by (try dsimp only at hSw); (go_simp; rw [IntKind.wrap_u32]; omega)⟩) trivial ?_
        simp only [List.getElem_toArray, List.getElem_cons_zero, List.getElem_cons_succ, Act.put, List.setIfInBounds_toArray, List.set_cons_zero, List.set_cons_succ]
        refine wpAnyH_ready (rs := [1, 5]) (by kernel_rfl) (by simp) ?_
        refine AllReadyH.cons rfl (fun K hK => ?_) (AllReadyH.cons rfl (fun K hK => ?_) AllReadyH.nil)
        · go_simp
          go_wp2
          refine hK.out _ _ trivial (fun _ => ?_)
          clear hK K
          refine wpAnyH_ready (rs := [5]) (by kernel_rfl) (by simp) ?_
          refine AllReadyH.cons rfl (fun K hK => ?_) AllReadyH.nil
          go_simp
          go_wp2
          refine hK.out _ _ trivial (fun _ => ?_)
          clear hK K
          refine wpAnyH_ready (rs := [6]) (by kernel_rfl) (by simp) ?_
          refine AllReadyH.cons rfl (fun K hK => ?_) AllReadyH.nil
          rw [if_pos (by rfl)]
          refine wp_append_own _ (.tmp 15) (.tmp 19) 36 rfl (w.heap.size + 2) 35 iU (.int .u32 0) 1 4 Tryz.underlying36 hui hu0 hu1 hu2 rfl (by decide) (.slice ka i kc) i ((KD i).flatMap u32E) rfl (hoU _ (by first | exact ((Below.refl _ _).drew.alloc (Nat.le_refl _) _) | exact ((Below.refl _ _).alloc (Nat.le_refl _) _).drew)) ⟨wr.heap.size, 0, none⟩ 1 1 [.int .u32 V] rfl rfl (new_one (by first | exact heap_alloc_new wr.drew _ | exact heap_alloc_new wr _)) (by simp [Value.oneCell']) (by unfold maxLen; omega) (by omega) (by simp; omega) ?_
          intro v6 w6 ho6 hg6 _
          obtain ⟨g6, cap6, rfl⟩ := ownsRow_succ ho6
          have hA6 : Below (w.heap.size + 2) wr w6 := ((by first | exact (Below.refl _ wr).drew.alloc (by simp; omega) _ | exact ((Below.refl _ wr).alloc (by omega) _).drew : Below (w.heap.size + 2) wr _)).grown hg6 (by simp; omega) (fun q hq => (World.ownsRow.lt hoU0 q hq).1)
          have hB6 : w6.heap[w.heap.size + 1]? = some (.cells #[.bool false, .slice none 0 0, .slice none 0 0, .slice ka i kc] 40 (0, 0)) := (hA6.block _ (by omega)).trans hbx
          have hcb6 : w6.cell? ⟨w.heap.size + 1, 3, none⟩ = some (.slice ka i kc) := cell_of_row w6 _ 3 _ _ (0, 0) hB6
          have hfb6 : w6.frozen? ⟨w.heap.size + 1, 3, none⟩ = false := by simp [World.frozen?, hB6]
          refine hK.out _ _ trivial (fun _ => ?_)
          clear hK K
          simp only [List.getElem_toArray, List.getElem_cons_zero, List.getElem_cons_succ, Act.put, List.setIfInBounds_toArray, List.set_cons_zero, List.set_cons_succ]
          refine wpAnyH_take (i := 7) (v := .pointer (some ⟨w.heap.size + 1, 3, none⟩)) rfl (by kernel_rfl) (by kernel_rfl) (by kernel_rfl) (fun _ _ _ h => h) (Or.inl ⟨by rfl, fun W hSw => by (try dsimp only at hSw); go_simp⟩) trivial ?_
          simp only [List.getElem_toArray, List.getElem_cons_zero, List.getElem_cons_succ, Act.put, List.setIfInBounds_toArray, List.set_cons_zero, List.set_cons_succ]
          refine wpAnyH_ready (rs := [8]) (by kernel_rfl) (by simp) ?_
          refine AllReadyH.cons rfl (fun K hK => ?_) AllReadyH.nil
          go_simp
          go_wp2
          refine hK.out _ _ trivial (fun _ => ?_)
          clear hK K
          refine wpAnyH_done (by kernel_rfl) ?_ _
          refine NoPanic.normal ?_
          have hB7 := setCell_row hB6 3 (.slice (some ⟨g6, 0, none⟩) (i + 1) cap6)
          have ho7 := World.ownsRow.kept ho6 (setCell_grown w6 (w.heap.size + 1) 3 (.slice (some ⟨g6, 0, none⟩) (i + 1) cap6)) (.inr (fun e => by have := (World.ownsRow.lt ho6 (w.heap.size + 1) e).1; omega))
          go_wp2
          go_roundw
          case rel => exact ⟨i + 1, o + 4, m - 4, c - 4, _, by omega, by go_num, rfl, by omega, hmid, hB7, ⟨_, _, rfl⟩, by rw [HN.out, List.flatMap_append]; exact ho7, (hb.trans (hA6.mono (by omega))).setCell (p := ⟨w.heap.size + 1, 3, none⟩) (Nat.le_refl _) _, by have := (setCell_grown w6 (w.heap.size + 1) 3 (.slice (some ⟨g6, 0, none⟩) (i + 1) cap6)).size; have := hA6.size; omega⟩
          case measure => simp [intOf]; omega
        · go_simp
          go_wp2
          refine hK.out _ _ trivial (fun _ => ?_)
          clear hK K
          refine wpAnyH_ready (rs := [1]) (by kernel_rfl) (by simp) ?_
          refine AllReadyH.cons rfl (fun K hK => ?_) AllReadyH.nil
          go_simp
          go_wp2
          refine hK.out _ _ trivial (fun _ => ?_)
          clear hK K
          refine wpAnyH_ready (rs := [6]) (by kernel_rfl) (by simp) ?_
          refine AllReadyH.cons rfl (fun K hK => ?_) AllReadyH.nil
          rw [if_pos (by rfl)]
          refine wp_append_own _ (.tmp 15) (.tmp 19) 36 rfl (w.heap.size + 2) 35 iU (.int .u32 0) 1 4 Tryz.underlying36 hui hu0 hu1 hu2 rfl (by decide) (.slice ka i kc) i ((KD i).flatMap u32E) rfl (hoU _ (by first | exact ((Below.refl _ _).drew.alloc (Nat.le_refl _) _) | exact ((Below.refl _ _).alloc (Nat.le_refl _) _).drew)) ⟨wr.heap.size, 0, none⟩ 1 1 [.int .u32 V] rfl rfl (new_one (by first | exact heap_alloc_new wr.drew _ | exact heap_alloc_new wr _)) (by simp [Value.oneCell']) (by unfold maxLen; omega) (by omega) (by simp; omega) ?_
          intro v6 w6 ho6 hg6 _
          obtain ⟨g6, cap6, rfl⟩ := ownsRow_succ ho6
          have hA6 : Below (w.heap.size + 2) wr w6 := ((by first | exact (Below.refl _ wr).drew.alloc (by simp; omega) _ | exact ((Below.refl _ wr).alloc (by omega) _).drew : Below (w.heap.size + 2) wr _)).grown hg6 (by simp; omega) (fun q hq => (World.ownsRow.lt hoU0 q hq).1)
          have hB6 : w6.heap[w.heap.size + 1]? = some (.cells #[.bool false, .slice none 0 0, .slice none 0 0, .slice ka i kc] 40 (0, 0)) := (hA6.block _ (by omega)).trans hbx
          have hcb6 : w6.cell? ⟨w.heap.size + 1, 3, none⟩ = some (.slice ka i kc) := cell_of_row w6 _ 3 _ _ (0, 0) hB6
          have hfb6 : w6.frozen? ⟨w.heap.size + 1, 3, none⟩ = false := by simp [World.frozen?, hB6]
          refine hK.out _ _ trivial (fun _ => ?_)
          clear hK K
          simp only [List.getElem_toArray, List.getElem_cons_zero, List.getElem_cons_succ, Act.put, List.setIfInBounds_toArray, List.set_cons_zero, List.set_cons_succ]
          refine wpAnyH_take (i := 7) (v := .pointer (some ⟨w.heap.size + 1, 3, none⟩)) rfl (by kernel_rfl) (by kernel_rfl) (by kernel_rfl) (fun _ _ _ h => h) (Or.inl ⟨by rfl, fun W hSw => by (try dsimp only at hSw); go_simp⟩) trivial ?_
          simp only [List.getElem_toArray, List.getElem_cons_zero, List.getElem_cons_succ, Act.put, List.setIfInBounds_toArray, List.set_cons_zero, List.set_cons_succ]
          refine wpAnyH_ready (rs := [8]) (by kernel_rfl) (by simp) ?_
          refine AllReadyH.cons rfl (fun K hK => ?_) AllReadyH.nil
          go_simp
          go_wp2
          refine hK.out _ _ trivial (fun _ => ?_)
          clear hK K
          refine wpAnyH_done (by kernel_rfl) ?_ _
          refine NoPanic.normal ?_
          have hB7 := setCell_row hB6 3 (.slice (some ⟨g6, 0, none⟩) (i + 1) cap6)
          have ho7 := World.ownsRow.kept ho6 (setCell_grown w6 (w.heap.size + 1) 3 (.slice (some ⟨g6, 0, none⟩) (i + 1) cap6)) (.inr (fun e => by have := (World.ownsRow.lt ho6 (w.heap.size + 1) e).1; omega))
          go_wp2
          go_roundw
          case rel => exact ⟨i + 1, o + 4, m - 4, c - 4, _, by omega, by go_num, rfl, by omega, hmid, hB7, ⟨_, _, rfl⟩, by rw [HN.out, List.flatMap_append]; exact ho7, (hb.trans (hA6.mono (by omega))).setCell (p := ⟨w.heap.size + 1, 3, none⟩) (Nat.le_refl _) _, by have := (setCell_grown w6 (w.heap.size + 1) 3 (.slice (some ⟨g6, 0, none⟩) (i + 1) cap6)).size; have := hA6.size; omega⟩
          case measure => simp [intOf]; omega
    · obtain rfl : i = cnt := by omega
      have hkL : (KD i).length = i := by rw [← hKD]; exact kidsL_len xs i
      subst hkv
      have hkyL : ∀ j, (KY j).length = j := fun j => by rw [← hKY]; exact keysL_len _ j
      have hKYs : ∀ j, KY (j + 1) = KY j ++ [strOfNums ((xs.drop (4 * i + 14 * j)).take 14)] := fun j => by rw [← hKY, keysL_next, List.drop_drop]
      have hKY0 : KY 0 = [] := by rw [← hKY]; rfl
      have HX0 : Hid _ := hx0
      clear hx0 hx1 hr
      go_wp2
      go_loopw [0, 27] (fun sl t wr => ∃ (j o m c : Nat) (ksv kv : Value), j ≤ i - 1 ∧ t = .int .i64 j ∧ sl = .slice (some ⟨b, o, none⟩) m c ∧ m + 4 * i + 14 * j = 506 ∧ Rd w (.slice (some ⟨b, o, none⟩) m c) (xs.drop (4 * i + 14 * j)) ∧ wr.heap[w.heap.size + 1]? = some (.cells #[.bool false, .slice none 0 0, ksv, kv] 40 (0, 0)) ∧ (∃ a c, ksv = .slice a j c) ∧ (∃ a c, kv = .slice a i c) ∧ wr.ownsRow (w.heap.size + 2) 9 1 ksv j ((KY j).flatMap strE) ∧ wr.ownsRow (w.heap.size + 2) 35 1 kv i ((KD i).flatMap u32E) ∧ Below (w.heap.size + 1) W0 wr ∧ w.heap.size + 2 ≤ wr.heap.size) (fun _ t _ => i - 1 - (intOf t).toNat)
      case atStart => exact ⟨0, o, m, c, _, _, Nat.zero_le _, rfl, rfl, by omega, by rw [Nat.mul_zero, Nat.add_zero]; exact hrd, hbx, ⟨_, _, rfl⟩, ⟨_, _, rfl⟩, by rw [hKY0]; exact World.ownsRow_nil _ _ _ _, hoU0, hb, hsz⟩
      case round =>
        clear hoU0 hbx hrd hm hcm hcx hb hbw hsz
        obtain ⟨j, o, m, c, ksv, kv, hj, rfl, rfl, hm, hrd, hbx, ⟨sa, sc, hksv⟩, ⟨ka, kc, hkv⟩, hoS0, hoU0, hb, hsz⟩ := hrel
        have hcm := hrd.cap
        have hcx := hrd.capMax
        unfold maxLen at hcx
        have hbw : Below w.heap.size w wr := hB0.trans (hb.mono (by omega))
        by_cases hlt : j < i - 1
        · have hcut := (hrd.cut 14 (by omega)).below hbw.drew
          have hcv := hcut.conv
          have HN : Hid (KY (j + 1) = KY j ++ [strOfNums ((xs.drop (4 * i + 14 * j)).take 14)]) := hKYs j
          generalize strOfNums ((xs.drop (4 * i + 14 * j)).take 14) = SV at *
          have hkc : wr.cell? ⟨w.heap.size + 1, 2, none⟩ = some ksv := cell_of_row wr _ 2 _ _ (0, 0) hbx
          have hkc2 : ∀ o', (wr.alloc o').cell? ⟨w.heap.size + 1, 2, none⟩ = some ksv := fun o' => (((Below.refl _ wr).alloc (Nat.le_refl _) o').cell (p := ⟨w.heap.size + 1, 2, none⟩) (by show w.heap.size + 1 < wr.heap.size; omega)).trans hkc
          have hmid := hrd.mid 14 (m - 14) (by omega) (by omega)
          have hmd : ((xs.drop (4 * i + 14 * j)).drop 14).take (m - 14) = xs.drop (4 * i + 14 * (j + 1)) := by
            rw [List.drop_drop, show 4 * i + 14 * j + 14 = 4 * i + 14 * (j + 1) from by omega]
            exact List.take_of_length_le (by rw [List.length_drop]; omega)
          rw [hmd] at hmid
          have hoS : ∀ W', Below wr.heap.size wr W' → W'.ownsRow (w.heap.size + 2) 9 1 ksv j ((KY j).flatMap strE) := fun W' h => row_below hoS0 h
          have hap := rows_apart hoU0 hoS0 (by decide)
          have hji : (j : Int) < (i : Int) - 1 := by omega
          have g14 : ¬ (c : Int) < 14 := by omega
          have g14' : (14 : Int) ≤ c := by omega
          have g14n : ¬ c = 14 := by omega
          clear hmd hrd hy hcut hKYs
          subst hksv
          go_wp2_with fail
          refine wp_region_noPanic ?_
          refine wp_region_held_drew (S := fun _ => True) (by kernel_rfl) trivial (fun hHeld => ?_)
          refine wpAnyH_take (i := 0) (v := .pointer (some ⟨w.heap.size + 1, 2, none⟩)) rfl (by kernel_rfl) (by kernel_rfl) (by kernel_rfl) (fun _ _ _ h => h) (Or.inl ⟨by rfl, fun W hSw => by (try dsimp only at hSw); go_simp⟩) trivial ?_
          simp only [List.getElem_toArray, List.getElem_cons_zero, List.getElem_cons_succ, Act.put, List.setIfInBounds_toArray, List.set_cons_zero, List.set_cons_succ]
          refine wpAnyH_take (i := 2) (v := .slice (some ⟨b, o, none⟩) m c) rfl (by kernel_rfl) (by kernel_rfl) (by kernel_rfl) (fun _ _ _ h => h) (Or.inl ⟨by rfl, fun W hSw => by (try dsimp only at hSw); go_simp⟩) trivial ?_
          simp only [List.getElem_toArray, List.getElem_cons_zero, List.getElem_cons_succ, Act.put, List.setIfInBounds_toArray, List.set_cons_zero, List.set_cons_succ]
          refine wpAnyH_take (i := 3) (v := .slice (some ⟨b, o, none⟩) 14 c) rfl (by kernel_rfl) (by kernel_rfl) (by kernel_rfl) (fun _ _ _ h => h) (Or.inl ⟨by rfl, fun W hSw => by (try dsimp only at hSw); go_simp⟩) trivial ?_
          simp only [List.getElem_toArray, List.getElem_cons_zero, List.getElem_cons_succ, Act.put, List.setIfInBounds_toArray, List.set_cons_zero, List.set_cons_succ]
          refine wpAnyH_ready (rs := [1, 4]) (by kernel_rfl) (by simp) ?_
          refine AllReadyH.cons rfl (fun K hK => ?_) (AllReadyH.cons rfl (fun K hK => ?_) AllReadyH.nil)
          · go_simp
            go_wp2
            refine hK.out _ _ trivial (fun _ => ?_)
            clear hK K
            refine wpAnyH_ready (rs := [4]) (by kernel_rfl) (by simp) ?_
            refine AllReadyH.cons rfl (fun K hK => ?_) AllReadyH.nil
            go_simp
            go_wp2
            refine hK.out _ _ trivial (fun _ => ?_)
            clear hK K
            refine wpAnyH_ready (rs := [5]) (by kernel_rfl) (by simp) ?_
            refine AllReadyH.cons rfl (fun K hK => ?_) AllReadyH.nil
            go_simp
            go_wp2
            refine hK.out _ _ trivial (fun _ => ?_)
            clear hK K
            refine wpAnyH_ready (rs := [6]) (by kernel_rfl) (by simp) ?_
            refine AllReadyH.cons rfl (fun K hK => ?_) AllReadyH.nil
            rw [if_pos (by rfl)]
            refine wp_append_own _ (.tmp 30) (.tmp 34) 38 rfl (w.heap.size + 2) 9 iS (.string ⟨#[]⟩) 1 16 Tryz.underlying38 hsi hs0 hs1 hs2 rfl (by decide) (.slice sa j sc) j ((KY j).flatMap strE) rfl (hoS _ (by first | exact ((Below.refl _ _).drew.alloc (Nat.le_refl _) _) | exact ((Below.refl _ _).alloc (Nat.le_refl _) _).drew)) ⟨wr.heap.size, 0, none⟩ 1 1 [.string SV] rfl rfl (new_one (by first | exact heap_alloc_new wr.drew _ | exact heap_alloc_new wr _)) (by simp [Value.oneCell']) (by unfold maxLen; omega) (by omega) (by simp; omega) ?_
            intro v6 w6 ho6 hg6 _
            obtain ⟨g6, cap6, rfl⟩ := ownsRow_succ ho6
            have hA6 : Below (w.heap.size + 2) wr w6 := ((by first | exact (Below.refl _ wr).drew.alloc (by simp; omega) _ | exact ((Below.refl _ wr).alloc (by omega) _).drew : Below (w.heap.size + 2) wr _)).grown hg6 (by simp; omega) (fun q hq => (World.ownsRow.lt hoS0 q hq).1)
            have hB6 : w6.heap[w.heap.size + 1]? = some (.cells #[.bool false, .slice none 0 0, .slice sa j sc, kv] 40 (0, 0)) := (hA6.block _ (by omega)).trans hbx
            have hcb6 : w6.cell? ⟨w.heap.size + 1, 2, none⟩ = some (.slice sa j sc) := cell_of_row w6 _ 2 _ _ (0, 0) hB6
            have hfb6 : w6.frozen? ⟨w.heap.size + 1, 2, none⟩ = false := by simp [World.frozen?, hB6]
            refine hK.out _ _ trivial (fun _ => ?_)
            clear hK K
            simp only [List.getElem_toArray, List.getElem_cons_zero, List.getElem_cons_succ, Act.put, List.setIfInBounds_toArray, List.set_cons_zero, List.set_cons_succ]
            refine wpAnyH_take (i := 7) (v := .pointer (some ⟨w.heap.size + 1, 2, none⟩)) rfl (by kernel_rfl) (by kernel_rfl) (by kernel_rfl) (fun _ _ _ h => h) (Or.inl ⟨by rfl, fun W hSw => by (try dsimp only at hSw); go_simp⟩) trivial ?_
            simp only [List.getElem_toArray, List.getElem_cons_zero, List.getElem_cons_succ, Act.put, List.setIfInBounds_toArray, List.set_cons_zero, List.set_cons_succ]
            refine wpAnyH_ready (rs := [8]) (by kernel_rfl) (by simp) ?_
            refine AllReadyH.cons rfl (fun K hK => ?_) AllReadyH.nil
            go_simp
            go_wp2
            refine hK.out _ _ trivial (fun _ => ?_)
            clear hK K
            refine wpAnyH_done (by kernel_rfl) ?_ _
            refine NoPanic.normal ?_
            have hB7 := setCell_row hB6 2 (.slice (some ⟨g6, 0, none⟩) (j + 1) cap6)
            have ho7 := World.ownsRow.kept ho6 (setCell_grown w6 (w.heap.size + 1) 2 (.slice (some ⟨g6, 0, none⟩) (j + 1) cap6)) (.inr (fun e => by have := (World.ownsRow.lt ho6 (w.heap.size + 1) e).1; omega))
            have hoU6 := World.ownsRow.kept (World.ownsRow.kept hoU0 (by first | exact grown_new_d wr _ | exact grown_d_new wr _) (by cases hq : kv.ownBlock <;> simp)) hg6 hap
            have hoU7 := World.ownsRow.kept hoU6 (setCell_grown w6 (w.heap.size + 1) 2 (.slice (some ⟨g6, 0, none⟩) (j + 1) cap6)) (.inr (fun e => by have := (World.ownsRow.lt hoU6 (w.heap.size + 1) e).1; omega))
            go_wp2
            go_roundw
            case rel => exact ⟨j + 1, o + 14, m - 14, c - 14, _, _, by omega, by go_num, rfl, by omega, hmid, hB7, ⟨_, _, rfl⟩, ⟨_, _, hkv⟩, by rw [HN.out, List.flatMap_append]; exact ho7, hoU7, (hb.trans (hA6.mono (by omega))).setCell (p := ⟨w.heap.size + 1, 2, none⟩) (Nat.le_refl _) _, by have := (setCell_grown w6 (w.heap.size + 1) 2 (.slice (some ⟨g6, 0, none⟩) (j + 1) cap6)).size; have := hA6.size; omega⟩
            case measure => simp [intOf]; omega
          · go_simp
            go_wp2
            refine hK.out _ _ trivial (fun _ => ?_)
            clear hK K
            refine wpAnyH_ready (rs := [1, 5]) (by kernel_rfl) (by simp) ?_
            refine AllReadyH.cons rfl (fun K hK => ?_) (AllReadyH.cons rfl (fun K hK => ?_) AllReadyH.nil)
            · go_simp
              go_wp2
              refine hK.out _ _ trivial (fun _ => ?_)
              clear hK K
              refine wpAnyH_ready (rs := [5]) (by kernel_rfl) (by simp) ?_
              refine AllReadyH.cons rfl (fun K hK => ?_) AllReadyH.nil
              go_simp
              go_wp2
              refine hK.out _ _ trivial (fun _ => ?_)
              clear hK K
              refine wpAnyH_ready (rs := [6]) (by kernel_rfl) (by simp) ?_
              refine AllReadyH.cons rfl (fun K hK => ?_) AllReadyH.nil
              rw [if_pos (by rfl)]
              refine wp_append_own _ (.tmp 30) (.tmp 34) 38 rfl (w.heap.size + 2) 9 iS (.string ⟨#[]⟩) 1 16 Tryz.underlying38 hsi hs0 hs1 hs2 rfl (by decide) (.slice sa j sc) j ((KY j).flatMap strE) rfl (hoS _ (by first | exact ((Below.refl _ _).drew.alloc (Nat.le_refl _) _) | exact ((Below.refl _ _).alloc (Nat.le_refl _) _).drew)) ⟨wr.heap.size, 0, none⟩ 1 1 [.string SV] rfl rfl (new_one (by first | exact heap_alloc_new wr.drew _ | exact heap_alloc_new wr _)) (by simp [Value.oneCell']) (by unfold maxLen; omega) (by omega) (by simp; omega) ?_
              intro v6 w6 ho6 hg6 _
              obtain ⟨g6, cap6, rfl⟩ := ownsRow_succ ho6
              have hA6 : Below (w.heap.size + 2) wr w6 := ((by first | exact (Below.refl _ wr).drew.alloc (by simp; omega) _ | exact ((Below.refl _ wr).alloc (by omega) _).drew : Below (w.heap.size + 2) wr _)).grown hg6 (by simp; omega) (fun q hq => (World.ownsRow.lt hoS0 q hq).1)
              have hB6 : w6.heap[w.heap.size + 1]? = some (.cells #[.bool false, .slice none 0 0, .slice sa j sc, kv] 40 (0, 0)) := (hA6.block _ (by omega)).trans hbx
              have hcb6 : w6.cell? ⟨w.heap.size + 1, 2, none⟩ = some (.slice sa j sc) := cell_of_row w6 _ 2 _ _ (0, 0) hB6
              have hfb6 : w6.frozen? ⟨w.heap.size + 1, 2, none⟩ = false := by simp [World.frozen?, hB6]
              refine hK.out _ _ trivial (fun _ => ?_)
              clear hK K
              simp only [List.getElem_toArray, List.getElem_cons_zero, List.getElem_cons_succ, Act.put, List.setIfInBounds_toArray, List.set_cons_zero, List.set_cons_succ]
              refine wpAnyH_take (i := 7) (v := .pointer (some ⟨w.heap.size + 1, 2, none⟩)) rfl (by kernel_rfl) (by kernel_rfl) (by kernel_rfl) (fun _ _ _ h => h) (Or.inl ⟨by rfl, fun W hSw => by (try dsimp only at hSw); go_simp⟩) trivial ?_
              simp only [List.getElem_toArray, List.getElem_cons_zero, List.getElem_cons_succ, Act.put, List.setIfInBounds_toArray, List.set_cons_zero, List.set_cons_succ]
              refine wpAnyH_ready (rs := [8]) (by kernel_rfl) (by simp) ?_
              refine AllReadyH.cons rfl (fun K hK => ?_) AllReadyH.nil
              go_simp
              go_wp2
              refine hK.out _ _ trivial (fun _ => ?_)
              clear hK K
              refine wpAnyH_done (by kernel_rfl) ?_ _
              refine NoPanic.normal ?_
              have hB7 := setCell_row hB6 2 (.slice (some ⟨g6, 0, none⟩) (j + 1) cap6)
              have ho7 := World.ownsRow.kept ho6 (setCell_grown w6 (w.heap.size + 1) 2 (.slice (some ⟨g6, 0, none⟩) (j + 1) cap6)) (.inr (fun e => by have := (World.ownsRow.lt ho6 (w.heap.size + 1) e).1; omega))
              have hoU6 := World.ownsRow.kept (World.ownsRow.kept hoU0 (by first | exact grown_new_d wr _ | exact grown_d_new wr _) (by cases hq : kv.ownBlock <;> simp)) hg6 hap
              have hoU7 := World.ownsRow.kept hoU6 (setCell_grown w6 (w.heap.size + 1) 2 (.slice (some ⟨g6, 0, none⟩) (j + 1) cap6)) (.inr (fun e => by have := (World.ownsRow.lt hoU6 (w.heap.size + 1) e).1; omega))
              go_wp2
              go_roundw
              case rel => exact ⟨j + 1, o + 14, m - 14, c - 14, _, _, by omega, by go_num, rfl, by omega, hmid, hB7, ⟨_, _, rfl⟩, ⟨_, _, hkv⟩, by rw [HN.out, List.flatMap_append]; exact ho7, hoU7, (hb.trans (hA6.mono (by omega))).setCell (p := ⟨w.heap.size + 1, 2, none⟩) (Nat.le_refl _) _, by have := (setCell_grown w6 (w.heap.size + 1) 2 (.slice (some ⟨g6, 0, none⟩) (j + 1) cap6)).size; have := hA6.size; omega⟩
              case measure => simp [intOf]; omega
            · go_simp
              go_wp2
              refine hK.out _ _ trivial (fun _ => ?_)
              clear hK K
              refine wpAnyH_ready (rs := [1]) (by kernel_rfl) (by simp) ?_
              refine AllReadyH.cons rfl (fun K hK => ?_) AllReadyH.nil
              go_simp
              go_wp2
              refine hK.out _ _ trivial (fun _ => ?_)
              clear hK K
              refine wpAnyH_ready (rs := [6]) (by kernel_rfl) (by simp) ?_
              refine AllReadyH.cons rfl (fun K hK => ?_) AllReadyH.nil
              rw [if_pos (by rfl)]
              refine wp_append_own _ (.tmp 30) (.tmp 34) 38 rfl (w.heap.size + 2) 9 iS (.string ⟨#[]⟩) 1 16 Tryz.underlying38 hsi hs0 hs1 hs2 rfl (by decide) (.slice sa j sc) j ((KY j).flatMap strE) rfl (hoS _ (by first | exact ((Below.refl _ _).drew.alloc (Nat.le_refl _) _) | exact ((Below.refl _ _).alloc (Nat.le_refl _) _).drew)) ⟨wr.heap.size, 0, none⟩ 1 1 [.string SV] rfl rfl (new_one (by first | exact heap_alloc_new wr.drew _ | exact heap_alloc_new wr _)) (by simp [Value.oneCell']) (by unfold maxLen; omega) (by omega) (by simp; omega) ?_
              intro v6 w6 ho6 hg6 _
              obtain ⟨g6, cap6, rfl⟩ := ownsRow_succ ho6
              have hA6 : Below (w.heap.size + 2) wr w6 := ((by first | exact (Below.refl _ wr).drew.alloc (by simp; omega) _ | exact ((Below.refl _ wr).alloc (by omega) _).drew : Below (w.heap.size + 2) wr _)).grown hg6 (by simp; omega) (fun q hq => (World.ownsRow.lt hoS0 q hq).1)
              have hB6 : w6.heap[w.heap.size + 1]? = some (.cells #[.bool false, .slice none 0 0, .slice sa j sc, kv] 40 (0, 0)) := (hA6.block _ (by omega)).trans hbx
              have hcb6 : w6.cell? ⟨w.heap.size + 1, 2, none⟩ = some (.slice sa j sc) := cell_of_row w6 _ 2 _ _ (0, 0) hB6
              have hfb6 : w6.frozen? ⟨w.heap.size + 1, 2, none⟩ = false := by simp [World.frozen?, hB6]
              refine hK.out _ _ trivial (fun _ => ?_)
              clear hK K
              simp only [List.getElem_toArray, List.getElem_cons_zero, List.getElem_cons_succ, Act.put, List.setIfInBounds_toArray, List.set_cons_zero, List.set_cons_succ]
              refine wpAnyH_take (i := 7) (v := .pointer (some ⟨w.heap.size + 1, 2, none⟩)) rfl (by kernel_rfl) (by kernel_rfl) (by kernel_rfl) (fun _ _ _ h => h) (Or.inl ⟨by rfl, fun W hSw => by (try dsimp only at hSw); go_simp⟩) trivial ?_
              simp only [List.getElem_toArray, List.getElem_cons_zero, List.getElem_cons_succ, Act.put, List.setIfInBounds_toArray, List.set_cons_zero, List.set_cons_succ]
              refine wpAnyH_ready (rs := [8]) (by kernel_rfl) (by simp) ?_
              refine AllReadyH.cons rfl (fun K hK => ?_) AllReadyH.nil
              go_simp
              go_wp2
              refine hK.out _ _ trivial (fun _ => ?_)
              clear hK K
              refine wpAnyH_done (by kernel_rfl) ?_ _
              refine NoPanic.normal ?_
              have hB7 := setCell_row hB6 2 (.slice (some ⟨g6, 0, none⟩) (j + 1) cap6)
              have ho7 := World.ownsRow.kept ho6 (setCell_grown w6 (w.heap.size + 1) 2 (.slice (some ⟨g6, 0, none⟩) (j + 1) cap6)) (.inr (fun e => by have := (World.ownsRow.lt ho6 (w.heap.size + 1) e).1; omega))
              have hoU6 := World.ownsRow.kept (World.ownsRow.kept hoU0 (by first | exact grown_new_d wr _ | exact grown_d_new wr _) (by cases hq : kv.ownBlock <;> simp)) hg6 hap
              have hoU7 := World.ownsRow.kept hoU6 (setCell_grown w6 (w.heap.size + 1) 2 (.slice (some ⟨g6, 0, none⟩) (j + 1) cap6)) (.inr (fun e => by have := (World.ownsRow.lt hoU6 (w.heap.size + 1) e).1; omega))
              go_wp2
              go_roundw
              case rel => exact ⟨j + 1, o + 14, m - 14, c - 14, _, _, by omega, by go_num, rfl, by omega, hmid, hB7, ⟨_, _, rfl⟩, ⟨_, _, hkv⟩, by rw [HN.out, List.flatMap_append]; exact ho7, hoU7, (hb.trans (hA6.mono (by omega))).setCell (p := ⟨w.heap.size + 1, 2, none⟩) (Nat.le_refl _) _, by have := (setCell_grown w6 (w.heap.size + 1) 2 (.slice (some ⟨g6, 0, none⟩) (j + 1) cap6)).size; have := hA6.size; omega⟩
              case measure => simp [intOf]; omega
        · obtain rfl : j = i - 1 := by omega
          have hji : ¬ ((i - 1 : Nat) : Int) < (i : Int) - 1 := by omega
          have hcn0 := cell_of_row wr _ 0 _ _ (0, 0) hbx
          have hcn1 := cell_of_row wr _ 1 _ _ (0, 0) hbx
          have hcn2 := cell_of_row wr _ 2 _ _ (0, 0) hbx
          have hcn3 := cell_of_row wr _ 3 _ _ (0, 0) hbx
          have hxr : wr.heap[w.heap.size]? = some (.cells #[.bool false, .slice none 0 0, .slice none 0 0, .slice none 0 0] 40 (0, 0)) := (hb.block _ (by omega)).trans HX0.out
          have hr0 := cell_of_row wr _ 0 _ _ (0, 0) hxr
          have hr1 := cell_of_row wr _ 1 _ _ (0, 0) hxr
          have hr2 := cell_of_row wr _ 2 _ _ (0, 0) hxr
          have hr3 := cell_of_row wr _ 3 _ _ (0, 0) hxr
          have hf0 : wr.frozen? ⟨w.heap.size, 0, none⟩ = false := by simp [World.frozen?, hxr]
          have hf1 : wr.frozen? ⟨w.heap.size, 1, none⟩ = false := by simp [World.frozen?, hxr]
          have hf2 : wr.frozen? ⟨w.heap.size, 2, none⟩ = false := by simp [World.frozen?, hxr]
          have hf3 : wr.frozen? ⟨w.heap.size, 3, none⟩ = false := by simp [World.frozen?, hxr]
          subst hksv hkv
          clear hrd hKYs
          go_wp2
          have hrow := setCell_row (setCell_row (setCell_row (setCell_row hxr 0 (.bool false)) 1 (.slice none 0 0)) 2 (.slice sa (i - 1) sc)) 3 (.slice ka i kc)
          have hoS7 := own_set (own_set (own_set (own_set hoS0 (B := w.heap.size) (by omega) 0 (.bool false)) (B := w.heap.size) (by omega) 1 (.slice none 0 0)) (B := w.heap.size) (by omega) 2 (.slice sa (i - 1) sc)) (B := w.heap.size) (by omega) 3 (.slice ka i kc)
          have hoU7 := own_set (own_set (own_set (own_set hoU0 (B := w.heap.size) (by omega) 0 (.bool false)) (B := w.heap.size) (by omega) 1 (.slice none 0 0)) (B := w.heap.size) (by omega) 2 (.slice sa (i - 1) sc)) (B := w.heap.size) (by omega) 3 (.slice ka i kc)
          have hbl := (((hbw.setCell (p := ⟨w.heap.size, 0, none⟩) (Nat.le_refl _) (.bool false)).setCell (p := ⟨w.heap.size, 1, none⟩) (Nat.le_refl _) (.slice none 0 0)).setCell (p := ⟨w.heap.size, 2, none⟩) (Nat.le_refl _) (.slice sa (i - 1) sc)).setCell (p := ⟨w.heap.size, 3, none⟩) (Nat.le_refl _) (.slice ka i kc)
          refine ret_node rfl w.heap.size _ _ _ _ rfl hrow rfl ⟨_, rfl, ⟨_, _, _, rfl, World.ownsRow_nil _ _ _ _, ?_, ?_⟩, hbl⟩
          · dsimp only
            rw [hkyL]
            exact row_mono hoS7 (by omega)
          · dsimp only
            rw [hkL]
            exact row_mono hoU7 (by omega)

end Go.Proofs.YthgdbjpefjjeaaaGreat
