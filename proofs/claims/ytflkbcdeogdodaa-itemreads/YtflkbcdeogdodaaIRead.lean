/- '[]byte(s)'; the contract of item.read. -/
import Derived.Test.YtflkbcdeogdodaaIGive
import Derived.Laws.IdiomStrings
import Derived.Deep.RegionHeld3
namespace Go.Proofs.Ytflkbcdeogdodaa
open Go.RowKit
set_option linter.unusedVariables false
set_option linter.unusedSimpArgs false

theorem strB_strOf {xs : List Int} (h : Byt xs) : strB (strOfNums xs) = xs := by
  unfold strB
  rw [strOfNums_data, List.map_map]
  conv => rhs; rw [← List.map_id xs]
  apply List.map_congr_left
  intro x hx
  obtain ⟨h0, h1⟩ := h x hx
  simp
  omega

theorem strOfNums_size (xs : List Int) : (strOfNums xs).size = xs.length := by
  have : (strOfNums xs).data.toList.length = xs.length := by rw [strOfNums_data]; simp
  rw [← this]
  rw [Array.length_toList]
  rfl

/-- '[]byte(s)'. -/
theorem conv_bytes (w : World) (s : ByteArray) (hs : s.size ≤ 1024) : ∃ v w', (convert 9 49 (.string s)).run Try.prog w = .ok v w' ∧ Rd w' v (strB s) ∧ Below w.heap.size w w' := by
  refine ⟨_, _, run_bytes_of_string w 9 49 5 s Try.underlying9 Try.underlying49 Try.underlying5, ?_, (Below.refl _ w).drew.alloc (Nat.le_refl _) _⟩
  have hge := grownCap_ge w s.size 0 5
  have hle := grownCap_le_maxLen w s.size 0 5 (by unfold maxLen; omega)
  have hl := strB_length s
  refine ⟨_, _, by rw [hl], by rw [hl]; exact hge, hle, (by intro e; cases e), fun hne => ⟨_, 0, rfl, by simp, fun i hi => ?_⟩⟩
  rw [hl] at hi
  have hh : (w.drew.alloc (Obj.cells (bytesRow s (grownCap w s.size 0 5)) 5 ((bytesRow s (grownCap w s.size 0 5)).size, (bytesRow s (grownCap w s.size 0 5)).size + 1))).heap[w.heap.size]? = some (Obj.cells (bytesRow s (grownCap w s.size 0 5)) 5 ((bytesRow s (grownCap w s.size 0 5)).size, (bytesRow s (grownCap w s.size 0 5)).size + 1)) := heap_alloc_new w.drew _
  rw [Nat.zero_add, cell_of_row _ _ i _ 5 _ hh]
  have hi' : i < s.data.size := hi
  unfold bytesRow
  rw [Array.getElem?_append_left (by simpa using hi'), Array.getElem?_map, Array.getElem?_eq_getElem hi', List.getD_eq_getElem?_getD]
  unfold strB
  rw [List.getElem?_map, Array.getElem?_toList, Array.getElem?_eq_getElem hi']
  rfl

/-- 'v[i:i+k]' of a slice that reads as xs. -/
theorem Rd.mid {w : World} {b off n cap : Nat} {xs : List Int} (h : Rd w (.slice (some ⟨b, off, none⟩) n cap) xs) (i k : Nat) (hk : i + k ≤ n) (hp : 0 < n) : Rd w (.slice (some ⟨b, off + i, none⟩) k (cap - i)) ((xs.drop i).take k) := by
  have hl := rd_length h
  obtain ⟨a, c, e, h1, h2, h3, h4⟩ := h
  have hc : c = cap := by simp only [Value.slice.injEq] at e; exact e.2.2.symm
  have ha : a = some ⟨b, off, none⟩ := by simp only [Value.slice.injEq] at e; exact e.1.symm
  subst hc ha
  have hdl : ((xs.drop i).take k).length = k := by simp; omega
  refine ⟨_, _, by rw [hdl], by rw [hdl]; omega, by omega, (by intro e; cases e), fun _ => ?_⟩
  obtain ⟨b', off', e', hlt, hc⟩ := h4 (by intro e; subst e; simp at hl; omega)
  simp only [Option.some.injEq, Addr.mk.injEq] at e'
  obtain ⟨rfl, rfl, _⟩ := e'
  refine ⟨_, _, rfl, hlt, fun j hj => ?_⟩
  rw [hdl] at hj
  have := hc (i + j) (by omega)
  rw [show off + i + j = off + (i + j) from by omega, this]
  simp [hj]

theorem Rd.cap {w : World} {a : Option Addr} {n cap : Nat} {xs : List Int} (h : Rd w (.slice a n cap) xs) : n ≤ cap := by
  have hl := rd_length h
  obtain ⟨a', c, e, h1, _⟩ := h
  simp only [Value.slice.injEq] at e
  omega

theorem Rd.opened {w : World} {v : Value} {xs : List Int} (h : Rd w v xs) (n : Nat) (hl : xs.length = n) (hp : 0 < n) : ∃ b off cap, v = .slice (some ⟨b, off, none⟩) n cap := by
  obtain ⟨a, c, e, h1, h2, h3, h4⟩ := h
  obtain ⟨b, off, rfl, _⟩ := h4 (by intro e; subst e; simp at hl; omega)
  exact ⟨b, off, c, by rw [e, hl]⟩

/-- The item that bytes tell (as many as the part's values have). -/
def rdI (p : Int) (xs : List Int) : It := if p = 1 then ⟨valB (xs.take 1), valB ((xs.drop 1).take 2), valB ((xs.drop 3).take 1), valB ((xs.drop 4).take 2), 0, zeroC⟩ else if p = 2 then ⟨0, 0, 0, 0, valB xs, zeroC⟩ else ⟨0, 0, 0, 0, 0, xs⟩

theorem rdI_1 (xs : List Int) : rdI 1 xs = ⟨valB (xs.take 1), valB ((xs.drop 1).take 2), valB ((xs.drop 3).take 1), valB ((xs.drop 4).take 2), 0, zeroC⟩ := rfl
theorem rdI_2 (xs : List Int) : rdI 2 xs = ⟨0, 0, 0, 0, valB xs, zeroC⟩ := rfl
theorem rdI_3 {p : Int} (h1 : p ≠ 1) (h2 : p ≠ 2) (xs : List Int) : rdI p xs = ⟨0, 0, 0, 0, 0, xs⟩ := by unfold rdI; rw [if_neg h1, if_neg h2]

theorem valB_small (xs : List Int) (h : Byt xs) (k : Nat) (hk : xs.length ≤ k) (h4 : k ≤ 4) : valB xs ≤ 4294967295 := by
  have h1 := valB_lt xs h
  have : (256 : Nat) ^ xs.length ≤ 256 ^ 4 := Nat.pow_le_pow_right (by decide) (by omega)
  have e : (256 : Nat) ^ 4 = 4294967296 := by decide
  omega

theorem rdI_ok (p : Int) (xs : List Int) (h : Byt xs) (hl : (xs.length : Int) = wid p) (hp : wid p ≠ 0) : ItOk (rdI p xs) := by
  have z : InoOk 0 0 0 0 := it0_ok.ino
  rcases wid_cases p with ⟨rfl, hw⟩ | ⟨rfl, hw⟩ | ⟨rfl, hw⟩ | ⟨h1, h2, h3, hw⟩
  · rw [hw] at hl
    have e1 := valB_small (xs.take 1) (h.take 1) 4 (by simp; omega) (by omega)
    have e2 := valB_small ((xs.drop 1).take 2) ((h.drop 1).take 2) 4 (by simp; omega) (by omega)
    have e3 := valB_small ((xs.drop 3).take 1) ((h.drop 3).take 1) 4 (by simp; omega) (by omega)
    have e4 := valB_small ((xs.drop 4).take 2) ((h.drop 4).take 2) 4 (by simp; omega) (by omega)
    exact ⟨⟨by rw [rdI_1]; dsimp only; omega, by rw [rdI_1]; dsimp only; omega, by rw [rdI_1]; dsimp only; omega, by rw [rdI_1]; dsimp only; omega, by rw [rdI_1]; dsimp only; omega, by rw [rdI_1]; dsimp only; omega, by rw [rdI_1]; dsimp only; omega, by rw [rdI_1]; dsimp only; omega⟩, by rw [rdI_1]; dsimp only; omega, by rw [rdI_1]; dsimp only; omega, ch_zero⟩
  · rw [hw] at hl
    have e1 := valB_small xs h 4 (by omega) (by omega)
    exact ⟨z, by rw [rdI_2]; dsimp only; omega, by rw [rdI_2]; dsimp only; omega, ch_zero⟩
  · rw [hw] at hl
    exact ⟨z, by rw [rdI_3 (by decide) (by decide)]; exact Int.le_refl 0, by rw [rdI_3 (by decide) (by decide)]; exact (by decide : (0 : Int) ≤ 4294967295), ⟨show xs.length = 32 by omega, h⟩⟩
  · exact absurd hw hp

set_option maxRecDepth 100000 in
set_option maxHeartbeats 4000000 in
theorem read_1 (w : World) (b off cap : Nat) (xs : List Int) (hr : Rd w (.slice (some ⟨b, off, none⟩) 6 cap) xs) (hy : Byt xs) :
    Calls Try.prog 22 #[.int .i64 1, .slice (some ⟨b, off, none⟩) 6 cap] w fun e w' => e = .returned (thV 1 (rdI 1 xs)) ∧ Below w.heap.size w w' := by
  have hl := rd_length hr
  have hcap := hr.cap
  have g1 : (1 : Int) ≤ cap := by omega
  have g1' : ¬ (cap : Int) < 1 := by omega
  have g3 : (3 : Int) ≤ cap := by omega
  have g4 : (4 : Int) ≤ cap := by omega
  have g6 : (6 : Int) ≤ cap := by omega
  have e1 : ¬ cap = 1 := by omega
  have e3 : ¬ cap = 3 := by omega
  have e4 : ¬ cap = 4 := by omega
  have r0 := hr.mid 0 1 (by omega) (by omega)
  have r1 := hr.mid 1 2 (by omega) (by omega)
  have r2 := hr.mid 3 1 (by omega) (by omega)
  have r3 := hr.mid 4 2 (by omega) (by omega)
  have y0 := hy.take 1
  have y1 := (hy.drop 1).take 2
  have y2 := (hy.drop 3).take 1
  have y3 := (hy.drop 4).take 2
  rw [List.drop_zero, Nat.add_zero, Nat.sub_zero] at r0
  have l0 : (xs.take 1).length = 1 := by simp; omega
  have l1 : ((xs.drop 1).take 2).length = 2 := by simp; omega
  have l2 : ((xs.drop 3).take 1).length = 1 := by simp; omega
  have l3 : ((xs.drop 4).take 2).length = 2 := by simp; omega
  have b0 := valB_small _ y0 4 (by omega) (by omega)
  have b1 := valB_small _ y1 4 (by omega) (by omega)
  have b2 := valB_small _ y2 4 (by omega) (by omega)
  have b3 := valB_small _ y3 4 (by omega) (by omega)
  have n0 : ∀ W, Below w.heap.size w W → Calls Try.prog 28 #[.slice (some ⟨b, off, none⟩) 1 cap] W fun e w' => e = .returned (.int .u64 (valB (xs.take 1))) ∧ W = w' := fun W hW => numberI_any W _ _ (r0.below hW) y0 (by omega) (by omega)
  have n1 : ∀ W, Below w.heap.size w W → Calls Try.prog 28 #[.slice (some ⟨b, off + 1, none⟩) 2 (cap - 1)] W fun e w' => e = .returned (.int .u64 (valB ((xs.drop 1).take 2))) ∧ W = w' := fun W hW => numberI_any W _ _ (r1.below hW) y1 (by omega) (by omega)
  have n2 : ∀ W, Below w.heap.size w W → Calls Try.prog 28 #[.slice (some ⟨b, off + 3, none⟩) 1 (cap - 3)] W fun e w' => e = .returned (.int .u64 (valB ((xs.drop 3).take 1))) ∧ W = w' := fun W hW => numberI_any W _ _ (r2.below hW) y2 (by omega) (by omega)
  have n3 : ∀ W, Below w.heap.size w W → Calls Try.prog 28 #[.slice (some ⟨b, off + 4, none⟩) 2 (cap - 4)] W fun e w' => e = .returned (.int .u64 (valB ((xs.drop 4).take 2))) ∧ W = w' := fun W hW => numberI_any W _ _ (r3.below hW) y3 (by omega) (by omega)
  rw [thV_1, rdI_1]
  dsimp only
  clear r0 r1 r2 r3 y0 y1 y2 y3 l0 l1 l2 l3 hr
  generalize valB (xs.take 1) = a0 at *
  generalize valB ((xs.drop 1).take 2) = a1 at *
  generalize valB ((xs.drop 3).take 1) = a2 at *
  generalize valB ((xs.drop 4).take 2) = a3 at *
  clear hy hl
  go_enter Try.func22, Try.ntmps22
  go_wp2_with fail
  refine wp_region_noPanic ?_
  refine wp_region_held_drew (S := fun W => Below w.heap.size w W) (by kernel_rfl) (Below.refl _ _).drew (fun hHeld => ?_)
  refine wpAnyH_take (i := 0) (v := .slice (some ⟨b, off, none⟩) 6 cap) rfl (by kernel_rfl) (by kernel_rfl) (by kernel_rfl) (fun _ _ _ h => h) (Or.inl ⟨by rfl, fun W hSw => by (try dsimp only at hSw); go_simp⟩) (by assumption) ?_
  simp only [List.getElem_toArray, List.getElem_cons_zero, List.getElem_cons_succ, Act.put, List.setIfInBounds_toArray, List.set_cons_zero, List.set_cons_succ]
  refine wpAnyH_take (i := 1) (v := .slice (some ⟨b, off, none⟩) 1 cap) rfl (by kernel_rfl) (by kernel_rfl) (by kernel_rfl) (fun _ _ _ h => h) (Or.inl ⟨by rfl, fun W hSw => by (try dsimp only at hSw); go_simp⟩) (by assumption) ?_
  simp only [List.getElem_toArray, List.getElem_cons_zero, List.getElem_cons_succ, Act.put, List.setIfInBounds_toArray, List.set_cons_zero, List.set_cons_succ]
  refine wpAnyH_take (i := 4) (v := .slice (some ⟨b, off, none⟩) 6 cap) rfl (by kernel_rfl) (by kernel_rfl) (by kernel_rfl) (fun _ _ _ h => h) (Or.inl ⟨by rfl, fun W hSw => by (try dsimp only at hSw); go_simp⟩) (by assumption) ?_
  simp only [List.getElem_toArray, List.getElem_cons_zero, List.getElem_cons_succ, Act.put, List.setIfInBounds_toArray, List.set_cons_zero, List.set_cons_succ]
  refine wpAnyH_take (i := 5) (v := .slice (some ⟨b, off + 1, none⟩) 2 (cap - 1)) rfl (by kernel_rfl) (by kernel_rfl) (by kernel_rfl) (fun _ _ _ h => h) (Or.inl ⟨by rfl, fun W hSw => by (try dsimp only at hSw); go_simp⟩) (by assumption) ?_
  simp only [List.getElem_toArray, List.getElem_cons_zero, List.getElem_cons_succ, Act.put, List.setIfInBounds_toArray, List.set_cons_zero, List.set_cons_succ]
  refine wpAnyH_take (i := 8) (v := .slice (some ⟨b, off, none⟩) 6 cap) rfl (by kernel_rfl) (by kernel_rfl) (by kernel_rfl) (fun _ _ _ h => h) (Or.inl ⟨by rfl, fun W hSw => by (try dsimp only at hSw); go_simp⟩) (by assumption) ?_
  simp only [List.getElem_toArray, List.getElem_cons_zero, List.getElem_cons_succ, Act.put, List.setIfInBounds_toArray, List.set_cons_zero, List.set_cons_succ]
  refine wpAnyH_take (i := 9) (v := .slice (some ⟨b, off + 3, none⟩) 1 (cap - 3)) rfl (by kernel_rfl) (by kernel_rfl) (by kernel_rfl) (fun _ _ _ h => h) (Or.inl ⟨by rfl, fun W hSw => by (try dsimp only at hSw); go_simp⟩) (by assumption) ?_
  simp only [List.getElem_toArray, List.getElem_cons_zero, List.getElem_cons_succ, Act.put, List.setIfInBounds_toArray, List.set_cons_zero, List.set_cons_succ]
  refine wpAnyH_take (i := 12) (v := .slice (some ⟨b, off, none⟩) 6 cap) rfl (by kernel_rfl) (by kernel_rfl) (by kernel_rfl) (fun _ _ _ h => h) (Or.inl ⟨by rfl, fun W hSw => by (try dsimp only at hSw); go_simp⟩) (by assumption) ?_
  simp only [List.getElem_toArray, List.getElem_cons_zero, List.getElem_cons_succ, Act.put, List.setIfInBounds_toArray, List.set_cons_zero, List.set_cons_succ]
  refine wpAnyH_take (i := 13) (v := .slice (some ⟨b, off + 4, none⟩) 2 (cap - 4)) rfl (by kernel_rfl) (by kernel_rfl) (by kernel_rfl) (fun _ _ _ h => h) (Or.inl ⟨by rfl, fun W hSw => by (try dsimp only at hSw); go_simp⟩) (by assumption) ?_
  simp only [List.getElem_toArray, List.getElem_cons_zero, List.getElem_cons_succ, Act.put, List.setIfInBounds_toArray, List.set_cons_zero, List.set_cons_succ]
  refine wpAnyH_ready (rs := [2]) (by kernel_rfl) (by simp) ?_
  refine AllReadyH.cons rfl (fun K hK => ?_) AllReadyH.nil
  go_simp
  go_wp2_with (go_at_call 28; refine (n0 _ (by assumption)).mono ?_; rintro e w' ⟨rfl, rfl⟩)
  refine hK.out _ _ (by assumption) (fun hHeld2 => ?_)
  clear hK K
  refine wpAnyH_take (i := 3) (v := .int .i64 a0) rfl (by kernel_rfl) (by kernel_rfl) (by kernel_rfl) (fun _ _ _ h => h) (Or.inl ⟨by rfl, fun W hSw => by (try dsimp only at hSw); (go_simp; rw [IntKind.wrap_i64]; omega)⟩) (by assumption) ?_
  simp only [List.getElem_toArray, List.getElem_cons_zero, List.getElem_cons_succ, Act.put, List.setIfInBounds_toArray, List.set_cons_zero, List.set_cons_succ]
  refine wpAnyH_ready (rs := [6]) (by kernel_rfl) (by simp) ?_
  refine AllReadyH.cons rfl (fun K hK => ?_) AllReadyH.nil
  go_simp
  go_wp2_with (go_at_call 28; refine (n1 _ (by assumption)).mono ?_; rintro e w' ⟨rfl, rfl⟩)
  refine hK.out _ _ (by assumption) (fun hHeld2 => ?_)
  clear hK K
  refine wpAnyH_take (i := 7) (v := .int .i64 a1) rfl (by kernel_rfl) (by kernel_rfl) (by kernel_rfl) (fun _ _ _ h => h) (Or.inl ⟨by rfl, fun W hSw => by (try dsimp only at hSw); (go_simp; rw [IntKind.wrap_i64]; omega)⟩) (by assumption) ?_
  simp only [List.getElem_toArray, List.getElem_cons_zero, List.getElem_cons_succ, Act.put, List.setIfInBounds_toArray, List.set_cons_zero, List.set_cons_succ]
  refine wpAnyH_ready (rs := [10]) (by kernel_rfl) (by simp) ?_
  refine AllReadyH.cons rfl (fun K hK => ?_) AllReadyH.nil
  go_simp
  go_wp2_with (go_at_call 28; refine (n2 _ (by assumption)).mono ?_; rintro e w' ⟨rfl, rfl⟩)
  refine hK.out _ _ (by assumption) (fun hHeld2 => ?_)
  clear hK K
  refine wpAnyH_take (i := 11) (v := .int .i64 a2) rfl (by kernel_rfl) (by kernel_rfl) (by kernel_rfl) (fun _ _ _ h => h) (Or.inl ⟨by rfl, fun W hSw => by (try dsimp only at hSw); (go_simp; rw [IntKind.wrap_i64]; omega)⟩) (by assumption) ?_
  simp only [List.getElem_toArray, List.getElem_cons_zero, List.getElem_cons_succ, Act.put, List.setIfInBounds_toArray, List.set_cons_zero, List.set_cons_succ]
  refine wpAnyH_ready (rs := [14]) (by kernel_rfl) (by simp) ?_
  refine AllReadyH.cons rfl (fun K hK => ?_) AllReadyH.nil
  go_simp
  go_wp2_with (go_at_call 28; refine (n3 _ (by assumption)).mono ?_; rintro e w' ⟨rfl, rfl⟩)
  refine hK.out _ _ (by assumption) (fun hHeld2 => ?_)
  clear hK K
  refine wpAnyH_take (i := 15) (v := .int .i64 a3) rfl (by kernel_rfl) (by kernel_rfl) (by kernel_rfl) (fun _ _ _ h => h) (Or.inl ⟨by rfl, fun W hSw => by (try dsimp only at hSw); (go_simp; rw [IntKind.wrap_i64]; omega)⟩) (by assumption) ?_
  simp only [List.getElem_toArray, List.getElem_cons_zero, List.getElem_cons_succ, Act.put, List.setIfInBounds_toArray, List.set_cons_zero, List.set_cons_succ]
  refine wpAnyH_take (i := 16) (v := .agg #[.int .i64 a0, .int .i64 a1, .int .i64 a2, .int .i64 a3]) rfl (by kernel_rfl) (by kernel_rfl) (by kernel_rfl) (fun _ _ _ h => h) (Or.inl ⟨by rfl, fun W hSw => by (try dsimp only at hSw); go_simp⟩) (by assumption) ?_
  simp only [List.getElem_toArray, List.getElem_cons_zero, List.getElem_cons_succ, Act.put, List.setIfInBounds_toArray, List.set_cons_zero, List.set_cons_succ]
  refine wpAnyH_take (i := 17) (v := .iface 55 (.agg #[.int .i64 a0, .int .i64 a1, .int .i64 a2, .int .i64 a3])) rfl (by kernel_rfl) (by kernel_rfl) (by kernel_rfl) (fun _ _ _ h => h) (Or.inl ⟨by rfl, fun W hSw => by (try dsimp only at hSw); go_simp⟩) (by assumption) ?_
  simp only [List.getElem_toArray, List.getElem_cons_zero, List.getElem_cons_succ, Act.put, List.setIfInBounds_toArray, List.set_cons_zero, List.set_cons_succ]
  refine wpAnyH_take (i := 18) (v := .iface 55 (.agg #[.int .i64 a0, .int .i64 a1, .int .i64 a2, .int .i64 a3])) rfl (by kernel_rfl) (by kernel_rfl) (by kernel_rfl) (fun _ _ _ h => h) (Or.inl ⟨by rfl, fun W hSw => by (try dsimp only at hSw); go_simp⟩) (by assumption) ?_
  simp only [List.getElem_toArray, List.getElem_cons_zero, List.getElem_cons_succ, Act.put, List.setIfInBounds_toArray, List.set_cons_zero, List.set_cons_succ]
  refine wpAnyH_done (by kernel_rfl) ?_ _
  refine NoPanic.normal ?_
  clear n0 n1 n2 n3
  go_wp2
  go_ret
  exact ⟨rfl, hHeld⟩

end Go.Proofs.Ytflkbcdeogdodaa
