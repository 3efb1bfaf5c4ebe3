/- The contracts of page.blockOf, innerBytes. -/
import Derived.Test.YthgdbjpefjjeaaaGreatQSmall
import Derived.Lib.AppendStr
namespace Go.Proofs.YthgdbjpefjjeaaaGreat
open Go.RowKit
set_option linter.unusedVariables false
set_option linter.unusedSimpArgs false
set_option maxRecDepth 4000

/-- 'append(b, s...)' of a string. -/
theorem wpList_append_str {w : World} {ops : Array Oper} {rest : List Oper} {o : Oper} {a : Act} {Q : Exit → Act → World → Prop} (hgd : o.guard = none) (s x : Operand)
    (ho : o.op = .call { callee := .builtin .append, args := #[s, x], argTypes := #[86, 9] }) (base : Nat)
    (v : Value) (xs : List Int) (hs : a.eval s = v) (hown : Own w base v xs) (t : ByteArray) (hx : a.eval x = .string t)
    (hlen : xs.length + t.size ≤ 140737488355328) (hbase : base ≤ w.heap.size)
    (h : ∀ v' w', Own w' base v' (xs ++ strB t) → w.grownBy w' v.ownBlock → wpList Tryz.prog ops Q rest (a.put o.dst v') w') : wpList Tryz.prog ops Q (o :: rest) a w := by
  obtain ⟨i, hi, hz0, hz1, hz2⟩ := info_parts Tryz.info5
  refine Lib.wpList_append_own_string _ hgd s x 86 9 ho base 5 i Tryz.underlying86 Tryz.underlying9 hi hz0 hz1 hz2 v xs.length (xs.map (Value.int .u8)) hs hown t hx ?_ ?_ hbase ?_
  · unfold maxLen; omega
  · omega
  · intro v' w1 hown1 hgr hnil
    refine h v' w1 ?_ hgr
    unfold Own
    rw [List.length_append, strB_length, List.map_append, ← strCells_eq]
    exact hown1

set_option maxHeartbeats 1000000 in
theorem blockOf_any (w : World) (v : Value) (xs : List Int) (h : Rd w v xs) (hy : Byt xs) (hl : xs.length ≤ 508) :
    Calls Tryz.prog 65 #[v] w fun e w' => ∃ u, e = .returned u ∧ Own w' w.heap.size u (sealed (padL xs)) ∧ Below w.heap.size w w' := by
  have hmk := make_bytes w 508 508 rfl (by decide)
  obtain ⟨M, hM⟩ : ∃ M : Array Value, (List.replicate 508 (Value.int .u8 0)).toArray = M := ⟨_, rfl⟩
  have hMl : M.toList = List.replicate 508 (Value.int .u8 0) := by rw [← hM]
  rw [hM] at hmk
  clear hM
  have hB1 : Below w.heap.size w (w.alloc (.cells M 5)) := (Below.refl _ w).alloc (Nat.le_refl _) _
  have hMs : M.size = 508 := by rw [← Array.length_toList, hMl, List.length_replicate]
  have hcp := copy_rd (w.alloc (.cells M 5)) w.heap.size 0 508 508 M 5 (heap_alloc_new w _) v xs (h.below hB1) hl (by omega)
  have hcs : (M.toList.take 0 ++ xs.map (Value.int .u8) ++ M.toList.drop (0 + xs.length)).toArray.toList = (padL xs).map (Value.int .u8) := by
    rw [hMl, List.drop_replicate, List.take_zero, List.nil_append, Nat.zero_add]
    unfold padL
    rw [List.map_append, List.map_replicate]
  rw [World.setRow_alloc_new] at hcp
  generalize (M.toList.take 0 ++ xs.map (Value.int .u8) ++ M.toList.drop (0 + xs.length)).toArray = M2 at hcp hcs
  have hpl : (padL xs).length = 508 := padL_length hl
  have hB2 : Below w.heap.size w (w.alloc (.cells M2 5)) := (Below.refl _ w).alloc (Nat.le_refl _) _
  have hr2 : Rd (w.alloc (.cells M2 5)) (.slice (some ⟨w.heap.size, 0, none⟩) 508 508) (padL xs) := (Own.laid hpl.symm (by decide) hcs).rd
  have hse := seal_any _ _ (padL xs) hr2 (padL_byt hy) (by omega)
  generalize hw1 : w.alloc (.cells M 5) = w1 at *
  generalize hw2 : w.alloc (.cells M2 5) = w2 at *
  clear hMl hMs hcs hpl hr2 hw1 hw2
  go_enter Tryz.func65, Tryz.ntmps65
  go_wp2_with (go_at_call 85; refine hse.mono ?_; rintro e w5 ⟨u, rfl, ho, hb5⟩)
  go_ret
  exact ⟨_, rfl, ho.mono hB2.size, hB2.trans (hb5.mono hB2.size)⟩

theorem flat_next {α : Type} (f : α → List Int) {l : List α} {k : Nat} {x : α} (h : l[k]? = some x) : (l.take (k + 1)).flatMap f = (l.take k).flatMap f ++ f x := by
  rw [take_next h, List.flatMap_append]; simp

theorem flat_kid_len (l : List Int) (k : Nat) (h : k ≤ l.length) : ((l.take k).flatMap kidL).length = 4 * k := by
  rw [flat_kids_length, List.length_take]; omega

set_option maxHeartbeats 4000000 in
theorem innerBytes_any (w : World) (v : Value) (n : Nd) (h : NdAt w v n) (hok : nodeOk n = true) (hlf : n.leaf = false) (hk : NdOk n) :
    Calls Tryz.prog 67 #[v] w fun e w' => ∃ u, e = .returned u ∧ Own w' w.heap.size u (rawL n) ∧ Below w.heap.size w w' := by
  obtain ⟨a1, c1, a2, c2, a3, c3, rfl, hP, hS, hU, hb⟩ := h
  obtain ⟨lf, ps, ks, cs⟩ := n
  obtain ⟨⟨hn2, hn24⟩, hn3, hri, hps⟩ := nodeOk_inner hok hlf
  have hk14 := rising_size hri
  unfold NdOk at hk
  dsimp only at *
  subst hlf hps
  have hraw : rawL ⟨false, [], ks, cs⟩ = 75 :: (cs.length : Int) :: (cs.flatMap kidL ++ ks.flatMap strB) := rfl
  rw [hraw]
  clear hraw
  obtain ⟨_, hcu, hmu, hIu⟩ := hU.open
  obtain ⟨_, hcs, hms, hIs⟩ := hS.open
  generalize hl3 : cs.length = n3 at *
  generalize hl2 : ks.length = n2 at *
  obtain ⟨R1, hR1⟩ : ∃ R1 : Nat → List Int, ∀ i, 75 :: (n3 : Int) :: (cs.take i).flatMap kidL = R1 i := ⟨_, fun _ => rfl⟩
  obtain ⟨R2, hR2⟩ : ∃ R2 : Nat → List Int, ∀ j, 75 :: (n3 : Int) :: (cs.flatMap kidL ++ (ks.take j).flatMap strB) = R2 j := ⟨_, fun _ => rfl⟩
  have hR10 : R1 0 = [75, (n3 : Int)] := by rw [← hR1]; rfl
  have hR1s : ∀ i x, cs[i]? = some x → R1 (i + 1) = R1 i ++ fixB x.toNat 4 := fun i x hx => by
    rw [← hR1, ← hR1, flat_next kidL hx]; rfl
  have hR1n : R1 n3 = R2 0 := by
    rw [← hR1, ← hR2, List.take_of_length_le (by omega)]; simp
  have hR2s : ∀ j s, ks[j]? = some s → R2 (j + 1) = R2 j ++ strB s := fun j s hs => by
    rw [← hR2, ← hR2, flat_next strB hs]; simp
  have hR2n : R2 n2 = 75 :: (n3 : Int) :: (cs.flatMap kidL ++ ks.flatMap strB) := by
    rw [← hR2, List.take_of_length_le (by omega)]
  have hL1 : ∀ i, (R1 i).length ≤ 1000 := fun i => by
    rw [← hR1, List.length_cons, List.length_cons, flat_kids_length, List.length_take]; omega
  have hL2 : ∀ j, (R2 j).length ≤ 1000 := fun j => by
    have e1 := flat_kids_length cs
    have e2 := flat_length strB (ks.take j) 14 fun k hk => by rw [strB_length, hk14 k (List.mem_of_mem_take hk)]; omega
    rw [List.length_take] at e2
    rw [← hR2, List.length_cons, List.length_cons, List.length_append]
    omega
  rw [← hR2n]
  clear hR1 hR2 hP hS hU hb hri hok
  have h24 : (n3 : Int) ≤ 24 := by omega
  have hB0 := (Below.refl w.heap.size w).alloc (Nat.le_refl _) (.cells #[.bool false, .slice a1 0 c1, .slice a2 n2 c2, .slice a3 n3 c3] 40)
  have hc0 : (w.alloc (.cells #[.bool false, .slice a1 0 c1, .slice a2 n2 c2, .slice a3 n3 c3] 40)).cell? ⟨w.heap.size, 2, none⟩ = some (.slice a2 n2 c2) := by simp
  have hz0 : (w.alloc (.cells #[.bool false, .slice a1 0 c1, .slice a2 n2 c2, .slice a3 n3 c3] 40)).heap.size = w.heap.size + 1 := by simp
  go_enter Tryz.func67, Tryz.ntmps67
  go_wp2
  have hO1 : Own ((w.alloc (.cells #[.bool false, .slice a1 0 c1, .slice a2 n2 c2, .slice a3 n3 c3] 40)).alloc (.cells #[.int .u8 75, .int .u8 n3] 5)) (w.heap.size + 1) (.slice (some ⟨w.heap.size + 1, 0, none⟩) 2 2) [75, (n3 : Int)] := by
    have := Own.laid (w := w.alloc (.cells #[.bool false, .slice a1 0 c1, .slice a2 n2 c2, .slice a3 n3 c3] 40)) (cs := #[.int .u8 75, .int .u8 n3]) (n := 2) (xs := [75, (n3 : Int)]) rfl (by decide) rfl
    rw [World.size_alloc] at this
    exact this
  have hB1 : Below (w.heap.size + 1) (w.alloc (.cells #[.bool false, .slice a1 0 c1, .slice a2 n2 c2, .slice a3 n3 c3] 40)) ((w.alloc (.cells #[.bool false, .slice a1 0 c1, .slice a2 n2 c2, .slice a3 n3 c3] 40)).alloc (.cells #[.int .u8 75, .int .u8 n3] 5)) := (Below.refl _ _).alloc (by simp) _
  rw [← hR10] at hO1
  generalize (w.alloc (.cells #[.bool false, .slice a1 0 c1, .slice a2 n2 c2, .slice a3 n3 c3] 40)).alloc (.cells #[.int .u8 75, .int .u8 n3] 5) = W1 at *
  generalize w.alloc (.cells #[.bool false, .slice a1 0 c1, .slice a2 n2 c2, .slice a3 n3 c3] 40) = W0 at *
  go_loopw [3, 5, 16] (fun v u t wr => ∃ i : Nat, i ≤ n3 ∧ t = .int .i64 i ∧ Own wr (w.heap.size + 1) v (R1 i) ∧ Below (w.heap.size + 1) W0 wr) (fun _ _ t _ => n3 - (intOf t).toNat)
  case atStart => exact ⟨0, Nat.zero_le _, rfl, hO1, hB1⟩
  case round =>
    obtain ⟨i, hi, rfl, ho, hb⟩ := hrel
    have hsz := hb.size
    rw [hz0] at hsz
    by_cases hlt : i < n3
    · obtain ⟨b, off, rfl, hbl, hcc⟩ := hIu (by omega)
      obtain ⟨x, hx⟩ := at_some hl3 hlt
      have hcx : wr.cell? ⟨b, off + i, none⟩ = some (.int .u32 x) := (hb.cell (p := ⟨b, off + i, none⟩) (by show b < _; omega)).trans ((hB0.cell (p := ⟨b, off + i, none⟩) hbl).trans (hcc i x hx))
      obtain ⟨hx0, hx1⟩ := hk x (List.mem_of_getElem? hx)
      have hfx := fixed_ok wr x 4 hx0 (by decide) (by decide) (by omega)
      have HR : Hid (R1 (i + 1) = R1 i ++ fixB x.toNat 4) := hR1s i x hx
      have HL : Hid ((R1 i).length ≤ 1000) := hL1 i
      have hfl := fixB_length x.toNat 4
      generalize fixB x.toNat 4 = F at *
      generalize R1 i = r at *
      clear hIu hIs hcc hR10 hR1s hR1n hR2s hR2n hL1 hL2 hk hk14 hO1 hB1
      go_wp2_with (first | (go_at_call 89; refine hfx.mono ?_; rintro e w5 ⟨u5, rfl, ho5, hb5⟩) | (at_builtin; refine wpList_append_rd rfl _ _ rfl (w.heap.size + 1) _ r rfl (ho.below hb5) _ F rfl ho5.rd (by have := HL.out; omega) (by have := hb5.size; omega) ?_; intro v6 w6 ho6 hg6))
      have hb6 : Below (w.heap.size + 1) W0 w6 := below_grown (hb.trans (hb5.mono hsz)) (by have := hb5.size; omega) (ho.below hb5) hg6
      go_wp2
      go_roundw
      case rel => exact ⟨i + 1, by omega, by go_num, by rw [HR.out]; exact ho6, hb6⟩
      case measure => simp [intOf]; omega
    · obtain rfl : i = n3 := by omega
      rw [hR1n] at ho
      have hcn : wr.cell? ⟨w.heap.size, 2, none⟩ = some (.slice a2 n2 c2) := (hb.cell (p := ⟨w.heap.size, 2, none⟩) (by show w.heap.size < _; omega)).trans hc0
      clear hIu hR10 hR1s hR1n hL1 hk hO1 hB1
      go_wp2
      go_loopw [3, 7, 29] (fun v u t wr => ∃ j : Nat, j ≤ n2 ∧ t = .int .i64 j ∧ Own wr (w.heap.size + 1) v (R2 j) ∧ Below (w.heap.size + 1) W0 wr) (fun _ _ t _ => n2 - (intOf t).toNat)
      case atStart => exact ⟨0, Nat.zero_le _, rfl, ho, hb⟩
      case round =>
        obtain ⟨j, hj, rfl, ho2, hb2⟩ := hrel
        have hsz2 := hb2.size
        rw [hz0] at hsz2
        by_cases hlt2 : j < n2
        · obtain ⟨b, off, rfl, hbl, hcc⟩ := hIs (by omega)
          obtain ⟨x, hx⟩ := at_some hl2 hlt2
          have hcx : wr.cell? ⟨b, off + j, none⟩ = some (.string x) := (hb2.cell (p := ⟨b, off + j, none⟩) (by show b < _; omega)).trans ((hB0.cell (p := ⟨b, off + j, none⟩) hbl).trans (hcc j x hx))
          have HR : Hid (R2 (j + 1) = R2 j ++ strB x) := hR2s j x hx
          have HL : Hid ((R2 j).length ≤ 1000) := hL2 j
          have hx14 := hk14 x (List.mem_of_getElem? hx)
          generalize R2 j = r at *
          clear hIs hcc hR2s hR2n hL2 hk14 ho hcn
          go_wp2_with (at_builtin; refine wpList_append_str rfl _ _ rfl (w.heap.size + 1) _ r rfl ho2 x rfl (by have := HL.out; omega) hsz2 ?_; intro v6 w6 ho6 hg6)
          have hb6 : Below (w.heap.size + 1) W0 w6 := below_grown hb2 hsz2 ho2 hg6
          go_wp2
          go_roundw
          case rel => exact ⟨j + 1, by omega, by go_num, by rw [HR.out]; exact ho6, hb6⟩
          case measure => simp [intOf]; omega
        · obtain rfl : j = n2 := by omega
          clear hIs hR2s hR2n hL2 hk14 ho hcn
          go_wp2
          go_ret
          exact ⟨_, rfl, ho2.mono (by omega), hB0.trans (hb2.mono (by omega))⟩

end Go.Proofs.YthgdbjpefjjeaaaGreat
