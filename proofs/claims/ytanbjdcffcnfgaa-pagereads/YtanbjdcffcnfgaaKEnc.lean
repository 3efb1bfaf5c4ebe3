/- The contract of the document's EncodeNode. -/
import Derived.Test.YtanbjdcffcnfgaaKCheck
import Derived.Test.YtanbjdcffcnfgaaKFix
import Derived.Test.YtanbjdcffcnfgaaRefText
import Derived.Test.YtanbjdcffcnfgaaQEncode
namespace Go.Proofs.Ytanbjdcffcnfgaa
open Go.RowKit
set_option linter.unusedVariables false
set_option linter.unusedSimpArgs false
set_option maxRecDepth 4000

theorem grown_own {w w' : World} {base base' : Nat} {u v : Value} {xs ys : List Int} (h : Own w base v xs) (hg : w.grownBy w' u.ownBlock) (hu : Own w base' u ys) (hlt : ∀ k, u.ownBlock = some k → k < base) : Own w' base v xs := by
  refine World.ownsRow.kept h hg ?_
  cases hv : v.ownBlock with
  | none => exact .inl rfl
  | some k =>
    refine .inr fun e => ?_
    have h1 := (World.ownsRow.lt h k hv).1
    have h2 := hlt k e.symm
    omega

set_option maxHeartbeats 4000000 in
theorem kenc_inner (w : World) (v : Value) (n : Nd) (h : NdAt w v n) (hok : nodeOk n = true) (hlf : n.leaf = false) (hk : NdOk n) (hbig : n.pairs.length ≤ 4398046511104) :
    Calls Try.prog 11 #[v] w fun e w' => ∃ u, e = .returned (.tuple #[u, .int .i64 0]) ∧ Own w' w.heap.size u (blockL n) ∧ Below w.heap.size w w' := by
  have h' := h
  obtain ⟨a1, c1, a2, c2, a3, c3, rfl, hP, hS, hU, hb⟩ := h
  have hE : nodeE n = 0 := by unfold nodeE; rw [hok]; rfl
  have hrl := rawL_le hok
  have hry := rawL_byt hok
  have hbl : sealed (padL (rawL n)) = blockL n := rfl
  rw [← hbl]
  clear hbl
  obtain ⟨lf, ps, ks, cs⟩ := n
  obtain ⟨⟨hn2, hn24⟩, hn3, hri, hps⟩ := nodeOk_inner hok hlf
  have hk14 := rising_size hri
  unfold NdOk at hk
  dsimp only at *
  subst hlf hps
  have hB0 := (Below.refl w.heap.size w).alloc (Nat.le_refl _) (.cells #[.bool false, .slice a1 ([] : List (ByteArray × ByteArray)).length c1, .slice a2 ks.length c2, .slice a3 cs.length c3] 26)
  have hg0 := heap_alloc_new w (.cells #[.bool false, .slice a1 ([] : List (ByteArray × ByteArray)).length c1, .slice a2 ks.length c2, .slice a3 cs.length c3] 26)
  have hck := kcheck_any _ _ _ (h'.below hB0) (by simp)
  rw [hE] at hck
  have hraw : rawL ⟨false, [], ks, cs⟩ = 75 :: (cs.length : Int) :: (cs.flatMap kidL ++ ks.flatMap strB) := rfl
  rw [hraw] at hrl hry ⊢
  clear hraw
  obtain ⟨_, hcu, hmu, hIu⟩ := RdU.open (RdE.below hU hB0)
  obtain ⟨_, hcs, hms, hIs⟩ := RdS.open (RdE.below hS hB0)
  rw [List.length_nil] at *
  generalize hl3 : cs.length = n3 at *
  generalize hl2 : ks.length = n2 at *
  obtain ⟨R1, hR1⟩ : ∃ R1 : Nat → List Int, ∀ i, 75 :: (n3 : Int) :: (cs.take i).flatMap kidL = R1 i := ⟨_, fun _ => rfl⟩
  obtain ⟨R2, hR2⟩ : ∃ R2 : Nat → List Int, ∀ j, 75 :: (n3 : Int) :: (cs.flatMap kidL ++ (ks.take j).flatMap strB) = R2 j := ⟨_, fun _ => rfl⟩
  have hR10 : R1 0 = [75, (n3 : Int)] := by rw [← hR1]; rfl
  have hR1s : ∀ i x, cs[i]? = some x → R1 (i + 1) = R1 i ++ fixB x.toNat 4 := fun i x hx => by
    rw [← hR1, ← hR1, flat_next kidL hx]; rfl
  have hR1n : R1 n3 = R2 0 := by
    rw [← hR1, ← hR2, List.take_of_length_le (by omega)]; simp
  have hR2s : ∀ j s, ks[j]? = some s → R2 (j + 1) = R2 j ++ strB s := fun j s hs => by
    rw [← hR2, ← hR2, flat_next strB hs]; simp
  have hR2n : R2 n2 = 75 :: (n3 : Int) :: (cs.flatMap kidL ++ ks.flatMap strB) := by
    rw [← hR2, List.take_of_length_le (by omega)]
  have hL1 : ∀ i, (R1 i).length ≤ 1000 := fun i => by
    rw [← hR1, List.length_cons, List.length_cons, flat_kids_length, List.length_take]; omega
  have hL2 : ∀ j, (R2 j).length ≤ 1000 := fun j => by
    have e1 := flat_kids_length cs
    have e2 := flat_length strB (ks.take j) 14 fun k hk => by rw [strB_length, hk14 k (List.mem_of_mem_take hk)]; omega
    rw [List.length_take] at e2
    rw [← hR2, List.length_cons, List.length_cons, List.length_append]
    omega
  rw [← hR2n] at hrl hry ⊢
  clear hR1 hR2 hP hS hU hb hri hok h' hE hR2n
  have h24 : (n3 : Int) ≤ 24 := by omega
  generalize hW0 : w.alloc (.cells #[.bool false, .slice a1 0 c1, .slice a2 n2 c2, .slice a3 n3 c3] 26) = W0 at *
  have zlt : w.heap.size < W0.heap.size := (Array.getElem?_eq_some_iff.1 hg0).1
  obtain ⟨X0, X1, X2, X3, _⟩ := box4' hg0
  clear hg0
  go_enter Try.func11, Try.ntmps11
  go_wp2_with fail
  refine hck.mono ?_
  clear hck hW0
  rintro e w1 ⟨rfl, hb1⟩
  have Y0 := (hb1.cell (p := ⟨w.heap.size, 0, none⟩) zlt).trans X0
  have Y2 := (hb1.cell (p := ⟨w.heap.size, 2, none⟩) zlt).trans X2
  have Y3 := (hb1.cell (p := ⟨w.heap.size, 3, none⟩) zlt).trans X3
  clear X0 X1 X2 X3
  have hs1 := hb1.size
  have hO1 : Own (w1.alloc (.cells #[.int .u8 75, .int .u8 n3] 5)) w1.heap.size (.slice (some ⟨w1.heap.size, 0, none⟩) 2 2) [75, (n3 : Int)] := Own.laid (w := w1) (cs := #[.int .u8 75, .int .u8 n3]) (n := 2) (xs := [75, (n3 : Int)]) rfl (by decide) rfl
  have hB1 : Below w1.heap.size w1 (w1.alloc (.cells #[.int .u8 75, .int .u8 n3] 5)) := (Below.refl _ _).alloc (Nat.le_refl _) _
  have Z3 := (hB1.cell (p := ⟨w.heap.size, 3, none⟩) (by show w.heap.size < _; omega)).trans Y3
  rw [← hR10] at hO1
  go_wp2
  clear Z3 Y3
  generalize w1.alloc (.cells #[.int .u8 75, .int .u8 n3] 5) = W1 at *
  go_loopw [10, 12, 58] (fun v u t wr => ∃ i : Nat, i ≤ n3 ∧ t = .int .i64 i ∧ Own wr w1.heap.size v (R1 i) ∧ Below w1.heap.size w1 wr) (fun _ _ t _ => n3 - (intOf t).toNat)
  case atStart => exact ⟨0, Nat.zero_le _, rfl, hO1, hB1⟩
  case round =>
    obtain ⟨i, hi, rfl, ho, hb⟩ := hrel
    have hsz := hb.size
    by_cases hlt : i < n3
    · obtain ⟨b, off, rfl, hbl, hcc⟩ := hIu (by omega)
      obtain ⟨x, hx⟩ := at_some hl3 hlt
      have hcx : wr.cell? ⟨b, off + i, none⟩ = some (.int .u32 x) := (hb.cell (p := ⟨b, off + i, none⟩) (by show b < _; omega)).trans ((hb1.cell (p := ⟨b, off + i, none⟩) hbl).trans (hcc i x hx))
      obtain ⟨hx0, hx1⟩ := hk x (List.mem_of_getElem? hx)
      have HR : Hid (R1 (i + 1) = R1 i ++ fixB x.toNat 4) := hR1s i x hx
      have hfx := fun u (hu : Own wr w1.heap.size u (R1 i)) => kfix_own wr w1.heap.size u (R1 i) x 4 hx0 (by decide) (by decide) (by omega) hu hsz (by have := hL1 i; omega)
      rw [← HR.out] at hfx
      generalize R1 i = r at *
      clear hIu hIs hcc hR10 hR1s hR1n hR2s hL1 hL2 hk hk14 hO1 hB1
      have hfx' := hfx _ ho
      clear hfx
      go_wp2_with fail
      refine hfx'.mono ?_
      rintro e w5 ⟨u5, rfl, ho5, hb5⟩
      go_wp2_with fail
      go_roundw
      case rel => exact ⟨i + 1, by omega, by go_num, ho5, hb.trans hb5⟩
      case measure => simp [intOf]; omega
    · obtain rfl : i = n3 := by omega
      rw [hR1n] at ho
      have hcn : wr.cell? ⟨w.heap.size, 2, none⟩ = some (.slice a2 n2 c2) := (hb.cell (p := ⟨w.heap.size, 2, none⟩) (by show w.heap.size < _; omega)).trans Y2
      have hltI : ¬ (i : Int) < i := by omega
      clear hIu hR10 hR1s hR1n hL1 hk hO1 hB1
      go_wp2
      go_loopw [10, 14, 70] (fun v u t wr => ∃ j : Nat, j ≤ n2 ∧ t = .int .i64 j ∧ Own wr w1.heap.size v (R2 j) ∧ Below w1.heap.size w1 wr) (fun _ _ t _ => n2 - (intOf t).toNat)
      case atStart => exact ⟨0, Nat.zero_le _, rfl, ho, hb⟩
      case round =>
        obtain ⟨j, hj, rfl, ho2, hb2⟩ := hrel
        have hsz2 := hb2.size
        by_cases hlt2 : j < n2
        · obtain ⟨b, off, rfl, hbl, hcc⟩ := hIs (by omega)
          obtain ⟨x, hx⟩ := at_some hl2 hlt2
          have hcx : wr.cell? ⟨b, off + j, none⟩ = some (.string x) := (hb2.cell (p := ⟨b, off + j, none⟩) (by show b < _; omega)).trans ((hb1.cell (p := ⟨b, off + j, none⟩) hbl).trans (hcc j x hx))
          have HR : Hid (R2 (j + 1) = R2 j ++ strB x) := hR2s j x hx
          have HL : Hid ((R2 j).length ≤ 1000) := hL2 j
          have hx14 := hk14 x (List.mem_of_getElem? hx)
          generalize R2 j = r at *
          clear hIs hcc hR2s hL2 hk14 ho hcn
          go_wp2_with (at_builtin; refine wpList_append_str rfl _ _ rfl w1.heap.size _ r rfl ho2 x rfl (by have := HL.out; omega) hsz2 ?_; intro v6 w6 ho6 hg6)
          have hb6 : Below w1.heap.size w1 w6 := below_grown hb2 hsz2 ho2 hg6
          go_wp2
          go_roundw
          case rel => exact ⟨j + 1, by omega, by go_num, by rw [HR.out]; exact ho6, hb6⟩
          case measure => simp [intOf]; omega
        · obtain rfl : j = n2 := by omega
          have hkb := fun u (hu : Own wr w1.heap.size u (R2 j)) => kblock_any wr w1.heap.size u (R2 j) hu hry hsz2 hrl
          have hkb' := hkb _ ho2
          have hltI : ¬ (j : Int) < j := by omega
          clear hIs hR2s hL2 hk14 ho hcn hkb
          go_wp2_with fail
          refine hkb'.mono ?_
          rintro e w7 ⟨u7, rfl, ho7, hb7⟩
          go_wp2
          go_ret2
          exact ⟨_, rfl, ho7.mono (by omega), hB0.trans ((hb1.trans ((hb2.trans hb7).mono hs1)).mono hB0.size)⟩

set_option maxHeartbeats 4000000 in
theorem kenc_leaf (w : World) (v : Value) (n : Nd) (h : NdAt w v n) (hok : nodeOk n = true) (hlf : n.leaf = true) (hbig : n.pairs.length ≤ 4398046511104) :
    Calls Try.prog 11 #[v] w fun e w' => ∃ u, e = .returned (.tuple #[u, .int .i64 0]) ∧ Own w' w.heap.size u (blockL n) ∧ Below w.heap.size w w' := by
  have h' := h
  obtain ⟨a1, c1, a2, c2, a3, c3, rfl, hP, hS, hU, hb⟩ := h
  have hE : nodeE n = 0 := by unfold nodeE; rw [hok]; rfl
  have hrl := rawL_le hok
  have hry := rawL_byt hok
  have hbl : sealed (padL (rawL n)) = blockL n := rfl
  rw [← hbl]
  clear hbl
  obtain ⟨lf, ps, ks, cs⟩ := n
  obtain ⟨⟨h1, h2⟩, h3, h4, h5⟩ := nodeOk_leaf hok hlf
  dsimp only at *
  subst hlf h4 h5
  have hB0 := (Below.refl w.heap.size w).alloc (Nat.le_refl _) (.cells #[.bool true, .slice a1 ps.length c1, .slice a2 ([] : List ByteArray).length c2, .slice a3 ([] : List Int).length c3] 26)
  have hg0 := heap_alloc_new w (.cells #[.bool true, .slice a1 ps.length c1, .slice a2 ([] : List ByteArray).length c2, .slice a3 ([] : List Int).length c3] 26)
  have hck := kcheck_any _ _ _ (h'.below hB0) hbig
  rw [hE] at hck
  have hraw : rawL ⟨true, ps, [], []⟩ = 76 :: (ps.length : Int) :: ps.flatMap pairL := rfl
  rw [hraw] at hrl hry ⊢
  clear hraw
  obtain ⟨_, hcu, hmu, hIp⟩ := RdP.open (RdE.below hP hB0)
  rw [List.length_nil, List.length_nil] at *
  generalize hl1 : ps.length = n1 at *
  obtain ⟨R1, hR1⟩ : ∃ R1 : Nat → List Int, ∀ i, 76 :: (n1 : Int) :: (ps.take i).flatMap pairL = R1 i := ⟨_, fun _ => rfl⟩
  have hR10 : R1 0 = [76, (n1 : Int)] := by rw [← hR1]; rfl
  have hR1s : ∀ i x, ps[i]? = some x → R1 (i + 1) = (R1 i ++ strB x.1) ++ textB x.2 := fun i x hx => by
    rw [← hR1, ← hR1, flat_next pairL hx, textB_ok (h3 x (List.mem_of_getElem? hx)).2]; unfold pairL; simp
  have hR1n : R1 n1 = 76 :: (n1 : Int) :: ps.flatMap pairL := by
    rw [← hR1, List.take_of_length_le (by omega)]
  have hL1 : ∀ i, (R1 i).length ≤ 1000 := fun i => by
    have e2 := flat_length pairL (ps.take i) 49 fun p hp => by rw [pairL_length]; have := h3 p (List.mem_of_mem_take hp); omega
    rw [List.length_take] at e2
    rw [← hR1, List.length_cons, List.length_cons]
    omega
  rw [← hR1n] at hrl hry ⊢
  clear hR1 hP hS hU hb hok h' hE hR1n
  have h24 : (n1 : Int) ≤ 10 := by omega
  generalize hW0 : w.alloc (.cells #[.bool true, .slice a1 n1 c1, .slice a2 0 c2, .slice a3 0 c3] 26) = W0 at *
  have zlt : w.heap.size < W0.heap.size := (Array.getElem?_eq_some_iff.1 hg0).1
  obtain ⟨X0, X1, X2, X3, _⟩ := box4' hg0
  clear hg0
  go_enter Try.func11, Try.ntmps11
  go_wp2_with fail
  refine hck.mono ?_
  clear hck hW0
  rintro e w1 ⟨rfl, hb1⟩
  have Y0 := (hb1.cell (p := ⟨w.heap.size, 0, none⟩) zlt).trans X0
  have Y1 := (hb1.cell (p := ⟨w.heap.size, 1, none⟩) zlt).trans X1
  clear X0 X1 X2 X3
  have hs1 := hb1.size
  have hO1 : Own (w1.alloc (.cells #[.int .u8 76, .int .u8 n1] 5)) w1.heap.size (.slice (some ⟨w1.heap.size, 0, none⟩) 2 2) [76, (n1 : Int)] := Own.laid (w := w1) (cs := #[.int .u8 76, .int .u8 n1]) (n := 2) (xs := [76, (n1 : Int)]) rfl (by decide) rfl
  have hB1 : Below w1.heap.size w1 (w1.alloc (.cells #[.int .u8 76, .int .u8 n1] 5)) := (Below.refl _ _).alloc (Nat.le_refl _) _
  have Z1 := (hB1.cell (p := ⟨w.heap.size, 1, none⟩) (by show w.heap.size < _; omega)).trans Y1
  rw [← hR10] at hO1
  go_wp2
  clear Z1 Y1
  generalize w1.alloc (.cells #[.int .u8 76, .int .u8 n1] 5) = W1 at *
  go_loopw [5, 7, 8, 9, 30] (fun v q1 q2 q3 t wr => ∃ i : Nat, i ≤ n1 ∧ t = .int .i64 i ∧ Own wr w1.heap.size v (R1 i) ∧ Below w1.heap.size w1 wr) (fun _ _ _ _ t _ => n1 - (intOf t).toNat)
  case atStart => exact ⟨0, Nat.zero_le _, rfl, hO1, hB1⟩
  case round =>
    obtain ⟨i, hi, rfl, ho, hb⟩ := hrel
    obtain ⟨wA, hA⟩ : ∃ wA, wA = wr := ⟨_, rfl⟩
    subst hA
    have hsz := hb.size
    by_cases hlt : i < n1
    · obtain ⟨b, off, rfl, hbl, hcc⟩ := hIp (by omega)
      obtain ⟨x, hx⟩ := at_some hl1 hlt
      obtain ⟨hcx, hcy⟩ := hcc i x hx
      have hcx' := (hb.cell (p := ⟨b, off + i * 2, none⟩) (by show b < _; omega)).trans ((hb1.cell (p := ⟨b, off + i * 2, none⟩) hbl).trans hcx)
      have hcy' := (hb.cell (p := ⟨b, off + i * 2 + 1, none⟩) (by show b < _; omega)).trans ((hb1.cell (p := ⟨b, off + i * 2 + 1, none⟩) hbl).trans hcy)
      obtain ⟨h14, h34⟩ := h3 x (List.mem_of_getElem? hx)
      have HR : Hid (R1 (i + 1) = (R1 i ++ strB x.1) ++ textB x.2) := hR1s i x hx
      have HL : Hid ((R1 i).length ≤ 1000) := hL1 i
      obtain ⟨s, t⟩ := x
      dsimp only at h14 h34 HR hcx' hcy'
      generalize R1 i = r at *
      clear hIp hcc hR10 hR1s hL1 h3 hO1 hB1 hcx hcy
      have hsl := strB_length s
      have htl : (textB t).length ≤ 100 := by rw [textB_ok h34, List.length_cons, strB_length]; omega
      obtain ⟨W2, hW2⟩ : ∃ W2, wA.alloc (.cells #[.string s, .string t] 53) = W2 := ⟨_, rfl⟩
      have hb2 : Below wA.heap.size wA W2 := by rw [← hW2]; exact (Below.refl _ wA).alloc (Nat.le_refl _) _
      have hp2 : W2.heap[wA.heap.size]? = some (.cells #[.string s, .string t] 53 (0, 0)) := by rw [← hW2]; exact heap_alloc_new wA _
      have hlt2 : wA.heap.size < W2.heap.size := (Array.getElem?_eq_some_iff.1 hp2).1
      have P1 := cell_of_row W2 _ 1 _ _ (0, 0) hp2
      have htx := refText_any W2 t (by unfold maxLen; omega)
      generalize textB t = T at *
      go_wp2_with fail
      refine htx.mono ?_
      clear htx P1 hW2
      rintro e w3 ⟨u3, rfl, ho3, hb3⟩
      have P0 := (hb3.cell (p := ⟨wA.heap.size, 0, none⟩) hlt2).trans (cell_of_row W2 _ 0 _ _ (0, 0) hp2)
      have hoA := (ho.below hb2).below hb3
      have hbA : Below w1.heap.size w1 w3 := hb.trans ((hb2.trans (hb3.mono hb2.size)).mono hsz)
      have hsA := hbA.size
      have hown0 := fun k hk => (World.ownsRow.lt ho k hk).2
      have hs2 := hb2.size
      clear hp2 hb2
      go_wp2_with (first
        | (at_builtin; refine wpList_append_str rfl _ _ rfl w1.heap.size _ r rfl hoA s rfl (by have := HL.out; omega) hsA ?_; intro v6 w6 ho6 hg6; have hb6 : Below w1.heap.size w1 w6 := below_grown hbA hsA hoA hg6; have hr3 := (grown_own ho3 hg6 hoA (fun k hk => by have := hown0 k hk; omega)).rd; have hs6 := hb6.size; have hrl6 : (r ++ strB s).length ≤ 2000 := (by rw [List.length_append]; have := HL.out; omega); clear hg6 hoA P0 ho3 hown0)
        | (at_builtin; refine wpList_append_rd rfl _ _ rfl w1.heap.size _ (r ++ strB s) rfl ho6 _ _ rfl hr3 (by omega) hs6 ?_; intro v7 w7 ho7 hg7))
      have hb7 : Below w1.heap.size w1 w7 := below_grown hb6 hs6 ho6 hg7
      clear hg7 ho6 hr3
      go_wp2
      go_roundw
      case rel => exact ⟨i + 1, by omega, by go_num, by rw [HR.out]; exact ho7, hb7⟩
      case measure => simp [intOf]; omega
    · obtain rfl : i = n1 := by omega
      have hkb := fun u (hu : Own wA w1.heap.size u (R1 i)) => kblock_any wA w1.heap.size u (R1 i) hu hry hsz hrl
      have hkb' := hkb _ ho
      have hltI : ¬ (i : Int) < i := by omega
      clear hIp hR10 hR1s hL1 h3 hO1 hB1 hkb
      go_wp2_with fail
      refine hkb'.mono ?_
      rintro e w7 ⟨u7, rfl, ho7, hb7⟩
      go_wp2
      go_ret2
      exact ⟨_, rfl, ho7.mono (by omega), hB0.trans ((hb1.trans ((hb.trans hb7).mono hs1)).mono hB0.size)⟩

theorem kencode_any (w : World) (v : Value) (n : Nd) (h : NdAt w v n) (hk : NdOk n) (hbig : n.pairs.length ≤ 4398046511104) :
    Calls Try.prog 11 #[v] w fun e w' => ∃ u, e = .returned (.tuple #[u, .int .i64 (nodeE n)]) ∧ Own w' w.heap.size u (encL n) ∧ Below w.heap.size w w' := by
  cases hok : nodeOk n with
  | true =>
    have hE : nodeE n = 0 := by unfold nodeE; rw [hok]; rfl
    have hL : encL n = blockL n := by unfold encL; rw [hok]; rfl
    rw [hE, hL]
    cases hlf : n.leaf with
    | true => exact kenc_leaf w v n h hok hlf hbig
    | false => exact kenc_inner w v n h hok hlf hk hbig
  | false =>
    have hE : nodeE n = 50 := by unfold nodeE; rw [hok]; rfl
    have hL : encL n = [] := by unfold encL; rw [hok]; rfl
    have h' := h
    obtain ⟨a1, c1, a2, c2, a3, c3, rfl, _, _, _, _⟩ := h
    have hB0 := (Below.refl w.heap.size w).alloc (Nat.le_refl _) (.cells #[.bool n.leaf, .slice a1 n.pairs.length c1, .slice a2 n.keys.length c2, .slice a3 n.kids.length c3] 26)
    have hck := kcheck_any _ _ n (h'.below hB0) hbig
    rw [hE] at hck
    rw [hE, hL]
    generalize n.leaf = lf at *
    generalize n.pairs.length = n1 at *
    generalize n.keys.length = n2 at *
    generalize n.kids.length = n3 at *
    go_enter Try.func11, Try.ntmps11
    go_wp2_with fail
    refine hck.mono ?_
    rintro e w5 ⟨rfl, hb5⟩
    go_wp2
    go_ret2
    exact ⟨_, rfl, Own.nil _ _, hB0.trans (hb5.mono hB0.size)⟩

end Go.Proofs.Ytanbjdcffcnfgaa
