/- The walk of the law of sums, and laws for it. -/
import Derived.Test.YtmpddbnggddmdaaRefUnsealAny
import Derived.Deep.RegionHeld3
namespace Go.Proofs.Ytmpddbnggddmdaa
open Go.RowKit
set_option linter.unusedVariables false

/-- A byte of a row stored anew. -/
theorem row_set {W : World} {g j : Nat} {cur : List Int} (hg : W.heap[g]? = some (.cells (cur.map (Value.int .u8)).toArray 5 (0, 0))) (z : Int) :
    (W.setCell ⟨g, j, none⟩ (.int .u8 z)).heap[g]? = some (.cells ((cur.set j z).map (Value.int .u8)).toArray 5 (0, 0)) := by
  rw [heap_setCell_same W g j _ 5 _ hg]
  congr 2
  apply Array.ext'
  rw [Array.toList_setIfInBounds, List.map_set]
theorem OwnI.setCell {W : World} {base : Nat} {y : Value} {ys : List Int} (h : OwnI W base y ys) {g j : Nat} (hg : g < base) (u : Value) : OwnI (W.setCell ⟨g, j, none⟩ u) base y ys := by
  rcases h with h | ⟨g', cur, rfl, hb, hh, r⟩
  · exact .inl h
  · refine .inr ⟨g', cur, rfl, hb, ?_, r⟩
    rw [heap_setCell_other _ _ _ _ (by show g' ≠ g; omega)]
    exact hh
theorem Byt.set {xs : List Int} (h : Byt xs) (j : Nat) (z : Int) (h0 : 0 ≤ z) (h1 : z ≤ 255) : Byt (xs.set j z) := by
  intro x hx
  rcases List.mem_or_eq_of_mem_set hx with hx | rfl
  · exact h x hx
  · exact ⟨h0, h1⟩
theorem row_cell {W : World} {g j : Nat} {cur : List Int} (hg : W.heap[g]? = some (.cells (cur.map (Value.int .u8)).toArray 5 (0, 0))) (hj : j < cur.length) : W.cell? ⟨g, j, none⟩ = some (.int .u8 (cur.getD j 0)) := by
  rw [cell_of_row _ _ j _ 5 (0, 0) hg, List.getElem?_toArray, List.getElem?_map, List.getD_eq_getElem?_getD, List.getElem?_eq_getElem hj]
  rfl

theorem keep2 {w3 W w' : World} (k : Below W.heap.size W w') (h : Below w3.heap.size w3 W) : Below w3.heap.size w3 w' := h.trans (k.mono h.size)

set_option maxRecDepth 100000 in
set_option maxHeartbeats 8000000 in
theorem sums_walk (w : World) (v : Value) (xs : List Int) (hr : Rd w v xs) (hy : Byt xs) (hl : xs.length ≤ 100000) :
    Calls Try.prog 5 #[v] w fun e w' => e = .returned (.bool true) ∧ Below w.heap.size w w' := by
  have hlen := hr.len
  have hsm : ¬ (100000 : Int) < xs.length := by omega
  go_enter Try.func5, Try.ntmps5
  go_wp2_with fail
  refine (sums_any _).mono ?_
  rintro e w1 ⟨rfl, hb1⟩
  have hr1 := hr.below hb1
  have hz1 := hb1.size
  go_wp2_with (at_builtin; refine wpList_append_rd rfl _ _ rfl w1.heap.size _ [] rfl (Own.nil _ _) _ _ rfl hr1 ?c1 ?c2 ?_)
  case c1 => simp; omega
  case c2 => exact Nat.le_refl _
  intro own w2 ho2 hg2
  have hb2 : Below w1.heap.size w1 w2 := below_grown (Below.refl _ _) (Nat.le_refl _) (Own.nil w1 w1.heap.size) hg2
  have hb02 := hb1.trans (hb2.mono hz1)
  clear hg2 hlen hsm hb1 hr1 hb2
  go_wp2_with fail
  go_loopw [19] (fun t wr => ∃ i : Nat, i ≤ 2 ∧ t = .int .i64 i ∧ Below w.heap.size w wr ∧ Own wr w1.heap.size own xs) (fun t _ => 2 - (intOf t).toNat)
  case atStart => exact ⟨0, Nat.zero_le _, rfl, hb02, ho2⟩
  case round =>
    obtain ⟨i, hi, rfl, hbr, hor⟩ := hrel
    clear hb02 ho2
    obtain ⟨wA, hA⟩ : ∃ wA, wA = wr := ⟨_, rfl⟩
    subst hA
    by_cases hlt : i < 2
    · go_wp2_with fail
      refine (sealI_any _ _ _ hor.rd hy (by omega)).mono ?_
      rintro e w3 ⟨x, rfl, hx3, hb3⟩
      go_wp2_with fail
      refine (unsealI_any _ _ _ (hor.below hb3).rd hy (by omega)).mono ?_
      rintro e w4 ⟨y, rfl, hy4, hb4⟩
      have hb34 : Below wA.heap.size wA w4 := hb3.trans (hb4.mono hb3.size)
      go_wp2_with fail
      refine (refUnseal_any _ _ _ (hr.below (hbr.trans (hb34.mono hbr.size))) hy (by omega)).mono ?_
      rintro e w5 ⟨z, rfl, hz5, hb5⟩
      have hb35 : Below wA.heap.size wA w5 := hb34.trans (hb5.mono hb34.size)
      have hx5 := hx3.below (hb4.trans (hb5.mono hb4.size))
      have hy5 := hy4.below hb5
      have HX : Hid (OwnI w3 wA.heap.size x (xs ++ sealB xs)) := hx3
      have hb3to5 : Below w3.heap.size w3 w5 := hb4.trans (hb5.mono hb4.size)
      have HY : Hid (OwnI w5 w3.heap.size y (unB xs)) := hy5
      have hg3 : wA.heap.size ≤ w3.heap.size := hb3.size
      have hrO : ∀ W, Below w5.heap.size w5 W → Rd W own xs := fun W hW => ((hor.below hb35).below hW).rd
      have hrB : ∀ W, Below w5.heap.size w5 W → Rd W v xs := fun W hW => (hr.below (hbr.trans (hb35.mono hbr.size))).below hW
      have cO : ∀ W, Below w5.heap.size w5 W → (convert 23 9 own).run Try.prog W = .ok (.string (strOfNums xs)) W := fun W hW => (hrO W hW).conv
      have cB : ∀ W, Below w5.heap.size w5 W → (convert 23 9 v).run Try.prog W = .ok (.string (strOfNums xs)) W := fun W hW => (hrB W hW).conv
      have cX : ∀ W, Below w5.heap.size w5 W → (convert 23 9 x).run Try.prog W = .ok (.string (strOfNums (xs ++ sealB xs))) W := fun W hW => (hx5.own.below hW).rd.conv
      have cY : ∀ W, Below w5.heap.size w5 W → (convert 23 9 y).run Try.prog W = .ok (.string (strOfNums (unB xs))) W := fun W hW => (hy5.own.below hW).rd.conv
      have cZ : ∀ W, Below w5.heap.size w5 W → (convert 23 9 z).run Try.prog W = .ok (.string (strOfNums (unB xs))) W := fun W hW => (hz5.below hW).rd.conv
      clear hx3 hx5 hy4 hy5 hz5 hb3 hb4 hb34 hb5
      go_wp2_with fail
      refine wp_region_noPanic ?_
      go_region_held (fun W => Below w5.heap.size w5 W) (first | assumption | exact (Below.refl _ _).drew | exact keep2 (by assumption) (by assumption))
        (first
          | (go_at_call 23; refine (sum_any _ _ xs (hrO _ (by assumption)) hy).mono ?_; rintro e w6 ⟨rfl, hb6⟩)
          | (go_at_call 24; refine (refSum_any _ _ xs (hrB _ (by assumption)) hy).mono ?_; rintro e w7 ⟨rfl, rfl⟩)
          | (go_at_call 25; refine (refSeal_any _ _ xs (hrB _ (by assumption)) hy (by omega)).mono ?_; rintro e w8 ⟨u8, rfl, ho8, hb8⟩; have k8 := ho8.rd.conv))
      refine NoPanic.normal ?_
      have hb58 : Below w5.heap.size w5 w8 := by assumption
      clear cO cB cX cY cZ hrO hrB k8 ho8 hb8
      have hb3c : Below w3.heap.size w3 w8 := hb3to5.trans (hb58.mono hb3to5.size)
      have hbrc : Below wA.heap.size wA w8 := hb35.trans (hb58.mono hb35.size)
      have HYc : Hid (OwnI w8 w3.heap.size y (unB xs)) := HY.out.below hb58
      rcases HX.out with ⟨rfl, hnil⟩ | ⟨g, cur, rfl, hgb, hgh, hgm, hgy, hgl, hgt⟩
      · exact absurd (congrArg List.length hnil) (by rw [List.length_append, sealB_length]; simp)
      · have hg3' : g < w3.heap.size := (Array.getElem?_eq_some_iff.1 hgh).1
        have HGc : Hid (w8.heap[g]? = some (.cells (cur.map (Value.int .u8)).toArray 5 (0, 0))) := (hb3c.block g hg3').trans hgh
        have hl4 : (xs ++ sealB xs).length ≤ cur.length := hgl
        generalize (xs ++ sealB xs).length = n4 at *
        unfold maxLen at hgm
        generalize hc : cur.length = c at *
        clear hgh hgt HX HY hb3to5 hb35 hb58 hb3c hgl
        go_wp2_with fail
        go_loopw [71] (fun t wx => ∃ (j : Nat) (cur' : List Int), j ≤ c ∧ t = .int .i64 j ∧ cur'.length = c ∧ Byt cur' ∧ Hid (wx.heap[g]? = some (.cells (cur'.map (Value.int .u8)).toArray 5 (0, 0))) ∧ Below wA.heap.size wA wx ∧ Hid (OwnI wx w3.heap.size y (unB xs))) (fun t _ => c - (intOf t).toNat)
        case atStart => exact ⟨0, cur, Nat.zero_le _, rfl, hc, hgy, HGc, hbrc, HYc⟩
        case round =>
          obtain ⟨j, cur', hj, rfl, hcl, hcy, HG, hbx, HYx⟩ := hrel
          clear HGc hbrc HYc
          by_cases hjl : j < c
          · have hcell := row_cell HG.out (show j < cur'.length by omega)
            have hfz := frozen_of_row _ g j _ 5 HG.out
            obtain ⟨hv0, hv1⟩ := hcy.getD j
            generalize cur'.getD j 0 = q at *
            have hjI : (j : Int) < c := by omega
            have HL : Hid (cur'.length = c) := hcl
            clear hcl
            go_wp2_with fail
            go_roundw
            case rel => exact ⟨j + 1, cur'.set j ((q + 1) % 256), by omega, by go_num, by rw [List.length_set]; exact HL.out, hcy.set j _ (by omega) (by omega), row_set HG.out _, hbx.setCell hgb _, HYx.out.setCell hg3' _⟩
            case measure => simp [intOf]; omega
          · clear HG hcy hcl
            have hbA := hbr.trans (hbx.mono hbr.size)
            have hzA := hbr.size
            rcases HYx.out with ⟨rfl, hyn⟩ | ⟨g2, cur2, rfl, hgb2, hgh2, hgm2, hgy2, hgl2, hgt2⟩
            · clear HYx
              go_wp2_with fail
              go_loopw [87] (fun t wx => t = .int .i64 0 ∧ Below wA.heap.size wA wx) (fun _ _ => 0)
              case atStart => exact ⟨rfl, hbx⟩
              case round =>
                obtain ⟨rfl, hbx2⟩ := hrel
                clear hbx hbA
                go_wp2_with fail
                go_roundw
                case rel => exact ⟨i + 1, by omega, by go_num, hbr.trans (hbx2.mono hzA), hor.below hbx2⟩
                case measure => simp [intOf]; omega
            · have HG2 : Hid _ := hgh2
              have hll : (unB xs).length ≤ cur2.length := hgl2
              generalize (unB xs).length = n2 at *
              unfold maxLen at hgm2
              generalize hc2 : cur2.length = c2 at *
              have hgA : wA.heap.size ≤ g2 := Nat.le_trans hg3 hgb2
              clear hgh2 hgt2 HYx hgl2
              go_wp2_with fail
              go_loopw [87] (fun t wx => ∃ (j : Nat) (cur' : List Int), j ≤ c2 ∧ t = .int .i64 j ∧ cur'.length = c2 ∧ Byt cur' ∧ Hid (wx.heap[g2]? = some (.cells (cur'.map (Value.int .u8)).toArray 5 (0, 0))) ∧ Below wA.heap.size wA wx) (fun t _ => c2 - (intOf t).toNat)
              case atStart => exact ⟨0, cur2, Nat.zero_le _, rfl, hc2, hgy2, HG2, hbx⟩
              case round =>
                obtain ⟨k, cur3, hk, rfl, hcl3, hcy3, HG3, hbx3⟩ := hrel
                clear HG2 hbx hbA hc2
                by_cases hkl : k < c2
                · have hcell := row_cell HG3.out (show k < cur3.length by omega)
                  have hfz := frozen_of_row _ g2 k _ 5 HG3.out
                  obtain ⟨hv0, hv1⟩ := hcy3.getD k
                  generalize cur3.getD k 0 = q at *
                  have hkI : (k : Int) < c2 := by omega
                  have HL : Hid (cur3.length = c2) := hcl3
                  clear hcl3
                  go_wp2_with fail
                  go_roundw
                  case rel => exact ⟨k + 1, cur3.set k ((q + 1) % 256), by omega, by go_num, by rw [List.length_set]; exact HL.out, hcy3.set k _ (by omega) (by omega), row_set HG3.out _, hbx3.setCell hgA _⟩
                  case measure => simp [intOf]; omega
                · clear HG3 hcy3 hcl3
                  go_wp2_with fail
                  go_roundw
                  case rel => exact ⟨i + 1, by omega, by go_num, hbr.trans (hbx3.mono hzA), hor.below hbx3⟩
                  case measure => simp [intOf]; omega
    · go_wp2
      go_ret
      exact ⟨rfl, hbr⟩
end Go.Proofs.Ytmpddbnggddmdaa
