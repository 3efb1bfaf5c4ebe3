/- The document's Has, Lay, Trim. -/
import Derived.Test.YtpbokenambjclaaPtTrim
namespace Go.Proofs.Ytpbokenambjclaa
open Go.RowKit
set_option linter.unusedVariables false
set_option linter.unusedSimpArgs false
set_option maxRecDepth 100000

set_option maxHeartbeats 1000000 in
theorem has_any (w : World) (p : Pt) (i : Nat) (hp : PtOk p) (hi : i < 32) : Calls Try.prog 50 #[.agg (ptC p), .int .i64 (i : Int)] w fun e w' => e = .returned (.bool (p.mask.testBit i)) ∧ Below w.heap.size w w' := by
  obtain ⟨w1, hw1⟩ : ∃ w1, w.alloc (.cells (ptC p) 29) = w1 := ⟨_, rfl⟩
  have hB1 : Below w.heap.size w w1 := by rw [← hw1]; exact (Below.refl _ w).alloc (Nat.le_refl _) _
  have hp1 : PtAt w1 w.heap.size p := by rw [← hw1]; exact PtAt.laid w p
  have c1 := hp1.c1
  have hbit : (((p.mask : Int) / 2 ^ i).tmod 2 == 1) = p.mask.testBit i := by rw [Int.tmod_eq_emod_of_nonneg (Int.ediv_nonneg (by omega) (by exact_mod_cast Nat.zero_le _))]; exact bit_mod p.mask i
  have hi32 : (i : Int) ≤ 32 := by omega
  generalize p.mask.testBit i = B at *
  generalize p.mask = M at *
  go_enter Try.func50, Try.ntmps50
  go_wp2
  go_ret
  exact ⟨by rw [← hbit]; rfl, hB1⟩

theorem ChAt.set {w : World} {g : Nat} {b : List Int} (h : ChAt w g b) (i : Nat) (v : Int) : ChAt (w.setCell ⟨g, i, none⟩ (.int .u8 v)) g (b.set i v) := by
  refine ⟨(heap_setCell_same w g i _ _ _ h.row).trans ?_⟩
  congr 2
  unfold bytesV
  rw [List.setIfInBounds_toArray, List.map_set]
theorem PtAt.set {w : World} {g : Nat} {p : Pt} (h : PtAt w g p) (i : Nat) (v : Int) : PtAt (w.setCell ⟨g, 2 + i, none⟩ (.int .u8 v)) g ⟨p.fresh, p.mask, p.bytes.set i v⟩ := by
  refine ⟨(heap_setCell_same w g (2 + i) _ _ _ h.row).trans ?_⟩
  congr 2
  unfold ptC
  rw [List.setIfInBounds_toArray, show 2 + i = i + 1 + 1 from by omega, List.set_cons_succ, List.set_cons_succ, List.map_set]
theorem ChAt.apart {w : World} {g : Nat} {b : List Int} (h : ChAt w g b) (k i : Nat) (v : Value) (hk : g ≠ k) : ChAt (w.setCell ⟨k, i, none⟩ v) g b := ⟨(heap_setCell_other w ⟨k, i, none⟩ g v hk).trans h.row⟩
theorem PtAt.apart {w : World} {g : Nat} {p : Pt} (h : PtAt w g p) (k i : Nat) (v : Value) (hk : g ≠ k) : PtAt (w.setCell ⟨k, i, none⟩ v) g p := ⟨(heap_setCell_other w ⟨k, i, none⟩ g v hk).trans h.row⟩

/-- A list that is turned to another one, byte by byte. -/
def upTo (f : Nat → Int) (b : List Int) (n : Nat) : List Int := (List.range 32).map fun i => if i < n then f i else b.getD i 0
theorem upTo_len (f : Nat → Int) (b : List Int) (n : Nat) : (upTo f b n).length = 32 := by simp [upTo]
theorem upTo_0 (f : Nat → Int) {b : List Int} (h : b.length = 32) : upTo f b 0 = b := by
  unfold upTo
  conv => rhs; rw [ch_eq h]
  exact List.map_congr_left fun i _ => by simp
theorem upTo_all (f : Nat → Int) (b : List Int) : upTo f b 32 = (List.range 32).map f := by
  unfold upTo
  exact List.map_congr_left fun i hi => by rw [if_pos (List.mem_range.1 hi)]
theorem upTo_get (f : Nat → Int) (b : List Int) (n : Nat) {i : Nat} (h : i < 32) : (upTo f b n).getD i 0 = if i < n then f i else b.getD i 0 := by
  unfold upTo; rw [range_get _ h]
theorem upTo_next (f : Nat → Int) (b : List Int) {n : Nat} (h : n < 32) : upTo f b (n + 1) = (upTo f b n).set n (f n) := by
  apply ch_ext (upTo_len _ _ _) (by rw [List.length_set, upTo_len])
  intro i hi
  rw [upTo_get _ _ _ hi]
  by_cases e : i = n
  · subst e
    rw [if_pos (by omega), show ((upTo f b i).set i (f i)).getD i 0 = f i from by rw [List.getD_eq_getElem?_getD, List.getElem?_set_self (by rw [upTo_len]; omega)]; rfl]
  · rw [show ((upTo f b n).set n (f n)).getD i 0 = (upTo f b n).getD i 0 from by rw [List.getD_eq_getElem?_getD, List.getD_eq_getElem?_getD, List.getElem?_set_ne (by omega)], upTo_get _ _ _ hi]
    by_cases c : i < n
    · rw [if_pos c, if_pos (by omega)]
    · rw [if_neg c, if_neg (by omega)]
theorem upTo_same (f : Nat → Int) (b : List Int) {n : Nat} (h : f n = b.getD n 0) : upTo f b (n + 1) = upTo f b n := by
  unfold upTo
  refine List.map_congr_left fun i hi => ?_
  by_cases e : i = n
  · subst e; rw [if_pos (by omega), if_neg (by omega), h]
  · by_cases c : i < n
    · rw [if_pos c, if_pos (by omega)]
    · rw [if_neg c, if_neg (by omega)]
theorem upTo_ch {f : Nat → Int} {b : List Int} (hf : ∀ i, 0 ≤ f i ∧ f i ≤ 255) (hb : Ch b) (n : Nat) : Ch (upTo f b n) := by
  refine ⟨upTo_len _ _ _, fun x hx => ?_⟩
  unfold upTo at hx
  obtain ⟨i, _, rfl⟩ := List.mem_map.1 hx
  split
  · exact hf i
  · exact hb.2.getD i

end Go.Proofs.Ytpbokenambjclaa
