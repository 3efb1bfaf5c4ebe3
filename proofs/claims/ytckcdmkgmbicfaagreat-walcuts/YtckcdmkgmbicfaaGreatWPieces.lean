/- The contract of wal's pieces. -/
import Derived.Test.YtckcdmkgmbicfaaGreatMW6
namespace Go.Proofs.YtckcdmkgmbicfaaGreat
open Go.RowKit
set_option linter.unusedVariables false
set_option linter.unusedSimpArgs false
set_option maxRecDepth 4000

/-- A slice's address, length and room. -/
structure Sv where
  a : Option Addr
  n : Nat
  d : Nat

theorem Tryz.infoPc : (Tryz.prog.info? 82).map (fun i => (i.zero, i.size, i.bytes)) = some (some (.agg #[.int .u8 0, .int .u64 0, .int .u64 0, .int .i64 0, .int .i64 0, .slice none 0 0]), 6, 64) := by kernel_rfl

/-- The cells of the j-th piece when i have been made, of L bytes. -/
def pieF (L : Nat) (bv : Nat → Sv) (i j : Nat) : List Value := if j < i then [.int .u8 0, .int .u64 0, .int .u64 0, .int .i64 j, .int .i64 L, .slice (bv j).a (bv j).n (bv j).d] else [.int .u8 0, .int .u64 0, .int .u64 0, .int .i64 0, .int .i64 0, .slice none 0 0]
def pieR (N L : Nat) (bv : Nat → Sv) (i : Nat) : List Value := (List.range N).flatMap (pieF L bv i)
theorem pieF_len (L : Nat) (bv : Nat → Sv) (i j : Nat) : (pieF L bv i j).length = 6 := by unfold pieF; split <;> rfl
theorem pieR_len (N L : Nat) (bv : Nat → Sv) (i : Nat) : (pieR N L bv i).length = N * 6 := by
  unfold pieR
  rw [List.length_flatMap]
  have : (List.range N).map (fun j => (pieF L bv i j).length) = List.replicate N 6 := by
    apply List.ext_getElem
    · simp
    · intro j h1 h2; simp [pieF_len]
  rw [this]
  simp
theorem pieR_get (N L : Nat) (bv : Nat → Sv) (i t : Nat) (ht : t < N * 6) : (pieR N L bv i)[t]? = some ((pieF L bv i (t / 6))[t % 6]!) := by
  have h := flat_get (k := 6) (by decide) (pieF_len L bv i) (List.range N) t (by simpa using ht)
  unfold pieR
  rw [h]
  congr 3
  rw [getElem!_pos (List.range N) (t / 6) (by simp; omega)]
  simp
theorem pieR_set (N L : Nat) (bv : Nat → Sv) (i : Nat) (hi : i < N) : ((((((pieR N L bv i).set (i * 6) (.int .u8 0)).set (i * 6 + 1) (.int .u64 0)).set (i * 6 + 2) (.int .u64 0)).set (i * 6 + 3) (.int .i64 i)).set (i * 6 + 4) (.int .i64 L)).set (i * 6 + 5) (.slice (bv i).a (bv i).n (bv i).d) = pieR N L bv (i + 1) := by
  apply List.ext_getElem?
  intro t
  by_cases ht : t < N * 6
  · rw [pieR_get _ _ _ _ _ ht]
    simp only [List.getElem?_set, List.length_set, pieR_len]
    by_cases e1 : t / 6 = i
    · have hr : t = i * 6 ∨ t = i * 6 + 1 ∨ t = i * 6 + 2 ∨ t = i * 6 + 3 ∨ t = i * 6 + 4 ∨ t = i * 6 + 5 := by omega
      have hF : pieF L bv (i + 1) (t / 6) = [.int .u8 0, .int .u64 0, .int .u64 0, .int .i64 i, .int .i64 L, .slice (bv i).a (bv i).n (bv i).d] := by
        rw [e1]; unfold pieF; rw [if_pos (by omega)]
      rw [hF]
      rcases hr with h | h | h | h | h | h
      · rw [if_neg (by omega), if_neg (by omega), if_neg (by omega), if_neg (by omega), if_neg (by omega), if_pos (by omega), if_pos (by omega), show t % 6 = 0 by omega]; rfl
      · rw [if_neg (by omega), if_neg (by omega), if_neg (by omega), if_neg (by omega), if_pos (by omega), if_pos (by omega), show t % 6 = 1 by omega]; rfl
      · rw [if_neg (by omega), if_neg (by omega), if_neg (by omega), if_pos (by omega), if_pos (by omega), show t % 6 = 2 by omega]; rfl
      · rw [if_neg (by omega), if_neg (by omega), if_pos (by omega), if_pos (by omega), show t % 6 = 3 by omega]; rfl
      · rw [if_neg (by omega), if_pos (by omega), if_pos (by omega), show t % 6 = 4 by omega]; rfl
      · rw [if_pos (by omega), if_pos (by omega), show t % 6 = 5 by omega]; rfl
    · rw [if_neg (by omega), if_neg (by omega), if_neg (by omega), if_neg (by omega), if_neg (by omega), if_neg (by omega), pieR_get _ _ _ _ _ ht]
      congr 2
      unfold pieF
      by_cases h3 : t / 6 < i
      · rw [if_pos h3, if_pos (by omega)]
      · rw [if_neg h3, if_neg (by omega)]
  · rw [List.getElem?_eq_none (by simp [pieR_len]; omega), List.getElem?_eq_none (by rw [pieR_len]; omega)]

theorem make_pcs (w : World) (n : Nat) (hn : n ≤ 1000000) :
    (Instr.makeSlice 96 (.int .i64 n) (.int .i64 n)).run Tryz.prog w = .ok (.slice (some ⟨w.heap.size, 0, none⟩) n n) (w.alloc (.cells (madeCells #[.int .u8 0, .int .u64 0, .int .u64 0, .int .i64 0, .int .i64 0, .slice none 0 0] (n * 6)) 82)) := by
  obtain ⟨i, hi, hz0, hz1, hz2⟩ := info_parts Tryz.infoPc
  have h := run_make (P := Tryz.prog) w 96 82 i _ Tryz.underlying96 hi hz0 .i64 .i64 n n (by omega) (by omega) (by rw [hz2]; omega) (by omega)
  rw [h, hz1, Int.toNat_natCast]
  rfl

theorem made_pcs (N L : Nat) (bv : Nat → Sv) : (madeCells #[.int .u8 0, .int .u64 0, .int .u64 0, .int .i64 0, .int .i64 0, .slice none 0 0] (N * 6)) = (pieR N L bv 0).toArray := by
  apply Array.ext'
  apply List.ext_getElem?
  intro t
  by_cases ht : t < N * 6
  · rw [pieR_get _ _ _ _ _ ht, Array.getElem?_toList]
    have hs : t < (madeCells #[Value.int .u8 0, Value.int .u64 0, .int .u64 0, .int .i64 0, .int .i64 0, .slice none 0 0] (N * 6)).size := by rw [size_madeCells]; exact ht
    rw [Array.getElem?_eq_getElem hs]
    simp only [madeCells, Array.getElem_map, Array.getElem_range]
    have hr : t % 6 = 0 ∨ t % 6 = 1 ∨ t % 6 = 2 ∨ t % 6 = 3 ∨ t % 6 = 4 ∨ t % 6 = 5 := by omega
    rcases hr with h | h | h | h | h | h <;> simp [h, pieF]
  · rw [List.getElem?_eq_none (by simp [madeCells]; omega), List.getElem?_eq_none (by rw [pieR_len]; omega)]

theorem piecesN_lt {L i : Nat} (h : i < piecesN L) : i * 488 ≤ L ∧ (0 < L → i * 488 < L) := by
  unfold piecesN at h
  split at h <;> omega
theorem piecesN_le {L : Nat} (h : L ≤ 70000) : piecesN L ≤ 144 := by
  unfold piecesN
  split <;> omega

/-- 'v[i:i+k]' of a slice that reads as xs. -/
theorem rd_mid {w : World} {b off n cap : Nat} {xs : List Int} (h : Rd w (.slice (some ⟨b, off, none⟩) n cap) xs) (i k : Nat) (hk : i + k ≤ n) (hp : 0 < n) : Rd w (.slice (some ⟨b, off + i, none⟩) k (cap - i)) ((xs.drop i).take k) := by
  have hl := rd_length h
  obtain ⟨a, c, e, h1, h2, h3, h4⟩ := h
  have hc : c = cap := by simp only [Value.slice.injEq] at e; exact e.2.2.symm
  have ha : a = some ⟨b, off, none⟩ := by simp only [Value.slice.injEq] at e; exact e.1.symm
  subst hc ha
  have hdl : ((xs.drop i).take k).length = k := by simp; omega
  refine ⟨_, _, by rw [hdl], by rw [hdl]; omega, by omega, (by intro e; cases e), fun _ => ?_⟩
  obtain ⟨b', off', e', hlt, hc⟩ := h4 (by intro e; subst e; simp at hl; omega)
  simp only [Option.some.injEq, Addr.mk.injEq] at e'
  obtain ⟨rfl, rfl, _⟩ := e'
  refine ⟨_, _, rfl, hlt, fun j hj => ?_⟩
  rw [hdl] at hj
  have := hc (i + j) (by omega)
  rw [show off + i + j = off + (i + j) from by omega, this]
  simp [hj]

/-- Bytes, cut from F to T. -/
theorem sliceU (g L c F T : Nat) (h1 : F ≤ T) (h2 : T ≤ c) (h6 : c ≤ 2 ^ 63 - 1) (h0 : F < c ∨ F = 0) (W : World) :
    (Instr.sliceAt 80 (.slice (some ⟨g, 0, none⟩) L c) (some (.int .i64 F)) (some (.int .i64 T)) none).run Tryz.prog W = .ok (.slice (some ⟨g, F, none⟩) (T - F) (c - F)) W := by
  have hi1 : (F : Int) ≤ T := by omega
  have hi2 : (T : Int) ≤ c := by omega
  by_cases hc : c = F
  · obtain rfl : F = 0 := by omega
    clear h0 h1 hi1
    obtain rfl : T = 0 := by omega
    subst hc
    clear hi2 h2 h6
    go_simp
  · go_simp
    all_goals (intro h; exfalso; omega)

set_option maxHeartbeats 1000000 in
/-- A record's bytes, cut. -/
theorem cutB {w : World} {base : Nat} {a : Option Addr} {c : Nat} {xs : List Int} (h : Own w base (.slice a xs.length c) xs) (hm : xs.length ≤ 70000) :
    ∃ bv : Nat → Sv, (∀ i, i < piecesN xs.length → ∀ W, (Instr.sliceAt 80 (.slice a xs.length c) (some (.int .i64 ((i : Int) * 488))) (some (.int .i64 (min (((i : Int) + 1) * 488) (xs.length : Int)))) none).run Tryz.prog W = .ok (.slice (bv i).a (bv i).n (bv i).d) W) ∧ ∀ i, i < piecesN xs.length → Rd w (.slice (bv i).a (bv i).n (bv i).d) ((xs.drop (i * 488)).take 488) := by
  have hrd := h.rd
  rcases h.2 with ⟨e, hn⟩ | ⟨g, cap, cur, e, _, hg, h5, h6, _⟩
  · obtain rfl : xs = [] := List.eq_nil_of_length_eq_zero hn
    simp only [Value.slice.injEq] at e
    obtain ⟨rfl, _, rfl⟩ := e
    refine ⟨fun _ => ⟨none, 0, 0⟩, fun i hi W => ?_, fun i hi => by simpa using Rd.nil w⟩
    obtain rfl : i = 0 := by have := piecesN_lt hi; simp at this; omega
    go_simp
    rw [show min (488 : Int) 0 = 0 from rfl]
    simp
  · simp only [Value.slice.injEq, true_and] at e
    obtain ⟨rfl, rfl⟩ := e
    unfold maxLen at h6
    refine ⟨fun i => ⟨some ⟨g, i * 488, none⟩, min 488 (xs.length - i * 488), c - i * 488⟩, fun i hi W => ?_, fun i hi => ?_⟩
    · obtain ⟨k1, k2⟩ := piecesN_lt hi
      obtain ⟨T, hT⟩ : ∃ T : Nat, min ((i + 1) * 488) xs.length = T := ⟨_, rfl⟩
      have hTI : min (((i : Int) + 1) * 488) (xs.length : Int) = (T : Int) := by omega
      have hTn : min 488 (xs.length - i * 488) = T - i * 488 := by omega
      have hi1 : (i : Int) * 488 ≤ T := by omega
      have hi2 : (T : Int) ≤ c := by omega
      have hFI : (i : Int) * 488 = ((i * 488 : Nat) : Int) := by omega
      rw [hTI, hFI]
      simp only [hTn]
      exact sliceU g xs.length c (i * 488) T (by omega) (by omega) h6 (by omega) W
    · by_cases h0 : 0 < xs.length
      · have := rd_mid hrd (i * 488) (min 488 (xs.length - i * 488)) (by have := (piecesN_lt hi).1; omega) h0
        simp only [Nat.zero_add] at this
        have e : (xs.drop (i * 488)).take (min 488 (xs.length - i * 488)) = (xs.drop (i * 488)).take 488 := by
          rw [List.take_eq_take_iff]; simp
        rw [e] at this
        exact this
      · obtain rfl : xs = [] := List.eq_nil_of_length_eq_zero (by omega)
        obtain rfl : i = 0 := by have := piecesN_lt hi; simp at this; omega
        exact ⟨some ⟨g, 0 * 488, none⟩, c - 0 * 488, by simp, by simp, by unfold maxLen; omega, by simp, by simp⟩

set_option maxHeartbeats 2000000 in
theorem pieces_any {B : List Nat} {w : World} {v : Value} {l : List ByteArray} (hr : RdT B w v l) (hl : l.length ≤ 255) (hsz : ∀ x ∈ l, x.size ≤ maxLen) :
    Calls Tryz.prog 42 #[v] w fun e w' => ∃ g bv, e = .returned (.slice (some ⟨g, 0, none⟩) (piecesN (layL l).length) (piecesN (layL l).length)) ∧ w.heap.size ≤ g ∧ w'.heap[g]? = some (.cells (pieR (piecesN (layL l).length) (layL l).length bv (piecesN (layL l).length)).toArray 82 (0, 0)) ∧ (∀ i, i < piecesN (layL l).length → Rd w' (.slice (bv i).a (bv i).n (bv i).d) (((layL l).drop (i * 488)).take 488)) ∧ Below w.heap.size w w' := by
  have cl := lay_any hr (by omega) hsz
  have hxl : (layL l).length ≤ 70000 := by have := lay_len l; omega
  generalize layL l = xs at *
  obtain ⟨a0, c0, rfl, _⟩ := hr
  clear hsz hl
  go_enter Tryz.func42, Tryz.ntmps42
  go_wp2_with fail
  refine cl.mono ?_
  rintro e1 w1 ⟨a, c, rfl, hO, hB1⟩
  clear cl
  obtain ⟨bv, hbv, hrd⟩ := cutB hO hxl
  have cb := blocksFor_any w1 xs.length hxl
  have hN := piecesN_le hxl
  have hpn := fun i => @piecesN_lt xs.length i
  have HR : Hid (∀ i, i < piecesN xs.length → Rd w1 (.slice (bv i).a (bv i).n (bv i).d) ((xs.drop (i * 488)).take 488)) := hrd
  clear hrd hO
  obtain ⟨N, hNN⟩ : ∃ N, piecesN xs.length = N := ⟨_, rfl⟩
  have HNN : Hid (piecesN xs.length = N) := hNN
  rw [hNN] at cb hN HR hbv hpn
  clear hNN
  have hmk := make_pcs w1 N (by omega)
  rw [made_pcs N xs.length bv] at hmk
  obtain ⟨L, hLL⟩ : ∃ L, xs.length = L := ⟨_, rfl⟩
  have HLL : Hid (xs.length = L) := hLL
  rw [hLL] at cb hbv hpn hxl hmk ⊢
  clear hLL
  obtain ⟨w2, hw2⟩ : ∃ w2, w1.alloc (.cells (pieR N L bv 0).toArray 82) = w2 := ⟨_, rfl⟩
  rw [hw2] at hmk
  have hB2 : Below w1.heap.size w1 w2 := by rw [← hw2]; exact (Below.refl _ w1).alloc (Nat.le_refl _) _
  have hg2 : w2.heap[w1.heap.size]? = some (.cells (pieR N L bv 0).toArray 82 (0, 0)) := by rw [← hw2]; exact heap_alloc_new w1 _
  have HG2 : Hid _ := hg2
  have hlt2 : w1.heap.size < w2.heap.size := (Array.getElem?_eq_some_iff.1 hg2).1
  clear hg2 hw2
  go_wp2_with fail
  refine cb.mono ?_
  rintro e2 X ⟨rfl, hX⟩
  subst X
  clear cb
  go_wp2
  go_loopw [5, 6, 7, 16] (fun _ _ _ t wr => ∃ i : Nat, i ≤ N ∧ t = .int .i64 i ∧ Hid (wr.heap[w1.heap.size]? = some (.cells (pieR N L bv i).toArray 82 (0, 0))) ∧ Below w1.heap.size w1 wr ∧ w1.heap.size < wr.heap.size) (fun _ _ _ t _ => N - (RowKit.intOf t).toNat)
  case atStart => exact ⟨0, Nat.zero_le _, rfl, HG2, hB2, hlt2⟩
  case round =>
    obtain ⟨i, hi, rfl, HG, hbr, hsr⟩ := hrel
    by_cases hil : i < N
    · have hiI : (i : Int) < N := by omega
      have hsl := hbv i hil
      have HPV : Hid (bv i = bv i) := rfl
      obtain ⟨PA, hPA⟩ : ∃ x, (bv i).a = x := ⟨_, rfl⟩
      obtain ⟨PN, hPN⟩ : ∃ x, (bv i).n = x := ⟨_, rfl⟩
      obtain ⟨PD, hPD⟩ : ∃ x, (bv i).d = x := ⟨_, rfl⟩
      rw [hPA, hPN, hPD] at hsl
      have hG1 := HG.out
      have hln := pieR_len N L bv i
      obtain ⟨v0, hv0⟩ : ∃ v, (pieR N L bv i)[i * 6]? = some v := ⟨_, List.getElem?_eq_getElem (by omega)⟩
      have c0 : wr.cell? ⟨w1.heap.size, i * 6, none⟩ = some v0 := by rw [cell_of_row _ _ _ _ _ (0, 0) hG1, List.getElem?_toArray]; exact hv0
      have f0 := frozen_of_row wr w1.heap.size (i * 6) _ _ hG1
      obtain ⟨v1, hv1⟩ : ∃ v, (pieR N L bv i)[i * 6 + 1]? = some v := ⟨_, List.getElem?_eq_getElem (by omega)⟩
      have c1 : wr.cell? ⟨w1.heap.size, i * 6 + 1, none⟩ = some v1 := by rw [cell_of_row _ _ _ _ _ (0, 0) hG1, List.getElem?_toArray]; exact hv1
      have f1 := frozen_of_row wr w1.heap.size (i * 6 + 1) _ _ hG1
      obtain ⟨v2, hv2⟩ : ∃ v, (pieR N L bv i)[i * 6 + 2]? = some v := ⟨_, List.getElem?_eq_getElem (by omega)⟩
      have c2 : wr.cell? ⟨w1.heap.size, i * 6 + 2, none⟩ = some v2 := by rw [cell_of_row _ _ _ _ _ (0, 0) hG1, List.getElem?_toArray]; exact hv2
      have f2 := frozen_of_row wr w1.heap.size (i * 6 + 2) _ _ hG1
      obtain ⟨v3, hv3⟩ : ∃ v, (pieR N L bv i)[i * 6 + 3]? = some v := ⟨_, List.getElem?_eq_getElem (by omega)⟩
      have c3 : wr.cell? ⟨w1.heap.size, i * 6 + 3, none⟩ = some v3 := by rw [cell_of_row _ _ _ _ _ (0, 0) hG1, List.getElem?_toArray]; exact hv3
      have f3 := frozen_of_row wr w1.heap.size (i * 6 + 3) _ _ hG1
      obtain ⟨v4, hv4⟩ : ∃ v, (pieR N L bv i)[i * 6 + 4]? = some v := ⟨_, List.getElem?_eq_getElem (by omega)⟩
      have c4 : wr.cell? ⟨w1.heap.size, i * 6 + 4, none⟩ = some v4 := by rw [cell_of_row _ _ _ _ _ (0, 0) hG1, List.getElem?_toArray]; exact hv4
      have f4 := frozen_of_row wr w1.heap.size (i * 6 + 4) _ _ hG1
      obtain ⟨v5, hv5⟩ : ∃ v, (pieR N L bv i)[i * 6 + 5]? = some v := ⟨_, List.getElem?_eq_getElem (by omega)⟩
      have c5 : wr.cell? ⟨w1.heap.size, i * 6 + 5, none⟩ = some v5 := by rw [cell_of_row _ _ _ _ _ (0, 0) hG1, List.getElem?_toArray]; exact hv5
      have f5 := frozen_of_row wr w1.heap.size (i * 6 + 5) _ _ hG1
      have hS0 := heap_setCell_same wr w1.heap.size (i * 6) _ _ (.int .u8 0) hG1
      have hS1 := heap_setCell_same _ w1.heap.size (i * 6 + 1) _ _ (.int .u64 0) hS0
      have hS2 := heap_setCell_same _ w1.heap.size (i * 6 + 2) _ _ (.int .u64 0) hS1
      have hS3 := heap_setCell_same _ w1.heap.size (i * 6 + 3) _ _ (.int .i64 (i : Int)) hS2
      have hS4 := heap_setCell_same _ w1.heap.size (i * 6 + 4) _ _ (.int .i64 (L : Int)) hS3
      have hS5 := heap_setCell_same _ w1.heap.size (i * 6 + 5) _ _ (.slice PA PN PD) hS4
      simp only [List.setIfInBounds_toArray] at hS5
      have hset := pieR_set N L bv i hil
      rw [hPA, hPN, hPD] at hset
      rw [hset] at hS5
      have HS : Hid _ := hS5
      have hb3 : Below w1.heap.size w1 ((((((wr.setCell ⟨w1.heap.size, i * 6, none⟩ (.int .u8 0)).setCell ⟨w1.heap.size, i * 6 + 1, none⟩ (.int .u64 0)).setCell ⟨w1.heap.size, i * 6 + 2, none⟩ (.int .u64 0)).setCell ⟨w1.heap.size, i * 6 + 3, none⟩ (.int .i64 (i : Int))).setCell ⟨w1.heap.size, i * 6 + 4, none⟩ (.int .i64 (L : Int))).setCell ⟨w1.heap.size, i * 6 + 5, none⟩ (.slice PA PN PD)) := ((((((hbr.setCell (p := ⟨w1.heap.size, i * 6, none⟩) (Nat.le_refl _) (.int .u8 0)).setCell (p := ⟨w1.heap.size, i * 6 + 1, none⟩) (Nat.le_refl _) (.int .u64 0)).setCell (p := ⟨w1.heap.size, i * 6 + 2, none⟩) (Nat.le_refl _) (.int .u64 0)).setCell (p := ⟨w1.heap.size, i * 6 + 3, none⟩) (Nat.le_refl _) (.int .i64 (i : Int))).setCell (p := ⟨w1.heap.size, i * 6 + 4, none⟩) (Nat.le_refl _) (.int .i64 (L : Int))).setCell (p := ⟨w1.heap.size, i * 6 + 5, none⟩) (Nat.le_refl _) (.slice PA PN PD))
      have hs3 : w1.heap.size < ((((((wr.setCell ⟨w1.heap.size, i * 6, none⟩ (.int .u8 0)).setCell ⟨w1.heap.size, i * 6 + 1, none⟩ (.int .u64 0)).setCell ⟨w1.heap.size, i * 6 + 2, none⟩ (.int .u64 0)).setCell ⟨w1.heap.size, i * 6 + 3, none⟩ (.int .i64 (i : Int))).setCell ⟨w1.heap.size, i * 6 + 4, none⟩ (.int .i64 (L : Int))).setCell ⟨w1.heap.size, i * 6 + 5, none⟩ (.slice PA PN PD)).heap.size := by simp [World.setCell]; omega
      clear hG1 hS0 hS1 hS2 hS3 hS4 hS5 hset hv0 hv1 hv2 hv3 hv4 hv5 hln HG hPA hPN hPD HPV hbv hpn HG2 hB2 hlt2
      go_wp2
      go_roundw
      case rel => exact ⟨i + 1, by omega, by go_num, HS, hb3, hs3⟩
      case measure => simp [RowKit.intOf]; omega
    · obtain rfl : i = N := by omega
      go_wp2
      go_ret
      rw [HNN.out, HLL.out]
      exact ⟨_, bv, rfl, hB1.size, HG.out, fun j hj => (HR.out j hj).below hbr, hB1.trans (hbr.mono hB1.size)⟩

end Go.Proofs.YtckcdmkgmbicfaaGreat
