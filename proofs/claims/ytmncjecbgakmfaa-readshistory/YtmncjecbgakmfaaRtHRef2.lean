/- The contract of the document's Meets. -/
import Derived.Test.YtmncjecbgakmfaaRtHRef
namespace Go.Proofs.Ytmncjecbgakmfaa
open Go.RowKit
set_option linter.unusedVariables false
set_option linter.unusedSimpArgs false
set_option maxRecDepth 100000

/-- Whether what was written above a version, by one, is met. -/
def oneM (since : Int) (rd : List Tc) (d : Wa) : Bool := decide (since < d.ver) && meetsD d.l rd

set_option maxHeartbeats 16000000 in
theorem rmeets_any {w : World} (ax : Option Addr) (nx cx : Nat) (X : List Wa) (hX : RdZ 2 waE w (.slice ax nx cx) X) (hin' : WasIn w X) (hnx : nx ≤ 1000) (since : Int) (a : Option Addr) (n c : Nat) (rd : List Tc) (hr : RdZ 5 tcE w (.slice a n c) rd) (hn : n ≤ 100) :
    Calls Try.prog 23 #[.slice ax nx cx, .int .u64 since, .slice a n c] w fun e w' => e = .returned (.bool (meetsV (X.map Wa.plain) since rd)) ∧ Below w.heap.size w w' := by
  obtain ⟨hlx, _, _⟩ := hX.len
  obtain ⟨hl, _, _⟩ := hr.len
  have HX : Hid (RdZ 2 waE w (.slice ax nx cx) X) := hX
  have HI : Hid (WasIn w X) := hin'
  have HR : Hid (RdZ 5 tcE w (.slice a n c) rd) := hr
  have HL : Hid (rd.length = n ∧ X.length = nx) := ⟨hl, hlx⟩
  obtain ⟨F, hF⟩ : ∃ F, meetsV (X.map Wa.plain) since rd = F := ⟨_, rfl⟩
  rw [hF]
  have HF : Hid (X.any (oneM since rd) = F) := by unfold Hid; rw [← hF, meetsV, List.any_map]; rfl
  clear hX hr hlx hl hF hin'
  go_enter Try.func23, Try.ntmps23
  go_wp2
  go_loopg [15] nx (fun kx s15 wr => ∃ i : Nat, s15 = .int .i64 i ∧ i ≤ nx ∧ nx - i ≤ kx ∧ Hid (Below w.heap.size w wr) ∧ Hid (∀ d ∈ X.take i, oneM since rd d = false))
  case atStart => exact ⟨0, rfl, Nat.zero_le _, by omega, Below.refl _ _, by simp [Hid]⟩
  case round =>
    obtain ⟨i, rfl, hin, hkx, HW, HQ⟩ := hrel
    by_cases hlt : i < nx
    · obtain ⟨⟨ver, ay, ny, cy, ly⟩, hy⟩ : ∃ y, X[i]? = some y := ⟨_, List.getElem?_eq_getElem (by have := HL.out; omega)⟩
      have HY : Hid (X[i]? = some ⟨ver, ay, ny, cy, ly⟩) := hy
      obtain ⟨hry, hny⟩ := HI.out _ (List.mem_of_getElem? hy)
      dsimp only at hry hny
      obtain ⟨hly, _, _⟩ := hry.len
      obtain ⟨b0, o0, rfl, hld⟩ := wa_load (HX.out.below HW.out) hy
      dsimp only at hld
      have HLD : Hid _ := hld
      have hiI : (i : Int) < (nx : Int) := by omega
      have hib : (i : Int) + 1 ≤ 1001 := by omega
      have hbl := bel1 wr (.cells #[.int .u64 ver, .slice ay ny cy] 49)
      obtain ⟨w5, hw5⟩ : ∃ w5, wr.alloc (.cells #[.int .u64 ver, .slice ay ny cy] 49) = w5 := ⟨_, rfl⟩
      have hrow : w5.heap[wr.heap.size]? = some (.cells #[.int .u64 ver, .slice ay ny cy] 49 (0, 0)) := by rw [← hw5]; exact heap_alloc_new wr _
      have c1 : w5.cell? ⟨wr.heap.size, 1, none⟩ = some (.slice ay ny cy) := by rw [cell_of_row _ _ _ _ _ (0, 0) hrow]; rfl
      have HC0 : Hid (w5.cell? ⟨wr.heap.size, 0, none⟩ = some (.int .u64 ver) ∧ wr.heap.size < w5.heap.size) := ⟨by rw [cell_of_row _ _ _ _ _ (0, 0) hrow]; rfl, (Array.getElem?_eq_some_iff.1 hrow).1⟩
      rw [hw5] at hbl
      have HW5 : Hid (Below w.heap.size w w5) := HW.out.trans (hbl.mono HW.out.size)
      have HRY : Hid (RdZ 5 tcE w (.slice ay ny cy) ly ∧ ly.length = ny) := ⟨hry, hly⟩
      have HK : Hid (i ≤ nx ∧ nx - i ≤ gk ∧ i < nx) := ⟨hin, hkx, hlt⟩
      clear hy hld hbl hrow hry hly hin hkx hlt
      go_wp2_with (first | (refine wpList_loadG rfl 49 _ rfl _ rfl _ HLD.out ?_))
      obtain ⟨q1, hq1⟩ : ∃ q, wr.heap.size = q := ⟨_, rfl⟩
      rw [hq1]
      rw [hq1] at HC0
      clear hq1 hw5 c1
      go_loopg [22] ny (fun kx s22 wq => ∃ j : Nat, s22 = .int .i64 j ∧ j ≤ ny ∧ ny - j ≤ kx ∧ Hid (Below w5.heap.size w5 wq) ∧ Hid (∀ x ∈ ly.take j, (decide (since < ver) && anyM rd x) = false))
      case atStart => exact ⟨0, rfl, Nat.zero_le _, by omega, Below.refl _ _, by simp [Hid]⟩
      case round =>
        obtain ⟨j, rfl, hjn, hjk, HW2, HQ2⟩ := hrel
        by_cases hjlt : j < ny
        · obtain ⟨x, hx⟩ : ∃ x, ly[j]? = some x := ⟨_, List.getElem?_eq_getElem (by have := HRY.out; omega)⟩
          have HXX : Hid (ly[j]? = some x) := hx
          have hrd2 := (HRY.out.1.below HW5.out).below HW2.out
          obtain ⟨b1, o1, rfl⟩ : ∃ b1 o1, ay = some ⟨b1, o1, none⟩ := by
            obtain ⟨b, off, e, _⟩ := tc_cells hrd2 hx
            exact ⟨b, off, e⟩
          have HLD2 : Hid _ := tc_load hrd2 hx
          have hjI : (j : Int) < (ny : Int) := by omega
          have hjb : (j : Int) + 1 ≤ 1001 := by omega
          have hbl2 := bel1 wr (.cells #[.int .i64 x.kind, .int .u32 x.ino, .string x.name, .int .i64 x.lo, .int .i64 x.hi] 24)
          obtain ⟨w7, hw7⟩ : ∃ w7, wr.alloc (.cells #[.int .i64 x.kind, .int .u32 x.ino, .string x.name, .int .i64 x.lo, .int .i64 x.hi] 24) = w7 := ⟨_, rfl⟩
          have ht7 : TcAt w7 wr.heap.size x := by rw [← hw7]; exact TcAt.laid wr x
          rw [hw7] at hbl2
          have HW7 : Hid (Below w5.heap.size w5 w7) := thenB HW2.out hbl2
          have HT7 : Hid (TcAt w7 wr.heap.size x) := ht7
          have HK2 : Hid (j ≤ ny ∧ ny - j ≤ gk ∧ j < ny) := ⟨hjn, hjk, hjlt⟩
          clear hx hrd2 hbl2 ht7 hjn hjk hjlt
          go_wp2_with (first | (refine wpList_loadG rfl 24 _ rfl _ rfl _ HLD2.out ?_))
          obtain ⟨q2, hq2⟩ : ∃ q, wr.heap.size = q := ⟨_, rfl⟩
          rw [hq2]
          rw [hq2] at HT7
          clear hq2 hw7
          go_loopg [28] n (fun kx s28 wp => ∃ k : Nat, s28 = .int .i64 k ∧ k ≤ n ∧ n - k ≤ kx ∧ Hid (Below w7.heap.size w7 wp) ∧ Hid (∀ r ∈ rd.take k, (decide (since < ver) && meetB r x) = false))
          case atStart => exact ⟨0, rfl, Nat.zero_le _, by omega, Below.refl _ _, by simp [Hid]⟩
          case round =>
            obtain ⟨k, rfl, hkn, hkk, HW3, HQ3⟩ := hrel
            have HWW : Hid (Below w.heap.size w wr) := HW5.out.trans ((HW7.out.trans (HW3.out.mono HW7.out.size)).mono HW5.out.size)
            by_cases hklt : k < n
            · obtain ⟨r, hr⟩ : ∃ r, rd[k]? = some r := ⟨_, List.getElem?_eq_getElem (by have := HL.out; omega)⟩
              have HRX : Hid (rd[k]? = some r) := hr
              have hrd3 := HR.out.below HWW.out
              obtain ⟨b2, o2, rfl⟩ : ∃ b2 o2, a = some ⟨b2, o2, none⟩ := by
                obtain ⟨b, off, e, _⟩ := tc_cells hrd3 hr
                exact ⟨b, off, e⟩
              have HLD3 : Hid _ := tc_load hrd3 hr
              have hkI : (k : Int) < (n : Int) := by omega
              have hkb : (k : Int) + 1 ≤ 1001 := by omega
              have hbl3 := bel1 wr (.cells #[.int .i64 r.kind, .int .u32 r.ino, .string r.name, .int .i64 r.lo, .int .i64 r.hi] 24)
              obtain ⟨w9, hw9⟩ : ∃ w9, wr.alloc (.cells #[.int .i64 r.kind, .int .u32 r.ino, .string r.name, .int .i64 r.lo, .int .i64 r.hi] 24) = w9 := ⟨_, rfl⟩
              have ht9 : TcAt w9 wr.heap.size r := by rw [← hw9]; exact TcAt.laid wr r
              rw [hw9] at hbl3
              have HW9 : Hid (Below w7.heap.size w7 w9) := thenB HW3.out hbl3
              have HL9 : Hid _ := ht9.load
              have HL7 : Hid _ := (HT7.out.below HW9.out).load
              have c0 : w9.cell? ⟨q1, 0, none⟩ = some (.int .u64 ver) := by
                have h79 := thenB HW7.out HW9.out
                exact (h79.cell (p := ⟨q1, 0, none⟩) HC0.out.2).trans HC0.out.1
              have HW9w : Hid (Below w.heap.size w w9) := HWW.out.trans (hbl3.mono HWW.out.size)
              have HK3 : Hid (k ≤ n ∧ n - k ≤ gk ∧ k < n) := ⟨hkn, hkk, hklt⟩
              clear hr hrd3 hbl3 ht9 hkn hkk hklt
              by_cases hsv : since < ver
              · have hm := rmeet_any w9 r x
                have hgt : ver > since := hsv
                cases hq : meetB r x with
                | true =>
                  rw [hq] at hm
                  go_wp2_with (first | (refine wpList_loadG rfl 24 _ rfl _ rfl _ HLD3.out ?_) | (refine wpList_loadG rfl 24 _ rfl _ rfl _ HL9.out ?_) | (refine wpList_loadG rfl 24 _ rfl _ rfl _ HL7.out ?_))
                  refine hm.mono ?_
                  rintro e w10 ⟨rfl, hb10⟩
                  have HB10 : Hid (Below w.heap.size w w10) := HW9w.out.trans (hb10.mono HW9w.out.size)
                  clear hb10 hm
                  go_wp2
                  go_ret
                  refine ⟨?_, HB10.out⟩
                  have h1 : anyM rd x = true := List.any_eq_true.2 ⟨r, List.mem_of_getElem? HRX.out, hq⟩
                  have h2 : meetsD ly rd = true := List.any_eq_true.2 ⟨x, List.mem_of_getElem? HXX.out, h1⟩
                  have h3 : X.any (oneM since rd) = true := List.any_eq_true.2 ⟨_, List.mem_of_getElem? HY.out, by unfold oneM; dsimp only; rw [h2, decide_eq_true hsv]; rfl⟩
                  rw [← HF.out, h3]
                  rfl
                | false =>
                  rw [hq] at hm
                  go_wp2_with (first | (refine wpList_loadG rfl 24 _ rfl _ rfl _ HLD3.out ?_) | (refine wpList_loadG rfl 24 _ rfl _ rfl _ HL9.out ?_) | (refine wpList_loadG rfl 24 _ rfl _ rfl _ HL7.out ?_))
                  refine hm.mono ?_
                  rintro e w10 ⟨rfl, hb10⟩
                  have HB10 : Hid (Below w7.heap.size w7 w10) := thenB HW9.out hb10
                  clear hb10 hm
                  go_wp2
                  go_roundg (n - (k + 1))
                  case measure => (have := HK3.out; omega)
                  case rel =>
                    refine ⟨k + 1, by rw [show ((k : Int) + 1) = ((k + 1 : Nat) : Int) by omega], by have := HK3.out; omega, by have := HK3.out; omega, HB10.out, fun z hz => ?_⟩
                    rw [take_next HRX.out] at hz
                    rcases List.mem_append.1 hz with hz | hz
                    · exact HQ3.out z hz
                    · rw [List.mem_singleton] at hz; rw [hz, hq, Bool.and_false]
              · have hle : ¬ ver > since := by omega
                go_wp2_with (first | (refine wpList_loadG rfl 24 _ rfl _ rfl _ HLD3.out ?_))
                go_roundg (n - (k + 1))
                case measure => (have := HK3.out; omega)
                case rel =>
                  refine ⟨k + 1, by rw [show ((k : Int) + 1) = ((k + 1 : Nat) : Int) by omega], by have := HK3.out; omega, by have := HK3.out; omega, HW9.out, fun z hz => ?_⟩
                  rw [decide_eq_false (by omega), Bool.false_and]
            · obtain rfl : n = k := by omega
              have HN : Hid ((decide (since < ver) && anyM rd x) = false) := by
                unfold Hid
                cases hd : decide (since < ver) with
                | false => rfl
                | true =>
                  rw [Bool.true_and]
                  unfold anyM
                  rw [List.any_eq_false]
                  intro r hr
                  have := HQ3.out r (by rw [List.take_of_length_le (by have := HL.out; omega)]; exact hr)
                  rw [hd, Bool.true_and] at this
                  rw [this]; simp
              have HB3 : Hid (Below w5.heap.size w5 wr) := thenB HW7.out HW3.out
              clear HQ3 hkn hkk hklt
              go_wp2
              go_roundg (ny - (j + 1))
              case measure => (have := HK2.out; omega)
              case rel =>
                refine ⟨j + 1, by rw [show ((j : Int) + 1) = ((j + 1 : Nat) : Int) by omega], by have := HK2.out; omega, by have := HK2.out; omega, HB3.out, fun z hz => ?_⟩
                rw [take_next HXX.out] at hz
                rcases List.mem_append.1 hz with hz | hz
                · exact HQ2.out z hz
                · rw [List.mem_singleton] at hz; rw [hz]; exact HN.out
        · obtain rfl : ny = j := by omega
          have HN : Hid (oneM since rd ⟨ver, ay, ny, cy, ly⟩ = false) := by
            unfold Hid oneM
            dsimp only
            cases hd : decide (since < ver) with
            | false => rfl
            | true =>
              rw [Bool.true_and]
              unfold meetsD
              rw [List.any_eq_false]
              intro z hz
              have := HQ2.out z (by rw [List.take_of_length_le (by have := HRY.out; omega)]; exact hz)
              rw [hd, Bool.true_and] at this
              rw [this]; simp
          have HB2 : Hid (Below w.heap.size w wr) := HW5.out.trans (HW2.out.mono HW5.out.size)
          clear HQ2 hjn hjk hjlt
          go_wp2
          go_roundg (nx - (i + 1))
          case measure => (have := HK.out; omega)
          case rel =>
            refine ⟨i + 1, by rw [show ((i : Int) + 1) = ((i + 1 : Nat) : Int) by omega], by have := HK.out; omega, by have := HK.out; omega, HB2.out, fun z hz => ?_⟩
            rw [take_next HY.out] at hz
            rcases List.mem_append.1 hz with hz | hz
            · exact HQ.out z hz
            · rw [List.mem_singleton] at hz; rw [hz]; exact HN.out
    · obtain rfl : nx = i := by omega
      have hno : F = false := by
        rw [← HF.out, List.any_eq_false]
        intro y hy
        have := HQ.out y (by rw [List.take_of_length_le (by have := HL.out; omega)]; exact hy)
        rw [this]; simp
      go_wp2
      go_ret
      exact ⟨by rw [hno]; rfl, HW.out⟩

end Go.Proofs.Ytmncjecbgakmfaa
