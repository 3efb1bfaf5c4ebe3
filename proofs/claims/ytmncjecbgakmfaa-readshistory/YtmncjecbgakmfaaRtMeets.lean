/- The contracts of slices.ContainsFunc at touches, deed.meets. -/
import Derived.Test.YtmncjecbgakmfaaRtBeh
namespace Go.Proofs.Ytmncjecbgakmfaa
open Go.RowKit
set_option linter.unusedVariables false
set_option linter.unusedSimpArgs false
set_option maxRecDepth 100000

/-- Whether some of what was read meets one that was written. -/
def anyM (rd : List Tc) (x : Tc) : Bool := rd.any (fun r => meetB r x)
/-- Whether some of what was read meets some of what was written. -/
def meetsD (l rd : List Tc) : Bool := l.any (anyM rd)

set_option maxHeartbeats 1000000 in
theorem meets1_any {w : World} {q : Nat} {x : Tc} (h : TcAt w q x) (r : Tc) : Calls Try.prog 39 #[.agg (tcC r), .pointer (some ⟨q, 0, none⟩)] w fun e w' => e = .returned (.bool (meetB r x)) ∧ Below w.heap.size w w' := by
  have hb1 := bel1 w (.cells (tcC r) 24)
  have h1 := h.below hb1
  have hr1 := TcAt.laid w r
  obtain ⟨w1, hw1⟩ : ∃ w1, w.alloc (.cells (tcC r) 24) = w1 := ⟨_, rfl⟩
  rw [hw1] at hb1 h1 hr1
  have L1 : Hid _ := hr1.load
  have L2 : Hid _ := h1.load
  clear h h1 hr1
  go_enter Try.func39, Try.ntmps39
  go_wp2_with (first | (refine wpList_loadG rfl 24 _ rfl _ rfl _ L1.out ?_) | (refine wpList_loadG rfl 24 _ rfl _ rfl _ L2.out ?_))
  refine (meet_any w1 r x).mono ?_
  rintro e w2 ⟨rfl, hb2⟩
  go_wp2
  go_ret
  exact ⟨rfl, thenB hb1 hb2⟩

set_option maxHeartbeats 2000000 in
theorem index_any {w : World} {q : Nat} {x : Tc} (h : TcAt w q x) (a : Option Addr) (n c : Nat) (l : List Tc) (hr : RdZ 5 tcE w (.slice a n c) l) (hn : n ≤ 1000000) :
    Calls Try.prog 40 #[.slice a n c, .func (.func 39) #[] #[.pointer (some ⟨q, 0, none⟩)]] w fun e w' => ∃ r : Int, e = .returned (.int .i64 r) ∧ decide (0 ≤ r) = anyM l x ∧ Below w.heap.size w w' := by
  obtain ⟨hl, hnc, hcm⟩ := hr.len
  have HR : Hid (RdZ 5 tcE w (.slice a n c) l) := hr
  have HL : Hid (l.length = n) := hl
  have HT : Hid (TcAt w q x) := h
  obtain ⟨F, hF⟩ : ∃ F, anyM l x = F := ⟨_, rfl⟩
  rw [hF]
  have HF : Hid (anyM l x = F) := hF
  clear hr hl hnc hcm h hF
  go_enter Try.func40, Try.ntmps40
  go_wp2
  go_loopg [8] n (fun kx s8 wr => ∃ i : Nat, s8 = .int .i64 i ∧ i ≤ n ∧ n - i ≤ kx ∧ Hid (Below w.heap.size w wr) ∧ Hid (∀ y ∈ l.take i, meetB y x = false))
  case atStart => exact ⟨0, rfl, Nat.zero_le _, by omega, Below.refl _ _, by simp [Hid]⟩
  case round =>
    obtain ⟨i, rfl, hin, hkx, HW, HQ⟩ := hrel
    by_cases hlt : i < n
    · obtain ⟨y, hy⟩ : ∃ y, l[i]? = some y := ⟨_, List.getElem?_eq_getElem (by have := HL.out; omega)⟩
      have HY : Hid (l[i]? = some y) := hy
      have hrd := HR.out.below HW.out
      obtain ⟨b0, o0, rfl⟩ : ∃ b0 o0, a = some ⟨b0, o0, none⟩ := by
        obtain ⟨b, off, e, _⟩ := tc_cells hrd hy
        exact ⟨b, off, e⟩
      have HLD : Hid _ := tc_load hrd hy
      have hiI : (i : Int) < (n : Int) := by omega
      have hib : (i : Int) + 1 ≤ 1000001 := by omega
      have hm := meets1_any (HT.out.below HW.out) y
      clear hy hrd
      cases hq : meetB y x with
      | true =>
        rw [hq] at hm
        go_wp2_with (first | (refine wpList_loadG rfl 24 _ rfl _ rfl _ HLD.out ?_))
        refine hm.mono ?_
        rintro e w2 ⟨rfl, hb2⟩
        have HB2 : Hid (Below w.heap.size w w2) := HW.out.trans (hb2.mono HW.out.size)
        clear hb2 hm
        go_wp2
        go_ret
        refine ⟨(i : Int), rfl, ?_, HB2.out⟩
        rw [← HF.out]
        unfold anyM
        rw [List.any_eq_true.2 ⟨y, List.mem_of_getElem? HY.out, hq⟩]
        exact decide_eq_true (by omega)
      | false =>
        rw [hq] at hm
        go_wp2_with (first | (refine wpList_loadG rfl 24 _ rfl _ rfl _ HLD.out ?_))
        refine hm.mono ?_
        rintro e w2 ⟨rfl, hb2⟩
        have HB2 : Hid (Below w.heap.size w w2) := HW.out.trans (hb2.mono HW.out.size)
        clear hb2 hm
        go_wp2
        go_roundg (n - (i + 1))
        case measure => omega
        case rel =>
          refine ⟨i + 1, by rw [show ((i : Int) + 1) = ((i + 1 : Nat) : Int) by omega], by omega, by omega, HB2.out, fun z hz => ?_⟩
          rw [take_next HY.out] at hz
          rcases List.mem_append.1 hz with hz | hz
          · exact HQ.out z hz
          · rw [List.mem_singleton] at hz; rw [hz]; exact hq
    · obtain rfl : n = i := by omega
      have hno : F = false := by
        rw [← HF.out]
        unfold anyM
        rw [List.any_eq_false]
        intro y hy
        have := HQ.out y (by rw [List.take_of_length_le (by have := HL.out; omega)]; exact hy)
        rw [this]; simp
      go_wp2
      go_ret
      exact ⟨-1, rfl, by rw [hno]; rfl, HW.out⟩

set_option maxHeartbeats 1000000 in
theorem contains_any {w : World} {q : Nat} {x : Tc} (h : TcAt w q x) (a : Option Addr) (n c : Nat) (l : List Tc) (hr : RdZ 5 tcE w (.slice a n c) l) (hn : n ≤ 1000000) :
    Calls Try.prog 38 #[.slice a n c, .func (.func 39) #[] #[.pointer (some ⟨q, 0, none⟩)]] w fun e w' => e = .returned (.bool (anyM l x)) ∧ Below w.heap.size w w' := by
  have hi := index_any h a n c l hr hn
  clear h hr
  go_enter Try.func38, Try.ntmps38
  go_wp2_with fail
  refine hi.mono ?_
  rintro e w1 ⟨r, rfl, hd, hb1⟩
  have HD : Hid (decide (0 ≤ r) = anyM l x) := hd
  clear hd hi
  go_wp2
  go_ret
  exact ⟨by rw [← HD.out]; rfl, hb1⟩

set_option maxHeartbeats 4000000 in
theorem dmeets_any {w : World} (ver : Int) (ad : Option Addr) (nd cd : Nat) (l : List Tc) (hd : RdZ 5 tcE w (.slice ad nd cd) l) (hnd : nd ≤ 1000000) (a : Option Addr) (n c : Nat) (rd : List Tc) (hr : RdZ 5 tcE w (.slice a n c) rd) (hn : n ≤ 1000000) :
    Calls Try.prog 34 #[.agg #[.int .u64 ver, .slice ad nd cd], .slice a n c] w fun e w' => e = .returned (.bool (meetsD l rd)) ∧ Below w.heap.size w w' := by
  obtain ⟨hl, hnc, hcm⟩ := hd.len
  have hmf : ∀ (fn : Fn) (first cap : Array Value) (w : World), (Instr.makeFunc fn first cap).run Try.prog w = .ok (.func fn first cap) w := fun _ _ _ _ => rfl
  have hb0 := bel1 w (.cells #[.int .u64 ver, .slice ad nd cd] 69)
  obtain ⟨w0, hw0⟩ : ∃ w0, w.alloc (.cells #[.int .u64 ver, .slice ad nd cd] 69) = w0 := ⟨_, rfl⟩
  have c1 : w0.cell? ⟨w.heap.size, 1, none⟩ = some (.slice ad nd cd) := by rw [← hw0, cell_of_row _ _ _ _ _ (0, 0) (heap_alloc_new w _)]; rfl
  rw [hw0] at hb0
  have HB0 : Hid (Below w.heap.size w w0) := hb0
  have HD : Hid (RdZ 5 tcE w0 (.slice ad nd cd) l) := hd.below hb0
  have HR : Hid (RdZ 5 tcE w0 (.slice a n c) rd) := hr.below hb0
  have HL : Hid (l.length = nd) := hl
  obtain ⟨F, hF⟩ : ∃ F, meetsD l rd = F := ⟨_, rfl⟩
  rw [hF]
  have HF : Hid (meetsD l rd = F) := hF
  have HN : Hid (n ≤ 1000000) := hn
  clear hd hr hl hnc hcm hF hb0 hn
  go_enter Try.func34, Try.ntmps34
  go_wp2
  go_loopg [10] nd (fun kx s10 wr => ∃ i : Nat, s10 = .int .i64 i ∧ i ≤ nd ∧ nd - i ≤ kx ∧ Hid (Below w0.heap.size w0 wr) ∧ Hid (∀ y ∈ l.take i, anyM rd y = false))
  case atStart => exact ⟨0, rfl, Nat.zero_le _, by omega, Below.refl _ _, by simp [Hid]⟩
  case round =>
    obtain ⟨i, rfl, hin, hkx, HW, HQ⟩ := hrel
    by_cases hlt : i < nd
    · obtain ⟨y, hy⟩ : ∃ y, l[i]? = some y := ⟨_, List.getElem?_eq_getElem (by have := HL.out; omega)⟩
      have HY : Hid (l[i]? = some y) := hy
      have hrd := HD.out.below HW.out
      obtain ⟨b0, o0, rfl⟩ : ∃ b0 o0, ad = some ⟨b0, o0, none⟩ := by
        obtain ⟨b, off, e, _⟩ := tc_cells hrd hy
        exact ⟨b, off, e⟩
      have HLD : Hid _ := tc_load hrd hy
      have hiI : (i : Int) < (nd : Int) := by omega
      have hib : (i : Int) + 1 ≤ 1000001 := by omega
      have hbl := bel1 wr (.cells #[.int .i64 y.kind, .int .u32 y.ino, .string y.name, .int .i64 y.lo, .int .i64 y.hi] 24)
      obtain ⟨w5, hw5⟩ : ∃ w5, wr.alloc (.cells #[.int .i64 y.kind, .int .u32 y.ino, .string y.name, .int .i64 y.lo, .int .i64 y.hi] 24) = w5 := ⟨_, rfl⟩
      have ht5 : TcAt w5 wr.heap.size y := by rw [← hw5]; exact TcAt.laid wr y
      rw [hw5] at hbl
      have HW5 : Hid (Below w0.heap.size w0 w5) := thenB HW.out hbl
      have hcn := contains_any ht5 a n c rd (HR.out.below HW5.out) HN.out
      clear hy hrd hbl ht5
      cases hq : anyM rd y with
      | true =>
        rw [hq] at hcn
        go_wp2_with (first | (refine wpList_loadG rfl 24 _ rfl _ rfl _ HLD.out ?_))
        refine hcn.mono ?_
        rintro e w6 ⟨rfl, hb6⟩
        have HB6 : Hid (Below w.heap.size w w6) := HB0.out.trans ((thenB HW5.out hb6).mono HB0.out.size)
        clear hb6 hcn
        go_wp2
        go_ret
        refine ⟨?_, HB6.out⟩
        rw [← HF.out]
        unfold meetsD
        rw [List.any_eq_true.2 ⟨y, List.mem_of_getElem? HY.out, hq⟩]
        rfl
      | false =>
        rw [hq] at hcn
        go_wp2_with (first | (refine wpList_loadG rfl 24 _ rfl _ rfl _ HLD.out ?_))
        refine hcn.mono ?_
        rintro e w6 ⟨rfl, hb6⟩
        have HB6 : Hid (Below w0.heap.size w0 w6) := thenB HW5.out hb6
        clear hb6 hcn
        go_wp2
        go_roundg (nd - (i + 1))
        case measure => omega
        case rel =>
          refine ⟨i + 1, by rw [show ((i : Int) + 1) = ((i + 1 : Nat) : Int) by omega], by omega, by omega, HB6.out, fun z hz => ?_⟩
          rw [take_next HY.out] at hz
          rcases List.mem_append.1 hz with hz | hz
          · exact HQ.out z hz
          · rw [List.mem_singleton] at hz; rw [hz]; exact hq
    · obtain rfl : nd = i := by omega
      have hno : F = false := by
        rw [← HF.out]
        unfold meetsD
        rw [List.any_eq_false]
        intro y hy
        have := HQ.out y (by rw [List.take_of_length_le (by have := HL.out; omega)]; exact hy)
        rw [this]; simp
      go_wp2
      go_ret
      exact ⟨by rw [hno]; rfl, HB0.out.trans (HW.out.mono HB0.out.size)⟩

end Go.Proofs.Ytmncjecbgakmfaa
