/- Rows of names; the contracts of the document's Same, Under and Join. -/
import Derived.Test.YtfnoppnmilmglaaPhMath
import Derived.Deep.LoopGhost
import Derived.BigQuiet
import Derived.Deep.QuietTactic
import Derived.Deep.RegionHeld3
namespace Go.Proofs.Ytfnoppnmilmglaa
open Go.RowKit
set_option linter.unusedVariables false
set_option linter.unusedSimpArgs false
set_option maxRecDepth 100000

def strE (s : ByteArray) : List Value := [.string s]
theorem str_len (x : ByteArray) : (strE x).length = 1 := rfl
theorem str_one (x : ByteArray) : ∀ u ∈ strE x, u.oneCell' = true := fun u hu => by simp [strE] at hu; subst hu; rfl
theorem info_str : (Try.prog.info? 9).map (fun i => (i.zero, i.size, i.bytes)) = some (some (.string ⟨#[]⟩), 1, 16) := by kernel_rfl
theorem s_cell {w : World} {a : Option Addr} {n cap : Nat} {l : List ByteArray} (h : RdZ 1 strE w (.slice a n cap) l) {i : Nat} {x : ByteArray} (hx : l[i]? = some x) :
    ∃ b off, a = some ⟨b, off, none⟩ ∧ w.cell? ⟨b, off + i, none⟩ = some (.string x) := by
  obtain ⟨⟨a', c, e, h1, h2, h3⟩, _⟩ := h
  simp only [Value.slice.injEq] at e
  obtain ⟨rfl, rfl, rfl⟩ := e
  obtain ⟨b, off, rfl, hlt, hc⟩ := h3 (by intro e; subst e; simp at hx)
  have := hc i x 0 _ hx rfl
  rw [Nat.mul_one, Nat.add_zero] at this
  exact ⟨b, off, rfl, this⟩

theorem sameP_true : ∀ {a b : List ByteArray}, a.length ≤ b.length → (∀ (i : Nat) (x y : ByteArray), a[i]? = some x → b[i]? = some y → x.toList = y.toList) → sameP a b = true
  | [], _, _, _ => rfl
  | x :: a, [], h, _ => by simp at h
  | x :: a, y :: b, h, hq => by
    unfold sameP
    rw [Bool.and_eq_true, beq_iff_eq]
    exact ⟨hq 0 x y rfl rfl, sameP_true (by simpa using h) (fun i u v hu hv => hq (i + 1) u v (by simpa using hu) (by simpa using hv))⟩
theorem sameP_false : ∀ {a b : List ByteArray} {i : Nat} {x y : ByteArray}, a[i]? = some x → b[i]? = some y → x.toList ≠ y.toList → sameP a b = false
  | [], _, _, _, _, h, _, _ => by simp at h
  | x :: a, [], i, _, _, _, h, _ => by simp at h
  | u :: a, v :: b, 0, x, y, h1, h2, h3 => by
    simp at h1 h2
    subst h1 h2
    unfold sameP
    rw [beq_eq_false_iff_ne.2 h3, Bool.false_and]
  | u :: a, v :: b, i + 1, x, y, h1, h2, h3 => by
    unfold sameP
    rw [sameP_false (by simpa using h1) (by simpa using h2) h3, Bool.and_false]

set_option maxHeartbeats 4000000 in
theorem same_any {w : World} (a : Option Addr) (n c : Nat) (l : List ByteArray) (hl : RdZ 1 strE w (.slice a n c) l) (b : Option Addr) (m d : Nat) (r : List ByteArray) (hr : RdZ 1 strE w (.slice b m d) r) (hn : n ≤ 1000000) :
    Calls Try.prog 13 #[.slice a n c, .slice b m d] w fun e w' => e = .returned (.bool (sameL l r)) ∧ Below w.heap.size w w' := by
  obtain ⟨h1, _, _⟩ := hl.len
  obtain ⟨h2, _, _⟩ := hr.len
  have HL : Hid (RdZ 1 strE w (.slice a n c) l ∧ RdZ 1 strE w (.slice b m d) r ∧ l.length = n ∧ r.length = m) := ⟨hl, hr, h1, h2⟩
  obtain ⟨F, hF⟩ : ∃ F, sameL l r = F := ⟨_, rfl⟩
  rw [hF]
  have HF : Hid (sameL l r = F) := hF
  clear hl hr h1 h2 hF
  by_cases hnm : n = m
  · subst hnm
    go_enter Try.func13, Try.ntmps13
    go_wp2
    go_loopg [13] n (fun kx s13 wr => ∃ i : Nat, s13 = .int .i64 i ∧ i ≤ n ∧ n - i ≤ kx ∧ Hid (Below w.heap.size w wr) ∧ Hid (∀ (j : Nat) (x y : ByteArray), j < i → l[j]? = some x → r[j]? = some y → x.toList = y.toList))
    case atStart => exact ⟨0, rfl, Nat.zero_le _, by omega, Below.refl _ _, fun j x y hj => by omega⟩
    case round =>
      obtain ⟨i, rfl, hin, hkx, HW, HQ⟩ := hrel
      by_cases hlt : i < n
      · obtain ⟨x, hx⟩ : ∃ x, l[i]? = some x := ⟨_, List.getElem?_eq_getElem (by have := HL.out; omega)⟩
        obtain ⟨y, hy⟩ : ∃ y, r[i]? = some y := ⟨_, List.getElem?_eq_getElem (by have := HL.out; omega)⟩
        have HXY : Hid (l[i]? = some x ∧ r[i]? = some y) := ⟨hx, hy⟩
        obtain ⟨b0, o0, rfl, d0⟩ := s_cell (HL.out.1.below HW.out) hx
        obtain ⟨b1, o1, rfl, d1⟩ := s_cell (HL.out.2.1.below HW.out) hy
        have hiI : (i : Int) < (n : Int) := by omega
        have hib : (i : Int) + 1 ≤ 1000001 := by omega
        clear hx hy
        cases hq : (x.toList == y.toList) with
        | true =>
          have hq' : x.toList = y.toList := beq_iff_eq.1 hq
          have HQ' : Hid (x.toList = y.toList) := hq'
          clear hq'
          go_wp2
          go_quiet (fail)
          go_wp2
          go_roundg (n - (i + 1))
          case measure => omega
          case rel =>
            refine ⟨i + 1, by rw [show ((i : Int) + 1) = ((i + 1 : Nat) : Int) by omega], by omega, by omega, thenB HW.out (belowQ _ _ _), fun j u v hj hu hv => ?_⟩
            rcases Nat.lt_or_ge j i with h | h
            · exact HQ.out j u v h hu hv
            · obtain rfl : j = i := by omega
              rw [HXY.out.1] at hu
              rw [HXY.out.2] at hv
              cases hu; cases hv; exact HQ'.out
        | false =>
          have HQ' : Hid (x.toList ≠ y.toList) := fun e => by rw [e] at hq; simp at hq
          go_wp2
          go_quiet (fail)
          go_wp2
          go_ret
          refine ⟨?_, thenB HW.out (belowQ _ _ _)⟩
          rw [← HF.out, sameL, sameP_false HXY.out.1 HXY.out.2 HQ'.out, Bool.and_false]
          rfl
      · obtain rfl : n = i := by omega
        have hyes : F = true := by
          rw [← HF.out, sameL, decide_eq_true (by have := HL.out; omega), Bool.true_and]
          exact sameP_true (by have := HL.out; omega) (fun j x y hx hy => HQ.out j x y (by have := (List.getElem?_eq_some_iff.1 hx).1; have := HL.out; omega) hx hy)
        go_wp2
        go_ret
        exact ⟨by rw [hyes]; rfl, HW.out⟩
  · have hne : ¬ (n : Int) = (m : Int) := by omega
    have hno : F = false := by rw [← HF.out, sameL, decide_eq_false (by have := HL.out; omega), Bool.false_and]
    go_enter Try.func13, Try.ntmps13
    go_wp2
    go_ret
    exact ⟨by rw [hno]; rfl, Below.refl _ _⟩

set_option maxHeartbeats 4000000 in
theorem runder_any {w : World} (a : Option Addr) (n c : Nat) (l : List ByteArray) (hl : RdZ 1 strE w (.slice a n c) l) (b : Option Addr) (m d : Nat) (r : List ByteArray) (hr : RdZ 1 strE w (.slice b m d) r) (hn : n ≤ 1000000) :
    Calls Try.prog 17 #[.slice a n c, .slice b m d] w fun e w' => e = .returned (.bool (underB l r)) ∧ Below w.heap.size w w' := by
  obtain ⟨h1, _, _⟩ := hl.len
  obtain ⟨h2, _, _⟩ := hr.len
  have HL : Hid (RdZ 1 strE w (.slice a n c) l ∧ RdZ 1 strE w (.slice b m d) r ∧ l.length = n ∧ r.length = m) := ⟨hl, hr, h1, h2⟩
  obtain ⟨F, hF⟩ : ∃ F, underB l r = F := ⟨_, rfl⟩
  rw [hF]
  have HF : Hid (underB l r = F) := hF
  clear hl hr h1 h2 hF
  by_cases hnm : n < m
  · have hgt : ¬ (m : Int) ≤ (n : Int) := by omega
    go_enter Try.func17, Try.ntmps17
    go_wp2
    go_loopg [13] n (fun kx s13 wr => ∃ i : Nat, s13 = .int .i64 i ∧ i ≤ n ∧ n - i ≤ kx ∧ Hid (Below w.heap.size w wr) ∧ Hid (∀ (j : Nat) (x y : ByteArray), j < i → l[j]? = some x → r[j]? = some y → x.toList = y.toList))
    case atStart => exact ⟨0, rfl, Nat.zero_le _, by omega, Below.refl _ _, fun j x y hj => by omega⟩
    case round =>
      obtain ⟨i, rfl, hin, hkx, HW, HQ⟩ := hrel
      by_cases hlt : i < n
      · obtain ⟨x, hx⟩ : ∃ x, l[i]? = some x := ⟨_, List.getElem?_eq_getElem (by have := HL.out; omega)⟩
        obtain ⟨y, hy⟩ : ∃ y, r[i]? = some y := ⟨_, List.getElem?_eq_getElem (by have := HL.out; omega)⟩
        have HXY : Hid (l[i]? = some x ∧ r[i]? = some y) := ⟨hx, hy⟩
        obtain ⟨b0, o0, rfl, d0⟩ := s_cell (HL.out.1.below HW.out) hx
        obtain ⟨b1, o1, rfl, d1⟩ := s_cell (HL.out.2.1.below HW.out) hy
        have hiI : (i : Int) < (n : Int) := by omega
        have hiM : (i : Int) < (m : Int) := by omega
        have hib : (i : Int) + 1 ≤ 1000001 := by omega
        clear hx hy
        cases hq : (x.toList == y.toList) with
        | true =>
          have HQ' : Hid (x.toList = y.toList) := beq_iff_eq.1 hq
          go_wp2
          go_quiet (fail)
          go_wp2
          go_roundg (n - (i + 1))
          case measure => omega
          case rel =>
            refine ⟨i + 1, by rw [show ((i : Int) + 1) = ((i + 1 : Nat) : Int) by omega], by omega, by omega, thenB HW.out (belowQ _ _ _), fun j u v hj hu hv => ?_⟩
            rcases Nat.lt_or_ge j i with h | h
            · exact HQ.out j u v h hu hv
            · obtain rfl : j = i := by omega
              rw [HXY.out.1] at hu
              rw [HXY.out.2] at hv
              cases hu; cases hv; exact HQ'.out
        | false =>
          have HQ' : Hid (x.toList ≠ y.toList) := fun e => by rw [e] at hq; simp at hq
          go_wp2
          go_quiet (fail)
          go_wp2
          go_ret
          refine ⟨?_, thenB HW.out (belowQ _ _ _)⟩
          rw [← HF.out, underB, sameP_false HXY.out.1 HXY.out.2 HQ'.out, Bool.and_false]
          rfl
      · obtain rfl : n = i := by omega
        have hyes : F = true := by
          rw [← HF.out, underB, decide_eq_true (by have := HL.out; omega), Bool.true_and]
          exact sameP_true (by have := HL.out; omega) (fun j x y hx hy => HQ.out j x y (by have := (List.getElem?_eq_some_iff.1 hx).1; have := HL.out; omega) hx hy)
        go_wp2
        go_ret
        exact ⟨by rw [hyes]; rfl, HW.out⟩
  · have hle : (m : Int) ≤ (n : Int) := by omega
    have hno : F = false := by rw [← HF.out, underB, decide_eq_false (by have := HL.out; omega), Bool.false_and]
    go_enter Try.func17, Try.ntmps17
    go_wp2
    go_ret
    exact ⟨by rw [hno]; rfl, Below.refl _ _⟩

end Go.Proofs.Ytfnoppnmilmglaa
