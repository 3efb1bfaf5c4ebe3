/- The contracts of slices.IndexFunc and ContainsFunc with m.lacks. -/
import Derived.Test.YtljfdmjlilahjaaFMark
namespace Go.Proofs.Ytljfdmjlilahjaa
open Go.RowKit
set_option linter.unusedVariables false
set_option linter.unusedSimpArgs false
set_option maxRecDepth 4000

/-- Some number of the list is none of the map's blocks. -/
def anyOut (s : Fr) (l : List Int) : Bool := l.any (fun x => lacksB s x)

theorem any_next {s : Fr} {l : List Int} {k : Nat} {x : Int} (h : l[k]? = some x) : anyOut s (l.take (k + 1)) = (anyOut s (l.take k) || lacksB s x) := by
  unfold anyOut; rw [takeI_next h, List.any_append]; simp

theorem any_take {s : Fr} {l : List Int} {k : Nat} (h : anyOut s (l.take k) = true) : anyOut s l = true := by
  unfold anyOut at *
  rw [List.any_eq_true] at *
  obtain ⟨x, hx, hq⟩ := h
  exact ⟨x, List.mem_of_mem_take hx, hq⟩

set_option maxHeartbeats 2000000 in
theorem indexFunc_any {w : World} {p h : Nat} {s : Fr} (H : PAt w p h s) (hk : FrOk s) (v : Value) (l : List Int) (hr : RdI w v l) :
    Calls Try.prog 37 #[v, .func (.func 25) #[ptr p] #[]] w fun e w' => ∃ r : Int, e = .returned (.int .i64 r) ∧ (decide (0 ≤ r) = anyOut s l) ∧ Below w.heap.size w w' := by
  obtain ⟨a, lc, rfl, g1, g2, g3⟩ := hr
  unfold maxLen at g2
  have hlk := fun W (hW : Below w.heap.size w W) x => lacks_any (FrAt.below H hW) hk x
  have hnx := fun i x (hx : l[i]? = some x) => any_next (s := s) hx
  have htk := fun i => any_take (s := s) (l := l) (k := i)
  clear H hk
  unfold ptr at *
  go_enter Try.func37, Try.ntmps37
  go_wp2
  go_loopw [5, 8] (fun q t wr => ∃ i : Nat, i ≤ l.length ∧ t = .int .i64 i ∧ Hid (anyOut s (l.take i) = false) ∧ Below w.heap.size w wr) (fun _ t _ => l.length - (intOf t).toNat)
  case atStart => exact ⟨0, Nat.zero_le _, rfl, rfl, Below.refl _ _⟩
  case round =>
    obtain ⟨i, hi, rfl, HA, HB⟩ := hrel
    obtain ⟨wA, hA⟩ : ∃ wA, wA = wr := ⟨_, rfl⟩
    subst hA
    by_cases hlt : i < l.length
    · have hltI : (i : Int) < l.length := by omega
      obtain ⟨b, off, rfl, hb, hcs⟩ := g3 (by omega)
      have hx : l[i]? = some l[i] := List.getElem?_eq_getElem hlt
      have hcx := (HB.cell (p := ⟨b, off + i, none⟩) hb).trans (hcs i _ hx)
      have hl1 := hlk wA HB l[i]
      have hn1 := hnx i _ hx
      have ht1 := htk (i + 1)
      rw [HA.out, Bool.false_or] at hn1
      generalize l[i] = x at *
      clear hcs g3 hlk hnx htk hx
      go_wp2_with fail
      refine hl1.mono ?_
      clear hl1
      rintro e w5 ⟨rfl, hb5⟩
      have HB5 := HB.trans (hb5.mono HB.size)
      cases hd : lacksB s x with
      | true =>
        rw [hd] at hn1
        have HT : Hid (anyOut s l = true) := ht1 hn1
        clear ht1 hn1 hd
        go_wp2
        go_ret
        exact ⟨_, rfl, by rw [HT.out]; simp, HB5⟩
      | false =>
        rw [hd] at hn1
        have HT : Hid (anyOut s (l.take (i + 1)) = false) := hn1
        clear ht1 hn1 hd
        go_wp2_with fail
        go_roundw
        case rel => exact ⟨i + 1, by omega, by go_num, HT, HB5⟩
        case measure => simp [intOf]; omega
    · have hltI : ¬ (i : Int) < l.length := by omega
      have HT : Hid (anyOut s l = false) := by have := HA.out; rwa [List.take_of_length_le (by omega)] at this
      clear g3 hlk hnx htk
      go_wp2
      go_ret
      exact ⟨_, rfl, by rw [HT.out]; decide, HB⟩

theorem containsFunc_any {w : World} {p h : Nat} {s : Fr} (H : PAt w p h s) (hk : FrOk s) (v : Value) (l : List Int) (hr : RdI w v l) :
    Calls Try.prog 24 #[v, .func (.func 25) #[ptr p] #[]] w fun e w' => e = .returned (.bool (anyOut s l)) ∧ Below w.heap.size w w' := by
  have hl := indexFunc_any H hk v l hr
  unfold ptr at *
  go_enter Try.func24, Try.ntmps24
  go_wp2_with fail
  refine hl.mono ?_
  rintro e w1 ⟨r, rfl, h1, h2⟩
  have HT : Hid (decide (0 ≤ r) = anyOut s l) := h1
  clear h1 hl
  go_wp2
  go_ret
  exact ⟨by rw [← HT.out]; rfl, h2⟩

end Go.Proofs.Ytljfdmjlilahjaa
