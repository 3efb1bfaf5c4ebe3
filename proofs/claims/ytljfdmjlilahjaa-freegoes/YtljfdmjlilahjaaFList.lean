/- The contract of the law's list: two lists that are the same; the first one is written over. -/
import Derived.Test.YtljfdmjlilahjaaFLive
namespace Go.Proofs.Ytljfdmjlilahjaa
open Go.RowKit
set_option linter.unusedVariables false
set_option linter.unusedSimpArgs false
set_option maxRecDepth 4000

set_option maxHeartbeats 2000000 in
theorem list_any {w : World} {base b2 : Nat} {u v : Value} {l : List Nat} (ha : w.ownsRow base 3 1 u l.length (natC l)) (hb : w.ownsRow b2 3 1 v l.length (natC l)) (hne : ∀ q, u.ownBlock = some q → v.ownBlock ≠ some q) :
    Calls Try.prog 32 #[u, v] w fun e w' => e = .returned (.bool true) ∧ Below base w w' := by
  rcases Nat.eq_zero_or_pos l.length with h0 | hp
  · obtain ⟨a, c, rfl⟩ := rowI_slice ha
    obtain ⟨a', c', rfl⟩ := rowI_slice hb
    rw [h0]
    clear ha hb hne
    go_enter Try.func32, Try.ntmps32
    go_wp2
    go_loop [5, 13] (fun q t => t = .int .i64 0) (fun _ _ => 0)
    case atStart => rfl
    case round =>
      subst hrel
      go_wp2
      go_ret
      exact ⟨rfl, Below.refl _ _⟩
  · obtain ⟨g, c, rfl, hg1, hg2, hg3⟩ := natC_at ha hp
    obtain ⟨g', c', rfl, hg1', hg2', hg3'⟩ := natC_at hb hp
    have hgg : g ≠ g' := fun e => hne g rfl (by rw [e]; rfl)
    have hfr : ∀ i, i < l.length → w.frozen? ⟨g, i, none⟩ = false := fun i hi => by
      rcases ha.2 with ⟨e, _⟩ | ⟨q, cap, cur, e, _, hq, _⟩
      · cases e
      · simp only [Value.slice.injEq, Option.some.injEq, Addr.mk.injEq] at e
        obtain ⟨⟨rfl, _, _⟩, _, _⟩ := e
        exact frozen_of_row w g i _ 3 hq
    have hlm : l.length ≤ 9223372036854775807 := by
      rcases ha.2 with ⟨e, _⟩ | ⟨q, cap, cur, e, _, _, h1, h2, _⟩
      · cases e
      · unfold maxLen at h2; omega
    clear ha hb hne
    generalize hn : l.length = n at *
    go_enter Try.func32, Try.ntmps32
    go_wp2
    go_loopw [5, 13] (fun q t wr => ∃ i : Nat, i ≤ n ∧ t = .int .i64 i ∧ Hid (∀ j, i ≤ j → j < n → wr.cell? ⟨g, j, none⟩ = w.cell? ⟨g, j, none⟩) ∧ Hid (∀ j, wr.cell? ⟨g', j, none⟩ = w.cell? ⟨g', j, none⟩) ∧ Hid (∀ j, wr.frozen? ⟨g, j, none⟩ = w.frozen? ⟨g, j, none⟩) ∧ Below base w wr) (fun _ t _ => n - (intOf t).toNat)
    case atStart => exact ⟨0, Nat.zero_le _, rfl, fun _ _ _ => rfl, fun _ => rfl, fun _ => rfl, Below.refl _ _⟩
    case round =>
      obtain ⟨i, hi, rfl, HA, HB, HC, HD⟩ := hrel
      by_cases hlt : i < n
      · have hltI : (i : Int) < n := by omega
        have hx : l[i]? = some l[i] := List.getElem?_eq_getElem (by omega)
        have xa := (HA.out i (Nat.le_refl _) hlt).trans (hg3 i _ hx)
        have xb := (HB.out i).trans (hg3' i _ hx)
        have xf := (HC.out i).trans (hfr i hlt)
        generalize l[i] = x at *
        clear hg3 hg3' hfr hx
        go_wp2_with fail
        go_quiet (fail)
        go_wp2_with fail
        go_roundw
        case rel => exact ⟨i + 1, by omega, by go_num, fun j h1 h2 => (World.cell?_setCell_other _ _ _ _ (by intro e; simp only [Addr.mk.injEq] at e; omega)).trans (HA.out j (by omega) h2), fun j => (World.cell?_setCell_other _ _ _ _ (by intro e; simp only [Addr.mk.injEq] at e; exact hgg e.1)).trans (HB.out j), fun j => by rw [World.frozen?_setCell]; exact HC.out j, (HD.trans (belowQ _ _ _)).setCell (p := ⟨g, i, none⟩) hg1 _⟩
        case measure => simp [intOf]; omega
      · have hltI : ¬ (i : Int) < n := by omega
        clear hg3 hg3' hfr
        go_wp2
        go_ret
        exact ⟨rfl, HD⟩

end Go.Proofs.Ytljfdmjlilahjaa
