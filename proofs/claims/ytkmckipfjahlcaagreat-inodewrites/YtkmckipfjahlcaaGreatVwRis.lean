/- Whether pairs may be a base. -/
import Derived.Test.YtkmckipfjahlcaaGreatVwStore
import Derived.Test.YtkmckipfjahlcaaGreatP3
namespace Go.Proofs.YtkmckipfjahlcaaGreat
open Go.RowKit
set_option linter.unusedVariables false
set_option linter.unusedSimpArgs false
set_option maxRecDepth 100000

def kv0 : ByteArray × ByteArray := (⟨#[]⟩, ⟨#[]⟩)
/-- Keys that rise, each above the one ahead of it. -/
def Adj (l : List (ByteArray × ByteArray)) (n : Nat) : Prop := ∀ j p q, j + 1 < n → l[j]? = some p → l[j + 1]? = some q → ltS p.1 q.1 = true

theorem ltS_trans {a b c : ByteArray} (h1 : ltS a b = true) (h2 : ltS b c = true) : ltS a c = true := by
  have e1 : cmpS a b = -1 := by unfold cmpS; exact if_pos h1
  have e2 : cmpS b c = -1 := by unfold cmpS; exact if_pos h2
  have e3 : cmpS a c = -1 := by
    rw [cmpS_cmpL] at e1 e2 ⊢
    exact cmpL_trans _ _ _ e1 e2
  unfold cmpS at e3
  split at e3
  · assumption
  · split at e3 <;> cases e3
/-- Pairs whose keys rise. -/
def RisK (l : List (ByteArray × ByteArray)) : Prop := l.Pairwise fun p q => ltS p.1 q.1 = true
theorem risK_of {l : List (ByteArray × ByteArray)} (h : Adj l l.length) : RisK l := by
  refine List.pairwise_iff_getElem.2 fun i j hi hj hij => ?_
  obtain ⟨d, rfl⟩ : ∃ d, j = i + 1 + d := ⟨j - i - 1, by omega⟩
  clear hij
  induction d with
  | zero => exact h i _ _ hj (List.getElem?_eq_getElem hi) (List.getElem?_eq_getElem hj)
  | succ d ih => exact ltS_trans (ih (by omega)) (h (i + 1 + d) _ _ (by omega) (List.getElem?_eq_getElem (by omega)) (List.getElem?_eq_getElem hj))

structure RisV (l : List (ByteArray × ByteArray)) (v : Value) : Prop where
  has : ∃ b, v = .bool b ∧ (b = true → RisK l ∧ l.length ≤ 300)

set_option maxHeartbeats 4000000 in
theorem rising_any (w : World) (a : Option Addr) (n cap : Nat) (l : List (ByteArray × ByteArray)) (h : RdK w a n cap l) : Calls Tryz.prog 9 #[.slice a n cap] w fun e w' =>
    ∃ v, e = .returned v ∧ RisV l v ∧ Below w.heap.size w w' := by
  obtain ⟨hl, hnc, hcm, hI⟩ := h
  unfold maxLen at hcm
  have HL : Hid (l.length = n) := hl
  go_enter Tryz.func9, Tryz.ntmps9
  go_wp2_with fail
  go_loopw [3, 6] (fun _ t wr => ∃ (i : Nat), i ≤ n ∧ t = .int .i64 i ∧ Hid (Adj l i) ∧ Hid (Below w.heap.size w wr)) (fun _ t _ => n - (intOf t).toNat)
  case atStart => exact ⟨0, Nat.zero_le _, rfl, fun j p q hj => absurd hj (Nat.not_lt_zero _), Below.refl _ _⟩
  case round =>
    obtain ⟨i, hi, rfl, HLO, HB⟩ := hrel
    by_cases hlt : i < n
    · have hltI : (i : Int) < n := by omega
      by_cases h0 : i = 0
      · subst h0
        have hg : ¬ ((0 : Nat) : Int) > 0 := by omega
        go_wp2_with fail
        go_quiet (fail)
        have HBQ : Hid (Below w.heap.size w (wr.drewN nq)) := thenB HB.out (belowQ _ _ _)
        go_wp2_with fail
        go_roundw
        case rel => exact ⟨1, by omega, by go_num, fun j p q hj => by omega, HBQ⟩
        case measure => simp [intOf]; omega
      · obtain ⟨k, rfl⟩ : ∃ k, i = k + 1 := ⟨i - 1, by omega⟩
        obtain ⟨b, off, rfl, hb, hcs⟩ := hI (by omega)
        obtain ⟨p, hp⟩ : ∃ p, l[k]? = some p := ⟨_, List.getElem?_eq_getElem (by omega)⟩
        obtain ⟨q, hq⟩ : ∃ q, l[k + 1]? = some q := ⟨_, List.getElem?_eq_getElem (by omega)⟩
        have x0 : ∀ m, (wr.drewN m).cell? ⟨b, off + k * 2, none⟩ = some (.string p.1) := fun m => (HB.out.cell (p := ⟨b, off + k * 2, none⟩) hb).trans (hcs k p hp).1
        have y0 : ∀ m, (wr.drewN m).cell? ⟨b, off + (k + 1) * 2, none⟩ = some (.string q.1) := fun m => (HB.out.cell (p := ⟨b, off + (k + 1) * 2, none⟩) hb).trans (hcs (k + 1) q hq).1
        have HP : Hid (l[k]? = some p) := hp
        have HQ : Hid (l[k + 1]? = some q) := hq
        have hg : ((k + 1 : Nat) : Int) > 0 := by omega
        have hk : ((k + 1 : Nat) : Int) - 1 = (k : Int) := by omega
        clear hI hcs hp hq h0
        cases hls : Op.bytesLess p.1.toList q.1.toList
        · go_wp2_with fail
          go_quiet (fail)
          have HBQ : Hid (Below w.heap.size w (wr.drewN nq)) := thenB HB.out (belowQ _ _ _)
          go_wp2
          go_ret
          exact ⟨_, rfl, ⟨false, rfl, fun h => by cases h⟩, HBQ.out⟩
        · have HL2 : Hid (Adj l (k + 1 + 1)) := fun j p' q' hj hp' hq' => by
            by_cases e : j = k
            · rw [e, HP.out] at hp'; rw [e, HQ.out] at hq'; cases hp'; cases hq'; exact hls
            · exact HLO.out j p' q' (by omega) hp' hq'
          go_wp2_with fail
          go_quiet (fail)
          have HBQ : Hid (Below w.heap.size w (wr.drewN nq)) := thenB HB.out (belowQ _ _ _)
          go_wp2_with fail
          go_roundw
          case rel => exact ⟨k + 1 + 1, by omega, by go_num, HL2, HBQ⟩
          case measure => simp [intOf]; omega
    · obtain rfl : i = n := by omega
      have hltI : ¬ (i : Int) < i := by omega
      go_wp2
      go_ret
      exact ⟨_, rfl, ⟨_, rfl, fun hb => ⟨risK_of (by rw [HL.out]; exact HLO.out), by have := HL.out; simp at hb; omega⟩⟩, HB.out⟩

end Go.Proofs.YtkmckipfjahlcaaGreat
