/- The contracts of the document's Text and ReadText. -/
import Derived.Test.YtanbjdcffcnfgaaText
import Derived.Test.YtanbjdcffcnfgaaReadText
namespace Go.Proofs.Ytanbjdcffcnfgaa
open Go.RowKit
set_option linter.unusedVariables false
set_option maxRecDepth 4000

set_option maxHeartbeats 400000 in
theorem refText_any (w : World) (s : ByteArray) (hm : s.size ≤ maxLen) :
    Calls Try.prog 29 #[.string s] w fun e w' => ∃ v, e = .returned (.tuple #[v, .int .i64 (textE s)]) ∧ Own w' w.heap.size v (textB s) ∧ Below w.heap.size w w' := by
  unfold maxLen at hm
  by_cases hs : 255 < s.size
  · have e1 : textE s = 2 := if_pos hs
    have e2 : textB s = [] := if_pos hs
    rw [e1, e2]
    clear e1 e2
    go_enter Try.func29, Try.ntmps29
    go_wp2
    go_ret2
    exact ⟨_, rfl, Own.nil _ _, Below.refl _ _⟩
  · have e1 : textE s = 0 := if_neg hs
    have e2 : textB s = (s.size : Int) :: strB s := if_neg hs
    rw [e1, e2]
    clear e1 e2
    have hs' : s.size ≤ 255 := by omega
    obtain ⟨i, hi, hz0, hz1, hz2⟩ := info_parts Try.info5
    go_enter Try.func29, Try.ntmps29
    go_wp2_with (at_builtin; refine Lib.wpList_append_own_string _ rfl _ _ 28 9 rfl w.heap.size 5 i Try.underlying28 Try.underlying9 hi hz0 hz1 hz2 _ 1 [.int .u8 s.size] rfl ?c1 s rfl ?c2 ?c3 ?c4 ?_)
    case c1 => exact World.ownsRow_lit w #[.int .u8 s.size] 1 (Nat.le_refl _) (by decide) rfl
    case c2 => unfold maxLen; omega
    case c3 => omega
    case c4 => simp
    intro v' w1 hown hgr hnil
    go_wp2
    go_ret2
    refine ⟨_, rfl, ?_, ?_⟩
    · unfold Own
      rw [List.length_cons, strB_length, List.map_cons, ← strCells_eq, Nat.add_comm s.size 1]
      exact hown
    · exact ((Below.refl _ _).alloc (Nat.le_refl _) _).grown hgr (by simp) (by intro k hk; simp [Value.ownBlock] at hk; omega)

set_option maxHeartbeats 400000 in
theorem refReadText_any (w : World) (v : Value) (xs : List Int) (h : Rd w v xs) (hb : Byt xs) :
    Calls Try.prog 60 #[v] w fun e w' => e = .returned (.tuple #[.string (readS xs), .int .i64 (readN xs), .int .i64 (readE xs)]) ∧ w' = w := by
  obtain ⟨a, cap, rfl, hcap, hm, _, hne⟩ := h
  cases xs with
  | nil =>
    simp only [List.length_nil]
    go_enter Try.func60, Try.ntmps60
    go_wp2
    go_ret3
    exact ⟨rfl, rfl⟩
  | cons c0 r =>
    obtain ⟨b, off, rfl, hlt, hc⟩ := hne (by simp)
    clear hne
    obtain ⟨g0, g1⟩ := hb c0 (by simp)
    clear hb
    have hc0 : w.cell? ⟨b, off, none⟩ = some (.int .u8 c0) := by simpa using hc 0 (by simp)
    obtain ⟨c, rfl⟩ := Int.eq_ofNat_of_zero_le g0
    have htail : ∀ k, c ≤ r.length → (convert 28 9 (.slice (some ⟨b, off + 1, none⟩) c k)).run Try.prog w = .ok (.string (strOfNums (r.take c))) w := fun k hcr => by
      exact conv_tail w b off k c c r hcr hc
    have hnone := conv_none w (some ⟨b, off, none⟩) (cap - 1)
    clear hc
    simp only [List.length_cons] at hcap ⊢
    generalize hn : r.length + 1 = n at *
    unfold maxLen at hm
    have hz : ((n : Int) == 0) = false := by simp; omega
    have hp : (0 : Int) < n := by omega
    by_cases hs : n < 1 + c
    · have e1 : readS ((c : Int) :: r) = ⟨#[]⟩ := by simp only [readS]; rw [if_pos (by simp; omega)]
      have e2 : readN ((c : Int) :: r) = 0 := by simp only [readN]; rw [if_pos (by simp; omega)]
      have e3 : readE ((c : Int) :: r) = 10 := by simp only [readE]; rw [if_pos (by simp; omega)]
      rw [e1, e2, e3]
      have hs' : (n : Int) - 1 < c := by omega
      clear e1 e2 e3 htail hnone hn
      go_enter Try.func60, Try.ntmps60
      go_wp2
      go_ret3
      exact ⟨rfl, rfl⟩
    · have e1 : readS ((c : Int) :: r) = strOfNums (r.take c) := by simp only [readS]; rw [if_neg (by simp; omega)]; simp
      have e2 : readN ((c : Int) :: r) = 1 + c := by simp only [readN]; rw [if_neg (by simp; omega)]
      have e3 : readE ((c : Int) :: r) = 0 := by simp only [readE]; rw [if_neg (by simp; omega)]
      rw [e1, e2, e3]
      clear e1 e2 e3
      by_cases h1 : cap = 1
      · obtain rfl : c = 0 := by omega
        have hr : r = [] := List.eq_nil_of_length_eq_zero (by omega)
        subst hr h1
        clear htail
        obtain rfl : n = 1 := by omega
        simp only [List.take_nil]
        clear hn
        go_enter Try.func60, Try.ntmps60
        go_wp2
        go_ret3
        exact ⟨rfl, rfl⟩
      · have ht := fun k => htail k (by omega)
        have hs' : ¬ (n : Int) - 1 < c := by omega
        have htn : (1 + (c : Int)).toNat - 1 = c := by omega
        clear htail hnone hn
        go_enter Try.func60, Try.ntmps60
        go_wp2
        go_ret3
        exact ⟨rfl, rfl⟩

end Go.Proofs.Ytanbjdcffcnfgaa
