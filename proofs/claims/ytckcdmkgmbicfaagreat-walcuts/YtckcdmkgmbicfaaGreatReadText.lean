/- The contract of codec.ReadText. -/
import Derived.Test.YtckcdmkgmbicfaaGreatLaws
namespace Go.Proofs.YtckcdmkgmbicfaaGreat
open Go.RowKit
set_option linter.unusedVariables false
set_option maxRecDepth 4000

/-- The answer of ReadText. -/
def readS (xs : List Int) : ByteArray := match xs with
  | [] => ⟨#[]⟩
  | c :: r => if r.length < c.toNat then ⟨#[]⟩ else strOfNums (r.take c.toNat)

def readN (xs : List Int) : Int := match xs with
  | [] => 0
  | c :: r => if r.length < c.toNat then 0 else 1 + c

def readE (xs : List Int) : Int := match xs with
  | [] => 10
  | c :: r => if r.length < c.toNat then 10 else 0

set_option maxHeartbeats 400000 in
theorem readText_any (w : World) (v : Value) (xs : List Int) (h : Rd w v xs) (hb : Byt xs) :
    Calls Tryz.prog 144 #[v] w fun e w' => e = .returned (.tuple #[.string (readS xs), .int .i64 (readN xs), .int .i64 (readE xs)]) ∧ w' = w := by
  obtain ⟨a, cap, rfl, hcap, hm, _, hne⟩ := h
  cases xs with
  | nil =>
    simp only [List.length_nil]
    go_enter Tryz.func144, Tryz.ntmps144
    go_wp2
    go_ret3
    exact ⟨rfl, rfl⟩
  | cons c0 r =>
    obtain ⟨b, off, rfl, hlt, hc⟩ := hne (by simp)
    clear hne
    obtain ⟨g0, g1⟩ := hb c0 (by simp)
    clear hb
    have hc0 : w.cell? ⟨b, off, none⟩ = some (.int .u8 c0) := by simpa using hc 0 (by simp)
    obtain ⟨c, rfl⟩ := Int.eq_ofNat_of_zero_le g0
    have htail : ∀ k, c ≤ r.length → (convert 80 9 (.slice (some ⟨b, off + 1, none⟩) c k)).run Tryz.prog w = .ok (.string (strOfNums (r.take c))) w := fun k hcr => by
      exact conv_tail w b off k c c r hcr hc
    have hnone := conv_none w (some ⟨b, off, none⟩) (cap - 1)
    clear hc
    simp only [List.length_cons] at hcap ⊢
    generalize hn : r.length + 1 = n at *
    unfold maxLen at hm
    have hz : ((n : Int) == 0) = false := by simp; omega
    have hp : (0 : Int) < n := by omega
    by_cases hs : n < 1 + c
    · have e1 : readS ((c : Int) :: r) = ⟨#[]⟩ := by simp only [readS]; rw [if_pos (by simp; omega)]
      have e2 : readN ((c : Int) :: r) = 0 := by simp only [readN]; rw [if_pos (by simp; omega)]
      have e3 : readE ((c : Int) :: r) = 10 := by simp only [readE]; rw [if_pos (by simp; omega)]
      rw [e1, e2, e3]
      have hs' : (n : Int) < 1 + c := by omega
      clear e1 e2 e3 htail hnone hn
      go_enter Tryz.func144, Tryz.ntmps144
      go_wp2
      go_ret3
      exact ⟨rfl, rfl⟩
    · have e1 : readS ((c : Int) :: r) = strOfNums (r.take c) := by simp only [readS]; rw [if_neg (by simp; omega)]; simp
      have e2 : readN ((c : Int) :: r) = 1 + c := by simp only [readN]; rw [if_neg (by simp; omega)]
      have e3 : readE ((c : Int) :: r) = 0 := by simp only [readE]; rw [if_neg (by simp; omega)]
      rw [e1, e2, e3]
      clear e1 e2 e3
      by_cases h1 : cap = 1
      · obtain rfl : c = 0 := by omega
        have hr : r = [] := List.eq_nil_of_length_eq_zero (by omega)
        subst hr h1
        clear htail
        obtain rfl : n = 1 := by omega
        simp only [List.take_nil]
        clear hn
        go_enter Tryz.func144, Tryz.ntmps144
        go_wp2
        go_ret3
        exact ⟨rfl, rfl⟩
      · have ht := fun k => htail k (by omega)
        have hs' : 1 + (c : Int) ≤ n := by omega
        have htn : (1 + (c : Int)).toNat - 1 = c := by omega
        clear htail hnone hn
        go_enter Tryz.func144, Tryz.ntmps144
        go_wp2
        go_ret3
        exact ⟨rfl, rfl⟩

end Go.Proofs.YtckcdmkgmbicfaaGreat
