/- The contracts of codec.ReadText and of the document's ReadText: the text that any bytes begin with, how many bytes were read, or ErrShort. -/
import Derived.Test.YtmpddbnggddmdaaBase
namespace Go.Proofs.Ytmpddbnggddmdaa
open Go.RowKit
set_option linter.unusedVariables false

/-- The answer of ReadText. -/
def readS (xs : List Int) : ByteArray := match xs with
  | [] => ⟨#[]⟩
  | c :: r => if r.length < c.toNat then ⟨#[]⟩ else strOfNums (r.take c.toNat)
def readN (xs : List Int) : Int := match xs with
  | [] => 0
  | c :: r => if r.length < c.toNat then 0 else 1 + c
def readE (xs : List Int) : Int := match xs with
  | [] => 10
  | c :: r => if r.length < c.toNat then 10 else 0

/-- The bytes behind the first one, as a string. -/
theorem conv_tail (w : World) (b off k c : Nat) (c0 : Int) (r : List Int) (hcr : c ≤ r.length) (hc : ∀ i, i < (c0 :: r).length → w.cell? ⟨b, off + i, none⟩ = some (.int .u8 ((c0 :: r).getD i 0))) :
    (convert 23 9 (.slice (some ⟨b, off + 1, none⟩) c k)).run Try.prog w = .ok (.string (strOfNums (r.take c))) w := by
  refine run_convert_bytes_arg w 23 5 Try.underlying23 Try.underlying5 b (off + 1) c k (r.take c) (by simp; omega) (fun i hi => ?_) 9 Try.underlying9
  have := hc (i + 1) (by simp; omega)
  rw [show off + 1 + i = off + (i + 1) from by omega, this]
  simp [hi]
theorem conv_none (w : World) (a : Option Addr) (k : Nat) : (convert 23 9 (.slice a 0 k)).run Try.prog w = .ok (.string ⟨#[]⟩) w := by
  cases a with
  | none => exact run_convert_bytes_nil w 23 5 Try.underlying23 Try.underlying5 0 k 9 Try.underlying9
  | some x =>
    rw [run_convert_bytes_string w 23 9 5 _ 0 k Try.underlying23 Try.underlying5 Try.underlying9]
    exact run_bytesToString w x 0 k [] (by simpa using run_loadCells_list (P := Try.prog) w x [] (fun j v hj => by simp at hj))

set_option maxHeartbeats 400000 in
theorem readText_any (w : World) (v : Value) (xs : List Int) (h : Rd w v xs) (hb : Byt xs) :
    Calls Try.prog 17 #[v] w fun e w' => e = .returned (.tuple #[.string (readS xs), .int .i64 (readN xs), .int .i64 (readE xs)]) ∧ w' = w := by
  obtain ⟨a, cap, rfl, hcap, hm, _, hne⟩ := h
  cases xs with
  | nil =>
    simp only [List.length_nil]
    go_enter Try.func17, Try.ntmps17
    go_wp2
    go_ret3
    exact ⟨rfl, rfl⟩
  | cons c0 r =>
    obtain ⟨b, off, rfl, hlt, hc⟩ := hne (by simp)
    clear hne
    obtain ⟨g0, g1⟩ := hb c0 (by simp)
    clear hb
    have hc0 : w.cell? ⟨b, off, none⟩ = some (.int .u8 c0) := by simpa using hc 0 (by simp)
    obtain ⟨c, rfl⟩ := Int.eq_ofNat_of_zero_le g0
    have htail : ∀ k, c ≤ r.length → (convert 23 9 (.slice (some ⟨b, off + 1, none⟩) c k)).run Try.prog w = .ok (.string (strOfNums (r.take c))) w := fun k hcr => by
      exact conv_tail w b off k c c r hcr hc
    have hnone := conv_none w (some ⟨b, off, none⟩) (cap - 1)
    clear hc
    simp only [List.length_cons] at hcap ⊢
    generalize hn : r.length + 1 = n at *
    unfold maxLen at hm
    have hz : ((n : Int) == 0) = false := by simp; omega
    have hp : (0 : Int) < n := by omega
    by_cases hs : n < 1 + c
    · have e1 : readS ((c : Int) :: r) = ⟨#[]⟩ := by simp only [readS]; rw [if_pos (by simp; omega)]
      have e2 : readN ((c : Int) :: r) = 0 := by simp only [readN]; rw [if_pos (by simp; omega)]
      have e3 : readE ((c : Int) :: r) = 10 := by simp only [readE]; rw [if_pos (by simp; omega)]
      rw [e1, e2, e3]
      have hs' : (n : Int) < 1 + c := by omega
      clear e1 e2 e3 htail hnone hn
      go_enter Try.func17, Try.ntmps17
      go_wp2
      go_ret3
      exact ⟨rfl, rfl⟩
    · have e1 : readS ((c : Int) :: r) = strOfNums (r.take c) := by simp only [readS]; rw [if_neg (by simp; omega)]; simp
      have e2 : readN ((c : Int) :: r) = 1 + c := by simp only [readN]; rw [if_neg (by simp; omega)]
      have e3 : readE ((c : Int) :: r) = 0 := by simp only [readE]; rw [if_neg (by simp; omega)]
      rw [e1, e2, e3]
      clear e1 e2 e3
      by_cases h1 : cap = 1
      · obtain rfl : c = 0 := by omega
        have hr : r = [] := List.eq_nil_of_length_eq_zero (by omega)
        subst hr h1
        clear htail
        obtain rfl : n = 1 := by omega
        simp only [List.take_nil]
        clear hn
        go_enter Try.func17, Try.ntmps17
        go_wp2
        go_ret3
        exact ⟨rfl, rfl⟩
      · have ht := fun k => htail k (by omega)
        have hs' : 1 + (c : Int) ≤ n := by omega
        have htn : (1 + (c : Int)).toNat - 1 = c := by omega
        clear htail hnone hn
        go_enter Try.func17, Try.ntmps17
        go_wp2
        go_ret3
        exact ⟨rfl, rfl⟩
end Go.Proofs.Ytmpddbnggddmdaa
