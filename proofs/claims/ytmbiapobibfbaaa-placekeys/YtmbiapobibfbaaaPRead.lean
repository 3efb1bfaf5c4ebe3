/- The contract of place.Read. -/
import Derived.Test.YtmbiapobibfbaaaPPlaceOf
import Derived.Test.YtmbiapobibfbaaaPKeyAll
namespace Go.Proofs.Ytmbiapobibfbaaa
open Go.RowKit
set_option linter.unusedVariables false

theorem valB_u32 (xs : List Int) (hy : Byt xs) : (valB (xs.take 4) : Int) ≤ 4294967295 := by
  have h1 := valB_lt (xs.take 4) (hy.take 4)
  have h2 : (xs.take 4).length ≤ 4 := by simp; omega
  have h3 : 256 ^ (xs.take 4).length ≤ 256 ^ 4 := Nat.pow_le_pow_right (by decide) h2
  omega

theorem plOf_ok (xs : List Int) (hy : Byt xs) (hl : xs.length = 14) : PlOk (plOf xs) := by
  have h1 := valB_u32 xs hy
  have h2 := valB_u32 (xs.drop 5) (hy.drop 5)
  have h3 : (strOfNums ((xs.drop 5).take (zLen (xs.drop 5)))).size ≤ maxLen := by
    rw [strOfNums_size]; unfold maxLen; simp; omega
  have h0 : (⟨#[]⟩ : ByteArray).size ≤ maxLen := by decide
  unfold plOf
  split
  · exact ⟨by simp [recP], h1, by simp [recP], by simp [recP], h0, by simp [recP], by simp [recP]⟩
  · split
    · exact ⟨by simp [entP], h1, by simp [entP], by simp [entP], h3, by simp [entP], by simp [entP]⟩
    · split
      · exact ⟨by simp [datP], h1, by simp [datP], by simp [datP], h0, by simp [datP], h2⟩
      · exact ⟨by simp [pl0], by simp [pl0], by simp [pl0], by simp [pl0], h0, by simp [pl0], by simp [pl0]⟩

/-- Whether a string is a key. -/
def rdOk (s : ByteArray) : Bool := decide (s.size = 14) && plOk (plOf (strB s)) && ((keyS (plOf (strB s))).toList == s.toList)
def rdP (s : ByteArray) : Pl := if rdOk s then plOf (strB s) else pl0
def rdE (s : ByteArray) : Int := if rdOk s then 0 else 11

theorem rd_no {s : ByteArray} (h : rdOk s = false) : rdP s = pl0 ∧ rdE s = 11 := by unfold rdP rdE; rw [h]; exact ⟨rfl, rfl⟩
theorem rd_yes {s : ByteArray} (h : rdOk s = true) : rdP s = plOf (strB s) ∧ rdE s = 0 := by unfold rdP rdE; rw [h]; exact ⟨rfl, rfl⟩

theorem Rd.slice14 {w : World} {v : Value} {xs : List Int} (h : Rd w v xs) (hl : xs.length = 14) : ∃ b off cap, v = .slice (some ⟨b, off, none⟩) 14 cap := by
  obtain ⟨a, c, e, h1, h2, h3, h4⟩ := h
  obtain ⟨b, off, rfl, _⟩ := h4 (by intro e; subst e; simp at hl)
  exact ⟨b, off, c, by rw [e, hl]⟩

theorem read_size (w : World) (s : ByteArray) (hs : ¬ (s.size : Int) = 14) : Calls Try.prog 12 #[.string s] w fun e w' => e = .returned (.tuple #[plV pl0, .int .i64 11]) ∧ Below w.heap.size w w' := by
  have hs' : ((s.size : Int) != 14) = true := by simpa using hs
  go_enter Try.func12, Try.ntmps12
  go_wp2
  exact ret_place2 rfl w.heap.size pl0 rfl _ rfl (PlAt.laid w pl0).row rfl ⟨rfl, (Below.refl _ _).alloc (Nat.le_refl _) _⟩

set_option maxHeartbeats 2000000 in
theorem read_in (w : World) (s : ByteArray) (hs : s.size = 14) : Calls Try.prog 12 #[.string s] w fun e w' => e = .returned (.tuple #[plV (rdP s), .int .i64 (rdE s)]) ∧ Below w.heap.size w w' := by
  obtain ⟨w1, hw1⟩ : ∃ w1, w1 = w.alloc (.cells #[.int .u32 0, .int .i64 0, .string ⟨#[]⟩, .int .u32 0] 24) := ⟨_, rfl⟩
  have hb1 : Below w.heap.size w w1 := by rw [hw1]; exact (Below.refl _ _).alloc (Nat.le_refl _) _
  have hp1 : PlAt w1 w.heap.size pl0 := by rw [hw1]; exact PlAt.laid w pl0
  have hl : (strB s).length = 14 := by rw [strB_length]; exact hs
  have hy := strB_byt s
  have hok := plOf_ok (strB s) hy hl
  obtain ⟨v2, w2, hcv, hr2, hb2⟩ := conv_bytes w1 s (by omega)
  obtain ⟨b, off, cap, rfl⟩ := hr2.slice14 hl
  have hpo := placeOf_any w2 b off cap (strB s) hr2 hy
  obtain ⟨q, hq⟩ : ∃ q, q = plOf (strB s) := ⟨_, rfl⟩
  rw [← hq] at hpo hok
  have HR : Hid (rdOk s = (plOk q && ((keyS q).toList == s.toList))) := by
    show _ = _
    unfold rdOk
    rw [← hq, hs]
    rfl
  have hkey : ∀ W, Calls Try.prog 10 #[.agg #[.int .u32 q.ino, .int .i64 q.part, .string q.name, .int .u32 q.chunk]] W fun e w' => e = .returned (.tuple #[.string (keyS q), .int .i64 (plE q)]) ∧ Below W.heap.size W w' := fun W => key_any W q hok
  have hsI : (s.size : Int) = 14 := by omega
  have HQ : Hid (q = plOf (strB s)) := hq
  clear hq
  have hb02 : Below w.heap.size w w2 := thenB hb1 hb2
  have hp2 : PlAt w2 w.heap.size pl0 := hp1.below hb2
  rw [hw1] at hcv
  clear hw1 hb1 hp1 hb2
  go_enter Try.func12, Try.ntmps12
  go_wp2_with fail
  refine hpo.mono ?_
  rintro e w3 ⟨rfl, hb3⟩
  unfold plV
  go_wp2_with fail
  obtain ⟨wa, hwa⟩ : ∃ wa, wa = w3.alloc (.cells #[.int .u32 q.ino, .int .i64 q.part, .string q.name, .int .u32 q.chunk] 24) := ⟨_, rfl⟩
  have hba : Below w3.heap.size w3 wa := by rw [hwa]; exact (Below.refl _ _).alloc (Nat.le_refl _) _
  have hpa : PlAt wa w3.heap.size q := by rw [hwa]; exact PlAt.laid w3 q
  rw [← hwa]
  clear hwa
  refine (hkey wa).mono ?_
  rintro e w4 ⟨rfl, hb4⟩
  have hq4 := hpa.below hb4
  have hpl := hp2.below (thenB hb3 (thenB hba hb4))
  have hb04 : Below w.heap.size w w4 := thenB hb02 (thenB hb3 (thenB hba hb4))
  have c0 := hpl.c0
  have c1 := hpl.c1
  have c2 := hpl.c2
  have c3 := hpl.c3
  have f0 := hpl.fr 0
  have f1 := hpl.fr 1
  have f2 := hpl.fr 2
  have f3 := hpl.fr 3
  have d0 := hq4.c0
  have d1 := hq4.c1
  have d2 := hq4.c2
  have d3 := hq4.c3
  have hne : w.heap.size ≠ w3.heap.size := by
    have := hp2.lt
    have := hb3.size
    omega
  clear hkey hpo hcv
  cases hk : plOk q
  · have he : plE q = 30 := by unfold plE; rw [hk]; rfl
    have HN : Hid (rdP s = pl0 ∧ rdE s = 11) := rd_no (by rw [HR.out, hk]; rfl)
    rw [he]
    clear he
    go_wp2
    exact ret_place2 rfl w.heap.size pl0 rfl _ rfl (hpl.put4 pl0).row rfl ⟨by rw [HN.out.1, HN.out.2]; rfl, below_put4 hb04 (Nat.le_refl _) pl0⟩
  · have he : plE q = 0 := by unfold plE; rw [hk]; rfl
    rw [he]
    clear he
    cases hs2 : ((keyS q).toList == s.toList)
    · have HN : Hid (rdP s = pl0 ∧ rdE s = 11) := rd_no (by rw [HR.out, hk, hs2]; rfl)
      have hs3 : ¬ (keyS q).toList = s.toList := by simpa using hs2
      clear hk
      go_wp2
      exact ret_place2 rfl w.heap.size pl0 rfl _ rfl (hpl.put4 pl0).row rfl ⟨by rw [HN.out.1, HN.out.2]; rfl, below_put4 hb04 (Nat.le_refl _) pl0⟩
    · have HN : Hid (rdP s = plOf (strB s) ∧ rdE s = 0) := rd_yes (by rw [HR.out, hk, hs2]; rfl)
      have hs3 : (keyS q).toList = s.toList := by simpa using hs2
      clear hk
      go_wp2
      exact ret_place2 rfl w.heap.size q rfl _ rfl (hpl.put4 q).row rfl ⟨by rw [HN.out.1, HN.out.2, ← HQ.out]; rfl, below_put4 hb04 (Nat.le_refl _) q⟩

theorem read_any (w : World) (s : ByteArray) (hs : s.size ≤ maxLen) : Calls Try.prog 12 #[.string s] w fun e w' => e = .returned (.tuple #[plV (rdP s), .int .i64 (rdE s)]) ∧ Below w.heap.size w w' := by
  by_cases h : s.size = 14
  · exact read_in w s h
  · obtain ⟨e1, e2⟩ := rd_no (s := s) (by unfold rdOk; simp [h])
    rw [e1, e2]
    exact read_size w s (by omega)

end Go.Proofs.Ytmbiapobibfbaaa
