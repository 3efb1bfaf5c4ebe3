/- The contract of place.Span. -/
import Derived.Test.YtmbiapobibfbaaaPKey
namespace Go.Proofs.Ytmbiapobibfbaaa
open Go.RowKit
set_option linter.unusedVariables false

/-- Whether there are keys of that inode and part. -/
def spOk (i k : Int) : Bool := !(i == 0) && decide (1 ≤ k) && decide (k ≤ 3)
def spE (i k : Int) : Int := if spOk i k then 0 else 30
def spF (i k : Int) : ByteArray := if spOk i k then strOfNums (keyL i k []) else ⟨#[]⟩
def spT (i k : Int) : ByteArray := if spOk i k then strOfNums (keyL i (k + 1) []) else ⟨#[]⟩

theorem spOk_no {i k : Int} (h : spOk i k = false) : spE i k = 30 ∧ spF i k = ⟨#[]⟩ ∧ spT i k = ⟨#[]⟩ := by
  unfold spE spF spT; rw [h]; exact ⟨rfl, rfl, rfl⟩
theorem spOk_yes {i k : Int} (h : spOk i k = true) : spE i k = 0 ∧ spF i k = strOfNums (keyL i k []) ∧ spT i k = strOfNums (keyL i (k + 1) []) := by
  unfold spE spF spT; rw [h]; exact ⟨rfl, rfl, rfl⟩

theorem results_tmp3 {fn : Func} {p q r : Tmp} (h : fn.results = #[.tmp p, .tmp q, .tmp r]) (tmps : Array Value) (P : Program) (w : World) :
    (results fn tmps).run P w = .ok (.tuple #[tmps.getD p undef, tmps.getD q undef, tmps.getD r undef]) w := by
  simp [results, h]

set_option maxHeartbeats 1000000 in
theorem span_any (w : World) (i k : Int) (h0 : 0 ≤ i) (h1 : i ≤ 4294967295) (k0 : -9223372036854775808 ≤ k) (k1 : k ≤ 9223372036854775807) :
    Calls Try.prog 18 #[.int .u32 i, .int .i64 k] w fun e w' => e = .returned (.tuple #[.string (spF i k), .string (spT i k), .int .i64 (spE i k)]) ∧ Below w.heap.size w w' := by
  by_cases hi : i = 0
  · obtain ⟨e1, e2, e3⟩ := spOk_no (i := i) (k := k) (by simp [spOk, hi])
    rw [e1, e2, e3]
    have hi' : (i == 0) = true := by simpa using hi
    go_enter Try.func18, Try.ntmps18
    go_wp2
    refine bodyPost_ret (results_tmp3 rfl _ _ _) rfl ?_
    exact ⟨rfl, Below.refl _ _⟩
  · have hi' : (i == 0) = false := by simpa using hi
    by_cases hk1 : k < 1
    · obtain ⟨e1, e2, e3⟩ := spOk_no (i := i) (k := k) (by simp [spOk]; omega)
      rw [e1, e2, e3]
      go_enter Try.func18, Try.ntmps18
      go_wp2
      refine bodyPost_ret (results_tmp3 rfl _ _ _) rfl ?_
      exact ⟨rfl, Below.refl _ _⟩
    · by_cases hk3 : 3 < k
      · obtain ⟨e1, e2, e3⟩ := spOk_no (i := i) (k := k) (by simp [spOk]; omega)
        rw [e1, e2, e3]
        go_enter Try.func18, Try.ntmps18
        go_wp2
        refine bodyPost_ret (results_tmp3 rfl _ _ _) rfl ?_
        exact ⟨rfl, Below.refl _ _⟩
      · obtain ⟨e1, e2, e3⟩ := spOk_yes (i := i) (k := k) (by simp [spOk, hi]; omega)
        rw [e1, e2, e3]
        go_enter Try.func18, Try.ntmps18
        go_wp2_with fail
        refine (keyOf_any _ _ _ _ [] h0 h1 (Rd.nil _) Byt.nil (by simp)).mono ?_
        rintro e w1 ⟨rfl, hb1⟩
        go_wp2_with fail
        refine (keyOf_any _ _ _ _ [] h0 h1 (Rd.nil _) Byt.nil (by simp)).mono ?_
        rintro e w2 ⟨rfl, hb2⟩
        go_wp2
        refine bodyPost_ret (results_tmp3 rfl _ _ _) rfl ?_
        exact ⟨rfl, thenB hb1 hb2⟩

end Go.Proofs.Ytmbiapobibfbaaa
