/- The contracts of bytes.IndexByte, Index, Cut at one byte 0. -/
import Derived.Test.YtmbiapobibfbaaaPState
import Derived.Lib.BytesEntry
import Derived.Laws.Externs
import Derived.BigQuiet
namespace Go.Proofs.Ytmbiapobibfbaaa
open Go.RowKit
set_option linter.unusedVariables false

/-- How many bytes stand ahead of the first 0. -/
def zLen : List Int → Nat
  | [] => 0
  | x :: xs => if x = 0 then 0 else zLen xs + 1

theorem zLen_le (xs : List Int) : zLen xs ≤ xs.length := by
  induction xs with
  | nil => exact Nat.le_refl _
  | cons x xs ih => unfold zLen; split <;> simp <;> omega

theorem index_zLen (xs : List Int) (hy : Byt xs) : Lib.indexByte (Lib.bytesOf xs) 0 = if zLen xs = xs.length then -1 else (zLen xs : Int) := by
  induction xs with
  | nil => rfl
  | cons x xs ih =>
    have ih' := ih (fun y hy' => hy y (by simp [hy']))
    obtain ⟨h0, h1⟩ := hy x (by simp)
    have hl := zLen_le xs
    show Lib.indexByte (UInt8.ofNat x.toNat :: Lib.bytesOf xs) 0 = _
    unfold Lib.indexByte zLen
    rw [ih']
    by_cases hx : x = 0
    · subst hx
      have hb : (UInt8.ofNat (0 : Int).toNat == 0) = true := by decide
      rw [if_pos hb, if_pos rfl, if_neg (by simp)]
      rfl
    · have hne : (UInt8.ofNat x.toNat == 0) = false := by
        rw [beq_eq_false_iff_ne]
        intro e
        have := congrArg UInt8.toNat e
        simp at this
        omega
      rw [if_neg (by rw [hne]; decide), if_neg hx]
      by_cases he : zLen xs = xs.length
      · rw [if_pos he, if_pos (by decide), if_pos (by simp [he])]
      · have hb : ((zLen xs : Int) == -1) = false := by rw [beq_eq_false_iff_ne]; omega
        rw [if_neg he, if_neg (by rw [hb]; decide), if_neg (by simp; omega)]
        omega

set_option maxHeartbeats 1000000 in
theorem indexByte_any (w : World) (b off n cap : Nat) (xs : List Int) (c : Int) (hx : xs.length = n) (hc : ∀ i, i < n → w.cell? ⟨b, off + i, none⟩ = some (.int .u8 (xs.getD i 0))) :
    Calls Try.prog 49 #[.slice (some ⟨b, off, none⟩) n cap, .int .u8 c] w fun e w' => e = .returned (.int .i64 (Lib.indexByte (Lib.bytesOf xs) c.toNat.toUInt8)) ∧ w = w' := by
  go_enter Try.func49, Try.ntmps49
  go_wp2
  rw [run_callFunc_extern Try.func54 (by kernel_rfl) (by kernel_rfl) (by kernel_rfl) (e := Extern.BytealgIndexByte.indexByte) (by kernel_rfl), Lib.run_indexByteSlice w b off n cap xs hx hc c]
  simp only [Result.andThen]
  rw [Oper.upon_value]
  go_wp2
  go_ret
  exact ⟨rfl, rfl⟩

set_option maxRecDepth 100000 in
set_option maxHeartbeats 2000000 in
theorem index_any (w : World) (b off n cap g : Nat) (xs : List Int) (hx : xs.length = n) (hc : ∀ i, i < n → w.cell? ⟨b, off + i, none⟩ = some (.int .u8 (xs.getD i 0))) (hg : w.cell? ⟨g, 0, none⟩ = some (.int .u8 0)) :
    Calls Try.prog 47 #[.slice (some ⟨b, off, none⟩) n cap, .slice (some ⟨g, 0, none⟩) 1 1] w fun e w' => e = .returned (.int .i64 (Lib.indexByte (Lib.bytesOf xs) 0)) ∧ w = w' := by
  have hi := indexByte_any w b off n cap xs 0 hx hc
  clear hc
  go_enter Try.func47, Try.ntmps47
  go_wp2_with fail
  refine hi.mono ?_
  rintro e w1 ⟨rfl, rfl⟩
  go_wp2
  go_ret
  exact ⟨rfl, rfl⟩

set_option maxHeartbeats 2000000 in
theorem cut_any (w : World) (b off n cap g : Nat) (xs : List Int) (hx : xs.length = n) (hy : Byt xs) (hcap : n ≤ cap) (hn : n ≤ 1000) (hc : ∀ i, i < n → w.cell? ⟨b, off + i, none⟩ = some (.int .u8 (xs.getD i 0))) (hg : w.cell? ⟨g, 0, none⟩ = some (.int .u8 0)) :
    Calls Try.prog 38 #[.slice (some ⟨b, off, none⟩) n cap, .slice (some ⟨g, 0, none⟩) 1 1] w fun e w' => ∃ v2 v3, e = .returned (.tuple #[.slice (some ⟨b, off, none⟩) (zLen xs) cap, v2, v3]) ∧ Below w.heap.size w w' := by
  have hi := index_any w b off n cap g xs hx hc hg
  have hz := zLen_le xs
  rw [index_zLen xs hy] at hi
  by_cases he : zLen xs = xs.length
  · rw [if_pos he] at hi
    rw [he, hx]
    clear hz hc he
    go_enter Try.func38, Try.ntmps38
    go_wp2_with fail
    refine hi.mono ?_
    rintro e w1 ⟨rfl, rfl⟩
    go_wp2
    refine bodyPost_ret (results_tmp3 rfl _ _ _) rfl ?_
    exact ⟨_, _, rfl, Below.refl _ _⟩
  · rw [if_neg he] at hi
    have hlt : zLen xs < n := by omega
    have e1 : (zLen xs : Int) ≤ (n : Int) := by omega
    have e2 : (zLen xs : Int) ≤ (cap : Int) := by omega
    have e3 : (zLen xs : Int) + 1 ≤ (n : Int) := by omega
    have e4 : (n : Int) ≤ (cap : Int) := by omega
    have e5 : (n : Int) ≤ 1000 := by omega
    clear hz hc he hx hcap hn
    generalize zLen xs = z at *
    by_cases hcz : cap = z + 1
    · subst hcz
      go_enter Try.func38, Try.ntmps38
      go_wp2_with fail
      refine hi.mono ?_
      rintro e w1 ⟨rfl, rfl⟩
      go_wp2
      go_quiet (fail)
      go_wp2
      refine bodyPost_ret (results_tmp3 rfl _ _ _) rfl ?_
      exact ⟨_, _, rfl, ⟨rfl, rfl, rfl, Nat.le_refl _, fun _ _ => rfl⟩⟩
    · have hcz' : ¬ (cap : Int) = (z : Int) + 1 := by omega
      have hcz2 : z + 1 < cap := by omega
      go_enter Try.func38, Try.ntmps38
      go_wp2_with fail
      refine hi.mono ?_
      rintro e w1 ⟨rfl, rfl⟩
      go_wp2
      go_quiet (fail)
      go_wp2
      refine bodyPost_ret (results_tmp3 rfl _ _ _) rfl ?_
      exact ⟨_, _, rfl, ⟨rfl, rfl, rfl, Nat.le_refl _, fun _ _ => rfl⟩⟩

end Go.Proofs.Ytmbiapobibfbaaa
