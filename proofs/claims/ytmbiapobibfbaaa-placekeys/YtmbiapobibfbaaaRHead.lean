/- The contracts of the document's head, fill. -/
import Derived.Test.YtmbiapobibfbaaaPKey
import Derived.Test.YtmbiapobibfbaaaRefFixed
namespace Go.Proofs.Ytmbiapobibfbaaa
open Go.RowKit
set_option linter.unusedVariables false

set_option maxHeartbeats 1000000 in
theorem head_any (w : World) (i k : Int) (h0 : 0 ≤ i) (h1 : i ≤ 4294967295) :
    Calls Try.prog 24 #[.int .u32 i, .int .i64 k] w fun e w' => ∃ v, e = .returned v ∧ Own w' w.heap.size v (fixB i.toNat 4 ++ [k % 256]) ∧ Below w.heap.size w w' := by
  go_enter Try.func24, Try.ntmps24
  go_wp2_with fail
  refine (refFixed_any _ i 4 h0 (by omega)).mono ?_
  rintro e w1 ⟨v1, rfl, ho1, hb1⟩
  rw [fixL_four i h0 h1] at ho1
  have hba : Below w1.heap.size w1 (w1.alloc (.cells #[.int .u8 (k % 256)] 5)) := (Below.refl _ _).alloc (Nat.le_refl _) _
  have hrd : Rd (w1.alloc (.cells #[.int .u8 (k % 256)] 5)) (.slice (some ⟨w1.heap.size, 0, none⟩) 1 1) [k % 256] := Rd.laid (cs := #[.int .u8 (k % 256)]) rfl (by decide) rfl
  have ho2 := ho1.below hba
  have hsz := hb1.size
  go_wp2_with (at_builtin; refine wpList_append_rd rfl _ _ rfl w.heap.size _ _ rfl ho2 _ _ rfl hrd ?c1 ?c2 ?_)
  case c1 => rw [fixB_length]; simp
  case c2 => simp; omega
  intro v3 w3 ho3 hg3
  go_wp2
  go_ret
  exact ⟨_, rfl, ho3, below_grown (hb1.trans (hba.mono hsz)) (by simp; omega) ho2 hg3⟩

def lenOf : Value → Nat
  | .slice _ n _ => n
  | _ => 0

theorem Own.lenOf {w : World} {B : Nat} {v : Value} {xs : List Int} (h : Own w B v xs) : lenOf v = xs.length := by
  obtain ⟨a, cap, rfl, _⟩ := h.rd
  rfl

set_option maxHeartbeats 1000000 in
theorem fill_any (w : World) (B : Nat) (v : Value) (xs : List Int) (ho : Own w B v xs) (hB : B ≤ w.heap.size) (hl : xs.length ≤ 14) :
    Calls Try.prog 26 #[v] w fun e w' => e = .returned (.string (strOfNums (xs ++ List.replicate (14 - xs.length) 0))) ∧ Below B w w' := by
  go_enter Try.func26, Try.ntmps26
  go_wp2
  go_loopw [0] (fun t wr => ∃ j : Nat, xs.length + j ≤ 14 ∧ Own wr B t (xs ++ List.replicate j 0) ∧ Below B w wr ∧ B ≤ wr.heap.size) (fun t _ => 14 - lenOf t)
  case atStart => exact ⟨0, by omega, by simpa using ho, Below.refl _ _, hB⟩
  case round =>
    obtain ⟨j, hj, ho', hb', hB'⟩ := hrel
    have hlen := ho'.rd.len
    have hyl : (xs ++ List.replicate j (0 : Int)).length = xs.length + j := by simp
    have hlv := ho'.lenOf
    rw [hyl] at hlen hlv
    by_cases hlt : xs.length + j < 14
    · have hltI : ((xs.length + j : Nat) : Int) < 14 := by omega
      have hba : Below wr.heap.size wr (wr.alloc (.cells #[.int .u8 0] 5)) := (Below.refl _ _).alloc (Nat.le_refl _) _
      have hrd : Rd (wr.alloc (.cells #[.int .u8 0] 5)) (.slice (some ⟨wr.heap.size, 0, none⟩) 1 1) [0] := Rd.laid (cs := #[.int .u8 0]) rfl (by decide) rfl
      have ho2 := ho'.below hba
      generalize hm : xs.length + j = m at *
      go_wp2_with (at_builtin; refine wpList_append_rd rfl _ _ rfl B _ _ rfl ho2 _ _ rfl hrd ?c1 ?c2 ?_)
      case c1 => rw [hyl]; simp; omega
      case c2 => simp; omega
      intro v3 w3 ho3 hg3
      have hb3 : Below B w w3 := below_grown (hb'.trans (hba.mono hB')) (by simp; omega) ho2 hg3
      have hl3 := ho3.lenOf
      go_wp2
      go_roundw
      case rel =>
        refine ⟨j + 1, by omega, ?_, hb3, Nat.le_trans (by simp; omega) hg3.size⟩
        rw [List.replicate_succ']
        exact ho3
      case measure =>
        rw [hl3, hlv]
        simp
        omega
    · obtain rfl : j = 14 - xs.length := by omega
      have hltI : ¬ ((xs.length + (14 - xs.length) : Nat) : Int) < 14 := by omega
      have hcv := ho'.rd.conv
      generalize xs.length + (14 - xs.length) = m at *
      go_wp2
      go_ret
      exact ⟨rfl, hb'⟩

/-- What is filled, of a head and a rest. -/
theorem fill_key (i k : Int) (rest : List Int) (h : rest.length ≤ 9) : (fixB i.toNat 4 ++ [k % 256] ++ rest) ++ List.replicate (14 - (fixB i.toNat 4 ++ [k % 256] ++ rest).length) 0 = keyL i k rest := by
  unfold keyL
  rw [List.length_append, List.length_append, fixB_length, List.length_singleton, show 14 - (4 + 1 + rest.length) = 9 - rest.length from by omega]
  simp

end Go.Proofs.Ytmbiapobibfbaaa
