/- The contracts of place.CheckName and of the document's. -/
import Derived.Test.YtfnoppnmilmglaaRtRow
import Derived.Lib.Bytealg
import Derived.Laws.Externs
namespace Go.Proofs.Ytfnoppnmilmglaa
open Go.RowKit
set_option maxRecDepth 4000
set_option linter.unusedVariables false

set_option maxHeartbeats 400000 in
theorem indexLite_any (w : World) (s : ByteArray) (c : Int) : Calls Try.prog 32 #[.string s, .int .u8 c] w fun e w' => e = .returned (.int .i64 (Lib.indexByte s.data.toList c.toNat.toUInt8)) ∧ w = w' := by
  go_enter Try.func32, Try.ntmps32
  go_wp2
  rw [run_callFunc_extern Try.func35 (by kernel_rfl) (by kernel_rfl) (by kernel_rfl) (e := Extern.BytealgIndexByte.indexByte) (by kernel_rfl), Lib.run_indexByteString]
  simp only [Result.andThen]
  rw [Oper.upon_value]
  go_wp2
  go_ret
  exact ⟨rfl, rfl⟩

set_option maxHeartbeats 400000 in
theorem indexStr_any (w : World) (s : ByteArray) (c : Int) : Calls Try.prog 29 #[.string s, .int .u8 c] w fun e w' => e = .returned (.int .i64 (Lib.indexByte s.data.toList c.toNat.toUInt8)) ∧ w = w' := by
  go_enter Try.func29, Try.ntmps29
  go_wp2_with fail
  refine (indexLite_any _ _ _).mono ?_
  rintro e w1 ⟨rfl, rfl⟩
  go_wp2
  go_ret
  exact ⟨rfl, rfl⟩

/-- Whether it is a name. -/
def nameOk (s : ByteArray) : Bool := decide (1 ≤ s.size) && decide (s.size ≤ 8) && !(s.toList == [46]) && !(s.toList == [46, 46]) && !(s.data.toList.contains 0) && !(s.data.toList.contains 47)

theorem indexByte_contains (l : List UInt8) (c : UInt8) : decide (0 ≤ Lib.indexByte l c) = l.contains c := by
  induction l with
  | nil => simp [Lib.indexByte]
  | cons b l ih =>
    unfold Lib.indexByte
    have hge := Lib.indexByte_ge l c
    rw [List.contains_cons, ← ih]
    have hc : (c == b) = (b == c) := by rw [Bool.eq_iff_iff, beq_iff_eq, beq_iff_eq]; exact eq_comm
    rw [hc]
    by_cases h : b == c
    · simp [h]
    · simp only [h]
      by_cases h1 : Lib.indexByte l c == -1
      · have := beq_iff_eq.1 h1
        simp [this]
      · have : Lib.indexByte l c ≠ -1 := fun e => h1 (beq_iff_eq.2 e)
        simp [h1]
        omega

def nameE (s : ByteArray) : Int := if nameOk s then 0 else 30

theorem nameE_30 {s : ByteArray} (h : nameOk s = false) : nameE s = 30 := by unfold nameE; rw [h]; rfl
theorem nameE_0 {s : ByteArray} (h : nameOk s = true) : nameE s = 0 := by unfold nameE; rw [h]; rfl

set_option maxHeartbeats 1000000 in
theorem checkName_any (w : World) (s : ByteArray) (hs : s.size ≤ maxLen) : Calls Try.prog 25 #[.string s] w fun e w' => e = .returned (.int .i64 (nameE s)) ∧ w = w' := by
  unfold maxLen at hs
  have k0 := indexByte_contains s.data.toList 0
  have k47 := indexByte_contains s.data.toList 47
  by_cases h1 : (s.size : Int) < 1
  · rw [nameE_30 (by unfold nameOk; simp; omega)]
    clear k0 k47
    go_enter Try.func25, Try.ntmps25
    go_wp2_with fail
    go_ret
    exact ⟨rfl, rfl⟩
  · by_cases h2 : 8 < (s.size : Int)
    · rw [nameE_30 (by unfold nameOk; simp; omega)]
      clear k0 k47
      go_enter Try.func25, Try.ntmps25
      go_wp2_with fail
      go_ret
      exact ⟨rfl, rfl⟩
    · by_cases h3 : s.toList = [46]
      · rw [nameE_30 (by unfold nameOk; simp [h3])]
        clear k0 k47
        go_enter Try.func25, Try.ntmps25
        go_wp2_with fail
        go_ret
        exact ⟨rfl, rfl⟩
      · have h3' : (s.toList == [46]) = false := by simpa using h3
        by_cases h4 : s.toList = [46, 46]
        · rw [nameE_30 (by unfold nameOk; simp [h4])]
          clear k0 k47 h3'
          go_enter Try.func25, Try.ntmps25
          go_wp2_with fail
          go_ret
          exact ⟨rfl, rfl⟩
        · have h4' : (s.toList == [46, 46]) = false := by simpa using h4
          by_cases h5 : 0 ≤ Lib.indexByte s.data.toList 0
          · rw [nameE_30 (by unfold nameOk; rw [← k0]; simp [h5])]
            clear k0 k47
            go_enter Try.func25, Try.ntmps25
            go_wp2_with (go_at_call 29; refine (indexStr_any _ _ _).mono ?_; rintro e w1 ⟨rfl, rfl⟩)
            go_ret
            exact ⟨rfl, rfl⟩
          · by_cases h6 : 0 ≤ Lib.indexByte s.data.toList 47
            · rw [nameE_30 (by unfold nameOk; rw [← k47]; simp [h6])]
              clear k0 k47
              go_enter Try.func25, Try.ntmps25
              go_wp2_with (go_at_call 29; refine (indexStr_any _ _ _).mono ?_; rintro e w1 ⟨rfl, rfl⟩)
              go_ret
              exact ⟨rfl, rfl⟩
            · rw [nameE_0 (by unfold nameOk; rw [← k0, ← k47]; simp [h5, h6, h3, h4]; omega)]
              clear k0 k47
              go_enter Try.func25, Try.ntmps25
              go_wp2_with (go_at_call 29; refine (indexStr_any _ _ _).mono ?_; rintro e w1 ⟨rfl, rfl⟩)
              go_ret
              exact ⟨rfl, rfl⟩


theorem has_byte (s : ByteArray) (i : Nat) (hi : i < s.size) (c : UInt8) (h : (s[i]'hi).toNat = c.toNat) : s.data.toList.contains c = true := by
  have e : s[i]'hi = c := UInt8.toNat_inj.1 h
  rw [List.contains_iff_mem, ← e]
  exact Array.getElem_mem_toList hi

theorem has_none (s : ByteArray) (c : UInt8) (h : ∀ j (hj : j < s.size), (s[j]'hj).toNat ≠ c.toNat) : s.data.toList.contains c = false := by
  rw [Bool.eq_false_iff, Ne, List.contains_iff_mem]
  intro hm
  obtain ⟨j, hj, e⟩ := List.getElem_of_mem hm
  exact h j (by simpa using hj) (congrArg UInt8.toNat (by have e' := e; simp at e'; exact e'))

set_option maxHeartbeats 1000000 in
theorem refName_in (w : World) (s : ByteArray) (h1 : ¬ (s.size : Int) < 1) (h2 : ¬ 8 < (s.size : Int)) (h3 : ¬ s.toList = [46]) (h4 : ¬ s.toList = [46, 46]) :
    Calls Try.prog 21 #[.string s] w fun e w' => e = .returned (.int .i64 (nameE s)) ∧ w = w' := by
  have h3' : (s.toList == [46]) = false := by simpa using h3
  have h4' : (s.toList == [46, 46]) = false := by simpa using h4
  go_enter Try.func21, Try.ntmps21
  go_wp2
  go_loop [3] (fun t => ∃ i : Nat, i ≤ s.size ∧ t = .int .i64 i ∧ ∀ j (hj : j < s.size), j < i → (s[j]'hj).toNat ≠ 0 ∧ (s[j]'hj).toNat ≠ 47) (fun t => s.size - (intOf t).toNat)
  case atStart => exact ⟨0, Nat.zero_le _, rfl, fun j _ hj => by omega⟩
  case round =>
    obtain ⟨i, hi, rfl, hno⟩ := hrel
    have HN : Hid (∀ j (hj : j < s.size), j < i → (s[j]'hj).toNat ≠ 0 ∧ (s[j]'hj).toNat ≠ 47) := hno
    clear hno
    by_cases hlt : i < s.size
    · by_cases e0 : (s[i]'hlt).toNat = 0
      · have HE : Hid (nameE s = 30) := nameE_30 (by unfold nameOk; rw [has_byte s i hlt 0 e0]; simp)
        go_wp2
        go_ret
        exact ⟨congrArg (fun x => Ending.returned (Value.int .i64 x)) HE.out.symm, rfl⟩
      · by_cases e47 : (s[i]'hlt).toNat = 47
        · have HE : Hid (nameE s = 30) := nameE_30 (by unfold nameOk; rw [has_byte s i hlt 47 e47]; simp)
          go_wp2
          go_ret
          exact ⟨congrArg (fun x => Ending.returned (Value.int .i64 x)) HE.out.symm, rfl⟩
        · have b0 : (((s[i]'hlt).toNat : Int) == 0) = false := by rw [beq_eq_false_iff_ne]; omega
          have b47 : (((s[i]'hlt).toNat : Int) == 47) = false := by rw [beq_eq_false_iff_ne]; omega
          go_wp2
          go_round
          case rel =>
            refine ⟨i + 1, by omega, by go_num, fun j hj hji => ?_⟩
            rcases Nat.lt_or_ge j i with h | h
            · exact HN.out j hj h
            · obtain rfl : j = i := by omega
              exact ⟨e0, e47⟩
          case measure => simp [intOf]; omega
    · obtain rfl : i = s.size := by omega
      have HE : Hid (nameE s = 0) := nameE_0 (by
        unfold nameOk
        rw [has_none s 0 (fun j hj => (HN.out j hj hj).1), has_none s 47 (fun j hj => (HN.out j hj hj).2), h3', h4']
        simp; omega)
      go_wp2
      go_ret
      exact ⟨congrArg (fun x => Ending.returned (Value.int .i64 x)) HE.out.symm, rfl⟩

set_option maxHeartbeats 1000000 in
theorem refName_any (w : World) (s : ByteArray) (hs : s.size ≤ maxLen) : Calls Try.prog 21 #[.string s] w fun e w' => e = .returned (.int .i64 (nameE s)) ∧ w = w' := by
  unfold maxLen at hs
  by_cases h1 : (s.size : Int) < 1
  · rw [nameE_30 (by unfold nameOk; simp; omega)]
    go_enter Try.func21, Try.ntmps21
    go_wp2_with fail
    go_ret
    exact ⟨rfl, rfl⟩
  · by_cases h2 : 8 < (s.size : Int)
    · rw [nameE_30 (by unfold nameOk; simp; omega)]
      go_enter Try.func21, Try.ntmps21
      go_wp2_with fail
      go_ret
      exact ⟨rfl, rfl⟩
    · by_cases h3 : s.toList = [46]
      · rw [nameE_30 (by unfold nameOk; simp [h3])]
        go_enter Try.func21, Try.ntmps21
        go_wp2_with fail
        go_ret
        exact ⟨rfl, rfl⟩
      · have h3' : (s.toList == [46]) = false := by simpa using h3
        by_cases h4 : s.toList = [46, 46]
        · rw [nameE_30 (by unfold nameOk; simp [h4])]
          clear h3'
          go_enter Try.func21, Try.ntmps21
          go_wp2_with fail
          go_ret
          exact ⟨rfl, rfl⟩
        · exact refName_in w s h1 h2 h3 h4

end Go.Proofs.Ytfnoppnmilmglaa
