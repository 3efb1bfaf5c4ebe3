/- math/bits.Len, slices.nextPowerOfTwo, xorshift's Next: by the shelf's contracts. -/
import Derived.Test.YtakifnlfgaedjaaVRow
import Derived.Shelf.SortM.Walk7aIn
import Derived.Sort.EveryDepth
import Derived.Ground.SlgmProg
namespace Go.Proofs.Ytakifnlfgaedjaa
open Go.Proofs
open Go.RowKit Go.Sort Go.Shelf
set_option linter.unusedVariables false
set_option linter.unusedSimpArgs false
set_option maxRecDepth 4000

def Try.npowU_ren : Go.Shelf.Ren := ⟨fun | 31 => 54 | 8 => 40 | 19 => 51 | 20 => 52 | n => n, fun | 3 => 3 | 32 => 80 | 44 => 22 | 46 => 23 | 4 => 4 | 5 => 5 | 9 => 9 | n => n, fun | n => n⟩
theorem Try.npowU : Go.Proofs.SlLaysM.n31 Try.prog Try.npowU_ren := {
  mixed := by kernel_rfl
  f8 := Try.func40.trans (congrArg some (by kernel_rfl))
  f19 := Try.func51.trans (congrArg some (by kernel_rfl))
  f20 := Try.func52.trans (congrArg some (by kernel_rfl))
  f31 := Try.func54.trans (congrArg some (by kernel_rfl))
  t3 := Try.underlying3
  a3 := Try.isAgg3
  z3 := Try.sizeOf3
  v3 := Try.zeroValue3
  t4 := Try.underlying4
  a4 := Try.isAgg4
  z4 := Try.sizeOf4
  v4 := Try.zeroValue4
  t5 := Try.underlying5
  a5 := Try.isAgg5
  z5 := Try.sizeOf5
  v5 := Try.zeroValue5
  t9 := Try.underlying9
  a9 := Try.isAgg9
  z9 := Try.sizeOf9
  v9 := Try.zeroValue9
  t32 := Try.underlying80
  a32 := Try.isAgg80
  z32 := Try.sizeOf80
  v32 := Try.zeroValue80
  t44 := Try.underlying22
  a44 := Try.isAgg22
  z44 := Try.sizeOf22
  v44 := Try.zeroValue22
  t46 := Try.underlying23
  a46 := Try.isAgg23
  z46 := Try.sizeOf23
  v46 := Try.zeroValue23 }

def Try.xorsU_ren : Go.Shelf.Ren := ⟨fun | 32 => 55 | n => n, fun | 63 => 98 | 46 => 23 | 0 => 0 | 53 => 92 | 32 => 80 | n => n, fun | n => n⟩
theorem Try.xorsU : Go.Proofs.SlLaysM.n32 Try.prog Try.xorsU_ren := {
  mixed := by kernel_rfl
  f32 := Try.func55.trans (congrArg some (by kernel_rfl))
  t0 := Try.underlying0
  a0 := Try.isAgg0
  z0 := Try.sizeOf0
  v0 := Try.zeroValue0
  t32 := Try.underlying80
  a32 := Try.isAgg80
  z32 := Try.sizeOf80
  v32 := Try.zeroValue80
  t46 := Try.underlying23
  a46 := Try.isAgg23
  z46 := Try.sizeOf23
  v46 := Try.zeroValue23
  t53 := Try.underlying92
  a53 := Try.isAgg92
  z53 := Try.sizeOf92
  v53 := Try.zeroValue92
  t63 := Try.underlying98
  a63 := Try.isAgg98
  z63 := Try.sizeOf98
  v63 := Try.zeroValue98 }

def Try.blenU_ren : Go.Shelf.Ren := ⟨fun | 8 => 40 | 19 => 51 | 20 => 52 | n => n, fun | 32 => 80 | 3 => 3 | 44 => 22 | 46 => 23 | 4 => 4 | 5 => 5 | 9 => 9 | n => n, fun | n => n⟩
theorem Try.blenU : Go.Proofs.SlLaysM.n8 Try.prog Try.blenU_ren := {
  mixed := by kernel_rfl
  f8 := Try.func40.trans (congrArg some (by kernel_rfl))
  f19 := Try.func51.trans (congrArg some (by kernel_rfl))
  f20 := Try.func52.trans (congrArg some (by kernel_rfl))
  t3 := Try.underlying3
  a3 := Try.isAgg3
  z3 := Try.sizeOf3
  v3 := Try.zeroValue3
  t4 := Try.underlying4
  a4 := Try.isAgg4
  z4 := Try.sizeOf4
  v4 := Try.zeroValue4
  t5 := Try.underlying5
  a5 := Try.isAgg5
  z5 := Try.sizeOf5
  v5 := Try.zeroValue5
  t9 := Try.underlying9
  a9 := Try.isAgg9
  z9 := Try.sizeOf9
  v9 := Try.zeroValue9
  t32 := Try.underlying80
  a32 := Try.isAgg80
  z32 := Try.sizeOf80
  v32 := Try.zeroValue80
  t44 := Try.underlying22
  a44 := Try.isAgg22
  z44 := Try.sizeOf22
  v44 := Try.zeroValue22
  t46 := Try.underlying23
  a46 := Try.isAgg23
  z46 := Try.sizeOf23
  v46 := Try.zeroValue23 }

theorem npow_any (n : Nat) (hn : n < 4611686018427387904) (w : World) : Calls Try.prog 54 #[.int .i64 n] w fun e w' => e = .returned (.int .u64 ((1 <<< bitsLen n : Nat) : Int)) ∧ w' = w :=
  calls_of_every_depth fun D => AnySM.nextPowerOfTwoIn Try.npowU D n hn w

theorem xors_any (b X : Nat) (hX : X < 18446744073709551616) (w : World) (hc : w.cell? ⟨b, 0, none⟩ = some (.int .u64 X)) (hf : w.frozen? ⟨b, 0, none⟩ = false) : Calls Try.prog 55 #[.pointer (some ⟨b, 0, none⟩)] w fun e w' => ∃ Y : Nat, Y < 18446744073709551616 ∧ e = .returned (.int .u64 Y) ∧ w' = (w.setCell ⟨b, 0, none⟩ (.int .u64 Y)).drewN 3 := by
  have h : Calls Try.prog 55 #[.pointer (some ⟨b, 0, none⟩)] w fun e w' => e = .returned (.int .u64 (xorNextN X : Nat)) ∧ w' = (w.setCell ⟨b, 0, none⟩ (.int .u64 (xorNextN X : Nat))).drewN 3 := calls_of_every_depth fun D => AnySM.xorshift_NextIn Try.xorsU D b 0 X hX w hc hf
  refine h.mono ?_
  rintro e w' ⟨rfl, rfl⟩
  refine ⟨xorNextN X, ?_, rfl, rfl⟩
  unfold xorNextN
  have lA : X ^^^ (X * 8192 % 18446744073709551616) < 18446744073709551616 := Nat.xor_lt_two_pow (n := 64) (by omega) (by omega)
  generalize X ^^^ (X * 8192 % 18446744073709551616) = A at *
  have lB : A ^^^ (A / 128) < 18446744073709551616 := Nat.xor_lt_two_pow (n := 64) (by omega) (by omega)
  dsimp only
  generalize A ^^^ (A / 128) = C at *
  exact Nat.xor_lt_two_pow (n := 64) (by omega) (by omega)

theorem blen_any (n : Nat) (hn : n < 4611686018427387904) (w : World) : Calls Try.prog 40 #[.int .u64 n] w fun e w' => ∃ k : Nat, k ≤ 64 ∧ e = .returned (.int .i64 k) ∧ w' = w := by
  have h : Calls Try.prog 40 #[.int .u64 n] w fun e w' => e = .returned (.int .i64 (Lib.bitLen (n : Int).toNat)) ∧ w' = w := calls_of_every_depth fun D => AnySM.bits_LenIn Try.blenU D n w (by omega) (by omega)
  refine h.mono ?_
  rintro e w' ⟨rfl, rfl⟩
  exact ⟨_, Lib.bitLen_le _ 64 (by omega) (by simp; omega), rfl, rfl⟩

end Go.Proofs.Ytakifnlfgaedjaa
