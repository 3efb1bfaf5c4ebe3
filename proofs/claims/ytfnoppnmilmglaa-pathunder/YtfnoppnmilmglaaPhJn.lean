/- strings.Join at texts: what it tells (off the shelf). -/
import Derived.Test.YtfnoppnmilmglaaPhJoin
import Derived.Shelf.Strings.OnBuilder
namespace Go.Proofs.Ytfnoppnmilmglaa
open Go.RowKit
set_option linter.unusedVariables false
set_option linter.unusedSimpArgs false
set_option maxRecDepth 100000

def joinRen : Go.Shelf.Ren := ⟨fun | 156 => 22 | 165 => 26 | 166 => 27 | 169 => 28 | 240 => 30 | 241 => 31 | 276 => 33 | 277 => 34 | n => n, fun | 0 => 0 | 3 => 3 | 4 => 4 | 5 => 5 | 9 => 9 | 20 => 20 | 31 => 23 | 37 => 41 | 70 => 40 | 72 => 43 | 75 => 46 | 76 => 47 | 127 => 51 | 164 => 52 | 80 => 49 | n => n, fun | n => n⟩
theorem joinLays : Go.Proofs.Lays.n156 Try.prog joinRen := {
  mixed := by kernel_rfl
  f156 := Try.func22.trans (congrArg some (by kernel_rfl))
  f165 := Try.func26.trans (congrArg some (by kernel_rfl))
  f166 := Try.func27.trans (congrArg some (by kernel_rfl))
  f169 := Try.func28.trans (congrArg some (by kernel_rfl))
  f240 := Try.func30.trans (congrArg some (by kernel_rfl))
  f241 := Try.func31.trans (congrArg some (by kernel_rfl))
  f276 := Try.func33.trans (congrArg some (by kernel_rfl))
  f277 := Try.func34.trans (congrArg some (by kernel_rfl))
  t0 := Try.underlying0
  a0 := Try.isAgg0
  z0 := Try.sizeOf0
  v0 := Try.zeroValue0
  t3 := Try.underlying3
  a3 := Try.isAgg3
  z3 := Try.sizeOf3
  v3 := Try.zeroValue3
  t4 := Try.underlying4
  a4 := Try.isAgg4
  z4 := Try.sizeOf4
  v4 := Try.zeroValue4
  t9 := Try.underlying9
  a9 := Try.isAgg9
  z9 := Try.sizeOf9
  v9 := Try.zeroValue9
  t20 := Try.underlying20
  a20 := Try.isAgg20
  z20 := Try.sizeOf20
  v20 := Try.zeroValue20
  t31 := Try.underlying23
  a31 := Try.isAgg23
  z31 := Try.sizeOf23
  v31 := Try.zeroValue23
  t37 := Try.underlying41
  a37 := Try.isAgg41
  z37 := Try.sizeOf41
  v37 := Try.zeroValue41
  t70 := Try.underlying40
  a70 := Try.isAgg40
  z70 := Try.sizeOf40
  v70 := Try.zeroValue40
  t72 := Try.underlying43
  a72 := Try.isAgg43
  z72 := Try.sizeOf43
  v72 := Try.zeroValue43
  t75 := Try.underlying46
  a75 := Try.isAgg46
  z75 := Try.sizeOf46
  v75 := Try.zeroValue46
  t76 := Try.underlying47
  a76 := Try.isAgg47
  z76 := Try.sizeOf47
  v76 := Try.zeroValue47
  t127 := Try.underlying51
  a127 := Try.isAgg51
  z127 := Try.sizeOf51
  v127 := Try.zeroValue51
  t164 := Try.underlying52
  a164 := Try.isAgg52
  z164 := Try.sizeOf52
  v164 := Try.zeroValue52 }
theorem joinExtra : Go.Proofs.Builder.Extra Try.prog joinRen := {
  sizeBuilder := by kernel_rfl
  liesBuilder := by kernel_rfl
  t5 := Try.underlying5
  a5 := Try.isAgg5
  z5 := Try.sizeOf5
  v5 := Try.zeroValue5
  infoByte := by kernel_rfl
  cellsByte := by kernel_rfl
  sizeByte := by kernel_rfl
  neB5 := by decide }

def bytesJ (s : ByteArray) : List UInt8 := s.data.toList
def jnS (l : List ByteArray) : ByteArray := ⟨(Lib.join (l.map (·.data.toList)) [47]).toArray⟩
theorem join_glue : ∀ l : List (List UInt8), l ≠ [] → 47 :: Lib.join l [47] = glue l
  | [], h => absurd rfl h
  | [x], _ => by simp [Lib.join, glue]
  | x :: y :: r, _ => by
    have ih := join_glue (y :: r) (by simp)
    show 47 :: Lib.join (x :: y :: r) [47] = 47 :: x ++ glue (y :: r)
    rw [← ih]
    simp [Lib.join]
theorem jn_glu (l : List ByteArray) : (if l = [] then ofL [47] else gluS l) = (⟨#[47]⟩ : ByteArray) ++ jnS l := by
  by_cases h : l = []
  · subst h; rfl
  · rw [if_neg h]
    have hb : bytesJ (gluS l) = bytesJ ((⟨#[47]⟩ : ByteArray) ++ jnS l) := by
      unfold bytesJ
      rw [ByteArray.data_append, Array.toList_append]
      show glue (l.map (fun n => n.data.toList)) = 47 :: Lib.join (l.map (·.data.toList)) [47]
      rw [join_glue _ (by simp [h])]
    rw [← ofL_list (gluS l), ← ofL_list ((⟨#[47]⟩ : ByteArray) ++ jnS l)]
    exact congrArg ofL hb
theorem jn_le {l : List ByteArray} (h : l.all nameOk = true) : (jnS l).size ≤ 9 * l.length := by
  by_cases hl : l = []
  · subst hl; exact Nat.le_refl _
  · have h1 := gluS_le h
    have h2 := jn_glu l
    rw [if_neg hl] at h2
    rw [h2, ByteArray.size_append] at h1
    omega

set_option maxHeartbeats 2000000 in
theorem sjoin_any {w : World} (a : Option Addr) (n c : Nat) (l : List ByteArray) (hl : RdZ 1 strE w (.slice a n c) l) (h6 : l.length ≤ 6) (ha : l.all nameOk = true) :
    Calls Try.prog 22 #[.slice a n c, .string ⟨#[47]⟩] w fun e w' => e = .returned (.string (jnS l)) ∧ Below w.heap.size w w' := by
  obtain ⟨h1, h2, h3⟩ := hl.len
  by_cases h0 : n = 0
  · subst h0
    have e : l = [] := List.eq_nil_of_length_eq_zero h1
    subst e
    exact (Any.strings_Join_none joinLays joinExtra a c ⟨#[47]⟩ w).mono fun e w' ⟨h, hw⟩ => ⟨h, hw ▸ Below.refl _ _⟩
  · have hne : l ≠ [] := by intro e; subst e; simp at h1; omega
    obtain ⟨⟨a', c', e, _, _, hq⟩, _⟩ := hl
    obtain ⟨bk, off, rfl, hlt, hc⟩ := hq hne
    simp only [Value.slice.injEq] at e
    obtain ⟨rfl, rfl, rfl⟩ := e
    have hcells : ∀ (j : Nat) x, l[j]? = some x → w.cell? ⟨bk, off + j, none⟩ = some (.string x) := fun j x hx => by
      have := hc j x 0 _ hx rfl
      rwa [Nat.mul_one, Nat.add_zero] at this
    have hle := jn_le ha
    have hll : (Lib.join (l.map (·.data.toList)) [47]).length ≤ 140737488355328 := by
      have : (jnS l).size = (Lib.join (l.map (·.data.toList)) [47]).length := rfl
      omega
    exact Any.strings_Join joinLays joinExtra bk off c l ⟨#[47]⟩ w hcells hlt (by omega) (by omega) hll

end Go.Proofs.Ytfnoppnmilmglaa
