/- Fixed, Number, PSmall, ISmall, PName: in one text. -/
import Derived.Test.YtmifpeocgikbeabLaws
import Derived.Test.YtmifpeocgikbeabNumMath
import Derived.Test.YtmifpeocgikbeabPState
import Derived.Laws.Rows
import Derived.Test.YtmifpeocgikbeabIState
import Derived.BigQuiet
import Derived.Lib.Bytealg
import Derived.Laws.Externs
namespace Go.Proofs.Ytmifpeocgikbeab
open Go.RowKit
set_option linter.unusedVariables false
set_option linter.unusedSimpArgs false
set_option maxRecDepth 4000

/-- A function whose only result lies in a variable hands that place back. -/
theorem ret_place {fn : Func} {R : Ending → World → Prop} {a : Act} {w : World} {p : Tmp} (h : fn.results = #[.cell p 25]) (g : Nat) (q : Pl) {t : TypeId} {fr : Nat × Nat} (hp : a.tmps.getD p undef = .pointer (some ⟨g, 0, none⟩))
    (hg : w.heap[g]? = some (.cells (plCells q) t fr)) (hd : a.defers = []) (hR : R (.returned (plV q)) w) : bodyPost Try.prog fn R .ret a w :=
  bodyPost_ret (results_cell_row h a.tmps w g t (plCells q) fr _ hp hg Try.underlying25 rfl (by kernel_rfl)) hd hR

/-- As 'ret_place', with an error's number beside it. -/
theorem ret_place2 {fn : Func} {R : Ending → World → Prop} {a : Act} {w : World} {p u : Tmp} (h : fn.results = #[.cell p 25, .tmp u]) (g : Nat) (q : Pl) {t : TypeId} {fr : Nat × Nat} (hp : a.tmps.getD p undef = .pointer (some ⟨g, 0, none⟩)) (v : Value) (hu : a.tmps.getD u undef = v)
    (hg : w.heap[g]? = some (.cells (plCells q) t fr)) (hd : a.defers = []) (hR : R (.returned (.tuple #[plV q, v])) w) : bodyPost Try.prog fn R .ret a w := by
  refine bodyPost_ret ?_ hd hR
  have hp' : a.tmps[p]?.getD undef = .pointer (some ⟨g, 0, none⟩) := by simpa using hp
  have hu' : a.tmps[u]?.getD undef = v := by simpa using hu
  have hl := run_loadVar_row (P := Try.prog) w g t 25 (plCells q) fr _ hg Try.underlying25 rfl (by kernel_rfl)
  simp [results, h, hp', hu', asAddr, hl, Result.andThen]
  rfl

set_option maxHeartbeats 400000 in
theorem record_any (w : World) (i : Int) : Calls Try.prog 78 #[.int .u32 i] w fun e w' => e = .returned (plV (recP i)) ∧ Below w.heap.size w w' := by
  go_enter Try.func78, Try.ntmps78
  go_wp2
  exact ret_place rfl w.heap.size (recP i) rfl (heap_alloc_new w _) rfl ⟨rfl, (Below.refl _ _).alloc (Nat.le_refl _) _⟩

set_option maxHeartbeats 400000 in
theorem entry_any (w : World) (i : Int) (s : ByteArray) : Calls Try.prog 79 #[.int .u32 i, .string s] w fun e w' => e = .returned (plV (entP i s)) ∧ Below w.heap.size w w' := by
  go_enter Try.func79, Try.ntmps79
  go_wp2
  exact ret_place rfl w.heap.size (entP i s) rfl (heap_alloc_new w _) rfl ⟨rfl, (Below.refl _ _).alloc (Nat.le_refl _) _⟩

set_option maxHeartbeats 400000 in
theorem data_any (w : World) (i c : Int) : Calls Try.prog 81 #[.int .u32 i, .int .u32 c] w fun e w' => e = .returned (plV (datP i c)) ∧ Below w.heap.size w w' := by
  go_enter Try.func81, Try.ntmps81
  go_wp2
  exact ret_place rfl w.heap.size (datP i c) rfl (heap_alloc_new w _) rfl ⟨rfl, (Below.refl _ _).alloc (Nat.le_refl _) _⟩

/-- Four bytes always serve. -/
theorem fixE_four (n : Int) (h0 : 0 ≤ n) (h1 : n ≤ 4294967295) : fixE n 4 = 0 := by
  unfold fixE
  rw [if_neg (by omega)]
  have : ((n : Int) / 2 ^ (8 * (4 : Int).toNat) != 0) = false := by
    rw [bne_eq_false_iff_eq, show (2 : Int) ^ (8 * (4 : Int).toNat) = 4294967296 from by decide]
    omega
  rw [this]; rfl

theorem fixL_four (n : Int) (h0 : 0 ≤ n) (h1 : n ≤ 4294967295) : fixL n 4 = fixB n.toNat 4 := by
  unfold fixL; rw [if_pos (fixE_four n h0 h1)]; rfl

/-- Whether two places are one. -/
def plEq (a b : Pl) : Bool := a.ino == b.ino && a.part == b.part && a.name.toList == b.name.toList && a.chunk == b.chunk

theorem plEq_iff {a b : Pl} : plEq a b = true ↔ a = b := by
  obtain ⟨i, k, s, c⟩ := a
  obtain ⟨i', k', s', c'⟩ := b
  simp only [plEq, Bool.and_eq_true, beq_iff_eq, Pl.mk.injEq]
  constructor
  · rintro ⟨⟨⟨rfl, rfl⟩, h⟩, rfl⟩
    refine ⟨rfl, rfl, ?_, rfl⟩
    rw [ByteArray.toList_eq, ByteArray.toList_eq] at h
    obtain ⟨d⟩ := s
    obtain ⟨d'⟩ := s'
    exact congrArg ByteArray.mk (Array.ext' h)
  · rintro ⟨rfl, rfl, rfl, rfl⟩
    exact ⟨⟨⟨rfl, rfl⟩, rfl⟩, rfl⟩

/-- '==' of two places. -/
theorem equal_places (w : World) (i k c i' k' c' : Int) (s s' : ByteArray) : (Op.equalIn 10000 25 (.agg #[.int .u32 i, .int .i64 k, .string s, .int .u32 c]) (.agg #[.int .u32 i', .int .i64 k', .string s', .int .u32 c'])).run Try.prog w = .ok (plEq ⟨i, k, s, c⟩ ⟨i', k', s', c'⟩) w := by
  have u3 := Try.underlying3
  have u9 := Try.underlying9
  have u22 := Try.underlying23
  have hS : Try.prog.underlying 25 = some (.struct (Try.prog.fieldsOf 25)) := by kernel_rfl
  have hp : Try.prog.stoodInHeld 25 = false := by kernel_rfl
  rw [show (10000 : Nat) = 9999 + 1 from rfl, run_equalIn_agg w 9999 _ _ _ hS hp]
  simp only [Program.fieldsOf, Try.underlying25]
  go_simp
  unfold plEq
  by_cases h1 : i = i' <;> by_cases h2 : k = k' <;> by_cases h3 : s.toList = s'.toList <;> by_cases h4 : c = c' <;> simp [h1, h2, h3, h4]

theorem eq_places (w : World) (i k c i' k' c' : Int) (s s' : ByteArray) : (binOp .eql 25 (.agg #[.int .u32 i, .int .i64 k, .string s, .int .u32 c]) (.agg #[.int .u32 i', .int .i64 k', .string s', .int .u32 c'])).run Try.prog w = .ok (.bool (plEq ⟨i, k, s, c⟩ ⟨i', k', s', c'⟩)) w := by
  rw [run_eql_struct, equal_places]
  rfl


/-- How many bytes a part's values have. -/
def wid (p : Int) : Int := if p = 1 then 6 else if p = 2 then 4 else if p = 3 then 32 else 0

theorem wid_0 {p : Int} (h1 : p ≠ 1) (h2 : p ≠ 2) (h3 : p ≠ 3) : wid p = 0 := by unfold wid; rw [if_neg h1, if_neg h2, if_neg h3]
theorem wid_cases (p : Int) : (p = 1 ∧ wid p = 6) ∨ (p = 2 ∧ wid p = 4) ∨ (p = 3 ∧ wid p = 32) ∨ (p ≠ 1 ∧ p ≠ 2 ∧ p ≠ 3 ∧ wid p = 0) := by
  by_cases h1 : p = 1
  · subst h1; exact .inl ⟨rfl, rfl⟩
  · by_cases h2 : p = 2
    · subst h2; exact .inr (.inl ⟨rfl, rfl⟩)
    · by_cases h3 : p = 3
      · subst h3; exact .inr (.inr (.inl ⟨rfl, rfl⟩))
      · exact .inr (.inr (.inr ⟨h1, h2, h3, wid_0 h1 h2 h3⟩))

def inB (n a b : Int) : Bool := decide (a ≤ n) && decide (n ≤ b)

set_option maxHeartbeats 400000 in
theorem within_any (w : World) (n a b : Int) : Calls Try.prog 90 #[.int .i64 n, .int .i64 a, .int .i64 b] w fun e w' => e = .returned (.bool (inB n a b)) ∧ w = w' := by
  unfold inB
  by_cases h1 : a ≤ n
  · by_cases h2 : n ≤ b
    · go_enter Try.func90, Try.ntmps90
      go_wp2
      go_ret
      exact ⟨by simp [h1, h2], rfl⟩
    · go_enter Try.func90, Try.ntmps90
      go_wp2
      go_ret
      exact ⟨by simp [h2], rfl⟩
  · go_enter Try.func90, Try.ntmps90
    go_wp2
    go_ret
    exact ⟨by rw [decide_eq_false (show ¬ a ≤ n by omega)]; rfl, rfl⟩

/-- Whether an inode may be. -/
def inoOk (k m l s : Int) : Bool := inB m 0 511 && (if k = 1 then inB l 1 15 && inB s 0 512 else if k = 2 then l == 1 && s == 0 else false)
def inoE (k m l s : Int) : Int := if inoOk k m l s then 0 else 11

theorem inoE_0 {k m l s : Int} (h : inoOk k m l s = true) : inoE k m l s = 0 := by unfold inoE; rw [h]; rfl
theorem inoE_11 {k m l s : Int} (h : inoOk k m l s = false) : inoE k m l s = 11 := by unfold inoE; rw [h]; rfl

set_option maxHeartbeats 1000000 in
theorem imayBe_any (w : World) (k m l s : Int) : Calls Try.prog 82 #[.agg #[.int .i64 k, .int .i64 m, .int .i64 l, .int .i64 s]] w fun e w' => e = .returned (.bool (inoOk k m l s)) ∧ Below w.heap.size w w' := by
  have hB : ∀ o, Below w.heap.size w (w.alloc o) := fun o => (Below.refl _ w).alloc (Nat.le_refl _) o
  cases h1 : inB m 0 511 with
  | false =>
    have c1 : ∀ W, Calls Try.prog 90 #[.int .i64 m, .int .i64 0, .int .i64 511] W fun e w' => e = .returned (.bool false) ∧ W = w' := fun W => by have := within_any W m 0 511; rwa [h1] at this
    rw [show inoOk k m l s = false from by unfold inoOk; rw [h1]; rfl]
    clear h1
    go_enter Try.func82, Try.ntmps82
    go_wp2_with fail
    refine (c1 _).mono ?_
    rintro e w' ⟨rfl, rfl⟩
    go_wp2_with fail
    go_ret
    exact ⟨rfl, hB _⟩
  | true =>
    have c1 : ∀ W, Calls Try.prog 90 #[.int .i64 m, .int .i64 0, .int .i64 511] W fun e w' => e = .returned (.bool true) ∧ W = w' := fun W => by have := within_any W m 0 511; rwa [h1] at this
    by_cases hk1 : k = 1
    · subst hk1
      cases h2 : inB l 1 15 with
      | false =>
        have c2 : ∀ W, Calls Try.prog 90 #[.int .i64 l, .int .i64 1, .int .i64 15] W fun e w' => e = .returned (.bool false) ∧ W = w' := fun W => by have := within_any W l 1 15; rwa [h2] at this
        rw [show inoOk 1 m l s = false from by unfold inoOk; rw [h1, h2]; rfl]
        clear h1 h2
        go_enter Try.func82, Try.ntmps82
        go_wp2_with fail
        refine (c1 _).mono ?_
        rintro e w' ⟨rfl, rfl⟩
        go_wp2_with fail
        refine (c2 _).mono ?_
        rintro e w' ⟨rfl, rfl⟩
        go_wp2_with fail
        go_ret
        exact ⟨rfl, hB _⟩
      | true =>
        have c2 : ∀ W, Calls Try.prog 90 #[.int .i64 l, .int .i64 1, .int .i64 15] W fun e w' => e = .returned (.bool true) ∧ W = w' := fun W => by have := within_any W l 1 15; rwa [h2] at this
        have c3 := fun W => within_any W s 0 512
        rw [show inoOk 1 m l s = inB s 0 512 from by unfold inoOk; rw [h1, h2]; simp]
        clear h1 h2
        generalize inB s 0 512 = b at *
        go_enter Try.func82, Try.ntmps82
        go_wp2_with fail
        refine (c1 _).mono ?_
        rintro e w' ⟨rfl, rfl⟩
        go_wp2_with fail
        refine (c2 _).mono ?_
        rintro e w' ⟨rfl, rfl⟩
        go_wp2_with fail
        refine (c3 _).mono ?_
        rintro e w' ⟨rfl, rfl⟩
        go_wp2_with fail
        go_ret
        exact ⟨rfl, hB _⟩
    · by_cases hk2 : k = 2
      · subst hk2
        by_cases h3 : l = 1
        · subst h3
          rw [show inoOk 2 m 1 s = (s == 0) from by unfold inoOk; rw [h1]; simp]
          clear h1 hk1
          go_enter Try.func82, Try.ntmps82
          go_wp2_with fail
          refine (c1 _).mono ?_
          rintro e w' ⟨rfl, rfl⟩
          go_wp2_with fail
          go_ret
          exact ⟨rfl, hB _⟩
        · rw [show inoOk 2 m l s = false from by unfold inoOk; rw [h1]; simp [h3]]
          clear h1 hk1
          go_enter Try.func82, Try.ntmps82
          go_wp2_with fail
          refine (c1 _).mono ?_
          rintro e w' ⟨rfl, rfl⟩
          go_wp2_with fail
          go_ret
          exact ⟨rfl, hB _⟩
      · rw [show inoOk k m l s = false from by unfold inoOk; rw [h1, if_neg hk1, if_neg hk2]; rfl]
        clear h1
        go_enter Try.func82, Try.ntmps82
        go_wp2_with fail
        refine (c1 _).mono ?_
        rintro e w' ⟨rfl, rfl⟩
        go_wp2_with fail
        go_ret
        exact ⟨rfl, hB _⟩

set_option maxHeartbeats 400000 in
theorem checkInode_any (w : World) (k m l s : Int) : Calls Try.prog 63 #[.agg #[.int .i64 k, .int .i64 m, .int .i64 l, .int .i64 s]] w fun e w' => e = .returned (.int .i64 (inoE k m l s)) ∧ Below w.heap.size w w' := by
  have hB : ∀ o, Below w.heap.size w (w.alloc o) := fun o => (Below.refl _ w).alloc (Nat.le_refl _) o
  cases h : inoOk k m l s with
  | false =>
    rw [inoE_11 h]
    go_enter Try.func63, Try.ntmps63
    go_wp2_with fail
    refine (imayBe_any _ _ _ _ _).mono ?_
    rintro e w1 ⟨rfl, hb1⟩
    rw [h]
    clear h
    go_wp2
    go_ret
    exact ⟨rfl, (hB _).trans (hb1.mono (hB _).size)⟩
  | true =>
    rw [inoE_0 h]
    go_enter Try.func63, Try.ntmps63
    go_wp2_with fail
    refine (imayBe_any _ _ _ _ _).mono ?_
    rintro e w1 ⟨rfl, hb1⟩
    rw [h]
    go_wp2
    go_ret
    exact ⟨rfl, (hB _).trans (hb1.mono (hB _).size)⟩

/-- A number that fits its bytes. -/
theorem fixE_in (n : Int) (k : Nat) (h1 : 1 ≤ k) (h2 : k ≤ 8) (h0 : 0 ≤ n) (hn : n < 2 ^ (8 * k)) : fixE n k = 0 := by
  unfold fixE
  rw [if_neg (by omega), Int.toNat_natCast]
  have : ((n : Int) / 2 ^ (8 * k) != 0) = false := by
    rw [bne_eq_false_iff_eq]
    exact Int.ediv_eq_zero_of_lt h0 hn
  rw [this]; rfl

theorem fixL_in (n : Int) (k : Nat) (h1 : 1 ≤ k) (h2 : k ≤ 8) (h0 : 0 ≤ n) (hn : n < 2 ^ (8 * k)) : fixL n k = fixB n.toNat k := by
  unfold fixL; rw [if_pos (fixE_in n k h1 h2 h0 hn)]; rfl

set_option maxHeartbeats 400000 in
theorem indexLite_any (w : World) (s : ByteArray) (c : Int) : Calls Try.prog 93 #[.string s, .int .u8 c] w fun e w' => e = .returned (.int .i64 (Lib.indexByte s.data.toList c.toNat.toUInt8)) ∧ w = w' := by
  go_enter Try.func93, Try.ntmps93
  go_wp2
  rw [run_callFunc_extern Try.func96 (by kernel_rfl) (by kernel_rfl) (by kernel_rfl) (e := Extern.BytealgIndexByte.indexByte) (by kernel_rfl), Lib.run_indexByteString]
  simp only [Result.andThen]
  rw [Oper.upon_value]
  go_wp2
  go_ret
  exact ⟨rfl, rfl⟩

set_option maxHeartbeats 400000 in
theorem indexStr_any (w : World) (s : ByteArray) (c : Int) : Calls Try.prog 89 #[.string s, .int .u8 c] w fun e w' => e = .returned (.int .i64 (Lib.indexByte s.data.toList c.toNat.toUInt8)) ∧ w = w' := by
  go_enter Try.func89, Try.ntmps89
  go_wp2_with fail
  refine (indexLite_any _ _ _).mono ?_
  rintro e w1 ⟨rfl, rfl⟩
  go_wp2
  go_ret
  exact ⟨rfl, rfl⟩

/-- Whether it is a name. -/
def nameOk (s : ByteArray) : Bool := decide (1 ≤ s.size) && decide (s.size ≤ 8) && !(s.toList == [46]) && !(s.toList == [46, 46]) && !(s.data.toList.contains 0) && !(s.data.toList.contains 47)

theorem indexByte_contains (l : List UInt8) (c : UInt8) : decide (0 ≤ Lib.indexByte l c) = l.contains c := by
  induction l with
  | nil => simp [Lib.indexByte]
  | cons b l ih =>
    unfold Lib.indexByte
    have hge := Lib.indexByte_ge l c
    rw [List.contains_cons, ← ih]
    have hc : (c == b) = (b == c) := by rw [Bool.eq_iff_iff, beq_iff_eq, beq_iff_eq]; exact eq_comm
    rw [hc]
    by_cases h : b == c
    · simp [h]
    · simp only [h]
      by_cases h1 : Lib.indexByte l c == -1
      · have := beq_iff_eq.1 h1
        simp [this]
      · have : Lib.indexByte l c ≠ -1 := fun e => h1 (beq_iff_eq.2 e)
        simp [h1]
        omega

def nameE (s : ByteArray) : Int := if nameOk s then 0 else 30

theorem nameE_30 {s : ByteArray} (h : nameOk s = false) : nameE s = 30 := by unfold nameE; rw [h]; rfl
theorem nameE_0 {s : ByteArray} (h : nameOk s = true) : nameE s = 0 := by unfold nameE; rw [h]; rfl

set_option maxHeartbeats 1000000 in
theorem checkName_any (w : World) (s : ByteArray) (hs : s.size ≤ maxLen) : Calls Try.prog 80 #[.string s] w fun e w' => e = .returned (.int .i64 (nameE s)) ∧ w = w' := by
  unfold maxLen at hs
  have k0 := indexByte_contains s.data.toList 0
  have k47 := indexByte_contains s.data.toList 47
  by_cases h1 : (s.size : Int) < 1
  · rw [nameE_30 (by unfold nameOk; simp; omega)]
    clear k0 k47
    go_enter Try.func80, Try.ntmps80
    go_wp2_with fail
    go_ret
    exact ⟨rfl, rfl⟩
  · by_cases h2 : 8 < (s.size : Int)
    · rw [nameE_30 (by unfold nameOk; simp; omega)]
      clear k0 k47
      go_enter Try.func80, Try.ntmps80
      go_wp2_with fail
      go_ret
      exact ⟨rfl, rfl⟩
    · by_cases h3 : s.toList = [46]
      · rw [nameE_30 (by unfold nameOk; simp [h3])]
        clear k0 k47
        go_enter Try.func80, Try.ntmps80
        go_wp2_with fail
        go_ret
        exact ⟨rfl, rfl⟩
      · have h3' : (s.toList == [46]) = false := by simpa using h3
        by_cases h4 : s.toList = [46, 46]
        · rw [nameE_30 (by unfold nameOk; simp [h4])]
          clear k0 k47 h3'
          go_enter Try.func80, Try.ntmps80
          go_wp2_with fail
          go_ret
          exact ⟨rfl, rfl⟩
        · have h4' : (s.toList == [46, 46]) = false := by simpa using h4
          by_cases h5 : 0 ≤ Lib.indexByte s.data.toList 0
          · rw [nameE_30 (by unfold nameOk; rw [← k0]; simp [h5])]
            clear k0 k47
            go_enter Try.func80, Try.ntmps80
            go_wp2_with (go_at_call 89; refine (indexStr_any _ _ _).mono ?_; rintro e w1 ⟨rfl, rfl⟩)
            go_ret
            exact ⟨rfl, rfl⟩
          · by_cases h6 : 0 ≤ Lib.indexByte s.data.toList 47
            · rw [nameE_30 (by unfold nameOk; rw [← k47]; simp [h6])]
              clear k0 k47
              go_enter Try.func80, Try.ntmps80
              go_wp2_with (go_at_call 89; refine (indexStr_any _ _ _).mono ?_; rintro e w1 ⟨rfl, rfl⟩)
              go_ret
              exact ⟨rfl, rfl⟩
            · rw [nameE_0 (by unfold nameOk; rw [← k0, ← k47]; simp [h5, h6, h3, h4]; omega)]
              clear k0 k47
              go_enter Try.func80, Try.ntmps80
              go_wp2_with (go_at_call 89; refine (indexStr_any _ _ _).mono ?_; rintro e w1 ⟨rfl, rfl⟩)
              go_ret
              exact ⟨rfl, rfl⟩


theorem has_byte (s : ByteArray) (i : Nat) (hi : i < s.size) (c : UInt8) (h : (s[i]'hi).toNat = c.toNat) : s.data.toList.contains c = true := by
  have e : s[i]'hi = c := UInt8.toNat_inj.1 h
  rw [List.contains_iff_mem, ← e]
  exact Array.getElem_mem_toList hi

theorem has_none (s : ByteArray) (c : UInt8) (h : ∀ j (hj : j < s.size), (s[j]'hj).toNat ≠ c.toNat) : s.data.toList.contains c = false := by
  rw [Bool.eq_false_iff, Ne, List.contains_iff_mem]
  intro hm
  obtain ⟨j, hj, e⟩ := List.getElem_of_mem hm
  exact h j (by simpa using hj) (congrArg UInt8.toNat (by have e' := e; simp at e'; exact e'))

set_option maxHeartbeats 1000000 in
theorem refName_in (w : World) (s : ByteArray) (h1 : ¬ (s.size : Int) < 1) (h2 : ¬ 8 < (s.size : Int)) (h3 : ¬ s.toList = [46]) (h4 : ¬ s.toList = [46, 46]) :
    Calls Try.prog 40 #[.string s] w fun e w' => e = .returned (.int .i64 (nameE s)) ∧ w = w' := by
  have h3' : (s.toList == [46]) = false := by simpa using h3
  have h4' : (s.toList == [46, 46]) = false := by simpa using h4
  go_enter Try.func40, Try.ntmps40
  go_wp2
  go_loop [3] (fun t => ∃ i : Nat, i ≤ s.size ∧ t = .int .i64 i ∧ ∀ j (hj : j < s.size), j < i → (s[j]'hj).toNat ≠ 0 ∧ (s[j]'hj).toNat ≠ 47) (fun t => s.size - (intOf t).toNat)
  case atStart => exact ⟨0, Nat.zero_le _, rfl, fun j _ hj => by omega⟩
  case round =>
    obtain ⟨i, hi, rfl, hno⟩ := hrel
    have HN : Hid (∀ j (hj : j < s.size), j < i → (s[j]'hj).toNat ≠ 0 ∧ (s[j]'hj).toNat ≠ 47) := hno
    clear hno
    by_cases hlt : i < s.size
    · by_cases e0 : (s[i]'hlt).toNat = 0
      · have HE : Hid (nameE s = 30) := nameE_30 (by unfold nameOk; rw [has_byte s i hlt 0 e0]; simp)
        go_wp2
        go_ret
        exact ⟨congrArg (fun x => Ending.returned (Value.int .i64 x)) HE.out.symm, rfl⟩
      · by_cases e47 : (s[i]'hlt).toNat = 47
        · have HE : Hid (nameE s = 30) := nameE_30 (by unfold nameOk; rw [has_byte s i hlt 47 e47]; simp)
          go_wp2
          go_ret
          exact ⟨congrArg (fun x => Ending.returned (Value.int .i64 x)) HE.out.symm, rfl⟩
        · have b0 : (((s[i]'hlt).toNat : Int) == 0) = false := by rw [beq_eq_false_iff_ne]; omega
          have b47 : (((s[i]'hlt).toNat : Int) == 47) = false := by rw [beq_eq_false_iff_ne]; omega
          go_wp2
          go_round
          case rel =>
            refine ⟨i + 1, by omega, by go_num, fun j hj hji => ?_⟩
            rcases Nat.lt_or_ge j i with h | h
            · exact HN.out j hj h
            · obtain rfl : j = i := by omega
              exact ⟨e0, e47⟩
          case measure => simp [intOf]; omega
    · obtain rfl : i = s.size := by omega
      have HE : Hid (nameE s = 0) := nameE_0 (by
        unfold nameOk
        rw [has_none s 0 (fun j hj => (HN.out j hj hj).1), has_none s 47 (fun j hj => (HN.out j hj hj).2), h3', h4']
        simp; omega)
      go_wp2
      go_ret
      exact ⟨congrArg (fun x => Ending.returned (Value.int .i64 x)) HE.out.symm, rfl⟩

set_option maxHeartbeats 1000000 in
theorem refName_any (w : World) (s : ByteArray) (hs : s.size ≤ maxLen) : Calls Try.prog 40 #[.string s] w fun e w' => e = .returned (.int .i64 (nameE s)) ∧ w = w' := by
  unfold maxLen at hs
  by_cases h1 : (s.size : Int) < 1
  · rw [nameE_30 (by unfold nameOk; simp; omega)]
    go_enter Try.func40, Try.ntmps40
    go_wp2_with fail
    go_ret
    exact ⟨rfl, rfl⟩
  · by_cases h2 : 8 < (s.size : Int)
    · rw [nameE_30 (by unfold nameOk; simp; omega)]
      go_enter Try.func40, Try.ntmps40
      go_wp2_with fail
      go_ret
      exact ⟨rfl, rfl⟩
    · by_cases h3 : s.toList = [46]
      · rw [nameE_30 (by unfold nameOk; simp [h3])]
        go_enter Try.func40, Try.ntmps40
        go_wp2_with fail
        go_ret
        exact ⟨rfl, rfl⟩
      · have h3' : (s.toList == [46]) = false := by simpa using h3
        by_cases h4 : s.toList = [46, 46]
        · rw [nameE_30 (by unfold nameOk; simp [h4])]
          clear h3'
          go_enter Try.func40, Try.ntmps40
          go_wp2_with fail
          go_ret
          exact ⟨rfl, rfl⟩
        · exact refName_in w s h1 h2 h3 h4

end Go.Proofs.Ytmifpeocgikbeab
