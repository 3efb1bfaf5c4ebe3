/- Proved: for every text the program's Split and Parent tell what the document's tell, twice, also when what was told is overwritten between, and the chapter's examples hold; no condition. -/
import Derived.Test.YtfnoppnmilmglaaPhLive
import Derived.Test.YtfnoppnmilmglaaPhArg
import Derived.Deep.RegionHeld3
import Derived.BigQuiet
import Derived.Deep.QuietTactic
import Derived.WalkSmall
import Derived.ProofKit
import Derived.OpenShut
import Derived.ShutString
import Derived.ChangeOld
import Derived.Below
import Derived.Carry
import Derived.Deep.CutRange
import Derived.Deep.CutBlock
import Derived.Deep.LoopGhost
namespace Go.Proofs.Ytfnoppnmilmglaa.pathSplits
open Go.ChangeShapes Go.WideShapes Go.ChangeAt Go.RowKit
open Go.ChangeMaps (open_string shut_string)
set_option linter.unusedVariables false
set_option linter.unusedSimpArgs false

theorem own : ownKnob Try.prog.godebug = none := by kernel_rfl
theorem laidOut : laidOutB Try.prog = true := by kernel_rfl

/-- A row of names that may be written over. -/
def RowS (B : Nat) (W : World) (a : Option Addr) (n : Nat) : Prop :=
  0 < n → ∃ g o cs, a = some ⟨g, o, none⟩ ∧ B ≤ g ∧ W.heap[g]? = some (.cells cs 9 (0, 0)) ∧ ∀ j, j < n → ∃ x, cs[o + j]? = some (.string x)
theorem RowS.of {B : Nat} {W : World} {a : Option Addr} {n c : Nat} {l : List ByteArray} (h : FrR B W a n c l) : RowS B W a n := fun hn => by
  obtain ⟨g, o, cs, rfl, h2, h3, h4⟩ := h.2 hn
  refine ⟨g, o, cs, rfl, h2, h3, fun j hj => ?_⟩
  have hl := h.1.len.1
  obtain ⟨b0, o0, e, d⟩ := s_cell h.1 (List.getElem?_eq_getElem (l := l) (i := j) (by omega))
  cases e
  rw [cell_of_row _ _ _ _ _ (0, 0) h3] at d
  exact ⟨_, d⟩
theorem RowS.below {B : Nat} {W W' : World} {a : Option Addr} {n : Nat} (h : RowS B W a n) (hb : Below W.heap.size W W') : RowS B W' a n := fun hn => by
  obtain ⟨g, o, cs, h1, h2, h3, h4⟩ := h hn
  exact ⟨g, o, cs, h1, h2, (hb.block g (Array.getElem?_eq_some_iff.1 h3).1).trans h3, h4⟩
theorem RowS.mono {B B' : Nat} {W : World} {a : Option Addr} {n : Nat} (h : RowS B W a n) (hb : B' ≤ B) : RowS B' W a n := fun hn => by
  obtain ⟨g, o, cs, h1, h2, h3⟩ := h hn
  exact ⟨g, o, cs, h1, by omega, h3⟩
theorem RowS.set {B : Nat} {W : World} {a : Option Addr} {n : Nat} (h : RowS B W a n) (g k : Nat) (z : ByteArray) : RowS B (W.setCell ⟨g, k, none⟩ (.string z)) a n := fun hn => by
  obtain ⟨g', o, cs, h1, h2, h3, h4⟩ := h hn
  by_cases e : g' = g
  · subst e
    refine ⟨g', o, _, h1, h2, heap_setCell_same W g' k cs 9 (.string z) h3, fun j hj => ?_⟩
    obtain ⟨x, hx⟩ := h4 j hj
    rw [Array.getElem?_setIfInBounds]
    split
    · rename_i e
      rw [if_pos (by rw [e]; exact (Array.getElem?_eq_some_iff.1 hx).1)]
      exact ⟨z, rfl⟩
    · exact ⟨x, hx⟩
  · exact ⟨g', o, cs, h1, h2, (heap_setCell_other W ⟨g, k, none⟩ g' (.string z) e).trans h3, h4⟩
theorem RowS.cell {B : Nat} {W : World} {a : Option Addr} {n : Nat} (h : RowS B W a n) {i : Nat} (hi : i < n) : ∃ g o x, a = some ⟨g, o, none⟩ ∧ B ≤ g ∧ W.frozen? ⟨g, o + i, none⟩ = false ∧ W.cell? ⟨g, o + i, none⟩ = some (.string x) := by
  obtain ⟨g, o, cs, h1, h2, h3, h4⟩ := h (by omega)
  obtain ⟨x, hx⟩ := h4 i hi
  exact ⟨g, o, x, h1, h2, frozen_of_row W g _ cs 9 h3, by rw [cell_of_row _ _ _ _ _ (0, 0) h3]; exact hx⟩

set_option maxRecDepth 100000 in
set_option maxHeartbeats 16000000 in
theorem walk (s : ByteArray) (w : World) (hs : s.size ≤ maxLen) :
    Calls Try.prog 3 #[.string s] w fun e w' => e = .returned (.bool true) ∧ Below w.heap.size w w' := by
  have HL : Hid (s.size ≤ maxLen) := hs
  unfold maxLen at hs
  obtain ⟨E, hE⟩ : ∃ E, pathE s = E := ⟨_, rfl⟩
  obtain ⟨L, hL⟩ : ∃ L, pathL s = L := ⟨_, rfl⟩
  obtain ⟨PE, hPE⟩ : ∃ E, parE s = E := ⟨_, rfl⟩
  obtain ⟨PL, hPL⟩ : ∃ L, parL s = L := ⟨_, rfl⟩
  obtain ⟨PN, hPN⟩ : ∃ N, parN s = N := ⟨_, rfl⟩
  have hlen : L.length ≤ 6 ∧ PL.length ≤ 6 := by
    have h1 : (pathL s).length ≤ 6 := by
      rcases pathE_or s with h | h
      · exact (path_all h).1
      · unfold pathL; rw [h, if_neg (by decide)]; simp
    refine ⟨by rw [← hL]; exact h1, ?_⟩
    rw [← hPL]
    unfold parL
    split
    · rw [List.length_dropLast]; omega
    · simp
  have C : Hid (∀ W, (Calls Try.prog 9 #[.string s] W fun e w' => ∃ a n c, e = .returned (.tuple #[.slice a n c, .int .i64 E]) ∧ FrR W.heap.size w' a n c L ∧ Below W.heap.size W w') ∧ (Calls Try.prog 10 #[.string s] W fun e w' => ∃ a n c, e = .returned (.tuple #[.slice a n c, .int .i64 E]) ∧ FrR W.heap.size w' a n c L ∧ Below W.heap.size W w') ∧ (Calls Try.prog 11 #[.string s] W fun e w' => ∃ a n c, e = .returned (.tuple #[.slice a n c, .string PN, .int .i64 PE]) ∧ FrR W.heap.size w' a n c PL ∧ Below W.heap.size W w') ∧ (Calls Try.prog 12 #[.string s] W fun e w' => ∃ a n c, e = .returned (.tuple #[.slice a n c, .string PN, .int .i64 PE]) ∧ FrR W.heap.size w' a n c PL ∧ Below W.heap.size W w')) := fun W => by
    rw [← hE, ← hL, ← hPE, ← hPL, ← hPN]
    refine ⟨psplit_any W s HL.out, (rsplit_any W s HL.out).mono ?_, pparent_any W s HL.out, rparent_any W s HL.out⟩
    rintro e w' ⟨u, rfl, ho, hb⟩
    obtain ⟨a, c, rfl⟩ := row_slice ho
    exact ⟨a, _, c, rfl, FrR.of_own ho, hb⟩
  have HLEN : Hid (L.length ≤ 6 ∧ PL.length ≤ 6) := hlen
  clear hE hL hPE hPL hPN hlen
  go_enter Try.func3, Try.ntmps3
  go_wp2_with fail
  refine (live_any _).mono ?_
  rintro e w1 ⟨rfl, hb1⟩
  have B1 : Hid (Below w.heap.size w w1) := hb1
  clear hb1
  by_cases hbig : (s.size : Int) > 100000
  · go_wp2
    go_ret
    exact ⟨rfl, B1.out⟩
  go_wp2
  go_loopg [21] 2 (fun kx s21 wr => ∃ i : Nat, s21 = .int .i64 i ∧ i ≤ 2 ∧ 2 - i ≤ kx ∧ Hid (Below w.heap.size w wr))
  case atStart => exact ⟨0, rfl, by omega, by omega, B1.out⟩
  case round =>
    obtain ⟨i, rfl, hi2, hkx, BR⟩ := hrel
    by_cases hlt : i < 2
    · have hltI : (i : Int) < 2 := by omega
      have hib : (i : Int) + 1 ≤ 1000 := by omega
      have c1 := (C.out wr).1
      go_wp2_with fail
      refine c1.mono ?_
      rintro e w2 ⟨a2, n2, k2, rfl, hf2, hb2⟩
      clear c1
      have B2 : Hid (Below w.heap.size w w2) := BR.out.trans (hb2.mono BR.out.size)
      have R2 : Hid (FrR w.heap.size w2 a2 n2 k2 L) := hf2.mono BR.out.size
      clear hf2 hb2
      have c2 := (C.out w2).2.1
      go_wp2_with fail
      refine c2.mono ?_
      rintro e w3 ⟨a3, n3, k3, rfl, hf3, hb3⟩
      clear c2
      have B3 : Hid (Below w.heap.size w w3) := B2.out.trans (hb3.mono B2.out.size)
      have R3 : Hid (FrR w.heap.size w3 a2 n2 k2 L ∧ FrR w.heap.size w3 a3 n3 k3 L) := ⟨R2.out.below hb3, hf3.mono B2.out.size⟩
      clear hf3 hb3 R2
      have c3 := (C.out w3).2.2.1
      go_wp2_with fail
      refine c3.mono ?_
      rintro e w4 ⟨a4, n4, k4, rfl, hf4, hb4⟩
      clear c3
      have B4 : Hid (Below w.heap.size w w4) := B3.out.trans (hb4.mono B3.out.size)
      have R4 : Hid (FrR w.heap.size w4 a2 n2 k2 L ∧ FrR w.heap.size w4 a3 n3 k3 L ∧ FrR w.heap.size w4 a4 n4 k4 PL) := ⟨R3.out.1.below hb4, R3.out.2.below hb4, hf4.mono B3.out.size⟩
      clear hf4 hb4 R3
      have c4 := (C.out w4).2.2.2
      go_wp2_with fail
      refine c4.mono ?_
      rintro e w5 ⟨a5, n5, k5, rfl, hf5, hb5⟩
      clear c4
      have B5 : Hid (Below w.heap.size w w5) := B4.out.trans (hb5.mono B4.out.size)
      have R5 : Hid (FrR w.heap.size w5 a2 n2 k2 L ∧ FrR w.heap.size w5 a3 n3 k3 L ∧ FrR w.heap.size w5 a4 n4 k4 PL ∧ FrR w.heap.size w5 a5 n5 k5 PL) := ⟨R4.out.1.below hb5, R4.out.2.1.below hb5, R4.out.2.2.below hb5, hf5.mono B4.out.size⟩
      clear hf5 hb5 R4
      have hn2 : n2 ≤ 6 := by have := R5.out.1.1.len.1; have := HLEN.out.1; omega
      have hn4 : n4 ≤ 6 := by have := R5.out.2.2.1.1.len.1; have := HLEN.out.2; omega
      have c5 := same_any a2 n2 k2 L R5.out.1.1 a3 n3 k3 L R5.out.2.1.1 (by omega)
      rw [sameL_iff.2 rfl] at c5
      go_wp2_with fail
      refine c5.mono ?_
      rintro e w6 ⟨rfl, hb6⟩
      clear c5
      have B6 : Hid (Below w.heap.size w w6) := B5.out.trans (hb6.mono B5.out.size)
      have c6 := same_any a4 n4 k4 PL (R5.out.2.2.1.below hb6).1 a5 n5 k5 PL (R5.out.2.2.2.below hb6).1 (by omega)
      rw [sameL_iff.2 rfl] at c6
      have R6 : Hid (RowS w.heap.size w6 a2 n2 ∧ RowS w.heap.size w6 a4 n4) := ⟨RowS.of (R5.out.1.below hb6), RowS.of (R5.out.2.2.1.below hb6)⟩
      clear hb6 R5
      go_wp2_with fail
      refine c6.mono ?_
      rintro e w7 ⟨rfl, hb7⟩
      clear c6
      have B7 : Hid (Below w.heap.size w w7) := B6.out.trans (hb7.mono B6.out.size)
      have R7 : Hid (RowS w.heap.size w7 a2 n2 ∧ RowS w.heap.size w7 a4 n4) := ⟨R6.out.1.below hb7, R6.out.2.below hb7⟩
      clear hb7 R6
      go_wp2
      go_loopg [72] n2 (fun ky s72 wq => ∃ j : Nat, s72 = .int .i64 j ∧ j ≤ n2 ∧ n2 - j ≤ ky ∧ Hid (Below w.heap.size w wq ∧ RowS w.heap.size wq a2 n2 ∧ RowS w.heap.size wq a4 n4))
      case atStart => exact ⟨0, rfl, Nat.zero_le _, by omega, B7.out, R7.out.1, R7.out.2⟩
      case round =>
        obtain ⟨j, rfl, hj, hky, Q⟩ := hrel
        by_cases hjl : j < n2
        · have hjI : (j : Int) < (n2 : Int) := by omega
          have hjb : (j : Int) + 1 ≤ 1000 := by omega
          obtain ⟨g, o, x, ea, hg, hfz, hce⟩ := Q.out.2.1.cell hjl
          subst ea
          go_wp2
          go_roundg (n2 - (j + 1))
          case measure => omega
          case rel => exact ⟨j + 1, by rw [show ((j : Int) + 1) = ((j + 1 : Nat) : Int) by omega], by omega, by omega, Q.out.1.setCell (p := ⟨g, o + j, none⟩) hg _, Q.out.2.1.set g (o + j) _, Q.out.2.2.set g (o + j) _⟩
        · have hjI : ¬ (j : Int) < (n2 : Int) := by omega
          go_wp2
          go_loopg [81] n4 (fun kz s81 wq => ∃ j : Nat, s81 = .int .i64 j ∧ j ≤ n4 ∧ n4 - j ≤ kz ∧ Hid (Below w.heap.size w wq ∧ RowS w.heap.size wq a4 n4))
          case atStart => exact ⟨0, rfl, Nat.zero_le _, by omega, Q.out.1, Q.out.2.2⟩
          case round =>
            obtain ⟨m, rfl, hm, hkz, Z⟩ := hrel
            by_cases hml : m < n4
            · have hmI : (m : Int) < (n4 : Int) := by omega
              have hmb : (m : Int) + 1 ≤ 1000 := by omega
              obtain ⟨g, o, x, ea, hg, hfz, hce⟩ := Z.out.2.cell hml
              subst ea
              go_wp2
              go_roundg (n4 - (m + 1))
              case measure => omega
              case rel => exact ⟨m + 1, by rw [show ((m : Int) + 1) = ((m + 1 : Nat) : Int) by omega], by omega, by omega, Z.out.1.setCell (p := ⟨g, o + m, none⟩) hg _, Z.out.2.set g (o + m) _⟩
            · have hmI : ¬ (m : Int) < (n4 : Int) := by omega
              go_wp2
              go_roundg (2 - (i + 1))
              case measure => omega
              case rel => exact ⟨i + 1, by rw [show ((i : Int) + 1) = ((i + 1 : Nat) : Int) by omega], by omega, by omega, Z.out.1⟩
    · have hltI : ¬ (i : Int) < 2 := by omega
      go_wp2
      go_ret
      exact ⟨rfl, BR.out⟩

/-! ### The row -/
set_option maxRecDepth 100000 in
theorem lifted (os : Os) (started : os.Started) (H : Type) (enc : TypeId × Value → H) :
    ReturnsInHanded {} Try.checked os 3 .any (Rows.pathSplitsSpec.pre6 enc Try.prog Try.f3 Rows.pathSplitsRow.domain false) (Rows.pathSplitsSpec.post enc Try.prog Try.f3 false true false false) := by
  refine returnsInHanded_of_change (C := Try.checked) own started (by kernel_rfl) Try.func3
    (ChangeSpec.witness6 (enc := enc) (C := Try.checked) false ⟨#[], #[.string ByteArray.empty], []⟩ 8 (by kernel_rfl) (by kernel_rfl) (by kernel_rfl) (by kernel_rfl)) ?_
  intro W base args ds gs before hval0 hW hcnd _
  have hval : ∀ (j : Nat) t v, Try.f3.params[j]? = some t → args[j]? = some v → Value.okWide Try.prog W .any base t v := hval0
  have hW' := hW
  obtain ⟨p, q, hA0, hV, rfl, hfz, hnd⟩ := hW
  have hA : DataW.TrodAll enc Try.prog W 0 (fun _ => true) true Try.f3.params.toList args.toList ds p := hA0
  rw [Try.params3] at hA hval
  obtain ⟨v0, vs0, d0, ds0, p0, q0, hargs, rfl, rfl, h0, r0⟩ := trodAll_cons hA
  obtain ⟨rfl, rfl, rfl⟩ := trodAll_nil r0
  obtain rfl : args = #[v0] := by cases args; simp_all
  obtain ⟨rfl, rfl⟩ := trodVars_none hV
  obtain ⟨a0, rfl, rfl, rfl, w0⟩ := open_string Try.underlying9 (hval 0 9 v0 rfl rfl) h0
  clear hA0 hval0
  refine (walk a0 W w0).mono fun e W' ⟨he, bel⟩ => ?_
  subst he
  exact ⟨_, rfl, _, _, _, [], _, [], hW', trodAll_mk1 (shut_bool Try.underlying4 _), (trodAll_cons_mk (shut_string Try.underlying9 w0) trodAll_mk0), rfl, bel.frame _, fun h => by cases h⟩

theorem over : Rows.pathSplitsRow.holds Try.pinned (OpenSpec.ofChange Rows.pathSplitsSpec) :=
  OpenClaim.holds_of_wide 3 Try.f3 rfl rfl rfl rfl rfl rfl rfl ⟨rfl, rfl, rfl, rfl, rfl⟩ rfl rfl rfl rfl rfl (by kernel_rfl) Try.func3 (by kernel_rfl)
    (of_decide_eq_true (by kernel_rfl)) (by unfold Func.isWrapper; first | (rw [if_pos (by decide +kernel)]; kernel_rfl) | (rw [if_neg (by decide +kernel)]; exact ⟨rfl, rfl⟩))
    (fun os started H enc _ => lifted os started H enc)

end Go.Proofs.Ytfnoppnmilmglaa.pathSplits

namespace Go.Proofs.Ytfnoppnmilmglaa
/-- The statement. -/
theorem pathSplits_proved : Rows.PathSplitsSaid := pathSplits.over
#print axioms pathSplits_proved
end Go.Proofs.Ytfnoppnmilmglaa
