/- The contract of the document's New. -/
import Derived.Test.YtljfdmjlilahjaaFAll
import Derived.Test.YtljfdmjlilahjaaFNew
namespace Go.Proofs.Ytljfdmjlilahjaa
open Go.RowKit
set_option linter.unusedVariables false
set_option linter.unusedSimpArgs false
set_option maxRecDepth 4000

theorem make_ints (w : World) (L : Int) (n : Nat) (hL : L = (n : Int)) (hn : n ≤ 1000000) :
    (Instr.makeSlice 22 (.int .i64 L) (.int .i64 L)).run Try.prog w = .ok (.slice (some ⟨w.heap.size, 0, none⟩) n n) (w.alloc (.cells (List.replicate n (Value.int .i64 0)).toArray 3)) := by
  subst hL
  obtain ⟨i, hi, hz0, hz1, hz2⟩ := info_partsI
  have h := run_make (P := Try.prog) w 22 3 i (.int .i64 0) Try.underlying22 hi hz0 .i64 .i64 n n (by omega) (by omega) (by rw [hz2]; omega) (by omega)
  rw [h, hz1, Int.toNat_natCast, Nat.mul_one]
  congr 2
  congr 1
  apply Array.ext'
  exact toList_madeCells_one (.int .i64 0) n

theorem rnew_arg (w : World) (a b : Int) (v : Value) (h : a < 0 ∨ b ≤ a ∨ 1024 < b) : Calls Try.prog 9 #[.int .i64 a, .int .i64 b, v] w fun e w' => e = .returned (.tuple #[.pointer none, .int .i64 1]) ∧ w' = w := by
  by_cases h1 : a < 0
  · go_enter Try.func9, Try.ntmps9
    go_wp2
    go_ret2
    exact ⟨rfl, rfl⟩
  · by_cases h2 : b ≤ a
    · go_enter Try.func9, Try.ntmps9
      go_wp2
      go_ret2
      exact ⟨rfl, rfl⟩
    · have h3 : 1024 < b := by omega
      clear h
      go_enter Try.func9, Try.ntmps9
      go_wp2
      go_ret2
      exact ⟨rfl, rfl⟩

/-- What the document's New tells, and what it leaves. -/
def RNewOut (w : World) (lo n : Nat) (l : List Int) (e : Ending) (w' : World) : Prop :=
  Below w.heap.size w w' ∧
      ((anyOut (fresh lo n) l = true ∧ e = .returned (.tuple #[.pointer none, .int .i64 1])) ∨
       (anyOut (fresh lo n) l = false ∧ takeAll lo (List.replicate n 1) l = none ∧ e = .returned (.tuple #[.pointer none, .int .i64 6])) ∨
       (anyOut (fresh lo n) l = false ∧ ∃ ks p h, takeAll lo (List.replicate n 1) l = some ks ∧ e = .returned (.tuple #[ptr p, .int .i64 0]) ∧ RAt w' p h ⟨lo, ks⟩ ∧ FrOk ⟨lo, ks⟩ ∧ w.heap.size ≤ p ∧ w.heap.size ≤ h))

set_option maxHeartbeats 4000000 in
theorem rnew_ok (w : World) (lo n : Nat) (h1 : 1 ≤ n) (h2 : lo + n ≤ 1024) (v : Value) (l : List Int) (hr : RdI w v l) :
    Calls Try.prog 9 #[.int .i64 lo, .int .i64 (lo + n), v] w fun e w' => RNewOut w lo n l e w' := by
  obtain ⟨a, cap, rfl, g1, g2, g3⟩ := hr
  unfold maxLen at g2
  have i1 : ¬ (lo : Int) < 0 := by omega
  have i2 : ¬ (lo : Int) + n ≤ lo := by omega
  have i3 : ¬ (1024 : Int) < (lo : Int) + n := by omega
  have hmk := make_ints w ((lo : Int) + n - lo) n (by omega) (by omega)
  obtain ⟨W1, hW1⟩ : ∃ W1, w.alloc (.cells (List.replicate n (Value.int .i64 0)).toArray 3) = W1 := ⟨_, rfl⟩
  have hg1 : W1.heap[w.heap.size]? = some (.cells (List.replicate n (Value.int .i64 0)).toArray 3 (0, 0)) := by rw [← hW1]; exact heap_alloc_new w _
  have hb1 : Below w.heap.size w W1 := by rw [← hW1]; exact (Below.refl _ w).alloc (Nat.le_refl _) _
  have hz1 : W1.heap.size = w.heap.size + 1 := by rw [← hW1]; simp
  rw [hW1] at hmk
  obtain ⟨W3, hW3⟩ : ∃ W3, W1.alloc (.cells #[.int .i64 lo, .slice (some ⟨w.heap.size, 0, none⟩) n n] 58) = W3 := ⟨_, rfl⟩
  have hb3 : Below W1.heap.size W1 W3 := by rw [← hW3]; exact (Below.refl _ W1).alloc (Nat.le_refl _) _
  have hg3 : W3.heap[W1.heap.size]? = some (.cells #[.int .i64 lo, .slice (some ⟨w.heap.size, 0, none⟩) n n] 58 (0, 0)) := by rw [← hW3]; exact heap_alloc_new W1 _
  have hok := fresh_ok h1 h2
  have H3 : RAt W3 (w.heap.size + 1) w.heap.size ⟨lo, List.replicate n 1⟩ := by
    rw [hz1] at hg3
    refine ⟨n, (List.replicate n (Value.int .i64 0)).toArray, ?_, (hb3.block _ (by omega)).trans hg1, by simp, by unfold maxLen; omega, by omega, fun i k hk => ?_⟩
    · simpa using hg3
    · dsimp only at hk
      rw [List.getElem?_replicate] at hk
      split at hk
      · rename_i hi
        cases hk
        rw [List.getElem?_toArray, List.getElem?_replicate, if_pos hi]
        rfl
      · cases hk
  have hB3 : Below w.heap.size w W3 := hb1.trans (hb3.mono (by omega))
  clear hg3 hg1 hb3 hb1
  go_enter Try.func9, Try.ntmps9
  go_wp2
  go_loop [26] (fun t => ∃ i : Nat, i ≤ l.length ∧ t = .int .i64 i ∧ Hid (anyOut (fresh lo n) (l.take i) = false)) (fun t => l.length - (intOf t).toNat)
  case atStart => exact ⟨0, Nat.zero_le _, rfl, rfl⟩
  case round =>
    obtain ⟨i, hi, rfl, HN⟩ := hrel
    by_cases hlt : i < l.length
    · have hltI : (i : Int) < l.length := by omega
      obtain ⟨b, off, rfl, hb, hcs⟩ := g3 (by omega)
      have hx : l[i]? = some l[i] := List.getElem?_eq_getElem hlt
      have hcx := hcs i _ hx
      have hnx := any_next (s := fresh lo n) hx
      have hmem : l[i] ∈ l := List.getElem_mem hlt
      rw [HN.out, Bool.false_or] at hnx
      have hlk : lacksB (fresh lo n) l[i] = !decide ((lo : Int) ≤ l[i] ∧ l[i] < lo + n) := by unfold lacksB fresh; simp
      have hall : lacksB (fresh lo n) l[i] = true → anyOut (fresh lo n) l = true := fun h => List.any_eq_true.2 ⟨_, hmem, h⟩
      generalize l[i] = x at *
      clear hcs g3 hx hmem
      by_cases hd : (lo : Int) ≤ x ∧ x < lo + n
      · rw [decide_eq_true hd] at hlk
        have HN' : Hid (anyOut (fresh lo n) (l.take (i + 1)) = false) := by unfold Hid; rw [hnx, hlk]; rfl
        have e1 : ¬ x < lo := by omega
        have e2 : ¬ (lo : Int) + n ≤ x := by omega
        clear hnx hlk hall hd H3
        go_wp2
        go_round
        case rel => exact ⟨i + 1, by omega, by go_num, HN'⟩
        case measure => simp [intOf]; omega
      · rw [decide_eq_false hd] at hlk
        have HT : Hid (anyOut (fresh lo n) l = true) := hall hlk
        clear hnx hlk hall H3
        by_cases e1 : x < lo
        · clear hd
          go_wp2
          go_ret2
          unfold RNewOut
          exact ⟨Below.refl _ _, .inl ⟨HT.out, rfl⟩⟩
        · have e2 : (lo : Int) + n ≤ x := by omega
          clear hd
          go_wp2
          go_ret2
          unfold RNewOut
          exact ⟨Below.refl _ _, .inl ⟨HT.out, rfl⟩⟩
    · have hltI : ¬ (i : Int) < l.length := by omega
      have hfal : anyOut (fresh lo n) l = false := by
        have := HN.out
        rw [List.take_of_length_le (by omega)] at this
        exact this
      have hall : ∀ x ∈ l, (lo : Int) ≤ x ∧ x < lo + n := fun x hx => by
        have := List.any_eq_false.1 hfal x hx
        unfold lacksB fresh at this
        simpa using this
      have HT : Hid (anyOut (fresh lo n) l = false) := hfal
      clear hfal HN
      go_wp2_with fail
      (try rw [hW1])
      (try rw [hz1])
      (try rw [hW3])
      clear hmk hW1 hW3
      go_loopw [48] (fun t wr => ∃ (i : Nat) (ks : List Nat), i ≤ l.length ∧ t = .int .i64 i ∧ ks.length = n ∧ Hid (takeAll lo (List.replicate n 1) l = takeAll lo ks (l.drop i)) ∧ Hid (RAt wr (w.heap.size + 1) w.heap.size ⟨lo, ks⟩) ∧ FrOk ⟨lo, ks⟩ ∧ Below w.heap.size w wr) (fun t _ => l.length - (intOf t).toNat)
      case atStart => exact ⟨0, List.replicate n 1, Nat.zero_le _, rfl, by simp, rfl, H3, hok, hB3⟩
      case round =>
        clear H3 hB3 hok hlt hltI hi
        obtain ⟨i, ks, hi, rfl, hkl, HA, HP, hko, HB⟩ := hrel
        obtain ⟨wA, hA⟩ : ∃ wA, wA = wr := ⟨_, rfl⟩
        subst hA
        by_cases hlt : i < l.length
        · have hltI : (i : Int) < l.length := by omega
          obtain ⟨b, off, rfl, hb, hcs⟩ := g3 (by omega)
          have hx : l[i]? = some l[i] := List.getElem?_eq_getElem hlt
          have hcx := (HB.cell (p := ⟨b, off + i, none⟩) hb).trans (hcs i _ hx)
          obtain ⟨x1, x2⟩ := hall l[i] (List.getElem_mem hlt)
          have hdr := drop_at hx
          generalize l[i] = x at *
          obtain ⟨j, rfl⟩ : ∃ j : Nat, x = ((lo : Int) + j) := ⟨(x - lo).toNat, by omega⟩
          have hjn : j < n := by omega
          have hjI : (j : Int) < n := by omega
          have hjl : j < ks.length := by omega
          have hto : takeAll lo ks (l.drop i) = if ks.getD j 0 = 2 then none else takeAll lo (ks.set j 2) (l.drop (i + 1)) := by
            rw [hdr]
            conv => lhs; unfold takeAll
            rw [show ((lo : Int) + j - lo).toNat = j from by omega]
          obtain ⟨cp, c0, c1, k1, k2, _, _, _, hc⟩ := FrAt.opened HP.out
          dsimp only at c0 c1 k1 hc
          obtain ⟨hcj, hfj⟩ := hc j (ks.getD j 0) (by rw [List.getD_eq_getElem?_getD, List.getElem?_eq_getElem hjl]; rfl)
          rw [hkl] at c1 k1
          clear hcs g3 hx hdr hall
          have hwj : IntKind.wrap .i64 ((lo : Int) + j - lo) = (j : Int) := by simp [IntKind.wrap, IntKind.bits, IntKind.signed]; omega
          have hko' := set_ok hko j 2 (by omega)
          by_cases h22 : ks.getD j 0 = 2
          · have HN : Hid (takeAll lo (List.replicate n 1) l = none) := by unfold Hid; rw [HA.out, hto, if_pos h22]
            have h22' : ((ks.getD j 0 : Nat) : Int) - 1 = 1 := by omega
            generalize ks.getD j 0 = K at *
            clear hto HA hc HP h22 hfj
            go_wp2
            go_ret2
            unfold RNewOut
            exact ⟨HB, .inr (.inl ⟨HT.out, HN.out, rfl⟩)⟩
          · have HA' : Hid (takeAll lo (List.replicate n 1) l = takeAll lo (ks.set j 2) (l.drop (i + 1))) := by unfold Hid; rw [HA.out, hto, if_neg h22]
            have HP' : Hid (RAt (wA.setCell ⟨w.heap.size, j, none⟩ (.int .i64 1)) (w.heap.size + 1) w.heap.size ⟨lo, ks.set j 2⟩) := FrAt.put HP.out j 2
            have h22' : ¬ ((ks.getD j 0 : Nat) : Int) - 1 = 1 := by omega
            generalize ks.getD j 0 = K at *
            clear hto HA hc HP h22
            go_wp2_with fail
            go_roundw
            case rel => exact ⟨i + 1, ks.set j 2, by omega, by go_num, by rw [List.length_set]; exact hkl, HA', HP', hko', HB.setCell (p := ⟨w.heap.size, j, none⟩) (Nat.le_refl _) _⟩
            case measure => simp [intOf]; omega
        · have hltI : ¬ (i : Int) < l.length := by omega
          have HS : Hid (takeAll lo (List.replicate n 1) l = some ks) := by
            unfold Hid
            rw [HA.out, List.drop_of_length_le (by omega)]
            rfl
          clear g3 hall HA
          go_wp2
          go_ret2
          unfold RNewOut
          exact ⟨HB, .inr (.inr ⟨HT.out, ks, _, _, HS.out, rfl, HP.out, hko, by omega, Nat.le_refl _⟩)⟩

end Go.Proofs.Ytljfdmjlilahjaa
