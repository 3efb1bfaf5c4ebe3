/- The contract of free's New. -/
import Derived.Test.YtljfdmjlilahjaaFRep
import Derived.Test.YtljfdmjlilahjaaFFind
namespace Go.Proofs.Ytljfdmjlilahjaa
open Go.RowKit
set_option linter.unusedVariables false
set_option linter.unusedSimpArgs false
set_option maxRecDepth 4000

/-- Those of the list taken, one by one; none: one stands there twice. -/
def takeAll (lo : Nat) : List Nat → List Int → Option (List Nat)
  | ks, [] => some ks
  | ks, x :: l => if ks.getD (x - lo).toNat 0 = 2 then none else takeAll lo (ks.set (x - lo).toNat 2) l

def fresh (lo n : Nat) : Fr := ⟨lo, List.replicate n 1⟩

theorem drop_at {l : List Int} {i : Nat} {x : Int} (h : l[i]? = some x) : l.drop i = x :: l.drop (i + 1) := by
  obtain ⟨hi, e⟩ := List.getElem?_eq_some_iff.1 h
  rw [List.drop_eq_getElem_cons hi, e]

theorem fresh_ok {lo n : Nat} (h1 : 1 ≤ n) (h2 : lo + n ≤ 1024) : FrOk (fresh lo n) :=
  ⟨by simp [fresh]; omega, by simpa [fresh] using h2, fun k hk => by rw [List.eq_of_mem_replicate hk]; omega⟩

theorem set_ok {lo : Nat} {ks : List Nat} (h : FrOk ⟨lo, ks⟩) (j v : Nat) (hv : 1 ≤ v ∧ v ≤ 3) : FrOk ⟨lo, ks.set j v⟩ :=
  ⟨by simpa using h.any, by simpa using h.most, fun k hk => by
    rcases List.mem_or_eq_of_mem_set hk with h1 | h1
    · exact h.kinds k h1
    · rw [h1]; exact hv⟩

theorem new_arg (w : World) (a b : Int) (v : Value) (h : a < 0 ∨ b ≤ a ∨ 1024 < b) : Calls Try.prog 8 #[.int .i64 a, .int .i64 b, v] w fun e w' => e = .returned (.tuple #[.pointer none, .int .i64 1]) ∧ w' = w := by
  by_cases h1 : a < 0
  · go_enter Try.func8, Try.ntmps8
    go_wp2
    go_ret2
    exact ⟨rfl, rfl⟩
  · by_cases h2 : b ≤ a
    · go_enter Try.func8, Try.ntmps8
      go_wp2
      go_ret2
      exact ⟨rfl, rfl⟩
    · have h3 : 1024 < b := by omega
      go_enter Try.func8, Try.ntmps8
      go_wp2
      go_ret2
      exact ⟨rfl, rfl⟩

/-- What New tells, and what it leaves. -/
def NewOut (w : World) (lo n : Nat) (l : List Int) (e : Ending) (w' : World) : Prop :=
  Below w.heap.size w w' ∧
      ((anyOut (fresh lo n) l = true ∧ e = .returned (.tuple #[.pointer none, .int .i64 1])) ∨
       (anyOut (fresh lo n) l = false ∧ takeAll lo (List.replicate n 1) l = none ∧ e = .returned (.tuple #[.pointer none, .int .i64 6])) ∨
       (anyOut (fresh lo n) l = false ∧ ∃ ks p h, takeAll lo (List.replicate n 1) l = some ks ∧ e = .returned (.tuple #[ptr p, .int .i64 0]) ∧ PAt w' p h ⟨lo, ks⟩ ∧ FrOk ⟨lo, ks⟩ ∧ w.heap.size ≤ p ∧ w.heap.size ≤ h))

set_option maxHeartbeats 4000000 in
theorem new_ok (w : World) (lo n : Nat) (h1 : 1 ≤ n) (h2 : lo + n ≤ 1024) (v : Value) (l : List Int) (hr : RdI w v l) :
    Calls Try.prog 8 #[.int .i64 lo, .int .i64 (lo + n), v] w fun e w' => NewOut w lo n l e w' := by
  have hr0 := hr
  obtain ⟨a, lc, rfl, g1, g2, g3⟩ := hr
  unfold maxLen at g2
  have i1 : ¬ (lo : Int) < 0 := by omega
  have i2 : ¬ (lo : Int) + n ≤ lo := by omega
  have i3 : ¬ (1024 : Int) < (lo : Int) + n := by omega
  have wd : IntKind.wrap .i64 ((lo : Int) + n - lo) = (n : Int) := by simp [IntKind.wrap, IntKind.bits, IntKind.signed]; omega
  have hBa : Below w.heap.size w (w.alloc (.cells #[.int .i64 1] 51)) := (Below.refl _ w).alloc (Nat.le_refl _) _
  have hga := heap_alloc_new w (.cells #[.int .i64 1] 51)
  have hrp := repeat_any (w.alloc (.cells #[.int .i64 1] 51)) w.heap.size n h1 (by omega) (cell_of_row _ _ 0 _ _ (0, 0) hga) (Array.getElem?_eq_some_iff.1 hga).1
  rw [World.size_alloc] at hrp
  clear hga
  go_enter Try.func8, Try.ntmps8
  go_wp2_with fail
  refine hrp.mono ?_
  clear hrp wd
  rintro e w2 ⟨rfl, hg2, hb2⟩
  have hBb : Below w.heap.size w w2 := hBa.trans (hb2.mono (by omega))
  have hz2 : w.heap.size + 1 < w2.heap.size := (Array.getElem?_eq_some_iff.1 hg2).1
  obtain ⟨W3, hW3⟩ : ∃ W3, w2.alloc (.cells #[.int .i64 lo, .slice (some ⟨w.heap.size + 1, 0, none⟩) n n] 53) = W3 := ⟨_, rfl⟩
  have hb3 : Below w2.heap.size w2 W3 := by rw [← hW3]; exact (Below.refl _ w2).alloc (Nat.le_refl _) _
  have hg3 : W3.heap[w2.heap.size]? = some (.cells #[.int .i64 lo, .slice (some ⟨w.heap.size + 1, 0, none⟩) n n] 53 (0, 0)) := by rw [← hW3]; exact heap_alloc_new w2 _
  have hok := fresh_ok h1 h2
  have H3 : PAt W3 w2.heap.size (w.heap.size + 1) (fresh lo n) := by
    refine ⟨n, (repC n n).toArray, ?_, (hb3.block _ hz2).trans hg2, by simp [fresh], by unfold maxLen; omega, by omega, fun i k hk => ?_⟩
    · simpa [fresh] using hg3
    · unfold fresh at hk
      dsimp only at hk
      rw [List.getElem?_replicate] at hk
      split at hk
      · rename_i hi
        cases hk
        rw [List.getElem?_toArray]
        unfold repC
        rw [List.getElem?_append_left (by simpa using hi), List.getElem?_replicate, if_pos hi]
        rfl
      · cases hk
  have hB3 : Below w.heap.size w W3 := hBb.trans (hb3.mono hBb.size)
  have hcf := containsFunc_any H3 hok _ l (hr0.below hB3)
  unfold ptr at hcf
  clear hg3 hg2 hb2 hBa hBb hr0
  go_wp2_with fail
  refine hcf.mono ?_
  clear hcf hW3
  rintro e w4 ⟨rfl, hb4⟩
  have H4 : PAt w4 w2.heap.size (w.heap.size + 1) ⟨lo, List.replicate n 1⟩ := FrAt.below H3 hb4
  have hB4 : Below w.heap.size w w4 := hB3.trans (hb4.mono hB3.size)
  clear H3 hb4 hb3 hB3
  cases hany : anyOut (fresh lo n) l with
  | true =>
    have HT : Hid (anyOut (fresh lo n) l = true) := hany
    clear hany H4
    go_wp2
    go_ret2
    unfold NewOut
    exact ⟨hB4, .inl ⟨HT.out, rfl⟩⟩
  | false =>
    have HT : Hid (anyOut (fresh lo n) l = false) := hany
    have hall : ∀ x ∈ l, (lo : Int) ≤ x ∧ x < lo + n := fun x hx => by
      have := List.any_eq_false.1 hany x hx
      unfold lacksB fresh at this
      simpa using this
    clear hany
    go_wp2
    go_loopw [10, 36] (fun q t wr => ∃ (i : Nat) (ks : List Nat), i ≤ l.length ∧ t = .int .i64 i ∧ ks.length = n ∧ Hid (takeAll lo (List.replicate n 1) l = takeAll lo ks (l.drop i)) ∧ Hid (PAt wr w2.heap.size (w.heap.size + 1) ⟨lo, ks⟩) ∧ FrOk ⟨lo, ks⟩ ∧ Below w.heap.size w wr) (fun _ t _ => l.length - (intOf t).toNat)
    case atStart => exact ⟨0, List.replicate n 1, Nat.zero_le _, rfl, by simp, rfl, H4, hok, hB4⟩
    case round =>
      clear H4 hB4 hok
      obtain ⟨i, ks, hi, rfl, hkl, HA, HP, hko, HB⟩ := hrel
      obtain ⟨wA, hA⟩ : ∃ wA, wA = wr := ⟨_, rfl⟩
      subst hA
      by_cases hlt : i < l.length
      · have hltI : (i : Int) < l.length := by omega
        obtain ⟨b, off, rfl, hb, hcs⟩ := g3 (by omega)
        have hx : l[i]? = some l[i] := List.getElem?_eq_getElem hlt
        have hcx := (HB.cell (p := ⟨b, off + i, none⟩) hb).trans (hcs i _ hx)
        obtain ⟨x1, x2⟩ := hall l[i] (List.getElem_mem hlt)
        have hdr := drop_at hx
        have hki := kindOf_any HP.out hko l[i]
        generalize l[i] = x at *
        obtain ⟨j, rfl⟩ : ∃ j : Nat, x = ((lo : Int) + j) := ⟨(x - lo).toNat, by omega⟩
        have hjn : j < n := by omega
        have hjl : j < ks.length := by omega
        have hkv : kindOfN ⟨lo, ks⟩ ((lo : Int) + j) = ks.getD j 0 := by
          unfold kindOfN
          dsimp only
          rw [if_pos ⟨by omega, by omega⟩, show ((lo : Int) + j - lo).toNat = j from by omega]
        rw [hkv] at hki
        unfold ptr at hki
        have hto : takeAll lo ks (l.drop i) = if ks.getD j 0 = 2 then none else takeAll lo (ks.set j 2) (l.drop (i + 1)) := by
          rw [hdr]
          conv => lhs; unfold takeAll
          rw [show ((lo : Int) + j - lo).toNat = j from by omega]
        have hwj : IntKind.wrap .i64 ((lo : Int) + j - lo) = (j : Int) := by simp [IntKind.wrap, IntKind.bits, IntKind.signed]; omega
        clear hcs g3 hx hdr hkv
        go_wp2_with fail
        refine hki.mono ?_
        clear hki
        rintro e w5 ⟨rfl, hb5⟩
        have HB5 := HB.trans (hb5.mono HB.size)
        have H5 : PAt w5 w2.heap.size (w.heap.size + 1) ⟨lo, ks⟩ := FrAt.below HP.out hb5
        obtain ⟨cap, c0, c1, k1, k2, hp, hh, hne, hc⟩ := FrAt.opened H5
        dsimp only at c0 c1 k1 hc
        by_cases h22 : ks.getD j 0 = 2
        · have HN : Hid (takeAll lo (List.replicate n 1) l = none) := by unfold Hid; rw [HA.out, hto, if_pos h22]
          rw [h22]
          clear hto HA hc c0 c1 H5 HP h22
          go_wp2
          go_ret2
          unfold NewOut
          exact ⟨HB5, .inr (.inl ⟨HT.out, HN.out, rfl⟩)⟩
        · have HA' : Hid (takeAll lo (List.replicate n 1) l = takeAll lo (ks.set j 2) (l.drop (i + 1))) := by unfold Hid; rw [HA.out, hto, if_neg h22]
          have h22I : ¬ ((ks.getD j 0 : Nat) : Int) = 2 := by omega
          obtain ⟨hcj, hfj⟩ := hc j _ (List.getElem?_eq_getElem hjl)
          have HP' : Hid (PAt (w5.setCell ⟨w.heap.size + 1, j, none⟩ (.int .i64 2)) w2.heap.size (w.heap.size + 1) ⟨lo, ks.set j 2⟩) := FrAt.put H5 j 2
          have hko' := set_ok hko j 2 (by omega)
          generalize ks.getD j 0 = K at *
          generalize ks[j] = K' at *
          rw [hkl] at c1
          have hjI : (j : Int) < n := by omega
          clear hto HA hc H5 HP h22
          go_wp2_with fail
          go_roundw
          case rel => exact ⟨i + 1, ks.set j 2, by omega, by go_num, by rw [List.length_set]; exact hkl, HA', HP', hko', HB5.setCell (p := ⟨w.heap.size + 1, j, none⟩) (by simp) _⟩
          case measure => simp [intOf]; omega
      · have hltI : ¬ (i : Int) < l.length := by omega
        have HS : Hid (takeAll lo (List.replicate n 1) l = some ks) := by
          unfold Hid
          rw [HA.out, List.drop_of_length_le (by omega)]
          rfl
        have hzw : w.heap.size ≤ w2.heap.size := by omega
        clear g3 hall HA
        go_wp2
        go_ret2
        unfold NewOut
        exact ⟨HB, .inr (.inr ⟨HT.out, ks, _, _, HS.out, rfl, HP.out, hko, hzw, by omega⟩)⟩

end Go.Proofs.Ytljfdmjlilahjaa
