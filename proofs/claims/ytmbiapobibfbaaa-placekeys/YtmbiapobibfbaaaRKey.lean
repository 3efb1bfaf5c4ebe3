/- The contracts of the document's Key, Span. -/
import Derived.Test.YtmbiapobibfbaaaRHead
import Derived.Test.YtmbiapobibfbaaaRCheck
import Derived.Test.YtmbiapobibfbaaaPKeyAll
import Derived.Test.YtmbiapobibfbaaaPSpan
namespace Go.Proofs.Ytmbiapobibfbaaa
open Go.RowKit
set_option linter.unusedVariables false

set_option maxHeartbeats 2000000 in
theorem refSpan_any (w : World) (i k : Int) (h0 : 0 ≤ i) (h1 : i ≤ 4294967295) (k0 : -9223372036854775808 ≤ k) (k1 : k ≤ 9223372036854775807) :
    Calls Try.prog 19 #[.int .u32 i, .int .i64 k] w fun e w' => e = .returned (.tuple #[.string (spF i k), .string (spT i k), .int .i64 (spE i k)]) ∧ Below w.heap.size w w' := by
  by_cases hi : i = 0
  · obtain ⟨e1, e2, e3⟩ := spOk_no (i := i) (k := k) (by simp [spOk, hi])
    rw [e1, e2, e3]
    have hi' : (i == 0) = true := by simpa using hi
    go_enter Try.func19, Try.ntmps19
    go_wp2
    refine bodyPost_ret (results_tmp3 rfl _ _ _) rfl ?_
    exact ⟨rfl, Below.refl _ _⟩
  · have hi' : (i == 0) = false := by simpa using hi
    by_cases hk1 : k < 1
    · obtain ⟨e1, e2, e3⟩ := spOk_no (i := i) (k := k) (by simp [spOk]; omega)
      rw [e1, e2, e3]
      go_enter Try.func19, Try.ntmps19
      go_wp2
      refine bodyPost_ret (results_tmp3 rfl _ _ _) rfl ?_
      exact ⟨rfl, Below.refl _ _⟩
    · by_cases hk3 : 3 < k
      · obtain ⟨e1, e2, e3⟩ := spOk_no (i := i) (k := k) (by simp [spOk]; omega)
        rw [e1, e2, e3]
        go_enter Try.func19, Try.ntmps19
        go_wp2
        refine bodyPost_ret (results_tmp3 rfl _ _ _) rfl ?_
        exact ⟨rfl, Below.refl _ _⟩
      · obtain ⟨e1, e2, e3⟩ := spOk_yes (i := i) (k := k) (by simp [spOk, hi]; omega)
        rw [e1, e2, e3]
        have hfa : ∀ (k' : Int) (W : World) (B : Nat) (v : Value), Own W B v (fixB i.toNat 4 ++ [k' % 256]) → B ≤ W.heap.size → Calls Try.prog 26 #[v] W fun e w' => e = .returned (.string (strOfNums (keyL i k' []))) ∧ Below B W w' := fun k' W B v ho hB => by
          have := fill_any W B v _ ho hB (by simp [fixB_length])
          have hk := fill_key i k' [] (by simp)
          rw [List.append_nil] at hk
          rwa [hk] at this
        go_enter Try.func19, Try.ntmps19
        go_wp2_with fail
        refine (head_any _ _ _ h0 h1).mono ?_
        rintro e w1 ⟨v1, rfl, ho1, hb1⟩
        go_wp2_with fail
        refine (hfa k _ _ _ ho1 hb1.size).mono ?_
        rintro e w2 ⟨rfl, hb2⟩
        have hb02 : Below w.heap.size w w2 := hb1.trans hb2
        go_wp2_with fail
        refine (head_any _ _ _ h0 h1).mono ?_
        rintro e w3 ⟨v3, rfl, ho3, hb3⟩
        go_wp2_with fail
        refine (hfa (k + 1) _ _ _ ho3 hb3.size).mono ?_
        rintro e w4 ⟨rfl, hb4⟩
        go_wp2
        refine bodyPost_ret (results_tmp3 rfl _ _ _) rfl ?_
        exact ⟨rfl, hb02.trans ((hb3.trans hb4).mono hb02.size)⟩

set_option maxHeartbeats 2000000 in
theorem refKey_any (w : World) (p : Pl) (hp : PlOk p) : Calls Try.prog 11 #[plV p] w fun e w' => e = .returned (.tuple #[.string (keyS p), .int .i64 (plE p)]) ∧ Below w.heap.size w w' := by
  have hck : ∀ W, Calls Try.prog 15 #[.agg #[.int .u32 p.ino, .int .i64 p.part, .string p.name, .int .u32 p.chunk]] W fun e w' => e = .returned (.int .i64 (plE p)) ∧ Below W.heap.size W w' := fun W => refCheck_any W p hp
  obtain ⟨w1, hw1⟩ : ∃ w1, w1 = w.alloc (.cells #[.int .u32 p.ino, .int .i64 p.part, .string p.name, .int .u32 p.chunk] 24) := ⟨_, rfl⟩
  have hb1 : Below w.heap.size w w1 := by rw [hw1]; exact (Below.refl _ _).alloc (Nat.le_refl _) _
  have hp1 : PlAt w1 w.heap.size p := by rw [hw1]; exact PlAt.laid w p
  obtain ⟨h0, h1, _, _, _, h2, h3⟩ := hp
  unfold plV
  cases hok : plOk p
  · have e1 : plE p = 30 := by unfold plE; rw [hok]; rfl
    have e2 : keyS p = ⟨#[]⟩ := by unfold keyS; rw [hok]; rfl
    rw [e1] at hck ⊢
    rw [e2]
    go_enter Try.func11, Try.ntmps11
    go_wp2_with fail
    rw [← hw1]
    refine (hck _).mono ?_
    rintro e w2 ⟨rfl, hb2⟩
    go_wp2
    go_ret2
    exact ⟨rfl, thenB hb1 hb2⟩
  · have e1 : plE p = 0 := by unfold plE; rw [hok]; rfl
    have e2 : keyS p = strOfNums (keyL p.ino p.part (restP p)) := by unfold keyS; rw [hok]; rfl
    have hrl := restP_length hok
    have hsz := plOk_size hok
    obtain ⟨hi0, hpc⟩ := plOk_cases hok
    rw [e1] at hck ⊢
    rw [e2]
    clear hok e1 e2
    have hfa : ∀ (W : World) (B : Nat) (v : Value), Own W B v (fixB p.ino.toNat 4 ++ [p.part % 256] ++ restP p) → B ≤ W.heap.size → Calls Try.prog 26 #[v] W fun e w' => e = .returned (.string (strOfNums (keyL p.ino p.part (restP p)))) ∧ Below B W w' := fun W B v ho hB => by
      have := fill_any W B v _ ho hB (by simp [fixB_length]; omega)
      rwa [fill_key p.ino p.part (restP p) hrl] at this
    rcases hpc with ⟨hpt, hnm, hch⟩ | ⟨hpt, hnm, hch⟩ | ⟨hpt, hnm, hch⟩
    · have hrest : restP p = [] := by
        unfold restP
        rw [if_neg (by omega)]
        exact List.eq_nil_of_length_eq_zero (by rw [strB_length, ← size_toList, hnm]; rfl)
      rw [hrest] at hfa ⊢
      rw [List.append_nil] at hfa
      obtain ⟨i, k, s, c⟩ := p
      dsimp only at *
      subst hpt
      clear hch hnm hi0 hrest
      go_enter Try.func11, Try.ntmps11
      go_wp2_with fail
      rw [← hw1]
      clear hw1
      refine (hck _).mono ?_
      rintro e w2 ⟨rfl, hb2⟩
      have hp2 := hp1.below hb2
      have c0 := hp2.c0
      have c1 := hp2.c1
      go_wp2_with fail
      refine (head_any _ _ _ h0 h1).mono ?_
      rintro e w3 ⟨v3, rfl, ho3, hb3⟩
      have d1 := (hp2.below hb3).c1
      go_wp2_with fail
      refine (hfa _ _ _ ho3 hb3.size).mono ?_
      rintro e w4 ⟨rfl, hb4⟩
      go_wp2
      go_ret2
      exact ⟨rfl, thenB hb1 (thenB hb2 (hb3.trans hb4))⟩
    · have hrest : restP p = strB p.name := by
        unfold restP
        rw [if_neg (by omega)]
      rw [hrest] at hfa ⊢
      obtain ⟨i, k, s, c⟩ := p
      dsimp only at *
      subst hpt
      clear hch hnm hi0 hrest
      obtain ⟨inf, hi, hz0, hz1, hz2⟩ := info_parts Try.info5
      go_enter Try.func11, Try.ntmps11
      go_wp2_with fail
      rw [← hw1]
      clear hw1
      refine (hck _).mono ?_
      rintro e w2 ⟨rfl, hb2⟩
      have hp2 := hp1.below hb2
      have c0 := hp2.c0
      have c1 := hp2.c1
      go_wp2_with fail
      refine (head_any _ _ _ h0 h1).mono ?_
      rintro e w3 ⟨v3, rfl, ho3, hb3⟩
      have d1 := (hp2.below hb3).c1
      have d2 := (hp2.below hb3).c2
      have hln : (fixB i.toNat 4 ++ [(2 : Int) % 256]).length = 5 := by simp [fixB_length]
      have hsz3 := hb3.size
      clear c0 c1
      go_wp2_with (at_builtin; refine Lib.wpList_append_own_string _ rfl _ _ 43 9 rfl w2.heap.size 5 inf Try.underlying43 Try.underlying9 hi hz0 hz1 hz2 _ _ _ rfl ho3 s rfl ?c2 ?c3 ?c4 ?_)
      case c2 => rw [hln]; unfold maxLen; omega
      case c3 => rw [hln]; omega
      case c4 => exact hsz3
      intro v4 w4 hown hgr hnil
      have ho4 : Own w4 w2.heap.size v4 (fixB i.toNat 4 ++ [(2 : Int) % 256] ++ strB s) := by
        unfold Own
        rw [List.length_append, strB_length, List.map_append, ← strCells_eq]
        exact hown
      have hb4 : Below w2.heap.size w2 w4 := below_grown hb3 hsz3 ho3 hgr
      have e1 : w4.cell? ⟨w.heap.size, 1, none⟩ = some (.int .i64 2) := (hp2.below hb4).c1
      clear d1 d2
      go_wp2_with fail
      refine (hfa _ _ _ ho4 hb4.size).mono ?_
      rintro e w5 ⟨rfl, hb5⟩
      go_wp2
      go_ret2
      exact ⟨rfl, thenB hb1 (thenB hb2 (hb4.trans hb5))⟩
    · have hrest : restP p = fixB p.chunk.toNat 4 := by
        unfold restP
        rw [if_pos hpt]
      rw [hrest] at hfa ⊢
      obtain ⟨i, k, s, c⟩ := p
      dsimp only at *
      subst hpt
      clear hch hnm hi0 hrest
      go_enter Try.func11, Try.ntmps11
      go_wp2_with fail
      rw [← hw1]
      clear hw1
      refine (hck _).mono ?_
      rintro e w2 ⟨rfl, hb2⟩
      have hp2 := hp1.below hb2
      have c0 := hp2.c0
      have c1 := hp2.c1
      go_wp2_with fail
      refine (head_any _ _ _ h0 h1).mono ?_
      rintro e w3 ⟨v3, rfl, ho3, hb3⟩
      have d1 := (hp2.below hb3).c1
      have d3 := (hp2.below hb3).c3
      have hln : (fixB i.toNat 4 ++ [(3 : Int) % 256]).length = 5 := by simp [fixB_length]
      have hsz3 := hb3.size
      clear c0 c1
      go_wp2_with fail
      refine (refFixed_any _ c 4 h2 (by omega)).mono ?_
      rintro e w4 ⟨v4, rfl, ho4, hb4⟩
      rw [fixL_four c h2 h3] at ho4
      have ho34 := ho3.below hb4
      have hsz4 := hb4.size
      clear d1 d3
      go_wp2_with (at_builtin; refine wpList_append_rd rfl _ _ rfl w2.heap.size _ _ rfl ho34 _ _ rfl ho4.rd ?c1 ?c2 ?_)
      case c1 => rw [hln, fixB_length]; omega
      case c2 => omega
      intro v5 w5 ho5 hg5
      have hb5 : Below w2.heap.size w2 w5 := below_grown (hb3.trans (hb4.mono hsz3)) (by omega) ho34 hg5
      go_wp2_with fail
      refine (hfa _ _ _ ho5 hb5.size).mono ?_
      rintro e w6 ⟨rfl, hb6⟩
      go_wp2
      go_ret2
      exact ⟨rfl, thenB hb1 (thenB hb2 (hb5.trans hb6))⟩

end Go.Proofs.Ytmbiapobibfbaaa
