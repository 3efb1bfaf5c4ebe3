/- The contract of the document's Read. -/
import Derived.Test.YtjlglnhmkheidaaGreatP4
import Derived.Test.YtjlglnhmkheidaaGreatM2
namespace Go.Proofs.YtjlglnhmkheidaaGreat
open Go.RowKit
set_option maxRecDepth 4000
set_option linter.unusedVariables false

theorem refRead_size (w : World) (s : ByteArray) (hs : ¬ (s.size : Int) = 14) : Calls Tryz.prog 29 #[.string s] w fun e w' => e = .returned (.tuple #[plV pl0, .int .i64 11]) ∧ Below w.heap.size w w' := by
  have hs' : ((s.size : Int) != 14) = true := by simpa using hs
  go_enter Tryz.func29, Tryz.ntmps29
  go_wp2
  exact ret_place2 rfl w.heap.size pl0 rfl _ rfl (PlAt.laid w pl0).row rfl ⟨rfl, (Below.refl _ _).alloc (Nat.le_refl _) _⟩

set_option maxRecDepth 100000 in
set_option maxHeartbeats 8000000 in
theorem refRead_in (w : World) (s : ByteArray) (hs : s.size = 14) : Calls Tryz.prog 29 #[.string s] w fun e w' => e = .returned (.tuple #[plV (rdP s), .int .i64 (rdE s)]) ∧ Below w.heap.size w w' := by
  obtain ⟨w1, hw1⟩ : ∃ w1, w1 = w.alloc (.cells #[.int .u32 0, .int .i64 0, .string ⟨#[]⟩, .int .u32 0] 26) := ⟨_, rfl⟩
  have hb1 : Below w.heap.size w w1 := by rw [hw1]; exact (Below.refl _ _).alloc (Nat.le_refl _) _
  have hp1 : PlAt w1 w.heap.size pl0 := by rw [hw1]; exact PlAt.laid w pl0
  have hl : (strB s).length = 14 := by rw [strB_length]; exact hs
  have hy := strB_byt s
  have hok := refOf_ok (strB s) hy hl
  obtain ⟨v2, w2, hcv, hr2, hb2⟩ := conv_bytes w1 s (by omega)
  have hnum : Calls Tryz.prog 62 #[v2, .int .i64 4] w2 fun e w' => e = .returned (.tuple #[.int .u64 (valB ((strB s).take 4)), .int .i64 0]) ∧ w2 = w' := by
    have := refNumber_any w2 v2 (strB s) 4 hr2 hy
    rwa [show numE (strB s) 4 = 0 from by unfold numE; rw [if_neg (by omega), if_neg (by omega)], show numV (strB s) 4 = valB ((strB s).take 4) from by unfold numV numE; rw [if_neg (show ¬ ((4 : Int) < 1 ∨ 8 < (4 : Int)) from by omega), if_neg (show ¬ ((strB s).length : Int) < 4 from by omega)]; rfl] at this
  have HU : Hid (((valB ((strB s).take 4) : Nat) : Int) ≤ 4294967295) := valB_u32 (strB s) hy
  have HR : Hid (rdOk s = (plOk (refOf (strB s)) && ((keyS (refOf (strB s))).toList == s.toList))) := rdOk_ref s hs
  have HP : Hid (rdOk s = true → rdP s = refOf (strB s)) := fun h => rdP_ref s h hs
  obtain ⟨q, hq⟩ : ∃ q, q = refOf (strB s) := ⟨_, rfl⟩
  rw [← hq] at hok HR
  have HQ : Hid (q = refOf (strB s)) := hq
  have hkey : ∀ W, Calls Tryz.prog 26 #[.agg #[.int .u32 q.ino, .int .i64 q.part, .string q.name, .int .u32 q.chunk]] W fun e w' => e = .returned (.tuple #[.string (keyS q), .int .i64 (plE q)]) ∧ Below W.heap.size W w' := fun W => refKey_any W q hok
  have hsI : (s.size : Int) = 14 := by omega
  have h4 := strB_at s 4 (by omega)
  have h4l : (s[4]'(by omega)).toNat < 256 := (s[4]'(by omega)).toNat_lt
  have HX : Hid (((valB ((strB s).take 4) : Nat) : Int) % 4294967296 = (valB ((strB s).take 4) : Nat)) := by
    show _ = _
    have := HU.out
    omega
  have HV : Hid (refOf (strB s) = if (strB s).getD 4 0 = 2 then entP (valB ((strB s).take 4)) (strOfNums (((strB s).drop 5).take (zLen ((strB s).drop 5)))) else if (strB s).getD 4 0 = 3 then datP (valB ((strB s).take 4)) (valB (((strB s).drop 5).take 4)) else ⟨valB ((strB s).take 4), (strB s).getD 4 0, ⟨#[]⟩, 0⟩) := rfl
  generalize hn : valB ((strB s).take 4) = n at *
  have hx := HX.out
  have hb02 : Below w.heap.size w w2 := thenB hb1 hb2
  have hp2 : PlAt w2 w.heap.size pl0 := hp1.below hb2
  rw [hw1] at hcv
  clear hw1 hb1 hp1 hb2 hq hn HU HX
  go_enter Tryz.func29, Tryz.ntmps29
  go_wp2_with fail
  refine hnum.mono ?_
  rintro e w3 ⟨rfl, rfl⟩
  clear hcv hnum
  obtain ⟨z, hz⟩ : ∃ z, (s[4]'(by omega)).toNat = z := ⟨_, rfl⟩
  rw [hz] at h4 h4l
  by_cases h2 : z = 2
  · subst h2
    obtain ⟨w3, hw3⟩ : ∃ w3, w3 = w2.alloc (.cells #[.int .u32 n, .int .i64 2, .string ⟨#[]⟩, .int .u32 0] 26) := ⟨_, rfl⟩
    have hb3 : Below w2.heap.size w2 w3 := by rw [hw3]; exact (Below.refl _ _).alloc (Nat.le_refl _) _
    have hp3 : PlAt w3 w2.heap.size ⟨n, 2, ⟨#[]⟩, 0⟩ := by rw [hw3]; exact PlAt.laid w2 ⟨n, 2, ⟨#[]⟩, 0⟩
    have hg3 : PlAt w3 w.heap.size pl0 := hp2.below hb3
    have hb03 : Below w.heap.size w w3 := thenB hb02 hb3
    have HT : Hid (refOf (strB s) = entP n (strOfNums (((strB s).drop 5).take (zLen ((strB s).drop 5))))) := by
      have h := HV.out
      rw [if_pos (by rw [h4]; rfl)] at h
      exact h
    clear HV h4 h4l
    go_wp2_with fail
    rw [← hw3]
    clear hw3 hz
    have c2 := hp3.c2
    have f2 := hp3.fr 2
    go_loop [7] (fun t => ∃ e : Nat, 5 ≤ e ∧ e ≤ 14 ∧ t = .int .i64 e ∧ ∀ j (hj : j < s.size), 5 ≤ j → j < e → (s[j]'hj).toNat ≠ 0) (fun t => 14 - (intOf t).toNat)
    case atStart => exact ⟨5, by omega, by omega, rfl, fun j _ h5 hj => by omega⟩
    case round =>
      obtain ⟨e, he5, he14, rfl, hno⟩ := hrel
      have HN0 : Hid (∀ j (hj : j < s.size), 5 ≤ j → j < e → (s[j]'hj).toNat ≠ 0) := hno
      clear hno
      have hes : e ≤ s.size := by omega
      have hesI : (e : Int) ≤ 14 := by omega
      have he5I : (5 : Int) ≤ e := by omega
      by_cases hlt : e < 14
      · have hltI : (e : Int) < 14 := by omega
        have hes' : e < s.size := by omega
        by_cases hz0 : (s[e]'hes').toNat = 0
        · have hqe : q = entP n (s.extract 5 e) := by
            rw [HQ.out, HT.out, zLen_str s hs e he5 he14 HN0.out (.inr ⟨hes', hz0⟩), extract_str s 5 e hes]
          have hkey' : ∀ W, Calls Tryz.prog 26 #[.agg #[.int .u32 n, .int .i64 2, .string (s.extract 5 e), .int .u32 0]] W fun e w' => e = .returned (.tuple #[.string (keyS q), .int .i64 (plE q)]) ∧ Below W.heap.size W w' := fun W => by
            have h := hkey W
            rw [congrArg Pl.ino hqe, congrArg Pl.part hqe, congrArg Pl.name hqe, congrArg Pl.chunk hqe] at h
            exact h
          have HE : Hid (q = entP n (s.extract 5 e)) := hqe
          clear hkey hqe
          obtain ⟨w5, hw5⟩ : ∃ w5, w5 = w3.setCell ⟨w2.heap.size, 2, none⟩ (.string (s.extract 5 e)) := ⟨_, rfl⟩
          have hP : PlAt w5 w2.heap.size (entP n (s.extract 5 e)) := by
            rw [hw5]
            exact ⟨heap_setCell_same w3 w2.heap.size 2 _ _ (.string (s.extract 5 e)) hp3.row⟩
          have hG : PlAt w5 w.heap.size pl0 := by
            rw [hw5]
            exact ⟨(Below.heap_setCell _ _ _ _ (by have := hp2.lt; simp; omega)).trans hg3.row⟩
          have hBW : Below w.heap.size w w5 := by rw [hw5]; exact hb03.setCell hb02.size _
          have g0 := hp3.c0
          have g1 := hp3.c1
          have g3 := hp3.c3
          go_wp2_with fail
          rw [← hw5]
          clear hw5 g0 g1 g3 c2 f2
          refine (hkey' w5).mono ?_
          rintro e w9 ⟨rfl, hb9⟩
          have hq9 : PlAt w9 w2.heap.size (entP n (s.extract 5 e)) := hP.below hb9
          have hpl := hG.below hb9
          have hb09 : Below w.heap.size w w9 := thenB hBW hb9
          have hne : w.heap.size ≠ w2.heap.size := by have := hp2.lt; omega
          clear hkey'
          have c0 := hpl.c0
          have c1 := hpl.c1
          have c2 := hpl.c2
          have c3 := hpl.c3
          have f0 := hpl.fr 0
          have f1 := hpl.fr 1
          have f2 := hpl.fr 2
          have f3 := hpl.fr 3
          have d0 : w9.cell? ⟨w2.heap.size, 0, none⟩ = some (.int .u32 n) := hq9.c0
          have d1 : w9.cell? ⟨w2.heap.size, 1, none⟩ = some (.int .i64 2) := hq9.c1
          have d2 : w9.cell? ⟨w2.heap.size, 2, none⟩ = some (.string (s.extract 5 e)) := hq9.c2
          have d3 : w9.cell? ⟨w2.heap.size, 3, none⟩ = some (.int .u32 0) := hq9.c3
          cases hk : plOk q
          · have he : plE q = 30 := by unfold plE; rw [hk]; rfl
            have HN : Hid (rdP s = pl0 ∧ rdE s = 11) := rd_no (by rw [HR.out, hk]; rfl)
            rw [he]
            clear he
            go_wp2
            exact ret_place2 rfl w.heap.size pl0 rfl _ rfl (hpl.put4 pl0).row rfl ⟨by rw [HN.out.1, HN.out.2]; rfl, below_put4 hb09 (Nat.le_refl _) pl0⟩
          · have he : plE q = 0 := by unfold plE; rw [hk]; rfl
            rw [he]
            clear he
            cases hs2 : ((keyS q).toList == s.toList)
            · have HN : Hid (rdP s = pl0 ∧ rdE s = 11) := rd_no (by rw [HR.out, hk, hs2]; rfl)
              have hs3 : ¬ (keyS q).toList = s.toList := by simpa using hs2
              clear hk
              go_wp2
              exact ret_place2 rfl w.heap.size pl0 rfl _ rfl (hpl.put4 pl0).row rfl ⟨by rw [HN.out.1, HN.out.2]; rfl, below_put4 hb09 (Nat.le_refl _) pl0⟩
            · have hro : rdOk s = true := by rw [HR.out, hk, hs2]; rfl
              have HN : Hid (rdP s = entP n (s.extract 5 e) ∧ rdE s = 0) := ⟨by rw [HP.out hro, ← HQ.out, HE.out], (rd_yes hro).2⟩
              have hs3 : (keyS q).toList = s.toList := by simpa using hs2
              clear hk hro
              go_wp2
              exact ret_place2 rfl w.heap.size (entP n (s.extract 5 e)) rfl _ rfl (hpl.put4 (entP n (s.extract 5 e))).row rfl ⟨by rw [HN.out.1, HN.out.2]; rfl, below_put4 hb09 (Nat.le_refl _) (entP n (s.extract 5 e))⟩
        · have hz1 : (((s[e]'hes').toNat : Int) != 0) = true := by simpa using hz0
          go_wp2
          go_round
          case rel =>
            refine ⟨e + 1, by omega, by omega, by go_num, fun j hj h5 hje => ?_⟩
            rcases Nat.lt_or_ge j e with h | h
            · exact HN0.out j hj h5 h
            · obtain rfl : j = e := by omega
              exact hz0
          case measure => simp [intOf]; omega
      · have hltI : ¬ (e : Int) < 14 := by omega
        have hqe : q = entP n (s.extract 5 e) := by
          rw [HQ.out, HT.out, zLen_str s hs e he5 he14 HN0.out (.inl (by omega)), extract_str s 5 e hes]
        have hkey' : ∀ W, Calls Tryz.prog 26 #[.agg #[.int .u32 n, .int .i64 2, .string (s.extract 5 e), .int .u32 0]] W fun e w' => e = .returned (.tuple #[.string (keyS q), .int .i64 (plE q)]) ∧ Below W.heap.size W w' := fun W => by
          have h := hkey W
          rw [congrArg Pl.ino hqe, congrArg Pl.part hqe, congrArg Pl.name hqe, congrArg Pl.chunk hqe] at h
          exact h
        have HE : Hid (q = entP n (s.extract 5 e)) := hqe
        clear hkey hqe
        obtain ⟨w5, hw5⟩ : ∃ w5, w5 = w3.setCell ⟨w2.heap.size, 2, none⟩ (.string (s.extract 5 e)) := ⟨_, rfl⟩
        have hP : PlAt w5 w2.heap.size (entP n (s.extract 5 e)) := by
          rw [hw5]
          exact ⟨heap_setCell_same w3 w2.heap.size 2 _ _ (.string (s.extract 5 e)) hp3.row⟩
        have hG : PlAt w5 w.heap.size pl0 := by
          rw [hw5]
          exact ⟨(Below.heap_setCell _ _ _ _ (by have := hp2.lt; simp; omega)).trans hg3.row⟩
        have hBW : Below w.heap.size w w5 := by rw [hw5]; exact hb03.setCell hb02.size _
        have g0 := hp3.c0
        have g1 := hp3.c1
        have g3 := hp3.c3
        go_wp2_with fail
        rw [← hw5]
        clear hw5 g0 g1 g3 c2 f2
        refine (hkey' w5).mono ?_
        rintro e w9 ⟨rfl, hb9⟩
        have hq9 : PlAt w9 w2.heap.size (entP n (s.extract 5 e)) := hP.below hb9
        have hpl := hG.below hb9
        have hb09 : Below w.heap.size w w9 := thenB hBW hb9
        have hne : w.heap.size ≠ w2.heap.size := by have := hp2.lt; omega
        clear hkey'
        have c0 := hpl.c0
        have c1 := hpl.c1
        have c2 := hpl.c2
        have c3 := hpl.c3
        have f0 := hpl.fr 0
        have f1 := hpl.fr 1
        have f2 := hpl.fr 2
        have f3 := hpl.fr 3
        have d0 : w9.cell? ⟨w2.heap.size, 0, none⟩ = some (.int .u32 n) := hq9.c0
        have d1 : w9.cell? ⟨w2.heap.size, 1, none⟩ = some (.int .i64 2) := hq9.c1
        have d2 : w9.cell? ⟨w2.heap.size, 2, none⟩ = some (.string (s.extract 5 e)) := hq9.c2
        have d3 : w9.cell? ⟨w2.heap.size, 3, none⟩ = some (.int .u32 0) := hq9.c3
        cases hk : plOk q
        · have he : plE q = 30 := by unfold plE; rw [hk]; rfl
          have HN : Hid (rdP s = pl0 ∧ rdE s = 11) := rd_no (by rw [HR.out, hk]; rfl)
          rw [he]
          clear he
          go_wp2
          exact ret_place2 rfl w.heap.size pl0 rfl _ rfl (hpl.put4 pl0).row rfl ⟨by rw [HN.out.1, HN.out.2]; rfl, below_put4 hb09 (Nat.le_refl _) pl0⟩
        · have he : plE q = 0 := by unfold plE; rw [hk]; rfl
          rw [he]
          clear he
          cases hs2 : ((keyS q).toList == s.toList)
          · have HN : Hid (rdP s = pl0 ∧ rdE s = 11) := rd_no (by rw [HR.out, hk, hs2]; rfl)
            have hs3 : ¬ (keyS q).toList = s.toList := by simpa using hs2
            clear hk
            go_wp2
            exact ret_place2 rfl w.heap.size pl0 rfl _ rfl (hpl.put4 pl0).row rfl ⟨by rw [HN.out.1, HN.out.2]; rfl, below_put4 hb09 (Nat.le_refl _) pl0⟩
          · have hro : rdOk s = true := by rw [HR.out, hk, hs2]; rfl
            have HN : Hid (rdP s = entP n (s.extract 5 e) ∧ rdE s = 0) := ⟨by rw [HP.out hro, ← HQ.out, HE.out], (rd_yes hro).2⟩
            have hs3 : (keyS q).toList = s.toList := by simpa using hs2
            clear hk hro
            go_wp2
            exact ret_place2 rfl w.heap.size (entP n (s.extract 5 e)) rfl _ rfl (hpl.put4 (entP n (s.extract 5 e))).row rfl ⟨by rw [HN.out.1, HN.out.2]; rfl, below_put4 hb09 (Nat.le_refl _) (entP n (s.extract 5 e))⟩
  · by_cases h3 : z = 3
    · subst h3
      obtain ⟨w3, hw3⟩ : ∃ w3, w3 = w2.alloc (.cells #[.int .u32 n, .int .i64 3, .string ⟨#[]⟩, .int .u32 0] 26) := ⟨_, rfl⟩
      have hb3 : Below w2.heap.size w2 w3 := by rw [hw3]; exact (Below.refl _ _).alloc (Nat.le_refl _) _
      have hp3 : PlAt w3 w2.heap.size ⟨n, 3, ⟨#[]⟩, 0⟩ := by rw [hw3]; exact PlAt.laid w2 ⟨n, 3, ⟨#[]⟩, 0⟩
      have hg3 : PlAt w3 w.heap.size pl0 := hp2.below hb3
      have hb03 : Below w.heap.size w w3 := thenB hb02 hb3
      have hqe : q = datP n (valB (((strB s).drop 5).take 4)) := by
        have h := HV.out
        rw [if_neg (by rw [h4]; decide), if_pos (by rw [h4]; rfl)] at h
        rw [HQ.out, h]
      have hkey' : ∀ W, Calls Tryz.prog 26 #[.agg #[.int .u32 n, .int .i64 3, .string ⟨#[]⟩, .int .u32 (valB (((strB s).drop 5).take 4))]] W fun e w' => e = .returned (.tuple #[.string (keyS q), .int .i64 (plE q)]) ∧ Below W.heap.size W w' := fun W => by
        have h := hkey W
        rw [congrArg Pl.ino hqe, congrArg Pl.part hqe, congrArg Pl.name hqe, congrArg Pl.chunk hqe] at h
        exact h
      have HE : Hid (q = datP n (valB (((strB s).drop 5).take 4))) := hqe
      clear hkey hqe
      have hex : s.extract 5 9 = strOfNums (((strB s).drop 5).take 4) := extract_str s 5 9 (by omega)
      have hyb : Byt (((strB s).drop 5).take 4) := (hy.drop 5).take 4
      have hlb : (((strB s).drop 5).take 4).length = 4 := by simp [hl]
      obtain ⟨v5, w5, hcv5, hr5, hb5⟩ := conv_bytes w3 (s.extract 5 9) (by rw [hex, strOfNums_size, hlb]; omega)
      have hnum5 : Calls Tryz.prog 62 #[v5, .int .i64 4] w5 fun e w' => e = .returned (.tuple #[.int .u64 (valB (((strB s).drop 5).take 4)), .int .i64 0]) ∧ w5 = w' := by
        rw [hex, strB_strOf hyb] at hr5
        have := refNumber_any w5 v5 _ 4 hr5 hyb
        rwa [show numE (((strB s).drop 5).take 4) 4 = 0 from by unfold numE; rw [if_neg (by omega), if_neg (by omega)], show numV (((strB s).drop 5).take 4) 4 = valB (((strB s).drop 5).take 4) from by unfold numV numE; rw [if_neg (show ¬ ((4 : Int) < 1 ∨ 8 < (4 : Int)) from by omega), if_neg (show ¬ ((((strB s).drop 5).take 4).length : Int) < 4 from by omega)]; rw [if_pos rfl]; exact congrArg (fun t => ((valB t : Nat) : Int)) (List.take_of_length_le (show (((strB s).drop 5).take 4).length ≤ (4 : Int).toNat from Nat.le_of_eq hlb))] at this
      have hm : ((valB (((strB s).drop 5).take 4) : Nat) : Int) % 4294967296 = (valB (((strB s).drop 5).take 4) : Nat) := by
        have := valB_u32 ((strB s).drop 5) (hy.drop 5)
        omega
      have hp5 := hp3.below hb5
      have hg5 := hg3.below hb5
      have hb05 := thenB hb03 hb5
      rw [hw3] at hcv5
      clear HV h4 h4l hex hr5 hyb hlb
      generalize valB (((strB s).drop 5).take 4) = m at *
      obtain ⟨w6, hw6⟩ : ∃ w6, w6 = w5.setCell ⟨w2.heap.size, 3, none⟩ (.int .u32 m) := ⟨_, rfl⟩
      have hP : PlAt w6 w2.heap.size (datP n m) := by
        rw [hw6]
        exact ⟨heap_setCell_same w5 w2.heap.size 3 _ _ (.int .u32 m) hp5.row⟩
      have hG : PlAt w6 w.heap.size pl0 := by
        rw [hw6]
        exact ⟨(Below.heap_setCell _ _ _ _ (by have := hp2.lt; simp; omega)).trans hg5.row⟩
      have hBW : Below w.heap.size w w6 := by rw [hw6]; exact hb05.setCell hb02.size _
      clear hw3
      go_wp2_with fail
      refine hnum5.mono ?_
      rintro e w7 ⟨rfl, rfl⟩
      clear hcv5 hnum5 hz
      have g0 := hp5.c0
      have g1 := hp5.c1
      have g2 := hp5.c2
      have g3 := hp5.c3
      have fr3 := hp5.fr 3
      go_wp2_with fail
      rw [← hw6]
      clear hw6 g0 g1 g2 g3 fr3
      refine (hkey' w6).mono ?_
      rintro e w9 ⟨rfl, hb9⟩
      have hq9 : PlAt w9 w2.heap.size (datP n m) := hP.below hb9
      have hpl := hG.below hb9
      have hb09 : Below w.heap.size w w9 := thenB hBW hb9
      have hne : w.heap.size ≠ w2.heap.size := by have := hp2.lt; omega
      clear hkey'
      have c0 := hpl.c0
      have c1 := hpl.c1
      have c2 := hpl.c2
      have c3 := hpl.c3
      have f0 := hpl.fr 0
      have f1 := hpl.fr 1
      have f2 := hpl.fr 2
      have f3 := hpl.fr 3
      have d0 : w9.cell? ⟨w2.heap.size, 0, none⟩ = some (.int .u32 n) := hq9.c0
      have d1 : w9.cell? ⟨w2.heap.size, 1, none⟩ = some (.int .i64 3) := hq9.c1
      have d2 : w9.cell? ⟨w2.heap.size, 2, none⟩ = some (.string ⟨#[]⟩) := hq9.c2
      have d3 : w9.cell? ⟨w2.heap.size, 3, none⟩ = some (.int .u32 m) := hq9.c3
      cases hk : plOk q
      · have he : plE q = 30 := by unfold plE; rw [hk]; rfl
        have HN : Hid (rdP s = pl0 ∧ rdE s = 11) := rd_no (by rw [HR.out, hk]; rfl)
        rw [he]
        clear he
        go_wp2
        exact ret_place2 rfl w.heap.size pl0 rfl _ rfl (hpl.put4 pl0).row rfl ⟨by rw [HN.out.1, HN.out.2]; rfl, below_put4 hb09 (Nat.le_refl _) pl0⟩
      · have he : plE q = 0 := by unfold plE; rw [hk]; rfl
        rw [he]
        clear he
        cases hs2 : ((keyS q).toList == s.toList)
        · have HN : Hid (rdP s = pl0 ∧ rdE s = 11) := rd_no (by rw [HR.out, hk, hs2]; rfl)
          have hs3 : ¬ (keyS q).toList = s.toList := by simpa using hs2
          clear hk
          go_wp2
          exact ret_place2 rfl w.heap.size pl0 rfl _ rfl (hpl.put4 pl0).row rfl ⟨by rw [HN.out.1, HN.out.2]; rfl, below_put4 hb09 (Nat.le_refl _) pl0⟩
        · have hro : rdOk s = true := by rw [HR.out, hk, hs2]; rfl
          have HN : Hid (rdP s = datP n m ∧ rdE s = 0) := ⟨by rw [HP.out hro, ← HQ.out, HE.out], (rd_yes hro).2⟩
          have hs3 : (keyS q).toList = s.toList := by simpa using hs2
          clear hk hro
          go_wp2
          exact ret_place2 rfl w.heap.size (datP n m) rfl _ rfl (hpl.put4 (datP n m)).row rfl ⟨by rw [HN.out.1, HN.out.2]; rfl, below_put4 hb09 (Nat.le_refl _) (datP n m)⟩
    · subst hz
      have hqe : q = ⟨n, ((s[4]'(by omega)).toNat : Int), ⟨#[]⟩, 0⟩ := by
        have h := HV.out
        rw [if_neg (by rw [h4]; omega), if_neg (by rw [h4]; omega), h4] at h
        rw [HQ.out, h]
      obtain ⟨w3, hw3⟩ : ∃ w3, w3 = w2.alloc (.cells #[.int .u32 n, .int .i64 ((s[4]'(by omega)).toNat : Int), .string ⟨#[]⟩, .int .u32 0] 26) := ⟨_, rfl⟩
      have hb3 : Below w2.heap.size w2 w3 := by rw [hw3]; exact (Below.refl _ _).alloc (Nat.le_refl _) _
      have hp3 : PlAt w3 w2.heap.size ⟨n, ((s[4]'(by omega)).toNat : Int), ⟨#[]⟩, 0⟩ := by rw [hw3]; exact PlAt.laid w2 ⟨n, ((s[4]'(by omega)).toNat : Int), ⟨#[]⟩, 0⟩
      have hg3 : PlAt w3 w.heap.size pl0 := hp2.below hb3
      have hb03 : Below w.heap.size w w3 := thenB hb02 hb3
      have hkey' : ∀ W, Calls Tryz.prog 26 #[.agg #[.int .u32 n, .int .i64 ((s[4]'(by omega)).toNat : Int), .string ⟨#[]⟩, .int .u32 0]] W fun e w' => e = .returned (.tuple #[.string (keyS q), .int .i64 (plE q)]) ∧ Below W.heap.size W w' := fun W => by
        have h := hkey W
        rw [congrArg Pl.ino hqe, congrArg Pl.part hqe, congrArg Pl.name hqe, congrArg Pl.chunk hqe] at h
        exact h
      have HE : Hid (q = ⟨n, ((s[4]'(by omega)).toNat : Int), ⟨#[]⟩, 0⟩) := hqe
      clear hkey hqe
      have hP := hp3
      have hG := hg3
      have hBW := hb03
      clear HV h4
      go_wp2_with fail
      rw [← hw3]
      clear hw3
      refine (hkey' w3).mono ?_
      rintro e w9 ⟨rfl, hb9⟩
      have hq9 : PlAt w9 w2.heap.size (⟨n, ((s[4]'(by omega)).toNat : Int), ⟨#[]⟩, 0⟩) := hP.below hb9
      have hpl := hG.below hb9
      have hb09 : Below w.heap.size w w9 := thenB hBW hb9
      have hne : w.heap.size ≠ w2.heap.size := by have := hp2.lt; omega
      clear hkey'
      have c0 := hpl.c0
      have c1 := hpl.c1
      have c2 := hpl.c2
      have c3 := hpl.c3
      have f0 := hpl.fr 0
      have f1 := hpl.fr 1
      have f2 := hpl.fr 2
      have f3 := hpl.fr 3
      have d0 : w9.cell? ⟨w2.heap.size, 0, none⟩ = some (.int .u32 n) := hq9.c0
      have d1 : w9.cell? ⟨w2.heap.size, 1, none⟩ = some (.int .i64 ((s[4]'(by omega)).toNat : Int)) := hq9.c1
      have d2 : w9.cell? ⟨w2.heap.size, 2, none⟩ = some (.string ⟨#[]⟩) := hq9.c2
      have d3 : w9.cell? ⟨w2.heap.size, 3, none⟩ = some (.int .u32 0) := hq9.c3
      cases hk : plOk q
      · have he : plE q = 30 := by unfold plE; rw [hk]; rfl
        have HN : Hid (rdP s = pl0 ∧ rdE s = 11) := rd_no (by rw [HR.out, hk]; rfl)
        rw [he]
        clear he
        go_wp2
        exact ret_place2 rfl w.heap.size pl0 rfl _ rfl (hpl.put4 pl0).row rfl ⟨by rw [HN.out.1, HN.out.2]; rfl, below_put4 hb09 (Nat.le_refl _) pl0⟩
      · have he : plE q = 0 := by unfold plE; rw [hk]; rfl
        rw [he]
        clear he
        cases hs2 : ((keyS q).toList == s.toList)
        · have HN : Hid (rdP s = pl0 ∧ rdE s = 11) := rd_no (by rw [HR.out, hk, hs2]; rfl)
          have hs3 : ¬ (keyS q).toList = s.toList := by simpa using hs2
          clear hk
          go_wp2
          exact ret_place2 rfl w.heap.size pl0 rfl _ rfl (hpl.put4 pl0).row rfl ⟨by rw [HN.out.1, HN.out.2]; rfl, below_put4 hb09 (Nat.le_refl _) pl0⟩
        · have hro : rdOk s = true := by rw [HR.out, hk, hs2]; rfl
          have HN : Hid (rdP s = ⟨n, ((s[4]'(by omega)).toNat : Int), ⟨#[]⟩, 0⟩ ∧ rdE s = 0) := ⟨by rw [HP.out hro, ← HQ.out, HE.out], (rd_yes hro).2⟩
          have hs3 : (keyS q).toList = s.toList := by simpa using hs2
          clear hk hro
          go_wp2
          exact ret_place2 rfl w.heap.size (⟨n, ((s[4]'(by omega)).toNat : Int), ⟨#[]⟩, 0⟩) rfl _ rfl (hpl.put4 (⟨n, ((s[4]'(by omega)).toNat : Int), ⟨#[]⟩, 0⟩)).row rfl ⟨by rw [HN.out.1, HN.out.2]; rfl, below_put4 hb09 (Nat.le_refl _) (⟨n, ((s[4]'(by omega)).toNat : Int), ⟨#[]⟩, 0⟩)⟩

theorem refRead_any (w : World) (s : ByteArray) (hs : s.size ≤ maxLen) : Calls Tryz.prog 29 #[.string s] w fun e w' => e = .returned (.tuple #[plV (rdP s), .int .i64 (rdE s)]) ∧ Below w.heap.size w w' := by
  by_cases h : s.size = 14
  · exact refRead_in w s h
  · obtain ⟨e1, e2⟩ := rd_no (s := s) (by unfold rdOk; simp [h])
    rw [e1, e2]
    exact refRead_size w s (by omega)

end Go.Proofs.YtjlglnhmkheidaaGreat
