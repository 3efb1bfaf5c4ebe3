/- RRead, VwRv, VwOrd, VwOrd2, VwKept, VwBest, VwRnm, VwGot: in one text. -/
import Derived.Test.YtjlglnhmkheidaaGreatP4
import Derived.Test.YtjlglnhmkheidaaGreatM2
import Derived.Test.YtjlglnhmkheidaaGreatN2
import Derived.Test.YtjlglnhmkheidaaGreatV9
import Derived.Test.YtjlglnhmkheidaaGreatN4
import Derived.OwnWalk
import Derived.Test.YtjlglnhmkheidaaGreatV8
import Derived.Test.YtjlglnhmkheidaaGreatV3
import Derived.Test.YtjlglnhmkheidaaGreatV4
namespace Go.Proofs.YtjlglnhmkheidaaGreat
open Go.RowKit
set_option linter.unusedVariables false
set_option linter.unusedSimpArgs false
set_option maxRecDepth 4000

theorem refRead_size (w : World) (s : ByteArray) (hs : ¬ (s.size : Int) = 14) : Calls Tryz.prog 29 #[.string s] w fun e w' => e = .returned (.tuple #[plV pl0, .int .i64 11]) ∧ Below w.heap.size w w' := by
  have hs' : ((s.size : Int) != 14) = true := by simpa using hs
  go_enter Tryz.func29, Tryz.ntmps29
  go_wp2
  exact ret_place2 rfl w.heap.size pl0 rfl _ rfl (PlAt.laid w pl0).row rfl ⟨rfl, (Below.refl _ _).alloc (Nat.le_refl _) _⟩

set_option maxRecDepth 100000 in
set_option maxHeartbeats 8000000 in
theorem refRead_in (w : World) (s : ByteArray) (hs : s.size = 14) : Calls Tryz.prog 29 #[.string s] w fun e w' => e = .returned (.tuple #[plV (rdP s), .int .i64 (rdE s)]) ∧ Below w.heap.size w w' := by
  obtain ⟨w1, hw1⟩ : ∃ w1, w1 = w.alloc (.cells #[.int .u32 0, .int .i64 0, .string ⟨#[]⟩, .int .u32 0] 26) := ⟨_, rfl⟩
  have hb1 : Below w.heap.size w w1 := by rw [hw1]; exact (Below.refl _ _).alloc (Nat.le_refl _) _
  have hp1 : PlAt w1 w.heap.size pl0 := by rw [hw1]; exact PlAt.laid w pl0
  have hl : (strB s).length = 14 := by rw [strB_length]; exact hs
  have hy := strB_byt s
  have hok := refOf_ok (strB s) hy hl
  obtain ⟨v2, w2, hcv, hr2, hb2⟩ := conv_bytes w1 s (by omega)
  have hnum : Calls Tryz.prog 62 #[v2, .int .i64 4] w2 fun e w' => e = .returned (.tuple #[.int .u64 (valB ((strB s).take 4)), .int .i64 0]) ∧ w2 = w' := by
    have := refNumber_any w2 v2 (strB s) 4 hr2 hy
    rwa [show numE (strB s) 4 = 0 from by unfold numE; rw [if_neg (by omega), if_neg (by omega)], show numV (strB s) 4 = valB ((strB s).take 4) from by unfold numV numE; rw [if_neg (show ¬ ((4 : Int) < 1 ∨ 8 < (4 : Int)) from by omega), if_neg (show ¬ ((strB s).length : Int) < 4 from by omega)]; rfl] at this
  have HU : Hid (((valB ((strB s).take 4) : Nat) : Int) ≤ 4294967295) := valB_u32 (strB s) hy
  have HR : Hid (rdOk s = (plOk (refOf (strB s)) && ((keyS (refOf (strB s))).toList == s.toList))) := rdOk_ref s hs
  have HP : Hid (rdOk s = true → rdP s = refOf (strB s)) := fun h => rdP_ref s h hs
  obtain ⟨q, hq⟩ : ∃ q, q = refOf (strB s) := ⟨_, rfl⟩
  rw [← hq] at hok HR
  have HQ : Hid (q = refOf (strB s)) := hq
  have hkey : ∀ W, Calls Tryz.prog 26 #[.agg #[.int .u32 q.ino, .int .i64 q.part, .string q.name, .int .u32 q.chunk]] W fun e w' => e = .returned (.tuple #[.string (keyS q), .int .i64 (plE q)]) ∧ Below W.heap.size W w' := fun W => refKey_any W q hok
  have hsI : (s.size : Int) = 14 := by omega
  have h4 := strB_at s 4 (by omega)
  have h4l : (s[4]'(by omega)).toNat < 256 := (s[4]'(by omega)).toNat_lt
  have HX : Hid (((valB ((strB s).take 4) : Nat) : Int) % 4294967296 = (valB ((strB s).take 4) : Nat)) := by
    show _ = _
    have := HU.out
    omega
  have HV : Hid (refOf (strB s) = if (strB s).getD 4 0 = 2 then entP (valB ((strB s).take 4)) (strOfNums (((strB s).drop 5).take (zLen ((strB s).drop 5)))) else if (strB s).getD 4 0 = 3 then datP (valB ((strB s).take 4)) (valB (((strB s).drop 5).take 4)) else ⟨valB ((strB s).take 4), (strB s).getD 4 0, ⟨#[]⟩, 0⟩) := rfl
  generalize hn : valB ((strB s).take 4) = n at *
  have hx := HX.out
  have hb02 : Below w.heap.size w w2 := thenB hb1 hb2
  have hp2 : PlAt w2 w.heap.size pl0 := hp1.below hb2
  rw [hw1] at hcv
  clear hw1 hb1 hp1 hb2 hq hn HU HX
  go_enter Tryz.func29, Tryz.ntmps29
  go_wp2_with fail
  refine hnum.mono ?_
  rintro e w3 ⟨rfl, rfl⟩
  clear hcv hnum
  obtain ⟨z, hz⟩ : ∃ z, (s[4]'(by omega)).toNat = z := ⟨_, rfl⟩
  rw [hz] at h4 h4l
  by_cases h2 : z = 2
  · subst h2
    obtain ⟨w3, hw3⟩ : ∃ w3, w3 = w2.alloc (.cells #[.int .u32 n, .int .i64 2, .string ⟨#[]⟩, .int .u32 0] 26) := ⟨_, rfl⟩
    have hb3 : Below w2.heap.size w2 w3 := by rw [hw3]; exact (Below.refl _ _).alloc (Nat.le_refl _) _
    have hp3 : PlAt w3 w2.heap.size ⟨n, 2, ⟨#[]⟩, 0⟩ := by rw [hw3]; exact PlAt.laid w2 ⟨n, 2, ⟨#[]⟩, 0⟩
    have hg3 : PlAt w3 w.heap.size pl0 := hp2.below hb3
    have hb03 : Below w.heap.size w w3 := thenB hb02 hb3
    have HT : Hid (refOf (strB s) = entP n (strOfNums (((strB s).drop 5).take (zLen ((strB s).drop 5))))) := by
      have h := HV.out
      rw [if_pos (by rw [h4]; rfl)] at h
      exact h
    clear HV h4 h4l
    go_wp2_with fail
    rw [← hw3]
    clear hw3 hz
    have c2 := hp3.c2
    have f2 := hp3.fr 2
    go_loop [7] (fun t => ∃ e : Nat, 5 ≤ e ∧ e ≤ 14 ∧ t = .int .i64 e ∧ ∀ j (hj : j < s.size), 5 ≤ j → j < e → (s[j]'hj).toNat ≠ 0) (fun t => 14 - (intOf t).toNat)
    case atStart => exact ⟨5, by omega, by omega, rfl, fun j _ h5 hj => by omega⟩
    case round =>
      obtain ⟨e, he5, he14, rfl, hno⟩ := hrel
      have HN0 : Hid (∀ j (hj : j < s.size), 5 ≤ j → j < e → (s[j]'hj).toNat ≠ 0) := hno
      clear hno
      have hes : e ≤ s.size := by omega
      have hesI : (e : Int) ≤ 14 := by omega
      have he5I : (5 : Int) ≤ e := by omega
      by_cases hlt : e < 14
      · have hltI : (e : Int) < 14 := by omega
        have hes' : e < s.size := by omega
        by_cases hz0 : (s[e]'hes').toNat = 0
        · have hqe : q = entP n (s.extract 5 e) := by
            rw [HQ.out, HT.out, zLen_str s hs e he5 he14 HN0.out (.inr ⟨hes', hz0⟩), extract_str s 5 e hes]
          have hkey' : ∀ W, Calls Tryz.prog 26 #[.agg #[.int .u32 n, .int .i64 2, .string (s.extract 5 e), .int .u32 0]] W fun e w' => e = .returned (.tuple #[.string (keyS q), .int .i64 (plE q)]) ∧ Below W.heap.size W w' := fun W => by
            have h := hkey W
            rw [congrArg Pl.ino hqe, congrArg Pl.part hqe, congrArg Pl.name hqe, congrArg Pl.chunk hqe] at h
            exact h
          have HE : Hid (q = entP n (s.extract 5 e)) := hqe
          clear hkey hqe
          obtain ⟨w5, hw5⟩ : ∃ w5, w5 = w3.setCell ⟨w2.heap.size, 2, none⟩ (.string (s.extract 5 e)) := ⟨_, rfl⟩
          have hP : PlAt w5 w2.heap.size (entP n (s.extract 5 e)) := by
            rw [hw5]
            exact ⟨heap_setCell_same w3 w2.heap.size 2 _ _ (.string (s.extract 5 e)) hp3.row⟩
          have hG : PlAt w5 w.heap.size pl0 := by
            rw [hw5]
            exact ⟨(Below.heap_setCell _ _ _ _ (by have := hp2.lt; simp; omega)).trans hg3.row⟩
          have hBW : Below w.heap.size w w5 := by rw [hw5]; exact hb03.setCell hb02.size _
          have g0 := hp3.c0
          have g1 := hp3.c1
          have g3 := hp3.c3
          go_wp2_with fail
          rw [← hw5]
          clear hw5 g0 g1 g3 c2 f2
          refine (hkey' w5).mono ?_
          rintro e w9 ⟨rfl, hb9⟩
          have hq9 : PlAt w9 w2.heap.size (entP n (s.extract 5 e)) := hP.below hb9
          have hpl := hG.below hb9
          have hb09 : Below w.heap.size w w9 := thenB hBW hb9
          have hne : w.heap.size ≠ w2.heap.size := by have := hp2.lt; omega
          clear hkey'
          have c0 := hpl.c0
          have c1 := hpl.c1
          have c2 := hpl.c2
          have c3 := hpl.c3
          have f0 := hpl.fr 0
          have f1 := hpl.fr 1
          have f2 := hpl.fr 2
          have f3 := hpl.fr 3
          have d0 : w9.cell? ⟨w2.heap.size, 0, none⟩ = some (.int .u32 n) := hq9.c0
          have d1 : w9.cell? ⟨w2.heap.size, 1, none⟩ = some (.int .i64 2) := hq9.c1
          have d2 : w9.cell? ⟨w2.heap.size, 2, none⟩ = some (.string (s.extract 5 e)) := hq9.c2
          have d3 : w9.cell? ⟨w2.heap.size, 3, none⟩ = some (.int .u32 0) := hq9.c3
          cases hk : plOk q
          · have he : plE q = 30 := by unfold plE; rw [hk]; rfl
            have HN : Hid (rdP s = pl0 ∧ rdE s = 11) := rd_no (by rw [HR.out, hk]; rfl)
            rw [he]
            clear he
            go_wp2
            exact ret_place2 rfl w.heap.size pl0 rfl _ rfl (hpl.put4 pl0).row rfl ⟨by rw [HN.out.1, HN.out.2]; rfl, below_put4 hb09 (Nat.le_refl _) pl0⟩
          · have he : plE q = 0 := by unfold plE; rw [hk]; rfl
            rw [he]
            clear he
            cases hs2 : ((keyS q).toList == s.toList)
            · have HN : Hid (rdP s = pl0 ∧ rdE s = 11) := rd_no (by rw [HR.out, hk, hs2]; rfl)
              have hs3 : ¬ (keyS q).toList = s.toList := by simpa using hs2
              clear hk
              go_wp2
              exact ret_place2 rfl w.heap.size pl0 rfl _ rfl (hpl.put4 pl0).row rfl ⟨by rw [HN.out.1, HN.out.2]; rfl, below_put4 hb09 (Nat.le_refl _) pl0⟩
            · have hro : rdOk s = true := by rw [HR.out, hk, hs2]; rfl
              have HN : Hid (rdP s = entP n (s.extract 5 e) ∧ rdE s = 0) := ⟨by rw [HP.out hro, ← HQ.out, HE.out], (rd_yes hro).2⟩
              have hs3 : (keyS q).toList = s.toList := by simpa using hs2
              clear hk hro
              go_wp2
              exact ret_place2 rfl w.heap.size (entP n (s.extract 5 e)) rfl _ rfl (hpl.put4 (entP n (s.extract 5 e))).row rfl ⟨by rw [HN.out.1, HN.out.2]; rfl, below_put4 hb09 (Nat.le_refl _) (entP n (s.extract 5 e))⟩
        · have hz1 : (((s[e]'hes').toNat : Int) != 0) = true := by simpa using hz0
          go_wp2
          go_round
          case rel =>
            refine ⟨e + 1, by omega, by omega, by go_num, fun j hj h5 hje => ?_⟩
            rcases Nat.lt_or_ge j e with h | h
            · exact HN0.out j hj h5 h
            · obtain rfl : j = e := by omega
              exact hz0
          case measure => simp [intOf]; omega
      · have hltI : ¬ (e : Int) < 14 := by omega
        have hqe : q = entP n (s.extract 5 e) := by
          rw [HQ.out, HT.out, zLen_str s hs e he5 he14 HN0.out (.inl (by omega)), extract_str s 5 e hes]
        have hkey' : ∀ W, Calls Tryz.prog 26 #[.agg #[.int .u32 n, .int .i64 2, .string (s.extract 5 e), .int .u32 0]] W fun e w' => e = .returned (.tuple #[.string (keyS q), .int .i64 (plE q)]) ∧ Below W.heap.size W w' := fun W => by
          have h := hkey W
          rw [congrArg Pl.ino hqe, congrArg Pl.part hqe, congrArg Pl.name hqe, congrArg Pl.chunk hqe] at h
          exact h
        have HE : Hid (q = entP n (s.extract 5 e)) := hqe
        clear hkey hqe
        obtain ⟨w5, hw5⟩ : ∃ w5, w5 = w3.setCell ⟨w2.heap.size, 2, none⟩ (.string (s.extract 5 e)) := ⟨_, rfl⟩
        have hP : PlAt w5 w2.heap.size (entP n (s.extract 5 e)) := by
          rw [hw5]
          exact ⟨heap_setCell_same w3 w2.heap.size 2 _ _ (.string (s.extract 5 e)) hp3.row⟩
        have hG : PlAt w5 w.heap.size pl0 := by
          rw [hw5]
          exact ⟨(Below.heap_setCell _ _ _ _ (by have := hp2.lt; simp; omega)).trans hg3.row⟩
        have hBW : Below w.heap.size w w5 := by rw [hw5]; exact hb03.setCell hb02.size _
        have g0 := hp3.c0
        have g1 := hp3.c1
        have g3 := hp3.c3
        go_wp2_with fail
        rw [← hw5]
        clear hw5 g0 g1 g3 c2 f2
        refine (hkey' w5).mono ?_
        rintro e w9 ⟨rfl, hb9⟩
        have hq9 : PlAt w9 w2.heap.size (entP n (s.extract 5 e)) := hP.below hb9
        have hpl := hG.below hb9
        have hb09 : Below w.heap.size w w9 := thenB hBW hb9
        have hne : w.heap.size ≠ w2.heap.size := by have := hp2.lt; omega
        clear hkey'
        have c0 := hpl.c0
        have c1 := hpl.c1
        have c2 := hpl.c2
        have c3 := hpl.c3
        have f0 := hpl.fr 0
        have f1 := hpl.fr 1
        have f2 := hpl.fr 2
        have f3 := hpl.fr 3
        have d0 : w9.cell? ⟨w2.heap.size, 0, none⟩ = some (.int .u32 n) := hq9.c0
        have d1 : w9.cell? ⟨w2.heap.size, 1, none⟩ = some (.int .i64 2) := hq9.c1
        have d2 : w9.cell? ⟨w2.heap.size, 2, none⟩ = some (.string (s.extract 5 e)) := hq9.c2
        have d3 : w9.cell? ⟨w2.heap.size, 3, none⟩ = some (.int .u32 0) := hq9.c3
        cases hk : plOk q
        · have he : plE q = 30 := by unfold plE; rw [hk]; rfl
          have HN : Hid (rdP s = pl0 ∧ rdE s = 11) := rd_no (by rw [HR.out, hk]; rfl)
          rw [he]
          clear he
          go_wp2
          exact ret_place2 rfl w.heap.size pl0 rfl _ rfl (hpl.put4 pl0).row rfl ⟨by rw [HN.out.1, HN.out.2]; rfl, below_put4 hb09 (Nat.le_refl _) pl0⟩
        · have he : plE q = 0 := by unfold plE; rw [hk]; rfl
          rw [he]
          clear he
          cases hs2 : ((keyS q).toList == s.toList)
          · have HN : Hid (rdP s = pl0 ∧ rdE s = 11) := rd_no (by rw [HR.out, hk, hs2]; rfl)
            have hs3 : ¬ (keyS q).toList = s.toList := by simpa using hs2
            clear hk
            go_wp2
            exact ret_place2 rfl w.heap.size pl0 rfl _ rfl (hpl.put4 pl0).row rfl ⟨by rw [HN.out.1, HN.out.2]; rfl, below_put4 hb09 (Nat.le_refl _) pl0⟩
          · have hro : rdOk s = true := by rw [HR.out, hk, hs2]; rfl
            have HN : Hid (rdP s = entP n (s.extract 5 e) ∧ rdE s = 0) := ⟨by rw [HP.out hro, ← HQ.out, HE.out], (rd_yes hro).2⟩
            have hs3 : (keyS q).toList = s.toList := by simpa using hs2
            clear hk hro
            go_wp2
            exact ret_place2 rfl w.heap.size (entP n (s.extract 5 e)) rfl _ rfl (hpl.put4 (entP n (s.extract 5 e))).row rfl ⟨by rw [HN.out.1, HN.out.2]; rfl, below_put4 hb09 (Nat.le_refl _) (entP n (s.extract 5 e))⟩
  · by_cases h3 : z = 3
    · subst h3
      obtain ⟨w3, hw3⟩ : ∃ w3, w3 = w2.alloc (.cells #[.int .u32 n, .int .i64 3, .string ⟨#[]⟩, .int .u32 0] 26) := ⟨_, rfl⟩
      have hb3 : Below w2.heap.size w2 w3 := by rw [hw3]; exact (Below.refl _ _).alloc (Nat.le_refl _) _
      have hp3 : PlAt w3 w2.heap.size ⟨n, 3, ⟨#[]⟩, 0⟩ := by rw [hw3]; exact PlAt.laid w2 ⟨n, 3, ⟨#[]⟩, 0⟩
      have hg3 : PlAt w3 w.heap.size pl0 := hp2.below hb3
      have hb03 : Below w.heap.size w w3 := thenB hb02 hb3
      have hqe : q = datP n (valB (((strB s).drop 5).take 4)) := by
        have h := HV.out
        rw [if_neg (by rw [h4]; decide), if_pos (by rw [h4]; rfl)] at h
        rw [HQ.out, h]
      have hkey' : ∀ W, Calls Tryz.prog 26 #[.agg #[.int .u32 n, .int .i64 3, .string ⟨#[]⟩, .int .u32 (valB (((strB s).drop 5).take 4))]] W fun e w' => e = .returned (.tuple #[.string (keyS q), .int .i64 (plE q)]) ∧ Below W.heap.size W w' := fun W => by
        have h := hkey W
        rw [congrArg Pl.ino hqe, congrArg Pl.part hqe, congrArg Pl.name hqe, congrArg Pl.chunk hqe] at h
        exact h
      have HE : Hid (q = datP n (valB (((strB s).drop 5).take 4))) := hqe
      clear hkey hqe
      have hex : s.extract 5 9 = strOfNums (((strB s).drop 5).take 4) := extract_str s 5 9 (by omega)
      have hyb : Byt (((strB s).drop 5).take 4) := (hy.drop 5).take 4
      have hlb : (((strB s).drop 5).take 4).length = 4 := by simp [hl]
      obtain ⟨v5, w5, hcv5, hr5, hb5⟩ := conv_bytes w3 (s.extract 5 9) (by rw [hex, strOfNums_size, hlb]; omega)
      have hnum5 : Calls Tryz.prog 62 #[v5, .int .i64 4] w5 fun e w' => e = .returned (.tuple #[.int .u64 (valB (((strB s).drop 5).take 4)), .int .i64 0]) ∧ w5 = w' := by
        rw [hex, strB_strOf hyb] at hr5
        have := refNumber_any w5 v5 _ 4 hr5 hyb
        rwa [show numE (((strB s).drop 5).take 4) 4 = 0 from by unfold numE; rw [if_neg (by omega), if_neg (by omega)], show numV (((strB s).drop 5).take 4) 4 = valB (((strB s).drop 5).take 4) from by unfold numV numE; rw [if_neg (show ¬ ((4 : Int) < 1 ∨ 8 < (4 : Int)) from by omega), if_neg (show ¬ ((((strB s).drop 5).take 4).length : Int) < 4 from by omega)]; rw [if_pos rfl]; exact congrArg (fun t => ((valB t : Nat) : Int)) (List.take_of_length_le (show (((strB s).drop 5).take 4).length ≤ (4 : Int).toNat from Nat.le_of_eq hlb))] at this
      have hm : ((valB (((strB s).drop 5).take 4) : Nat) : Int) % 4294967296 = (valB (((strB s).drop 5).take 4) : Nat) := by
        have := valB_u32 ((strB s).drop 5) (hy.drop 5)
        omega
      have hp5 := hp3.below hb5
      have hg5 := hg3.below hb5
      have hb05 := thenB hb03 hb5
      rw [hw3] at hcv5
      clear HV h4 h4l hex hr5 hyb hlb
      generalize valB (((strB s).drop 5).take 4) = m at *
      obtain ⟨w6, hw6⟩ : ∃ w6, w6 = w5.setCell ⟨w2.heap.size, 3, none⟩ (.int .u32 m) := ⟨_, rfl⟩
      have hP : PlAt w6 w2.heap.size (datP n m) := by
        rw [hw6]
        exact ⟨heap_setCell_same w5 w2.heap.size 3 _ _ (.int .u32 m) hp5.row⟩
      have hG : PlAt w6 w.heap.size pl0 := by
        rw [hw6]
        exact ⟨(Below.heap_setCell _ _ _ _ (by have := hp2.lt; simp; omega)).trans hg5.row⟩
      have hBW : Below w.heap.size w w6 := by rw [hw6]; exact hb05.setCell hb02.size _
      clear hw3
      go_wp2_with fail
      refine hnum5.mono ?_
      rintro e w7 ⟨rfl, rfl⟩
      clear hcv5 hnum5 hz
      have g0 := hp5.c0
      have g1 := hp5.c1
      have g2 := hp5.c2
      have g3 := hp5.c3
      have fr3 := hp5.fr 3
      go_wp2_with fail
      rw [← hw6]
      clear hw6 g0 g1 g2 g3 fr3
      refine (hkey' w6).mono ?_
      rintro e w9 ⟨rfl, hb9⟩
      have hq9 : PlAt w9 w2.heap.size (datP n m) := hP.below hb9
      have hpl := hG.below hb9
      have hb09 : Below w.heap.size w w9 := thenB hBW hb9
      have hne : w.heap.size ≠ w2.heap.size := by have := hp2.lt; omega
      clear hkey'
      have c0 := hpl.c0
      have c1 := hpl.c1
      have c2 := hpl.c2
      have c3 := hpl.c3
      have f0 := hpl.fr 0
      have f1 := hpl.fr 1
      have f2 := hpl.fr 2
      have f3 := hpl.fr 3
      have d0 : w9.cell? ⟨w2.heap.size, 0, none⟩ = some (.int .u32 n) := hq9.c0
      have d1 : w9.cell? ⟨w2.heap.size, 1, none⟩ = some (.int .i64 3) := hq9.c1
      have d2 : w9.cell? ⟨w2.heap.size, 2, none⟩ = some (.string ⟨#[]⟩) := hq9.c2
      have d3 : w9.cell? ⟨w2.heap.size, 3, none⟩ = some (.int .u32 m) := hq9.c3
      cases hk : plOk q
      · have he : plE q = 30 := by unfold plE; rw [hk]; rfl
        have HN : Hid (rdP s = pl0 ∧ rdE s = 11) := rd_no (by rw [HR.out, hk]; rfl)
        rw [he]
        clear he
        go_wp2
        exact ret_place2 rfl w.heap.size pl0 rfl _ rfl (hpl.put4 pl0).row rfl ⟨by rw [HN.out.1, HN.out.2]; rfl, below_put4 hb09 (Nat.le_refl _) pl0⟩
      · have he : plE q = 0 := by unfold plE; rw [hk]; rfl
        rw [he]
        clear he
        cases hs2 : ((keyS q).toList == s.toList)
        · have HN : Hid (rdP s = pl0 ∧ rdE s = 11) := rd_no (by rw [HR.out, hk, hs2]; rfl)
          have hs3 : ¬ (keyS q).toList = s.toList := by simpa using hs2
          clear hk
          go_wp2
          exact ret_place2 rfl w.heap.size pl0 rfl _ rfl (hpl.put4 pl0).row rfl ⟨by rw [HN.out.1, HN.out.2]; rfl, below_put4 hb09 (Nat.le_refl _) pl0⟩
        · have hro : rdOk s = true := by rw [HR.out, hk, hs2]; rfl
          have HN : Hid (rdP s = datP n m ∧ rdE s = 0) := ⟨by rw [HP.out hro, ← HQ.out, HE.out], (rd_yes hro).2⟩
          have hs3 : (keyS q).toList = s.toList := by simpa using hs2
          clear hk hro
          go_wp2
          exact ret_place2 rfl w.heap.size (datP n m) rfl _ rfl (hpl.put4 (datP n m)).row rfl ⟨by rw [HN.out.1, HN.out.2]; rfl, below_put4 hb09 (Nat.le_refl _) (datP n m)⟩
    · subst hz
      have hqe : q = ⟨n, ((s[4]'(by omega)).toNat : Int), ⟨#[]⟩, 0⟩ := by
        have h := HV.out
        rw [if_neg (by rw [h4]; omega), if_neg (by rw [h4]; omega), h4] at h
        rw [HQ.out, h]
      obtain ⟨w3, hw3⟩ : ∃ w3, w3 = w2.alloc (.cells #[.int .u32 n, .int .i64 ((s[4]'(by omega)).toNat : Int), .string ⟨#[]⟩, .int .u32 0] 26) := ⟨_, rfl⟩
      have hb3 : Below w2.heap.size w2 w3 := by rw [hw3]; exact (Below.refl _ _).alloc (Nat.le_refl _) _
      have hp3 : PlAt w3 w2.heap.size ⟨n, ((s[4]'(by omega)).toNat : Int), ⟨#[]⟩, 0⟩ := by rw [hw3]; exact PlAt.laid w2 ⟨n, ((s[4]'(by omega)).toNat : Int), ⟨#[]⟩, 0⟩
      have hg3 : PlAt w3 w.heap.size pl0 := hp2.below hb3
      have hb03 : Below w.heap.size w w3 := thenB hb02 hb3
      have hkey' : ∀ W, Calls Tryz.prog 26 #[.agg #[.int .u32 n, .int .i64 ((s[4]'(by omega)).toNat : Int), .string ⟨#[]⟩, .int .u32 0]] W fun e w' => e = .returned (.tuple #[.string (keyS q), .int .i64 (plE q)]) ∧ Below W.heap.size W w' := fun W => by
        have h := hkey W
        rw [congrArg Pl.ino hqe, congrArg Pl.part hqe, congrArg Pl.name hqe, congrArg Pl.chunk hqe] at h
        exact h
      have HE : Hid (q = ⟨n, ((s[4]'(by omega)).toNat : Int), ⟨#[]⟩, 0⟩) := hqe
      clear hkey hqe
      have hP := hp3
      have hG := hg3
      have hBW := hb03
      clear HV h4
      go_wp2_with fail
      rw [← hw3]
      clear hw3
      refine (hkey' w3).mono ?_
      rintro e w9 ⟨rfl, hb9⟩
      have hq9 : PlAt w9 w2.heap.size (⟨n, ((s[4]'(by omega)).toNat : Int), ⟨#[]⟩, 0⟩) := hP.below hb9
      have hpl := hG.below hb9
      have hb09 : Below w.heap.size w w9 := thenB hBW hb9
      have hne : w.heap.size ≠ w2.heap.size := by have := hp2.lt; omega
      clear hkey'
      have c0 := hpl.c0
      have c1 := hpl.c1
      have c2 := hpl.c2
      have c3 := hpl.c3
      have f0 := hpl.fr 0
      have f1 := hpl.fr 1
      have f2 := hpl.fr 2
      have f3 := hpl.fr 3
      have d0 : w9.cell? ⟨w2.heap.size, 0, none⟩ = some (.int .u32 n) := hq9.c0
      have d1 : w9.cell? ⟨w2.heap.size, 1, none⟩ = some (.int .i64 ((s[4]'(by omega)).toNat : Int)) := hq9.c1
      have d2 : w9.cell? ⟨w2.heap.size, 2, none⟩ = some (.string ⟨#[]⟩) := hq9.c2
      have d3 : w9.cell? ⟨w2.heap.size, 3, none⟩ = some (.int .u32 0) := hq9.c3
      cases hk : plOk q
      · have he : plE q = 30 := by unfold plE; rw [hk]; rfl
        have HN : Hid (rdP s = pl0 ∧ rdE s = 11) := rd_no (by rw [HR.out, hk]; rfl)
        rw [he]
        clear he
        go_wp2
        exact ret_place2 rfl w.heap.size pl0 rfl _ rfl (hpl.put4 pl0).row rfl ⟨by rw [HN.out.1, HN.out.2]; rfl, below_put4 hb09 (Nat.le_refl _) pl0⟩
      · have he : plE q = 0 := by unfold plE; rw [hk]; rfl
        rw [he]
        clear he
        cases hs2 : ((keyS q).toList == s.toList)
        · have HN : Hid (rdP s = pl0 ∧ rdE s = 11) := rd_no (by rw [HR.out, hk, hs2]; rfl)
          have hs3 : ¬ (keyS q).toList = s.toList := by simpa using hs2
          clear hk
          go_wp2
          exact ret_place2 rfl w.heap.size pl0 rfl _ rfl (hpl.put4 pl0).row rfl ⟨by rw [HN.out.1, HN.out.2]; rfl, below_put4 hb09 (Nat.le_refl _) pl0⟩
        · have hro : rdOk s = true := by rw [HR.out, hk, hs2]; rfl
          have HN : Hid (rdP s = ⟨n, ((s[4]'(by omega)).toNat : Int), ⟨#[]⟩, 0⟩ ∧ rdE s = 0) := ⟨by rw [HP.out hro, ← HQ.out, HE.out], (rd_yes hro).2⟩
          have hs3 : (keyS q).toList = s.toList := by simpa using hs2
          clear hk hro
          go_wp2
          exact ret_place2 rfl w.heap.size (⟨n, ((s[4]'(by omega)).toNat : Int), ⟨#[]⟩, 0⟩) rfl _ rfl (hpl.put4 (⟨n, ((s[4]'(by omega)).toNat : Int), ⟨#[]⟩, 0⟩)).row rfl ⟨by rw [HN.out.1, HN.out.2]; rfl, below_put4 hb09 (Nat.le_refl _) (⟨n, ((s[4]'(by omega)).toNat : Int), ⟨#[]⟩, 0⟩)⟩

theorem refRead_any (w : World) (s : ByteArray) (hs : s.size ≤ maxLen) : Calls Tryz.prog 29 #[.string s] w fun e w' => e = .returned (.tuple #[plV (rdP s), .int .i64 (rdE s)]) ∧ Below w.heap.size w w' := by
  by_cases h : s.size = 14
  · exact refRead_in w s h
  · obtain ⟨e1, e2⟩ := rd_no (s := s) (by unfold rdOk; simp [h])
    rw [e1, e2]
    exact refRead_size w s (by omega)

/-- The document's view, in a variable of its own. -/
structure RvAt (w : World) (v : Nat) (a : Option Addr) (len cap q : Nat) : Prop where
  row : w.heap[v]? = some (.cells #[.slice a len cap, .pointer (some ⟨q, 0, none⟩)] 40 (0, 0))
theorem RvAt.lt {w : World} {v : Nat} {a : Option Addr} {len cap q : Nat} (h : RvAt w v a len cap q) : v < w.heap.size := (Array.getElem?_eq_some_iff.1 h.row).1
theorem RvAt.below {w w' : World} {v : Nat} {a : Option Addr} {len cap q : Nat} (h : RvAt w v a len cap q) (hb : Below w.heap.size w w') : RvAt w' v a len cap q := ⟨(hb.block v h.lt).trans h.row⟩
theorem RvAt.c0 {w : World} {v : Nat} {a : Option Addr} {len cap q : Nat} (h : RvAt w v a len cap q) : w.cell? ⟨v, 0, none⟩ = some (.slice a len cap) := by rw [cell_of_row _ _ _ _ _ (0, 0) h.row]; rfl
theorem RvAt.c1 {w : World} {v : Nat} {a : Option Addr} {len cap q : Nat} (h : RvAt w v a len cap q) : w.cell? ⟨v, 1, none⟩ = some (.pointer (some ⟨q, 0, none⟩)) := by rw [cell_of_row _ _ _ _ _ (0, 0) h.row]; rfl

theorem cmpS_ord : Ord3 cmpS := ⟨fun a b => by rw [cmpS_cmpL]; exact cmpL_three _ _, fun a b => by rw [cmpS_cmpL, cmpS_cmpL]; exact cmpL_turn _ _, fun a b => by
  rw [cmpS_cmpL, cmpL_zero]
  exact ⟨fun h => by rw [← strOfNums_strB a, ← strOfNums_strB b, h], fun h => by rw [h]⟩, fun a b c h k => by
  rw [cmpS_cmpL] at h k ⊢
  exact cmpL_trans _ _ _ h k⟩
theorem ltS_cmp {a b : ByteArray} : ltS a b = true ↔ cmpS a b = -1 := by
  unfold ltS cmpS
  constructor
  · intro h; rw [if_pos h]
  · intro h
    cases hb : Op.bytesLess a.toList b.toList
    · rw [hb] at h
      simp only [Bool.false_eq_true, if_false] at h
      split at h <;> cases h
    · rfl
theorem ltS_irr (a : ByteArray) : ltS a a = false := by
  cases h : ltS a a
  · rfl
  · rw [ltS_cmp, cmpS_ord.same] at h
    cases h
theorem ltS_asym {a b : ByteArray} (h : ltS a b = true) : ltS b a = false := by
  cases k : ltS b a
  · rfl
  · have := ltS_trans h k
    rw [ltS_irr] at this
    cases this
theorem ltS_three (a b : ByteArray) : ltS a b = true ∨ a = b ∨ ltS b a = true := by
  rcases cmpS_ord.three a b with h | h | h
  · exact .inl (ltS_cmp.2 h)
  · exact .inr (.inl ((cmpS_ord.zero a b).1 h))
  · refine .inr (.inr (ltS_cmp.2 ?_))
    rw [cmpS_ord.turn a b, h]
theorem ltS_ne {a b : ByteArray} (h : ltS a b = true) : a ≠ b := fun e => by rw [e, ltS_irr] at h; cases h

/-- Names that rise. -/
def RisN (l : List ByteArray) : Prop := l.Pairwise fun a b => ltS a b = true
theorem ris_ext : ∀ {l m : List ByteArray}, RisN l → RisN m → (∀ x, x ∈ l ↔ x ∈ m) → l = m
  | [], [], _, _, _ => rfl
  | [], b :: m, _, _, h => by have := (h b).2 (by simp); cases this
  | a :: l, [], _, _, h => by have := (h a).1 (by simp); cases this
  | a :: l, b :: m, hl, hm, h => by
    obtain ⟨l1, l2⟩ := List.pairwise_cons.1 hl
    obtain ⟨m1, m2⟩ := List.pairwise_cons.1 hm
    have hab : a = b := by
      rcases List.mem_cons.1 ((h a).1 (by simp)) with e | e
      · exact e
      · rcases List.mem_cons.1 ((h b).2 (by simp)) with e' | e'
        · exact e'.symm
        · have q1 := m1 a e
          have q2 := l1 b e'
          rw [ltS_asym q1] at q2
          cases q2
    subst hab
    rw [ris_ext l2 m2 fun x => ?_]
    constructor
    · intro hx
      rcases List.mem_cons.1 ((h x).1 (List.mem_cons_of_mem _ hx)) with e | e
      · have := ltS_ne (l1 x hx); exact absurd e.symm this
      · exact e
    · intro hx
      rcases List.mem_cons.1 ((h x).2 (List.mem_cons_of_mem _ hx)) with e | e
      · have := ltS_ne (m1 x hx); exact absurd e.symm this
      · exact e

/-- Changes that rise by their names. -/
def RisC (C : List Cg) : Prop := C.Pairwise fun a b => ltS a.pl.name b.pl.name = true
theorem less_lt (k : ByteArray) (c : Cg) : lessN k c = ltS c.pl.name k := rfl
theorem name_eq {a k : ByteArray} : (a.toList == k.toList) = true ↔ a = k := by
  constructor
  · intro h
    rcases ltS_three a k with q | q | q
    · unfold ltS at q
      rw [beq_iff_eq.1 h] at q
      have := ltS_irr k
      unfold ltS at this
      rw [this] at q
      cases q
    · exact q
    · unfold ltS at q
      rw [beq_iff_eq.1 h] at q
      have := ltS_irr k
      unfold ltS at this
      rw [this] at q
      cases q
  · intro h; rw [h]; simp
structure CutV (C : List Cg) (k : ByteArray) : Prop where
  lo : ∀ c ∈ C.take (cutN C k), ltS c.pl.name k = true ∨ c.pl.name = k
  hi : ∀ c ∈ C.drop (cutN C k), ltS k c.pl.name = true
  is : fnB C k = true ↔ ∃ c ∈ C, c.pl.name = k
theorem fnN_none {C : List Cg} {k : ByteArray} (h : ∀ c ∈ C, ltS c.pl.name k = false) : fnN C k = 0 := List.countP_eq_zero.2 fun c hc => by rw [less_lt, h c hc]; simp
theorem cut_of : ∀ {C : List Cg} (k : ByteArray), RisC C → CutV C k
  | [], k, _ => ⟨fun c hc => by simp at hc, fun c hc => by simp at hc, by simp [fnB]⟩
  | c :: C, k, h => by
    obtain ⟨h1, h2⟩ := List.pairwise_cons.1 h
    rcases ltS_three c.pl.name k with q | q | q
    · have ih := cut_of (C := C) k h2
      have e1 : fnN (c :: C) k = fnN C k + 1 := by
        unfold fnN
        rw [List.countP_cons_of_pos (by rw [less_lt]; exact q)]
      have e2 : fnB (c :: C) k = fnB C k := by
        unfold fnB
        rw [e1]
        rfl
      have e3 : cutN (c :: C) k = cutN C k + 1 := by
        unfold cutN
        rw [e1, e2]
        split <;> rfl
      refine ⟨?_, ?_, ?_⟩
      · rw [e3, List.take_succ_cons]
        intro x hx
        rcases List.mem_cons.1 hx with rfl | hx
        · exact .inl q
        · exact ih.lo x hx
      · rw [e3, List.drop_succ_cons]; exact ih.hi
      · rw [e2, ih.is]
        constructor
        · rintro ⟨x, hx, e⟩; exact ⟨x, List.mem_cons_of_mem _ hx, e⟩
        · rintro ⟨x, hx, e⟩
          rcases List.mem_cons.1 hx with rfl | hx
          · exact absurd e (ltS_ne q)
          · exact ⟨x, hx, e⟩
    · have e1 : fnN (c :: C) k = 0 := fnN_none fun x hx => by
        rcases List.mem_cons.1 hx with rfl | hx
        · rw [q]; exact ltS_irr k
        · rw [← q]; exact ltS_asym (h1 x hx)
      have e2 : fnB (c :: C) k = true := by
        unfold fnB
        rw [e1]
        exact name_eq.2 q
      have e3 : cutN (c :: C) k = 1 := by unfold cutN; rw [e1, e2]; rfl
      refine ⟨?_, ?_, ?_⟩
      · rw [e3]
        intro x hx
        simp at hx
        rw [hx]; exact .inr q
      · rw [e3]
        intro x hx
        rw [← q]; exact h1 x (by simpa using hx)
      · rw [e2]; exact ⟨fun _ => ⟨c, by simp, q⟩, fun _ => rfl⟩
    · have hn : ∀ x ∈ c :: C, ltS k x.pl.name = true := fun x hx => by
        rcases List.mem_cons.1 hx with rfl | hx
        · exact q
        · exact ltS_trans q (h1 x hx)
      have e1 : fnN (c :: C) k = 0 := fnN_none fun x hx => ltS_asym (hn x hx)
      have e2 : fnB (c :: C) k = false := by
        unfold fnB
        rw [e1]
        cases hb : (c.pl.name.toList == k.toList)
        · exact hb
        · exact absurd (name_eq.1 hb).symm (ltS_ne q)
      have e3 : cutN (c :: C) k = 0 := by unfold cutN; rw [e1, e2]; rfl
      refine ⟨?_, ?_, ?_⟩
      · rw [e3]; intro x hx; simp at hx
      · rw [e3]; exact hn
      · rw [e2]
        constructor
        · intro e; cases e
        · rintro ⟨x, hx, e⟩; exact absurd e.symm (ltS_ne (hn x hx))

theorem setN_mem {C : List Cg} {n : ByteArray} : n ∈ setN C ↔ ∃ c ∈ C, c.pl.name = n ∧ c.gone = false := by
  unfold setN
  simp [List.mem_map, List.mem_filter]
  constructor
  · rintro ⟨c, ⟨h1, h2⟩, h3⟩; exact ⟨c, h1, h3, h2⟩
  · rintro ⟨c, h1, h3, h2⟩; exact ⟨c, ⟨h1, h2⟩, h3⟩
theorem setN_ris {C : List Cg} (h : RisC C) : RisN (setN C) := by
  unfold setN RisN
  rw [List.pairwise_map]
  exact List.Pairwise.sublist List.filter_sublist h

theorem mstep_eq (O : List ByteArray) (C : List Cg) (s : ByteArray) : mstep (O, C) s = (O ++ (setN (C.take (cutN C s)) ++ if fnB C s then [] else [s]), C.drop (cutN C s)) := by
  unfold mstep
  dsimp only
  rw [List.append_assoc]
theorem mst_acc : ∀ (ns O : List ByteArray) (C : List Cg), ns.foldl mstep (O, C) = (O ++ (ns.foldl mstep ([], C)).1, (ns.foldl mstep ([], C)).2)
  | [], O, C => by simp
  | s :: ns, O, C => by
    rw [List.foldl_cons, List.foldl_cons, mstep_eq, mstep_eq, mst_acc ns (O ++ _), mst_acc ns ([] ++ _)]
    simp [List.append_assoc]
theorem mrg_cons (s : ByteArray) (ns : List ByteArray) (C : List Cg) : mrgS (s :: ns) C = setN (C.take (cutN C s)) ++ (if fnB C s then [] else [s]) ++ mrgS ns (C.drop (cutN C s)) := by
  unfold mrgS mst
  rw [List.foldl_cons, mstep_eq, mst_acc ns]
  simp [List.append_assoc]
theorem mrg_spec : ∀ (ns : List ByteArray) (C : List Cg), RisN ns → RisC C → RisN (mrgS ns C) ∧ ∀ n, n ∈ mrgS ns C ↔ (n ∈ ns ∧ ∀ c ∈ C, c.pl.name ≠ n) ∨ ∃ c ∈ C, c.pl.name = n ∧ c.gone = false
  | [], C, _, hC => by
    have e : mrgS [] C = setN C := by unfold mrgS mst; rfl
    rw [e]
    exact ⟨setN_ris hC, fun n => by rw [setN_mem]; simp⟩
  | s :: ns, C, hn, hC => by
    obtain ⟨n1, n2⟩ := List.pairwise_cons.1 hn
    have hv := cut_of s hC
    obtain ⟨i1, i2⟩ := mrg_spec ns (C.drop (cutN C s)) n2 (hC.sublist (List.drop_sublist _ _))
    have hsplit : ∀ c, c ∈ C ↔ c ∈ C.take (cutN C s) ∨ c ∈ C.drop (cutN C s) := fun c => by
      rw [← List.mem_append, List.take_append_drop]
    have hgt : ∀ x ∈ mrgS ns (C.drop (cutN C s)), ltS s x = true := fun x hx => by
      rcases (i2 x).1 hx with ⟨h, _⟩ | ⟨c, h, rfl, _⟩
      · exact n1 x h
      · exact hv.hi c h
    rw [mrg_cons]
    constructor
    · refine List.pairwise_append.2 ⟨List.pairwise_append.2 ⟨setN_ris (hC.sublist (List.take_sublist _ _)), ?_, ?_⟩, i1, ?_⟩
      · split
        · exact List.Pairwise.nil
        · exact List.pairwise_singleton _ _
      · intro x hx y hy
        cases hb : fnB C s
        · rw [hb] at hy
          simp at hy
          subst hy
          obtain ⟨c, hc, rfl, _⟩ := setN_mem.1 hx
          rcases hv.lo c hc with q | q
          · exact q
          · have := hv.is.2 ⟨c, (hsplit c).2 (.inl hc), q⟩
            rw [hb] at this
            cases this
        · rw [hb] at hy
          simp at hy
      · intro x hx y hy
        have hs := hgt y hy
        rcases List.mem_append.1 hx with hx | hx
        · obtain ⟨c, hc, rfl, _⟩ := setN_mem.1 hx
          rcases hv.lo c hc with q | q
          · exact ltS_trans q hs
          · rw [q]; exact hs
        · have : x = s := by
            split at hx
            · cases hx
            · simpa using hx
          rw [this]; exact hs
    · intro n
      rw [List.mem_append, List.mem_append, setN_mem, i2]
      constructor
      · rintro ((⟨c, hc, e, g⟩ | hx) | (⟨h1, h2⟩ | ⟨c, hc, e, g⟩))
        · exact .inr ⟨c, (hsplit c).2 (.inl hc), e, g⟩
        · cases hb : fnB C s
          · rw [hb] at hx
            simp at hx
            subst hx
            refine .inl ⟨by simp, fun c hc e => ?_⟩
            have := hv.is.2 ⟨c, hc, e⟩
            rw [hb] at this
            cases this
          · rw [hb] at hx
            simp at hx
        · refine .inl ⟨List.mem_cons_of_mem _ h1, fun c hc e => ?_⟩
          rcases (hsplit c).1 hc with hc | hc
          · have q := n1 n h1
            rcases hv.lo c hc with r | r
            · rw [e] at r
              rw [ltS_asym q] at r
              cases r
            · rw [e] at r
              exact ltS_ne q r.symm
          · exact h2 c hc e
        · exact .inr ⟨c, (hsplit c).2 (.inr hc), e, g⟩
      · rintro (⟨h1, h2⟩ | ⟨c, hc, e, g⟩)
        · rcases List.mem_cons.1 h1 with rfl | h1
          · refine .inl (.inr ?_)
            cases hb : fnB C n
            · simp
            · obtain ⟨c, hc, e⟩ := hv.is.1 hb
              exact absurd e (h2 c hc)
          · exact .inr (.inl ⟨h1, fun c hc => h2 c ((hsplit c).2 (.inr hc))⟩)
        · rcases (hsplit c).1 hc with hc | hc
          · exact .inl (.inl ⟨c, hc, e, g⟩)
          · exact .inr (.inr ⟨c, hc, e, g⟩)

theorem seg_mem {l : List (ByteArray × ByteArray)} (hl : RisK l) (F T : ByteArray) (p : ByteArray × ByteArray) : p ∈ (l.drop (fdN l F)).takeWhile (fun p => ltS p.1 T) ↔ p ∈ l ∧ ltS p.1 F = false ∧ ltS p.1 T = true := by
  rw [drop_fd]
  have e1 := List.takeWhile_append_dropWhile (p := fun p : ByteArray × ByteArray => ltS p.1 F) (l := l)
  have rD : RisK (l.dropWhile fun p => ltS p.1 F) := hl.sublist (List.dropWhile_sublist _)
  have e2 := List.takeWhile_append_dropWhile (p := fun p : ByteArray × ByteArray => ltS p.1 T) (l := l.dropWhile fun p => ltS p.1 F)
  constructor
  · intro h
    have h2 : p ∈ l.dropWhile fun p => ltS p.1 F := by rw [← e2]; exact List.mem_append_left _ h
    exact ⟨by rw [← e1]; exact List.mem_append_right _ h2, dropWhile_ge hl p h2, takeWhile_lt p h⟩
  · rintro ⟨h1, h2, h3⟩
    rw [← e1] at h1
    rcases List.mem_append.1 h1 with h | h
    · rw [takeWhile_lt p h] at h2; cases h2
    · rw [← e2] at h
      rcases List.mem_append.1 h with h | h
      · exact h
      · rw [dropWhile_ge rD p h] at h3; cases h3
theorem ent_of {p : ByteArray × ByteArray} {ino : Int} (h : entB ino p = true) : rdOk p.1 = true ∧ (rdP p.1).ino = ino ∧ (rdP p.1).part = 2 := by
  unfold entB at h
  simp only [Bool.and_eq_true, beq_iff_eq] at h
  exact ⟨h.1, h.2.1, h.2.2⟩
theorem cmp_name {a b : Pl} (h1 : a.ino = b.ino) (h2 : a.part = 2) (h3 : b.part = 2) (ka : plOk a = true) (kb : plOk b = true) (h : cmpP a b = -1) : ltS a.name b.name = true := by
  have ca : a.chunk = 0 := by rcases (plOk_cases ka).2 with ⟨e, _, q⟩ | ⟨_, _, q⟩ | ⟨e, _⟩ <;> first | exact q | omega
  have cb : b.chunk = 0 := by rcases (plOk_cases kb).2 with ⟨e, _, q⟩ | ⟨_, _, q⟩ | ⟨e, _⟩ <;> first | exact q | omega
  unfold cmpP at h
  rw [h1, h2, h3, ca, cb] at h
  simp only [orL, cmpI_ord.same, if_true] at h
  rw [ltS_cmp]
  by_cases hz : cmpS a.name b.name = 0
  · rw [if_pos hz] at h; cases h
  · rw [if_neg hz] at h; exact h
theorem ent_lt {p q : ByteArray × ByteArray} {ino : Int} (hp : entB ino p = true) (hq : entB ino q = true) (h : ltS p.1 q.1 = true) : ltS (rdP p.1).name (rdP q.1).name = true := by
  obtain ⟨p1, p2, p3⟩ := ent_of hp
  obtain ⟨q1, q2, q3⟩ := ent_of hq
  obtain ⟨a1, a2, a3⟩ := key_of_rd p1
  obtain ⟨b1, b2, b3⟩ := key_of_rd q1
  refine cmp_name (p2.trans q2.symm) p3 q3 a2 b2 ?_
  rw [← cmpL_key _ _ a1 b1 a2 b2]
  have := less_str (keyP (rdP p.1)) (keyP (rdP q.1)) (keyP_byt _) (keyP_byt _)
  rw [← keyS_yes a2, ← keyS_yes b2, a3, b3] at this
  unfold ltS at h
  rw [h] at this
  exact of_decide_eq_true this.symm
theorem nmS_map (l : List (ByteArray × ByteArray)) : nmS l = (l.filter fun p => rdOk p.1).map fun p => (rdP p.1).name := by
  induction l with
  | nil => rfl
  | cons x l ih =>
    have : nmS (x :: l) = nmOf x ++ nmS l := by simp [nmS]
    rw [this, ih]
    unfold nmOf
    cases h : rdOk x.1 <;> simp [h]

/-- The names that the base has. -/
def segN (l : List (ByteArray × ByteArray)) (ino : Int) : List ByteArray := nmS ((l.drop (fdN l (spF ino 2))).takeWhile fun p => ltS p.1 (spT ino 2))
theorem seg_ent {l : List (ByteArray × ByteArray)} (hl : RisK l) {ino : Int} (h0 : 0 < ino) (h1 : ino ≤ 4294967295) {p : ByteArray × ByteArray} (hp : p ∈ (l.drop (fdN l (spF ino 2))).takeWhile fun p => ltS p.1 (spT ino 2)) (hr : rdOk p.1 = true) : entB ino p = true := by
  obtain ⟨_, q2, q3⟩ := (seg_mem hl _ _ p).1 hp
  have := rd_between hr ino h0 h1
  rw [q2, q3] at this
  unfold entB
  rw [hr, ← this]
  rfl
theorem segN_spec {l : List (ByteArray × ByteArray)} (hl : RisK l) {ino : Int} (h0 : 0 < ino) (h1 : ino ≤ 4294967295) : RisN (segN l ino) ∧ ∀ n, n ∈ segN l ino ↔ ∃ p ∈ l, entB ino p = true ∧ (rdP p.1).name = n := by
  unfold segN
  rw [nmS_map]
  have hsub : ((l.drop (fdN l (spF ino 2))).takeWhile fun p => ltS p.1 (spT ino 2)).Sublist l := (List.takeWhile_sublist _).trans (List.drop_sublist _ _)
  constructor
  · unfold RisN
    rw [List.pairwise_map]
    refine ((hl.sublist hsub).sublist List.filter_sublist).imp_of_mem ?_
    intro a b ha hb hab
    obtain ⟨ha1, ha2⟩ := List.mem_filter.1 ha
    obtain ⟨hb1, hb2⟩ := List.mem_filter.1 hb
    exact ent_lt (seg_ent hl h0 h1 ha1 ha2) (seg_ent hl h0 h1 hb1 hb2) hab
  · intro n
    rw [List.mem_map]
    constructor
    · rintro ⟨p, hp, e⟩
      obtain ⟨hp1, hp2⟩ := List.mem_filter.1 hp
      exact ⟨p, ((seg_mem hl _ _ p).1 hp1).1, seg_ent hl h0 h1 hp1 hp2, e⟩
    · rintro ⟨p, hp, he, e⟩
      obtain ⟨q1, q2, q3⟩ := ent_of he
      have := rd_between q1 ino h0 h1
      have hb : ((rdP p.1).ino == ino && (rdP p.1).part == 2) = true := by simp [q2, q3]
      rw [hb, Bool.and_eq_true] at this
      refine ⟨p, List.mem_filter.2 ⟨(seg_mem hl _ _ p).2 ⟨hp, by simpa using this.1, this.2⟩, q1⟩, e⟩
theorem kept_mem {ino : Int} {L : List Cg} {c : Cg} : c ∈ kept ino L ↔ c ∈ L ∧ c.pl.ino = ino ∧ c.pl.part = 2 := by
  unfold kept keepE
  simp [List.mem_filter]
theorem kept_ris {s : Dl} (hs : DlOk s) (hc : CksOk s) (ino : Int) : RisC (kept ino s.L) := by
  unfold RisC
  have h : s.L.Pairwise fun a b => cmpP a.pl b.pl = -1 := hs.L.rise
  refine (h.sublist (show (kept ino s.L).Sublist s.L from List.filter_sublist)).imp_of_mem ?_
  intro a b ha hb hab
  obtain ⟨a1, a2, a3⟩ := kept_mem.1 ha
  obtain ⟨b1, b2, b3⟩ := kept_mem.1 hb
  exact cmp_name (a2.trans b2.symm) a3 b3 (ck_cases (hc a a1)).1 (ck_cases (hc b b1)).1 hab
/-- What the document says of a name. -/
def NameV (l : List (ByteArray × ByteArray)) (s : Dl) (ino : Int) (n : ByteArray) : Prop :=
  ((∃ p ∈ l, entB ino p = true ∧ (rdP p.1).name = n) ∧ ∀ c ∈ kept ino s.L, c.pl.name ≠ n) ∨ ∃ c ∈ kept ino s.L, c.pl.name = n ∧ c.gone = false
theorem namesV_spec {l : List (ByteArray × ByteArray)} (hl : RisK l) {s : Dl} (hs : DlOk s) (hc : CksOk s) {ino : Int} (h0 : 0 < ino) (h1 : ino ≤ 4294967295) : RisN (namesV l s ino) ∧ ∀ n, n ∈ namesV l s ino ↔ NameV l s ino n := by
  obtain ⟨a1, a2⟩ := segN_spec hl h0 h1
  obtain ⟨b1, b2⟩ := mrg_spec (segN l ino) (kept ino s.L) a1 (kept_ris hs hc ino)
  refine ⟨b1, fun n => ?_⟩
  unfold NameV
  rw [← a2 n]
  exact b2 n

set_option maxRecDepth 100000

def strC (l : List ByteArray) : List Value := l.map .string
theorem strC_len (l : List ByteArray) : (strC l).length = l.length := by simp [strC]
theorem info_partsS : ∃ i, Tryz.prog.info? 9 = some i ∧ i.zero = some (.string ⟨#[]⟩) ∧ i.size = 1 ∧ i.bytes = 16 := by
  have h : (Tryz.prog.info? 9).map (fun i => (i.zero, i.size, i.bytes)) = some (some (.string ⟨#[]⟩), 1, 16) := by kernel_rfl
  cases hi : Tryz.prog.info? 9 with
  | none => rw [hi] at h; cases h
  | some i =>
    rw [hi] at h
    simp only [Option.map_some, Option.some.injEq, Prod.mk.injEq] at h
    exact ⟨i, rfl, h.1, h.2.1, h.2.2⟩
theorem own_belowS {w w' : World} {base e k : Nat} {v : Value} {n : Nat} {xs : List Value} (h : w.ownsRow base e k v n xs) (hb : Below w.heap.size w w') : w'.ownsRow base e k v n xs :=
  World.ownsRow.kept h (row := Option.none) ⟨hb.os, hb.tape, hb.output, hb.size, fun k hk _ => hb.block k hk⟩ (by cases hv : v.ownBlock <;> simp)
theorem oneS {W : World} {u : Value} {e : TypeId} {g : Nat} {fr : Nat × Nat} (h : W.heap[g]? = some (.cells #[u] e fr)) : ∀ j x, [u][j]? = some x → W.cell? ((⟨g, 0, none⟩ : Addr).add j) = some x := by
  intro j x hj
  have hadd : (⟨g, 0, none⟩ : Addr).add j = ⟨g, j, none⟩ := by unfold Addr.add; split <;> simp_all
  rw [hadd, cell_of_row _ _ j _ _ _ h, ← hj]
  exact List.getElem?_toArray
/-- A row of names that is read. -/
def RdT (w : World) (a : Option Addr) (n : Nat) (l : List ByteArray) : Prop := l.length = n ∧ (0 < n → ∃ b off, a = some ⟨b, off, none⟩ ∧ b < w.heap.size ∧ ∀ i s, l[i]? = some s → w.cell? ⟨b, off + i, none⟩ = some (.string s))
theorem RdT.below {w w' : World} {a : Option Addr} {n : Nat} {l : List ByteArray} (h : RdT w a n l) (hb : Below w.heap.size w w') : RdT w' a n l := by
  obtain ⟨h1, h2⟩ := h
  refine ⟨h1, fun hp => ?_⟩
  obtain ⟨b, off, e, hl, hc⟩ := h2 hp
  exact ⟨b, off, e, Nat.lt_of_lt_of_le hl hb.size, fun i s hi => (hb.cell (p := ⟨b, off + i, none⟩) hl).trans (hc i s hi)⟩
theorem rdT_own {w : World} {base : Nat} {a : Option Addr} {n c : Nat} {l : List ByteArray} (hn : l.length = n) (h : w.ownsRow base 9 1 (.slice a n c) n (strC l)) : RdT w a n l := by
  obtain ⟨h1, ⟨e, h2⟩ | ⟨g, cap, cur, e, h3, h4, h5, h6, h7, h8⟩⟩ := h
  · exact ⟨hn, fun hp => by omega⟩
  · simp only [Value.slice.injEq, true_and] at e
    obtain ⟨rfl, rfl⟩ := e
    refine ⟨hn, fun hp => ⟨g, 0, rfl, (Array.getElem?_eq_some_iff.1 h4).1, fun i s hi => ?_⟩⟩
    have hs : (strC l)[i]? = some (.string s) := by unfold strC; rw [List.getElem?_map, hi]; rfl
    rw [cell_of_row _ _ _ _ _ (0, 0) h4, Nat.zero_add, ← Array.getElem?_toList]
    rw [← h8, List.getElem?_take] at hs
    split at hs
    · exact hs
    · cases hs

/-- The names that were not taken away. -/
def keepB (s : Dl) (ino : Int) (n : ByteArray) : Bool := !(isX s ⟨ino, 2, n, 0⟩) || !(wasX s ⟨ino, 2, n, 0⟩).gone
theorem take_filter {α : Type} (f : α → Bool) {l : List α} {i : Nat} {x : α} (h : l[i]? = some x) : (l.take (i + 1)).filter f = (l.take i).filter f ++ (if f x then [x] else []) := by
  rw [List.take_add_one, h, List.filter_append]
  cases hf : f x <;> simp [hf]
theorem bl_pl (ino : Int) (n : ByteArray) : Tryz.prog.built 26 [(0, .int .u32 ino), (1, .int .i64 2), (2, .string n)] = some (plCells ⟨ino, 2, n, 0⟩) := by kernel_rfl

set_option maxHeartbeats 8000000 in
theorem rkept_any {B : Nat} {w0 w : World} {v p b q : Nat} {s : Dl} {xs : List Cg} {a : Option Addr} {len cap : Nat} (hv : RvAt w v a len cap q) (hD : Both B w0 w p b q s xs) (ino : Int) (i0 : 0 ≤ ino) (i1 : ino ≤ 4294967295) (ua : Option Addr) (n uc : Nat) (l : List ByteArray) (hr : RdT w ua n l) (h8 : ∀ x ∈ l, x.size ≤ 8) (hn : n ≤ 100000) :
    Calls Tryz.prog 46 #[.pointer (some ⟨v, 0, none⟩), .int .u32 ino, .slice ua n uc] w fun e w' => ∃ u, e = .returned u ∧ w'.ownsRow w.heap.size 9 1 u (l.filter (keepB s ino)).length (strC (l.filter (keepB s ino))) ∧ Below w.heap.size w w' := by
  obtain ⟨iI, hii, hi0, hi1, hi2⟩ := info_partsS
  have hzC := zeroCg
  have lenc : cg0.pt.bytes.length = 32 := cg0_ok.pt.ch.1
  have al : ∀ (A : World) (o : Obj), Below A.heap.size A (A.alloc o) := fun A o => (Below.refl _ A).alloc (Nat.le_refl _) o
  have hsok := hD.ok
  have HV : Hid _ := hv
  have HD : Hid _ := hD
  have HSO : Hid (DlOk s) := hsok
  have H8 : Hid (∀ x ∈ l, x.size ≤ 8) := h8
  obtain ⟨hl, hI⟩ := hr
  obtain ⟨U, hU⟩ : ∃ U : Nat → List ByteArray, ∀ i, (l.take i).filter (keepB s ino) = U i := ⟨_, fun _ => rfl⟩
  have HU : Hid (∀ i, (l.take i).filter (keepB s ino) = U i) := hU
  have hUl : ∀ i, (U i).length ≤ i := fun i => by rw [← hU]; exact Nat.le_trans (List.length_filter_le _ _) (by rw [List.length_take]; omega)
  have hU0 : U 0 = [] := by rw [← hU]; rfl
  have hUn : l.filter (keepB s ino) = U n := by rw [← hU, List.take_of_length_le (by omega)]
  rw [hUn]
  clear hU hv hD hsok h8 hUn
  go_enter Tryz.func46, Tryz.ntmps46
  go_wp2_with fail
  go_loopw [7, 9, 10, 11, 14] (fun vv _ _ _ t wr => ∃ (i : Nat) (ra : Option Addr) (rc : Nat), i ≤ n ∧ t = .int .i64 i ∧ vv = .slice ra (U i).length rc ∧ Hid (World.ownsRow wr w.heap.size 9 1 (.slice ra (U i).length rc) (U i).length (strC (U i))) ∧ Hid (Below w.heap.size w wr)) (fun _ _ _ _ t _ => n - (intOf t).toNat)
  case atStart => exact ⟨0, none, 0, Nat.zero_le _, rfl, by rw [hU0]; rfl, by unfold Hid; rw [hU0]; exact World.ownsRow_nil _ _ _ _, Below.refl _ _⟩
  case round =>
    obtain ⟨i, ra, rc, hi, rfl, rfl, HO, HB⟩ := hrel
    by_cases hlt : i < n
    · have hltI : (i : Int) < n := by omega
      obtain ⟨ub, uo, rfl, hub, hcs⟩ := hI (by omega)
      obtain ⟨nm, hnm⟩ : ∃ nm, l[i]? = some nm := ⟨_, List.getElem?_eq_getElem (by omega)⟩
      have hcx : wr.cell? ⟨ub, uo + i, none⟩ = some (.string nm) := (HB.out.cell (p := ⟨ub, uo + i, none⟩) hub).trans (hcs i nm hnm)
      have hs8 := H8.out nm (List.mem_of_getElem? hnm)
      have hnx : U (i + 1) = U i ++ (if keepB s ino nm then [nm] else []) := by rw [← HU.out, ← HU.out]; exact take_filter _ hnm
      have HNX : Hid _ := hnx
      have hUi := hUl i
      have hpk : PlOk ⟨ino, 2, nm, 0⟩ := ⟨i0, i1, (by show (-9223372036854775808 : Int) ≤ 2; decide), (by show (2 : Int) ≤ 9223372036854775807; decide), Nat.le_trans hs8 (by decide), (by show (0 : Int) ≤ 0; decide), (by show (0 : Int) ≤ 4294967295; decide)⟩
      have c1 := (HV.out.below HB.out).c1
      have cx := (HD.out.below HB.out).xget ⟨ino, 2, nm, 0⟩ hpk
      rw [show plV ⟨ino, 2, nm, 0⟩ = .agg (plCells ⟨ino, 2, nm, 0⟩) from rfl] at cx
      have HXL : Hid ((wasX s ⟨ino, 2, nm, 0⟩).pt.bytes.length = 32) := (getL_ok HSO.out.L _).pt.ch.1
      have HKB : Hid (keepB s ino nm = (!(isX s ⟨ino, 2, nm, 0⟩) || !(wasX s ⟨ino, 2, nm, 0⟩).gone)) := rfl
      generalize isX s ⟨ino, 2, nm, 0⟩ = is at *
      generalize wasX s ⟨ino, 2, nm, 0⟩ = c at *
      clear hcs hnm hnx hpk hs8
      go_wp2_with (refine wpList_buildBy rfl 26 _ rfl _ rfl [(0, .int .u32 ino), (1, .int .i64 2), (2, .string nm)] (by kernel_rfl) (plCells ⟨ino, 2, nm, 0⟩) (bl_pl _ _) ?_)
      refine cx.mono ?_
      rintro e w5 ⟨rfl, hb5⟩
      clear cx c1
      have hat := CgAt.laid w5 cg0
      have hb6 := alloc_row (A := w5) (.cells (cgC cg0) 56) (cgC c)
      have hc6 := hat.setRow c
      obtain ⟨w6, hw6⟩ : ∃ w6, (w5.alloc (.cells (cgC cg0) 56)).setRow w5.heap.size (cgC c) = w6 := ⟨_, rfl⟩
      rw [hw6] at hb6 hc6
      have HB6 : Hid (Below wr.heap.size wr w6) := thenB hb5 hb6
      have HO6 : Hid _ := own_belowS HO.out HB6.out
      have HBW : Hid (Below w.heap.size w w6) := thenB HB.out HB6.out
      have x4 := hc6.c4
      have hl1 : ∀ x : ByteArray, (U i ++ [x]).length = (U i).length + 1 := fun x => by simp
      obtain ⟨kb, hkb⟩ : ∃ kb, keepB s ino nm = kb := ⟨_, rfl⟩
      rw [hkb] at HNX HKB
      clear hkb
      obtain ⟨gn, hgn⟩ : ∃ gn, c.gone = gn := ⟨_, rfl⟩
      rw [hgn] at x4 HKB
      clear hgn
      cases kb
      · have hcase : is = true ∧ gn = true := by
          have := HKB.out
          cases is <;> cases gn <;> simp at this ⊢
        obtain ⟨rfl, rfl⟩ := hcase
        have HN2 : Hid (U (i + 1) = U i) := by unfold Hid; rw [HNX.out]; simp
        go_wp2_with (first
          | (refine wpList_storeG rfl _ _ rfl w5.heap.size c cg0 rfl rfl HXL.out lenc hat ?_; rw [hw6]))
        go_roundw
        case rel => exact ⟨i + 1, ra, rc, by omega, by go_num, by rw [HN2.out], by unfold Hid; rw [HN2.out]; exact HO6.out, HBW⟩
        case measure => simp [intOf]; omega
      · obtain ⟨W2, hW2⟩ : ∃ W2, w6.alloc (.cells #[.string nm] 9) = W2 := ⟨_, rfl⟩
        have hb7 : Below w6.heap.size w6 W2 := by rw [← hW2]; exact al w6 _
        have hz7 : W2.heap.size = w6.heap.size + 1 := by rw [← hW2]; simp
        have hnew : W2.heap[w6.heap.size]? = some (.cells #[.string nm] 9 (0, 0)) := by rw [← hW2]; exact heap_alloc_new w6 _
        have hown7 := own_belowS HO6.out hb7
        have HW7 : Hid _ := thenB HBW.out hb7
        have hsz7 := HW7.out.size
        obtain ⟨L, hL⟩ : ∃ L, (U i).length = L := ⟨_, rfl⟩
        rw [hL] at hown7 hUi ⊢
        have HL : Hid ((U i).length = L) := hL
        clear hL
        have HZ7 : Hid (w.heap.size ≤ w6.heap.size) := HBW.out.size
        have FIN : ∀ (W3 : World) (va : Option Addr) (vc : Nat), W3.ownsRow w.heap.size 9 1 (.slice va (L + 1) vc) (L + 1) (strC (U i) ++ [.string nm]) → W2.grownBy W3 (Value.slice ra L rc).ownBlock → ∃ (a' : Option Addr) (c' : Nat), (Value.slice va (L + 1) vc) = .slice a' (U (i + 1)).length c' ∧ Hid (World.ownsRow W3 w.heap.size 9 1 (.slice a' (U (i + 1)).length c') (U (i + 1)).length (strC (U (i + 1)))) ∧ Hid (Below w.heap.size w W3) := fun W3 va vc ho hg => by
          have e1 : (U (i + 1)).length = L + 1 := by rw [HNX.out]; simp [HL.out]
          have e2 : strC (U (i + 1)) = strC (U i) ++ [.string nm] := by rw [HNX.out]; simp [strC]
          refine ⟨va, vc, by rw [e1], by unfold Hid; rw [e1, e2]; exact ho, ?_⟩
          exact HW7.out.trans ((Below.refl w.heap.size W2).grown hg (by omega) (fun q hq => (World.ownsRow.lt hown7 q hq).1))
        have HF : Hid _ := FIN
        clear FIN
        cases is
        · go_wp2_with (first
            | (refine wpList_storeG rfl _ _ rfl w5.heap.size c cg0 rfl rfl HXL.out lenc hat ?_; rw [hw6])
            | (at_builtin; refine wpList_append_own W2 rfl _ _ 58 rfl w.heap.size 9 iI (.string ⟨#[]⟩) 1 16 Tryz.underlying58 hii hi0 hi1 hi2 rfl (by decide) _ L (strC (U i)) rfl hown7 ⟨w6.heap.size, 0, none⟩ 1 1 [.string nm] rfl rfl (oneS hnew) (by simp [Value.oneCell']) (by unfold maxLen; omega) (by omega) (by omega) ?_; intro v3 w8 ho3 hg4 _; obtain ⟨a3, c3, rfl⟩ := own_shape ho3))
          obtain ⟨a4, c4, e4, ho4, hb4⟩ := HF.out _ _ _ ho3 hg4
          rw [e4]
          go_wp2_with fail
          go_roundw
          case rel => exact ⟨i + 1, a4, c4, by omega, by go_num, rfl, ho4, hb4⟩
          case measure => simp [intOf]; omega
        · have hg0 : gn = false := by
            have := HKB.out
            cases gn <;> simp at this ⊢
          subst hg0
          go_wp2_with (first
            | (refine wpList_storeG rfl _ _ rfl w5.heap.size c cg0 rfl rfl HXL.out lenc hat ?_; rw [hw6])
            | (at_builtin; refine wpList_append_own W2 rfl _ _ 58 rfl w.heap.size 9 iI (.string ⟨#[]⟩) 1 16 Tryz.underlying58 hii hi0 hi1 hi2 rfl (by decide) _ L (strC (U i)) rfl hown7 ⟨w6.heap.size, 0, none⟩ 1 1 [.string nm] rfl rfl (oneS hnew) (by simp [Value.oneCell']) (by unfold maxLen; omega) (by omega) (by omega) ?_; intro v3 w8 ho3 hg4 _; obtain ⟨a3, c3, rfl⟩ := own_shape ho3))
          obtain ⟨a4, c4, e4, ho4, hb4⟩ := HF.out _ _ _ ho3 hg4
          rw [e4]
          go_wp2_with fail
          go_roundw
          case rel => exact ⟨i + 1, a4, c4, by omega, by go_num, rfl, ho4, hb4⟩
          case measure => simp [intOf]; omega
    · obtain rfl : i = n := by omega
      have hltI : ¬ (i : Int) < i := by omega
      go_wp2
      go_ret
      exact ⟨_, rfl, HO.out, HB.out⟩

def nmB (ino : Int) (l : List (ByteArray × ByteArray)) : List ByteArray := (l.filter (entB ino)).map fun p => (rdP p.1).name
def nmC (ino : Int) (L : List Cg) : List ByteArray := (L.filter (keepE ino)).map fun c => c.pl.name
/-- It is above all of them. -/
def AbvN (out : List ByteArray) (x : ByteArray) : Prop := ∀ y ∈ out, ltS y x = true
def emp : ByteArray := ⟨#[]⟩
structure OutV (A out : List ByteArray) : Prop where
  ris : RisN out
  sub : ∀ x ∈ out, x ∈ A
  dn : ∀ x ∈ A, x ∉ out → AbvN out x
def BestV (A out : List ByteArray) (i : Nat) (best : ByteArray) : Prop :=
  (best = emp ∧ ∀ x ∈ A.take i, ¬ AbvN out x) ∨ (best ∈ A.take i ∧ AbvN out best ∧ ∀ x ∈ A.take i, AbvN out x → ltS x best = false)
theorem out_nil (A : List ByteArray) : OutV A [] := ⟨List.Pairwise.nil, (fun x hx => by cases hx), (fun x _ _ y hy => by cases hy)⟩
theorem best_nil (A out : List ByteArray) : BestV A out 0 emp := .inl ⟨rfl, fun x hx => by simp at hx⟩
theorem abv_nil (x : ByteArray) : AbvN [] x := fun y hy => by cases hy
theorem abv_last {out : List ByteArray} (h : RisN out) {k : Nat} {y : ByteArray} (hk : out.length = k + 1) (hy : out[k]? = some y) (x : ByteArray) : AbvN out x ↔ ltS y x = true := by
  constructor
  · intro ha; exact ha y (List.mem_of_getElem? hy)
  · intro hl z hz
    obtain ⟨j, hj, rfl⟩ := List.getElem_of_mem hz
    by_cases e : j = k
    · subst e
      rw [List.getElem?_eq_getElem hj] at hy
      cases hy
      exact hl
    · obtain ⟨hk2, rfl⟩ := List.getElem?_eq_some_iff.1 hy
      have := List.pairwise_iff_getElem.1 h j k hj hk2 (by omega)
      exact ltS_trans this hl
theorem best_no {A out : List ByteArray} {i : Nat} {best x : ByteArray} (h : BestV A out i best) (hx : A[i]? = some x) (hn : ¬ AbvN out x) : BestV A out (i + 1) best := by
  have e : A.take (i + 1) = A.take i ++ [x] := by rw [List.take_add_one, hx]; rfl
  unfold BestV
  rw [e]
  rcases h with ⟨h1, h2⟩ | ⟨h1, h2, h3⟩
  · refine .inl ⟨h1, fun y hy => ?_⟩
    rcases List.mem_append.1 hy with hy | hy
    · exact h2 y hy
    · rw [List.mem_singleton.1 hy]; exact hn
  · refine .inr ⟨List.mem_append_left _ h1, h2, fun y hy ha => ?_⟩
    rcases List.mem_append.1 hy with hy | hy
    · exact h3 y hy ha
    · rw [List.mem_singleton.1 hy] at ha; exact absurd ha hn
theorem best_first {A out : List ByteArray} (hA : emp ∉ A) {i : Nat} {x : ByteArray} (h : BestV A out i emp) (hx : A[i]? = some x) (hn : AbvN out x) : BestV A out (i + 1) x := by
  have e : A.take (i + 1) = A.take i ++ [x] := by rw [List.take_add_one, hx]; rfl
  unfold BestV
  rw [e]
  rcases h with ⟨h1, h2⟩ | ⟨h1, h2, h3⟩
  · refine .inr ⟨by simp, hn, fun y hy ha => ?_⟩
    rcases List.mem_append.1 hy with hy | hy
    · exact absurd ha (h2 y hy)
    · rw [List.mem_singleton.1 hy]; exact ltS_irr x
  · exact absurd (List.mem_of_mem_take h1) hA
theorem best_less {A out : List ByteArray} {i : Nat} {best x : ByteArray} (hb : best ≠ emp) (h : BestV A out i best) (hx : A[i]? = some x) (hn : AbvN out x) (hl : ltS x best = true) : BestV A out (i + 1) x := by
  have e : A.take (i + 1) = A.take i ++ [x] := by rw [List.take_add_one, hx]; rfl
  unfold BestV
  rw [e]
  rcases h with ⟨h1, h2⟩ | ⟨h1, h2, h3⟩
  · exact absurd h1 hb
  · refine .inr ⟨by simp, hn, fun y hy ha => ?_⟩
    rcases List.mem_append.1 hy with hy | hy
    · cases q : ltS y x
      · rfl
      · have := h3 y hy ha
        rw [ltS_trans q hl] at this
        cases this
    · rw [List.mem_singleton.1 hy]; exact ltS_irr x
theorem best_more {A out : List ByteArray} {i : Nat} {best x : ByteArray} (hb : best ≠ emp) (h : BestV A out i best) (hx : A[i]? = some x) (hl : ltS x best = false) : BestV A out (i + 1) best := by
  have e : A.take (i + 1) = A.take i ++ [x] := by rw [List.take_add_one, hx]; rfl
  unfold BestV
  rw [e]
  rcases h with ⟨h1, h2⟩ | ⟨h1, h2, h3⟩
  · exact absurd h1 hb
  · refine .inr ⟨List.mem_append_left _ h1, h2, fun y hy ha => ?_⟩
    rcases List.mem_append.1 hy with hy | hy
    · exact h3 y hy ha
    · rw [List.mem_singleton.1 hy]; exact hl
theorem out_done {A out : List ByteArray} (hA : emp ∉ A) (h : OutV A out) (hb : BestV A out A.length emp) : ∀ x, x ∈ out ↔ x ∈ A := fun x => by
  rw [BestV, List.take_length] at hb
  rcases hb with ⟨_, h2⟩ | ⟨h1, _⟩
  · exact ⟨h.sub x, fun hx => Classical.byContradiction fun hn => h2 x hx (h.dn x hx hn)⟩
  · exact absurd h1 hA
theorem out_next {A out : List ByteArray} {best : ByteArray} (hne : best ≠ emp) (h : OutV A out) (hb : BestV A out A.length best) : OutV A (out ++ [best]) ∧ out.length + 1 ≤ A.length := by
  rw [BestV, List.take_length] at hb
  rcases hb with ⟨h1, _⟩ | ⟨h1, h2, h3⟩
  · exact absurd h1 hne
  · have hr : RisN (out ++ [best]) := List.pairwise_append.2 ⟨h.ris, List.pairwise_singleton _ _, fun x hx y hy => by rw [List.mem_singleton.1 hy]; exact h2 x hx⟩
    have hs : ∀ x ∈ out ++ [best], x ∈ A := fun x hx => by
      rcases List.mem_append.1 hx with hx | hx
      · exact h.sub x hx
      · rw [List.mem_singleton.1 hx]; exact h1
    refine ⟨⟨hr, hs, fun x hx hn y hy => ?_⟩, ?_⟩
    · have ha := h.dn x hx (fun q => hn (List.mem_append_left _ q))
      rcases List.mem_append.1 hy with hy | hy
      · exact ha y hy
      · rw [List.mem_singleton.1 hy]
        rcases ltS_three best x with q | q | q
        · exact q
        · exact absurd (by rw [← q]; simp) hn
        · rw [h3 x hx ha] at q; cases q
    · have hd : (out ++ [best]).Nodup := hr.imp fun h => ltS_ne h
      have := @len_sub ByteArray (Classical.typeDecidableEq ByteArray) _ _ hd hs
      simpa using this

theorem name_ok {p : Pl} (h : plOk p = true) (h2 : p.part = 2) : p.name ≠ emp ∧ p.name.size ≤ 8 := by
  refine ⟨fun e => ?_, plOk_size h⟩
  rcases (plOk_cases h).2 with ⟨q, _⟩ | ⟨_, q, _⟩ | ⟨q, _⟩
  · omega
  · rw [e] at q
    revert q
    decide
  · omega
theorem all_ok (l : List (ByteArray × ByteArray)) {s : Dl} (hc : CksOk s) (ino : Int) : emp ∉ nmB ino l ++ nmC ino s.L ∧ ∀ x ∈ nmB ino l ++ nmC ino s.L, x.size ≤ 8 := by
  have h : ∀ x ∈ nmB ino l ++ nmC ino s.L, x ≠ emp ∧ x.size ≤ 8 := fun x hx => by
    rcases List.mem_append.1 hx with hx | hx
    · obtain ⟨p, hp, rfl⟩ := List.mem_map.1 hx
      obtain ⟨q1, q2, q3⟩ := ent_of (List.mem_filter.1 hp).2
      exact name_ok (key_of_rd q1).2.1 q3
    · obtain ⟨c, hp, rfl⟩ := List.mem_map.1 hx
      obtain ⟨c1, c2, c3⟩ := kept_mem.1 (show c ∈ kept ino s.L from hp)
      exact name_ok (ck_cases (hc c c1)).1 c3
  exact ⟨fun q => (h _ q).1 rfl, fun x hx => (h x hx).2⟩
theorem was_kept {s : Dl} (hs : DlOk s) (hc : CksOk s) {ino : Int} {n : ByteArray} {c : Cg} (h : c ∈ kept ino s.L) (e : c.pl.name = n) : isX s ⟨ino, 2, n, 0⟩ = true ∧ wasX s ⟨ino, 2, n, 0⟩ = c := by
  obtain ⟨c1, c2, c3⟩ := kept_mem.1 h
  have hk := (ck_cases (hc c c1)).1
  have ch : c.pl.chunk = 0 := by rcases (plOk_cases hk).2 with ⟨e, _, q⟩ | ⟨_, _, q⟩ | ⟨e, _⟩ <;> first | exact q | omega
  have hpl : c.pl = ⟨ino, 2, n, 0⟩ := by
    have hx : ∀ p : Pl, p.ino = ino → p.part = 2 → p.name = n → p.chunk = 0 → p = ⟨ino, 2, n, 0⟩ := fun p q1 q2 q3 q4 => by
      obtain ⟨i, k, m, z⟩ := p
      dsimp only at q1 q2 q3 q4
      rw [q1, q2, q3, q4]
    exact hx _ c2 c3 e ch
  have hg : getL s.L ⟨ino, 2, n, 0⟩ = some c := (getL_some hs.L.rise).2 ⟨c1, hpl⟩
  unfold isX wasX
  rw [hg]
  exact ⟨rfl, rfl⟩
theorem is_kept {s : Dl} (hs : DlOk s) {ino : Int} {n : ByteArray} (h : isX s ⟨ino, 2, n, 0⟩ = true) : ∃ c ∈ kept ino s.L, c.pl.name = n := by
  unfold isX at h
  cases hg : getL s.L ⟨ino, 2, n, 0⟩ with
  | none => rw [hg] at h; cases h
  | some c =>
    obtain ⟨h1, h2⟩ := (getL_some hs.L.rise).1 hg
    exact ⟨c, kept_mem.2 ⟨h1, by rw [h2], by rw [h2]⟩, by rw [h2]⟩
theorem keep_name (l : List (ByteArray × ByteArray)) {s : Dl} (hs : DlOk s) (hc : CksOk s) (ino : Int) (n : ByteArray) : (n ∈ nmB ino l ++ nmC ino s.L ∧ keepB s ino n = true) ↔ NameV l s ino n := by
  have hm : n ∈ nmB ino l ++ nmC ino s.L ↔ (∃ p ∈ l, entB ino p = true ∧ (rdP p.1).name = n) ∨ ∃ c ∈ kept ino s.L, c.pl.name = n := by
    rw [List.mem_append]
    unfold nmB nmC
    rw [List.mem_map, List.mem_map]
    constructor
    · rintro (⟨p, hp, e⟩ | ⟨c, hp, e⟩)
      · exact .inl ⟨p, (List.mem_filter.1 hp).1, (List.mem_filter.1 hp).2, e⟩
      · exact .inr ⟨c, hp, e⟩
    · rintro (⟨p, hp, he, e⟩ | ⟨c, hp, e⟩)
      · exact .inl ⟨p, List.mem_filter.2 ⟨hp, he⟩, e⟩
      · exact .inr ⟨c, hp, e⟩
  rw [hm]
  unfold keepB NameV
  cases hi : isX s ⟨ino, 2, n, 0⟩
  · have hno : ∀ c ∈ kept ino s.L, c.pl.name ≠ n := fun c hcm e => by
      rw [(was_kept hs hc hcm e).1] at hi; cases hi
    constructor
    · rintro ⟨h | ⟨c, h1, h2⟩, _⟩
      · exact .inl ⟨h, hno⟩
      · exact absurd h2 (hno c h1)
    · rintro (⟨h, _⟩ | ⟨c, h1, h2, _⟩)
      · exact ⟨.inl h, rfl⟩
      · exact absurd h2 (hno c h1)
  · obtain ⟨c, h1, h2⟩ := is_kept hs hi
    rw [(was_kept hs hc h1 h2).2]
    constructor
    · rintro ⟨_, hg⟩
      exact .inr ⟨c, h1, h2, by simpa using hg⟩
    · rintro (⟨_, h⟩ | ⟨c', h3, h4, h5⟩)
      · exact absurd h2 (h c h1)
      · refine ⟨.inr ⟨c, h1, h2⟩, ?_⟩
        have : c' = c := by rw [← (was_kept hs hc h3 h4).2, (was_kept hs hc h1 h2).2]
        rw [← this, h5]
        rfl

set_option maxRecDepth 100000

theorem own_up9 {w : World} {base base' e k : Nat} {v : Value} {n : Nat} {xs : List Value} (h : w.ownsRow base' e k v n xs) (hb : base ≤ base') : w.ownsRow base e k v n xs := by
  obtain ⟨h1, h2 | ⟨g, cap, cur, e1, h3, h4⟩⟩ := h
  · exact ⟨h1, .inl h2⟩
  · exact ⟨h1, .inr ⟨g, cap, cur, e1, by omega, h4⟩⟩
theorem hid_rfl {α : Type} (a : α) : Hid (a = a) := rfl
theorem hid_true : Hid True := trivial
theorem take_map {α β : Type} (f : α → Bool) (g : α → β) {l : List α} {i : Nat} {x : α} (h : l[i]? = some x) : ((l.take (i + 1)).filter f).map g = ((l.take i).filter f).map g ++ (if f x then [g x] else []) := by
  rw [take_filter f h, List.map_append]
  cases f x <;> rfl
/-- A row that one name is put behind. -/
structure RowS (base : Nat) (w0 W : World) (v : Value) (l : List ByteArray) : Prop where
  own : ∃ a c, v = .slice a l.length c ∧ W.ownsRow base 9 1 (.slice a l.length c) l.length (strC l)
  bel : Below base w0 W
  le : base ≤ W.heap.size
theorem RowS.below {base : Nat} {w0 W W' : World} {v : Value} {l : List ByteArray} (h : RowS base w0 W v l) (hb : Below W.heap.size W W') : RowS base w0 W' v l := by
  obtain ⟨a, c, e, ho⟩ := h.own
  exact ⟨⟨a, c, e, own_belowS ho hb⟩, h.bel.trans (hb.mono h.le), Nat.le_trans h.le hb.size⟩
/-- What is no row of names is left. -/
def KeepE (w w' : World) : Prop := ∀ (k : Nat) (cs : Array Value) (e : TypeId) (fr : Nat × Nat), e ≠ 9 → w.heap[k]? = some (.cells cs e fr) → w'.heap[k]? = some (.cells cs e fr)
theorem KeepE.refl (w : World) : KeepE w w := fun _ _ _ _ _ h => h
theorem KeepE.trans {a b c : World} (h : KeepE a b) (k : KeepE b c) : KeepE a c := fun i cs e fr he hi => k i cs e fr he (h i cs e fr he hi)
theorem KeepE.of {w w' : World} (h : Below w.heap.size w w') : KeepE w w' := fun k cs e fr _ hk => (h.block k (Array.getElem?_eq_some_iff.1 hk).1).trans hk
theorem wpList_push {w0 w : World} {ops : Array Oper} {rest : List Oper} {o : Oper} {a : Act} {Q : Exit → Act → World → Prop} (hgd : o.guard = none) (sx x : Operand)
    (ho : o.op = .call { callee := .builtin .append, args := #[sx, x], argTypes := #[58, 58] }) {base g : Nat} {v : Value} {l : List ByteArray} (nm : ByteArray) (hs : a.eval sx = v) (hR : RowS base w0 w v l) (hx : a.eval x = .slice (some ⟨g, 0, none⟩) 1 1) (hnew : w.heap[g]? = some (.cells #[.string nm] 9 (0, 0))) (hlen : l.length ≤ 1000000)
    (h : ∀ v' w', RowS base w0 w' v' (l ++ [nm]) → KeepE w w' → wpList Tryz.prog ops Q rest (a.put o.dst v') w') : wpList Tryz.prog ops Q (o :: rest) a w := by
  obtain ⟨iI, hii, hi0, hi1, hi2⟩ := info_partsS
  obtain ⟨ra, rc, rfl, hown⟩ := hR.own
  refine wpList_append_own w hgd sx x 58 ho base 9 iI (.string ⟨#[]⟩) 1 16 Tryz.underlying58 hii hi0 hi1 hi2 rfl (by decide) _ l.length (strC l) hs hown ⟨g, 0, none⟩ 1 1 [.string nm] hx rfl (oneS hnew) (by simp [Value.oneCell']) (by unfold maxLen; omega) (by omega) hR.le ?_
  intro v3 w8 ho3 hg4 _
  obtain ⟨a3, c3, rfl⟩ := own_shape ho3
  have e1 : (l ++ [nm]).length = l.length + 1 := by simp
  have e2 : strC (l ++ [nm]) = strC l ++ [.string nm] := by simp [strC]
  refine h _ _ ⟨⟨a3, c3, by rw [e1], by rw [e1, e2]; exact ho3⟩, hR.bel.trans ((Below.refl base w).grown hg4 hR.le (fun q hq => (World.ownsRow.lt hown q hq).1)), Nat.le_trans hR.le hg4.size⟩ (fun k cs e fr he hk => (hg4.block k (Array.getElem?_eq_some_iff.1 hk).1 (fun eq => ?_)).trans hk)
  obtain ⟨cs', e'⟩ := own_row hown eq.symm
  rw [hk] at e'
  cases e'
  exact he rfl

set_option maxHeartbeats 16000000 in
theorem rnames_any {B : Nat} {w0 w : World} {v p b q : Nat} {s : Dl} {xs : List Cg} {a : Option Addr} {len cap : Nat} {l : List (ByteArray × ByteArray)} (hv : RvAt w v a len cap q) (hl : RdK w a len cap l) (hlo : KvsOk l) (h3 : len ≤ 300) (hD : Both B w0 w p b q s xs) (hck : CksOk s) (hx : xs.length ≤ 80) (ino : Int) (i0 : 0 < ino) (i1 : ino ≤ 4294967295) :
    Calls Tryz.prog 18 #[.pointer (some ⟨v, 0, none⟩), .int .u32 ino] w fun e w' => ∃ u out, e = .returned u ∧ w'.ownsRow w.heap.size 9 1 u out.length (strC out) ∧ RisN out ∧ (∀ n, n ∈ out ↔ NameV l s ino n) ∧ Below w.heap.size w w' := by
  have hzC := zeroCg
  have lenc : cg0.pt.bytes.length = 32 := cg0_ok.pt.ch.1
  have al : ∀ (A : World) (o : Obj), Below A.heap.size A (A.alloc o) := fun A o => (Below.refl _ A).alloc (Nat.le_refl _) o
  have HV : Hid _ := hv
  have HD : Hid _ := hD
  have HSO : Hid (DlOk s) := hD.ok
  have HCK : Hid _ := hck
  have hlL := hD.r.lenL hD.ok
  have HXL : Hid (xs.length ≤ 80) := hx
  have HLL : Hid (s.L.length ≤ 80) := by unfold Hid; omega
  obtain ⟨hll, hnc, hcm, hI⟩ := hl
  unfold maxLen at hcm
  have c0 := hv.c0
  clear hlL hv hD hck hx
  go_enter Tryz.func18, Tryz.ntmps18
  go_wp2_with fail
  go_loopw [6, 8, 9, 10, 21] (fun vv _ _ _ t wr => ∃ (i : Nat), i ≤ len ∧ t = .int .i64 i ∧ Hid (RowS w.heap.size w wr vv (nmB ino (l.take i)))) (fun _ _ _ _ t _ => len - (intOf t).toNat)
  case atStart => exact ⟨0, Nat.zero_le _, rfl, ⟨⟨none, 0, rfl, World.ownsRow_nil _ _ _ _⟩, Below.refl _ _, Nat.le_refl _⟩⟩
  case round =>
    obtain ⟨i, hi, rfl, HR⟩ := hrel
    by_cases hlt : i < len
    · have hltI : (i : Int) < len := by omega
      obtain ⟨rb, off, rfl, hrb, hcs⟩ := hI (by omega)
      obtain ⟨kv, hkv⟩ : ∃ kv, l[i]? = some kv := ⟨_, List.getElem?_eq_getElem (by omega)⟩
      have hcx0 : wr.cell? ⟨rb, off + i * 2, none⟩ = some (.string kv.1) := (HR.out.bel.cell (p := ⟨rb, off + i * 2, none⟩) hrb).trans (hcs i kv hkv).1
      have hcx1 : wr.cell? ⟨rb, off + i * 2 + 1, none⟩ = some (.string kv.2) := (HR.out.bel.cell (p := ⟨rb, off + i * 2 + 1, none⟩) hrb).trans (hcs i kv hkv).2
      have hsz : kv.1.size ≤ maxLen := (hlo kv (List.mem_of_getElem? hkv)).1
      have hnx : nmB ino (l.take (i + 1)) = nmB ino (l.take i) ++ (if entB ino kv then [(rdP kv.1).name] else []) := take_map _ _ hkv
      have HNX : Hid _ := hnx
      have hNL : (nmB ino (l.take i)).length ≤ 300 := by unfold nmB; rw [List.length_map]; exact Nat.le_trans (List.length_filter_le _ _) (by rw [List.length_take]; omega)
      obtain ⟨N, hN⟩ : ∃ N, nmB ino (l.take i) = N := ⟨_, rfl⟩
      rw [hN] at HR HNX hNL
      have hbA := al wr (.cells #[.string kv.1, .string kv.2] 90)
      have cr := refRead_any (wr.alloc (.cells #[.string kv.1, .string kv.2] 90)) kv.1 hsz
      unfold plV at cr
      clear hcs hkv hnx hN
      go_wp2_with fail
      refine cr.mono ?_
      rintro e w5 ⟨rfl, hb5⟩
      clear cr
      have hP : PlAt (w5.alloc (.cells #[.int .u32 (rdP kv.1).ino, .int .i64 (rdP kv.1).part, .string (rdP kv.1).name, .int .u32 (rdP kv.1).chunk] 26)) w5.heap.size (rdP kv.1) := ⟨heap_alloc_new w5 _⟩
      have hbP := al w5 (.cells #[.int .u32 (rdP kv.1).ino, .int .i64 (rdP kv.1).part, .string (rdP kv.1).name, .int .u32 (rdP kv.1).chunk] 26)
      obtain ⟨w6, hw6⟩ : ∃ w6, w5.alloc (.cells #[.int .u32 (rdP kv.1).ino, .int .i64 (rdP kv.1).part, .string (rdP kv.1).name, .int .u32 (rdP kv.1).chunk] 26) = w6 := ⟨_, rfl⟩
      rw [hw6] at hP hbP
      have HR6 : Hid _ := HR.out.below (thenB hbA (thenB hb5 hbP))
      have p0 := hP.c0
      have p1 := hP.c1
      have p2 := hP.c2
      clear hP hbP hb5 hbA HR
      cases hr : rdOk kv.1
      · have er := (rd_no hr).2
        have HEB : Hid (nmB ino (l.take (i + 1)) = N) := by unfold Hid; rw [HNX.out]; unfold entB; rw [hr]; simp
        rw [er]
        clear hr er
        go_wp2_with fail
        go_roundw
        case rel => exact ⟨i + 1, by omega, by go_num, by unfold Hid; rw [HEB.out]; exact HR6.out⟩
        case measure => simp [intOf]; omega
      · have er := (rd_yes hr).2
        have HEB : Hid (entB ino kv = ((rdP kv.1).ino == ino && (rdP kv.1).part == 2)) := by unfold Hid entB; rw [hr]; rfl
        rw [er]
        clear hr er
        obtain ⟨ri, hri⟩ : ∃ ri, (rdP kv.1).ino = ri := ⟨_, rfl⟩
        obtain ⟨rp, hrp⟩ : ∃ rp, (rdP kv.1).part = rp := ⟨_, rfl⟩
        obtain ⟨rn, hrn⟩ : ∃ rn, (rdP kv.1).name = rn := ⟨_, rfl⟩
        rw [hri, hrp] at HEB
        rw [hrn] at HNX p2
        rw [hri] at p0
        rw [hrp] at p1
        rw [hri, hrp, hrn] at hw6 ⊢
        clear hri hrp hrn
        cases c1 : (ri == ino)
        · rw [c1, Bool.false_and] at HEB
          have HE2 : Hid (nmB ino (l.take (i + 1)) = N) := by unfold Hid; rw [HNX.out, HEB.out]; simp
          go_wp2_with fail
          go_roundw
          case rel => exact ⟨i + 1, by omega, by go_num, by unfold Hid; rw [HE2.out]; exact HR6.out⟩
          case measure => simp [intOf]; omega
        · rw [c1, Bool.true_and] at HEB
          cases c2 : (rp == 2)
          · rw [c2] at HEB
            have HE2 : Hid (nmB ino (l.take (i + 1)) = N) := by unfold Hid; rw [HNX.out, HEB.out]; simp
            go_wp2_with fail
            go_roundw
            case rel => exact ⟨i + 1, by omega, by go_num, by unfold Hid; rw [HE2.out]; exact HR6.out⟩
            case measure => simp [intOf]; omega
          · rw [c2] at HEB
            have HE2 : Hid (nmB ino (l.take (i + 1)) = N ++ [rn]) := by unfold Hid; rw [HNX.out, HEB.out]; simp
            obtain ⟨W7, hW7⟩ : ∃ W7, w6.alloc (.cells #[.string rn] 9) = W7 := ⟨_, rfl⟩
            have hb7 : Below w6.heap.size w6 W7 := by rw [← hW7]; exact al w6 _
            have hnew : W7.heap[w6.heap.size]? = some (.cells #[.string rn] 9 (0, 0)) := by rw [← hW7]; exact heap_alloc_new w6 _
            have HR7 : Hid _ := HR6.out.below hb7
            go_wp2_with (at_builtin; refine wpList_push rfl _ _ rfl rn rfl HR7.out rfl hnew (by omega) ?_; intro v8 w8 hR8 hK8)
            go_roundw
            case rel => exact ⟨i + 1, by omega, by go_num, by unfold Hid; rw [HE2.out]; exact hR8⟩
            case measure => simp [intOf]; omega
    · obtain rfl : i = len := by omega
      have hltI : ¬ (i : Int) < i := by omega
      rw [List.take_of_length_le (by omega)] at HR
      clear hI
      have hbw := HR.out.bel
      have cv1 := (HV.out.below hbw).c1
      obtain ⟨xv, hxv⟩ := (HD.out.below hbw).x
      have ca := xall_any hxv HD.out.r HSO.out (by have := HXL.out; omega) (by have := HLL.out; omega)
      clear hxv hbw
      go_wp2_with fail
      refine ca.mono ?_
      rintro e w7 ⟨u, rfl, ho7, hb7⟩
      clear ca cv1
      obtain ⟨ua, uc, rfl⟩ := own_shape ho7
      obtain ⟨hLn, hI2⟩ := (rdC_own ho7).range HSO.out.L.ok
      have HOU : Hid (∀ g, (Value.slice ua s.L.length uc).ownBlock = some g → ∃ cs, w7.heap[g]? = some (.cells cs 56 (0, 0))) := fun g hg => own_row ho7 hg
      have HR7 : Hid _ := HR.out.below hb7
      obtain ⟨X, hX⟩ : ∃ X, nmB ino l = X := ⟨_, rfl⟩
      rw [hX] at HR7
      have HX : Hid (nmB ino l = X) := hX
      have hXl : X.length ≤ 300 := by rw [← hX]; unfold nmB; rw [List.length_map]; exact Nat.le_trans (List.length_filter_le _ _) (by omega)
      obtain ⟨n, hn⟩ : ∃ n, s.L.length = n := ⟨_, rfl⟩
      have HN : Hid (s.L.length = n) := hn
      have hn80 : n ≤ 80 := by rw [← hn]; exact HLL.out
      rw [hn] at hI2 HOU ⊢
      clear hn hX ho7 HR hb7 hLn
      go_wp2_with fail
      go_loopw [6, 12, 56] (fun vv _ t wr => ∃ (j : Nat), j ≤ n ∧ t = .int .i64 j ∧ Hid (RowS w.heap.size w wr vv (X ++ nmC ino (s.L.take j))) ∧ Hid (KeepE w7 wr)) (fun _ _ t _ => n - (intOf t).toNat)
      case atStart => exact ⟨0, Nat.zero_le _, rfl, by unfold Hid; rw [show nmC ino (s.L.take 0) = [] from rfl, List.append_nil]; exact HR7.out, KeepE.refl _⟩
      case round =>
        clear HR7
        obtain ⟨j, hj, rfl, HR, HKE⟩ := hrel
        by_cases hlt : j < n
        · have hltI : (j : Int) < n := by omega
          obtain ⟨ug, uo, rfl, hug, hat⟩ := hI2 (by omega)
          obtain ⟨c, hc⟩ : ∃ c, s.L[j]? = some c := ⟨_, List.getElem?_eq_getElem (by rw [HN.out]; exact hlt)⟩
          have hok := HSO.out.L.ok c (List.mem_of_getElem? hc)
          have hgd : s.L.getD j cg0 = c := by rw [List.getD_eq_getElem?_getD, hc]; rfl
          obtain ⟨ucs, hucs⟩ := HOU.out ug rfl
          have hrg : wr.rangeAt ug (uo + j * 46) (cgL c) := fun k x hx => by
            have := hat j hlt k x (by rw [hgd]; exact hx)
            exact (World.cell?_of_block ((HKE.out ug ucs _ _ (by decide) hucs).trans hucs.symm)).trans this
          have HLD : Hid _ := range_load hrg hok
          have HL : Hid (c.pt.bytes.length = 32) := hok.pt.ch.1
          have HNX : Hid (nmC ino (s.L.take (j + 1)) = nmC ino (s.L.take j) ++ (if keepE ino c then [c.pl.name] else [])) := take_map _ _ hc
          have hNL : (nmC ino (s.L.take j)).length ≤ 80 := by unfold nmC; rw [List.length_map]; exact Nat.le_trans (List.length_filter_le _ _) (by rw [List.length_take]; omega)
          obtain ⟨N, hN⟩ : ∃ N, nmC ino (s.L.take j) = N := ⟨_, rfl⟩
          rw [hN] at HR HNX hNL
          clear hrg hat hc hgd hucs hN hok
          have hz3 := CgAt.laid wr cg0
          have hb3 := alloc_row (A := wr) (.cells (cgC cg0) 56) (cgC c)
          have hd3 := hz3.setRow c
          obtain ⟨y3, hy3⟩ : ∃ y3, (wr.alloc (.cells (cgC cg0) 56)).setRow wr.heap.size (cgC c) = y3 := ⟨_, rfl⟩
          rw [hy3] at hb3 hd3
          have HR3 : Hid _ := HR.out.below hb3
          have HK3 : Hid (KeepE w7 y3) := KeepE.trans HKE.out (KeepE.of hb3)
          have x0 := hd3.c0
          have x1 := hd3.c1
          have x2 := hd3.c2
          clear hd3 hb3 HR HKE
          obtain ⟨ci, hci⟩ : ∃ ci, c.pl.ino = ci := ⟨_, rfl⟩
          obtain ⟨cp, hcp⟩ : ∃ cp, c.pl.part = cp := ⟨_, rfl⟩
          obtain ⟨cn, hcn⟩ : ∃ cn, c.pl.name = cn := ⟨_, rfl⟩
          have HKB : Hid (keepE ino c = ((ci == ino) && (cp == 2))) := by
            unfold Hid keepE
            rw [hci, hcp]
            rfl
          rw [hci] at x0
          rw [hcp] at x1
          rw [hcn] at x2 HNX
          clear hci hcp hcn
          have tac : True := trivial
          cases c1 : (ci == ino)
          · rw [c1, Bool.false_and] at HKB
            have HE2 : Hid (nmC ino (s.L.take (j + 1)) = N) := by unfold Hid; rw [HNX.out, HKB.out]; simp
            go_wp2_with (first
              | (refine wpList_loadG rfl 56 _ rfl _ rfl _ HLD.out ?_)
              | (refine wpList_storeG rfl _ _ rfl wr.heap.size c cg0 rfl rfl HL.out lenc hz3 ?_; rw [hy3]))
            go_roundw
            case rel => exact ⟨j + 1, by omega, by go_num, by unfold Hid; rw [HE2.out]; exact HR3.out, HK3⟩
            case measure => simp [intOf]; omega
          · rw [c1, Bool.true_and] at HKB
            cases c2 : (cp == 2)
            · rw [c2] at HKB
              have HE2 : Hid (nmC ino (s.L.take (j + 1)) = N) := by unfold Hid; rw [HNX.out, HKB.out]; simp
              go_wp2_with (first
                | (refine wpList_loadG rfl 56 _ rfl _ rfl _ HLD.out ?_)
                | (refine wpList_storeG rfl _ _ rfl wr.heap.size c cg0 rfl rfl HL.out lenc hz3 ?_; rw [hy3]))
              go_roundw
              case rel => exact ⟨j + 1, by omega, by go_num, by unfold Hid; rw [HE2.out]; exact HR3.out, HK3⟩
              case measure => simp [intOf]; omega
            · rw [c2] at HKB
              have HE2 : Hid (X ++ nmC ino (s.L.take (j + 1)) = (X ++ N) ++ [cn]) := by unfold Hid; rw [HNX.out, HKB.out]; simp
              obtain ⟨W7, hW7⟩ : ∃ W7, y3.alloc (.cells #[.string cn] 9) = W7 := ⟨_, rfl⟩
              have hb7 : Below y3.heap.size y3 W7 := by rw [← hW7]; exact al y3 _
              have hnew : W7.heap[y3.heap.size]? = some (.cells #[.string cn] 9 (0, 0)) := by rw [← hW7]; exact heap_alloc_new y3 _
              have HR7 : Hid _ := HR3.out.below hb7
              have HK7 : Hid (KeepE w7 W7) := KeepE.trans HK3.out (KeepE.of hb7)
              have hXN : (X ++ N).length ≤ 1000000 := by rw [List.length_append]; omega
              go_wp2_with (first
                | (refine wpList_loadG rfl 56 _ rfl _ rfl _ HLD.out ?_)
                | (refine wpList_storeG rfl _ _ rfl wr.heap.size c cg0 rfl rfl HL.out lenc hz3 ?_; rw [hy3])
                | (at_builtin; refine wpList_push rfl _ _ rfl cn rfl HR7.out rfl hnew hXN ?_; intro v8 w8 hR8 hK8))
              go_roundw
              case rel => exact ⟨j + 1, by omega, by go_num, by unfold Hid; rw [HE2.out]; exact hR8, KeepE.trans HK7.out hK8⟩
              case measure => simp [intOf]; omega
        · obtain rfl : j = n := by omega
          have hltI : ¬ (j : Int) < j := by omega
          rw [List.take_of_length_le (by rw [HN.out]; exact Nat.le_refl _)] at HR
          clear hI2 HOU HKE
          rw [← HX.out] at HR
          obtain ⟨hemp, hsz8⟩ := all_ok l HCK.out ino
          have HNM : Hid _ := keep_name l HSO.out HCK.out ino
          have hAl : (nmB ino l ++ nmC ino s.L).length ≤ 380 := by
            rw [List.length_append, HX.out]
            have : (nmC ino s.L).length ≤ s.L.length := by unfold nmC; rw [List.length_map]; exact List.length_filter_le _ _
            have := HLL.out
            omega
          obtain ⟨A, hA⟩ : ∃ A, nmB ino l ++ nmC ino s.L = A := ⟨_, rfl⟩
          rw [hA] at HR hemp hsz8 hAl
          rw [show (∀ n, (n ∈ nmB ino l ++ nmC ino s.L ∧ keepB s ino n = true) ↔ NameV l s ino n) = (∀ n, (n ∈ A ∧ keepB s ino n = true) ↔ NameV l s ino n) by rw [hA]] at HNM
          clear hA
          have HEM : Hid (emp ∉ A) := hemp
          have HS8 : Hid (∀ x ∈ A, x.size ≤ 8) := hsz8
          obtain ⟨aa, ac, rfl, hoA⟩ := HR.out.own
          have hrA := rdT_own rfl hoA
          have HBA : Hid _ := HR.out.bel
          have HVA : Hid _ := HV.out.below HBA.out
          have HDA : Hid _ := HD.out.below HBA.out
          have HWA : Hid (w.heap.size ≤ wr.heap.size) := HR.out.le
          clear hoA HR hemp hsz8
          obtain ⟨wA, hwA⟩ : ∃ wA, wr = wA := ⟨_, rfl⟩
          rw [hwA] at hrA HBA HVA HDA HWA ⊢
          clear hwA
          obtain ⟨_, hIA⟩ := hrA
          obtain ⟨m, hm⟩ : ∃ m, A.length = m := ⟨_, rfl⟩
          have HM : Hid (A.length = m) := hm
          rw [hm] at hIA hAl ⊢
          clear hm
          go_wp2_with fail
          go_loopw [5, 13, 15, 80] (fun vo _ _ _ wo => ∃ (out : List ByteArray), Hid (RowS wA.heap.size wA wo vo out) ∧ Hid (OutV A out) ∧ out.length ≤ m) (fun vo _ _ _ _ => m + 1 - (match vo with | .slice _ k _ => k | _ => 0))
          case atStart => exact ⟨[], ⟨⟨none, 0, rfl, World.ownsRow_nil _ _ _ _⟩, Below.refl _ _, Nat.le_refl _⟩, out_nil A, Nat.zero_le _⟩
          case round =>
            obtain ⟨out, HRO, HOV, hol⟩ := hrel
            obtain ⟨oa, oc, rfl, hoO⟩ := HRO.out.own
            have hrO := rdT_own rfl hoO
            obtain ⟨_, hIO⟩ := hrO
            obtain ⟨k, hk⟩ : ∃ k, out.length = k := ⟨_, rfl⟩
            have HKO : Hid (out.length = k) := hk
            rw [hk] at hIO hol ⊢
            clear hk hoO
            obtain ⟨wo, rfl⟩ : ∃ wo, wo = wr := ⟨_, rfl⟩
            go_wp2_with fail
            go_loopw [13, 15, 80] (fun vb _ t wi => ∃ (i : Nat) (best : ByteArray), i ≤ m ∧ t = .int .i64 i ∧ vb = .string best ∧ Hid (BestV A out i best) ∧ Hid (wi = wo)) (fun _ _ t _ => m - (intOf t).toNat)
            case atStart => exact ⟨0, emp, Nat.zero_le _, rfl, rfl, best_nil A out, hid_rfl _⟩
            case round =>
              obtain ⟨i, best, hi, rfl, rfl, HBV, HWE⟩ := hrel
              have hWE := HWE.out
              subst hWE
              by_cases hlt : i < m
              · have hltI : (i : Int) < m := by omega
                obtain ⟨ab, ao, rfl, hab, hac⟩ := hIA (by omega)
                obtain ⟨x, hx⟩ : ∃ x, A[i]? = some x := ⟨_, List.getElem?_eq_getElem (by rw [HM.out]; exact hlt)⟩
                have hcx : wr.cell? ⟨ab, ao + i, none⟩ = some (.string x) := (HRO.out.bel.cell (p := ⟨ab, ao + i, none⟩) hab).trans (hac i x hx)
                have HX : Hid (A[i]? = some x) := hx
                clear hac hx
                by_cases hk0 : k = 0
                · subst hk0
                  have ho0 : out = [] := List.eq_nil_of_length_eq_zero HKO.out
                  have HAB : Hid (AbvN out x) := by unfold Hid; rw [ho0]; exact abv_nil x
                  clear ho0 hIO
                  by_cases hbe : best = emp
                  · subst hbe
                    have HBN : Hid _ := best_first HEM.out HBV.out HX.out HAB.out
                    unfold emp at HBV ⊢
                    go_wp2_with fail
                    go_roundw
                    case rel => exact ⟨i + 1, x, by omega, by go_num, rfl, HBN, by first | exact hid_rfl _ | exact hid_true⟩
                    case measure => simp [intOf]; omega
                  · have hb1 : (best.toList == (⟨#[]⟩ : ByteArray).toList) = false := by
                      cases hq2 : (best.toList == (⟨#[]⟩ : ByteArray).toList)
                      · rfl
                      · exact absurd (name_eq.1 hq2) hbe
                    have hb3 : ¬ best.toList = [] := fun e => hbe (toList_empty e)
                    have hb2 : (best.toList == []) = false := by simp [hb3]
                    have hb4 : best.toList.isEmpty = false := by simp [hb3]
                    cases hls : Op.bytesLess x.toList best.toList
                    · have HBN : Hid _ := best_more hbe HBV.out HX.out hls
                      go_wp2_with fail
                      go_roundw
                      case rel => exact ⟨i + 1, best, by omega, by go_num, rfl, HBN, by first | exact hid_rfl _ | exact hid_true⟩
                      case measure => simp [intOf]; omega
                    · have HBN : Hid _ := best_less hbe HBV.out HX.out HAB.out hls
                      go_wp2_with fail
                      go_roundw
                      case rel => exact ⟨i + 1, x, by omega, by go_num, rfl, HBN, by first | exact hid_rfl _ | exact hid_true⟩
                      case measure => simp [intOf]; omega
                · obtain ⟨k', rfl⟩ : ∃ k', k = k' + 1 := ⟨k - 1, by omega⟩
                  obtain ⟨ob, oo, rfl, hob, hoc⟩ := hIO (by omega)
                  obtain ⟨y, hy⟩ : ∃ y, out[k']? = some y := ⟨_, List.getElem?_eq_getElem (by rw [HKO.out]; omega)⟩
                  have hcy := hoc k' y hy
                  have HAL : Hid _ := abv_last HOV.out.ris HKO.out hy x
                  have hk1 : ((k' + 1 : Nat) : Int) - 1 = (k' : Int) := by omega
                  have hk2 : (k' : Int) < ((k' + 1 : Nat) : Int) := by omega
                  have hk3 : (((k' + 1 : Nat) : Int) == 0) = false := by simp; omega
                  clear hoc hy
                  rcases ltS_three x y with hq | hq | hq
                  · have hxy : Op.bytesLess x.toList y.toList = true := hq
                    have HBN : Hid _ := best_no HBV.out HX.out (fun h => by have := HAL.out.1 h; rw [ltS_asym hq] at this; cases this)
                    go_wp2_with fail
                    go_roundw
                    case rel => exact ⟨i + 1, best, by omega, by go_num, rfl, HBN, by first | exact hid_rfl _ | exact hid_true⟩
                    case measure => simp [intOf]; omega
                  · subst hq
                    have hirr : Op.bytesLess x.toList x.toList = false := ltS_irr x
                    have HBN : Hid _ := best_no HBV.out HX.out (fun h => by have := HAL.out.1 h; rw [ltS_irr x] at this; cases this)
                    go_wp2_with fail
                    go_roundw
                    case rel => exact ⟨i + 1, best, by omega, by go_num, rfl, HBN, by first | exact hid_rfl _ | exact hid_true⟩
                    case measure => simp [intOf]; omega
                  · have hxy : Op.bytesLess x.toList y.toList = false := ltS_asym hq
                    have hxn : (x.toList == y.toList) = false := by
                      cases hq2 : (x.toList == y.toList)
                      · rfl
                      · exact absurd (name_eq.1 hq2).symm (ltS_ne hq)
                    have hxm : ¬ x.toList = y.toList := by simpa using hxn
                    have HAB : Hid (AbvN out x) := HAL.out.2 hq
                    by_cases hbe : best = emp
                    · subst hbe
                      have HBN : Hid _ := best_first HEM.out HBV.out HX.out HAB.out
                      unfold emp at HBV ⊢
                      go_wp2_with fail
                      go_roundw
                      case rel => exact ⟨i + 1, x, by omega, by go_num, rfl, HBN, by first | exact hid_rfl _ | exact hid_true⟩
                      case measure => simp [intOf]; omega
                    · have hb1 : (best.toList == (⟨#[]⟩ : ByteArray).toList) = false := by
                        cases hq2 : (best.toList == (⟨#[]⟩ : ByteArray).toList)
                        · rfl
                        · exact absurd (name_eq.1 hq2) hbe
                      have hb3 : ¬ best.toList = [] := fun e => hbe (toList_empty e)
                      have hb2 : (best.toList == []) = false := by simp [hb3]
                      have hb4 : best.toList.isEmpty = false := by simp [hb3]
                      cases hls : Op.bytesLess x.toList best.toList
                      · have HBN : Hid _ := best_more hbe HBV.out HX.out hls
                        go_wp2_with fail
                        go_roundw
                        case rel => exact ⟨i + 1, best, by omega, by go_num, rfl, HBN, by first | exact hid_rfl _ | exact hid_true⟩
                        case measure => simp [intOf]; omega
                      · have HBN : Hid _ := best_less hbe HBV.out HX.out HAB.out hls
                        go_wp2_with fail
                        go_roundw
                        case rel => exact ⟨i + 1, x, by omega, by go_num, rfl, HBN, by first | exact hid_rfl _ | exact hid_true⟩
                        case measure => simp [intOf]; omega
              · obtain rfl : i = m := by omega
                have hltI : ¬ (i : Int) < i := by omega
                rw [← HM.out] at HBV
                by_cases hbe : best = emp
                · subst hbe
                  have hall := out_done HEM.out HOV.out HBV.out
                  have ck := rkept_any (HVA.out.below HRO.out.bel) (HDA.out.below HRO.out.bel) ino (by omega) i1 oa k oc out ⟨HKO.out, hIO⟩ (fun x hx => HS8.out x ((hall x).1 hx)) (by omega)
                  have HALL : Hid _ := hall
                  clear hall
                  unfold emp at HBV ⊢
                  go_wp2_with fail
                  refine ck.mono ?_
                  rintro e w9 ⟨u, rfl, ho9, hb9⟩
                  clear ck
                  go_wp2
                  go_ret
                  refine ⟨u, out.filter (keepB s ino), rfl, own_up9 ho9 (Nat.le_trans HWA.out HRO.out.le), List.Pairwise.sublist List.filter_sublist HOV.out.ris, fun n => ?_, thenB HBA.out (HRO.out.bel.trans (hb9.mono HRO.out.le))⟩
                  rw [List.mem_filter, HALL.out n]
                  exact HNM.out n
                · have hb1 : (best.toList == (⟨#[]⟩ : ByteArray).toList) = false := by
                    cases hq2 : (best.toList == (⟨#[]⟩ : ByteArray).toList)
                    · rfl
                    · exact absurd (name_eq.1 hq2) hbe
                  have hb3 : ¬ best.toList = [] := fun e => hbe (toList_empty e)
                  have hb2 : (best.toList == []) = false := by simp [hb3]
                  have hb4 : best.toList.isEmpty = false := by simp [hb3]
                  obtain ⟨hON, hle⟩ := out_next hbe HOV.out HBV.out
                  have HON : Hid _ := hON
                  rw [HM.out, HKO.out] at hle
                  obtain ⟨W7, hW7⟩ : ∃ W7, wr.alloc (.cells #[.string best] 9) = W7 := ⟨_, rfl⟩
                  have hb7 : Below wr.heap.size wr W7 := by rw [← hW7]; exact al wr _
                  have hnew : W7.heap[wr.heap.size]? = some (.cells #[.string best] 9 (0, 0)) := by rw [← hW7]; exact heap_alloc_new wr _
                  have hR7 := HRO.out.below hb7
                  rw [HKO.out] at hR7
                  have HR7 : Hid _ := hR7
                  have hol2 : out.length ≤ 1000000 := by rw [HKO.out]; omega
                  clear hON hR7
                  go_wp2_with (at_builtin; refine wpList_push rfl _ _ rfl best rfl HR7.out rfl hnew hol2 ?_; intro v8 w8 hR8 hK8)
                  obtain ⟨a8, c8, rfl, ho8⟩ := hR8.own
                  go_roundw
                  case rel => exact ⟨out ++ [best], hR8, HON, by rw [List.length_append, HKO.out]; simpa using hle⟩
                  case measure => simp [HKO.out]; omega

open Go.RowKit Go.Shelf

theorem own_names {β : Type} (B base : Nat) (v : Value) (n : Nat) (xs : List Value) : OwnFrom B (fun (_ : β) W => W.ownsRow base 9 1 v n xs) := fun s W W' row hs hg hr => by
  refine hs.kept hg ?_
  rcases hs.2 with ⟨rfl, _⟩ | ⟨g, cap, cur, rfl, _, hgb, _⟩
  · exact .inl rfl
  · refine .inr fun e' => ?_
    have e2 : row = some g := e'.symm
    obtain ⟨_, o, ho, hc⟩ := hr g e2
    rw [hgb] at ho
    cases ho
    cases hc
theorem names_set {base : Nat} {W : World} {v : Value} {n : Nat} {xs : List Value} (h : W.ownsRow base 9 1 v n xs) {b : Nat} {cs : Array Value} {t : TypeId} {fr : Nat × Nat} (hb : W.heap[b]? = some (.cells cs t fr)) (ht : t ≠ 9) (u : Value) : (W.setCell ⟨b, 0, none⟩ u).ownsRow base 9 1 v n xs := by
  refine own_keep h ((Below.refl b W).setCell (p := ⟨b, 0, none⟩) (Nat.le_refl _) u).size (fun q hq hl => heap_setCell_other W ⟨b, 0, none⟩ q u (fun e => ?_))
  obtain ⟨cs', e'⟩ := own_row h hq
  have e2 : q = b := e
  rw [e2, hb] at e'
  cases e'
  exact ht rfl
theorem KpN.grown {TT : Keep} {n₀ n₁ : Nat} {W W' : World} {v : Value} {n : Nat} {xs : List Value} (h : W.ownsRow n₀ 9 1 v n xs) (hg : W.grownBy W' v.ownBlock) (hT : 9 ∉ TT.ts) (hn : n₀ ≤ W.heap.size) : KpN TT n₀ n₁ W W' := by
  have hne : ∀ (k : Nat) (cs : Array Value) (t : TypeId) (fr : Nat × Nat), W.heap[k]? = some (.cells cs t fr) → t ≠ 9 → W'.heap[k]? = some (.cells cs t fr) := fun k cs t fr hk ht => (hg.block k (Array.getElem?_eq_some_iff.1 hk).1 (fun e => by
    obtain ⟨cs', e'⟩ := own_row h e.symm
    rw [hk] at e'
    cases e'
    exact ht rfl)).trans hk
  refine ⟨⟨hg.os, hg.tape, hg.output, hg.size, fun k hk _ => hg.block k (by omega) (fun e => by have := (World.ownsRow.lt h k e.symm).1; omega)⟩, ⟨hg.size, fun k o _ hk ho => (hg.block k (Array.getElem?_eq_some_iff.1 hk).1 (fun e => by
    obtain ⟨cs', e'⟩ := own_row h e.symm
    rw [hk] at e'
    cases e'
    cases ho)).trans hk⟩, fun k cs t fr _ ht hk => hne k cs t fr hk (fun e => hT (e ▸ ht))⟩

end Go.Proofs.YtjlglnhmkheidaaGreat
