/- RHead, RCheck, PSpan, RKey: in one text. -/
import Derived.Test.YtiplhhaehbjghaaGreatP3
import Derived.Test.YtiplhhaehbjghaaGreatIJ
import Derived.Test.YtiplhhaehbjghaaGreatP2
namespace Go.Proofs.YtiplhhaehbjghaaGreat
open Go.RowKit
set_option linter.unusedVariables false
set_option maxHeartbeats 32000000
set_option maxRecDepth 100000
set_option linter.unusedSimpArgs false
theorem head_any (w : World) (i k : Int) (h0 : 0 ≤ i) (h1 : i ≤ 4294967295) :
  Calls Tryz.prog 246 #[.int .u32 i, .int .i64 k] w fun e w' => ∃ v, e = .returned v ∧ Own w' w.heap.size v (fixB i.toNat 4 ++ [k % 256]) ∧ Below w.heap.size w w' := by
 go_enter Tryz.func246, Tryz.ntmps246
 go_wp2_with fail
 refine (refFixed_any _ i 4 h0 (by omega)).mono ?_
 rintro e w1 ⟨v1, rfl, ho1, hb1⟩
 rw [fixL_four i h0 h1] at ho1
 have hba : Below w1.heap.size w1 (w1.alloc (.cells #[.int .u8 (k % 256)] 5)) := (Below.refl _ _).alloc (Nat.le_refl _) _
 have hrd : Rd (w1.alloc (.cells #[.int .u8 (k % 256)] 5)) (.slice (some ⟨w1.heap.size, 0, none⟩) 1 1) [k % 256] := Rd.laid (cs := #[.int .u8 (k % 256)]) rfl (by decide) rfl
 have ho2 := ho1.below hba
 have hsz := hb1.size
 go_wp2_with (at_builtin; refine wpList_append_rd rfl _ _ rfl w.heap.size _ _ rfl ho2 _ _ rfl hrd ?c1 ?c2 ?_)
 case c1 => rw [fixB_length]; simp
 case c2 => simp; omega
 intro v3 w3 ho3 hg3
 go_wp2
 go_ret
 exact ⟨_, rfl, ho3, below_grown (hb1.trans (hba.mono hsz)) (by simp; omega) ho2 hg3⟩
def lenOf : Value → Nat
 | .slice _ n _ => n
 | _ => 0
theorem Own.lenOf {w : World} {B : Nat} {v : Value} {xs : List Int} (h : Own w B v xs) : lenOf v = xs.length := by
 obtain ⟨a, cap, rfl, _⟩ := h.rd
 rfl
theorem fill_any (w : World) (B : Nat) (v : Value) (xs : List Int) (ho : Own w B v xs) (hB : B ≤ w.heap.size) (hl : xs.length ≤ 14) :
  Calls Tryz.prog 247 #[v] w fun e w' => e = .returned (.string (strOfNums (xs ++ List.replicate (14 - xs.length) 0))) ∧ Below B w w' := by
 go_enter Tryz.func247, Tryz.ntmps247
 go_wp2
 go_loopw [0] (fun t wr => ∃ j : Nat, xs.length + j ≤ 14 ∧ Own wr B t (xs ++ List.replicate j 0) ∧ Below B w wr ∧ B ≤ wr.heap.size) (fun t _ => 14 - lenOf t)
 case atStart => exact ⟨0, by omega, by simpa using ho, Below.refl _ _, hB⟩
 case round =>
  obtain ⟨j, hj, ho', hb', hB'⟩ := hrel
  have hlen := ho'.rd.len
  have hyl : (xs ++ List.replicate j (0 : Int)).length = xs.length + j := by simp
  have hlv := ho'.lenOf
  rw [hyl] at hlen hlv
  by_cases hlt : xs.length + j < 14
  ·have hltI : ((xs.length + j : Nat) : Int) < 14 := by omega
   have hba : Below wr.heap.size wr (wr.alloc (.cells #[.int .u8 0] 5)) := (Below.refl _ _).alloc (Nat.le_refl _) _
   have hrd : Rd (wr.alloc (.cells #[.int .u8 0] 5)) (.slice (some ⟨wr.heap.size, 0, none⟩) 1 1) [0] := Rd.laid (cs := #[.int .u8 0]) rfl (by decide) rfl
   have ho2 := ho'.below hba
   generalize hm : xs.length + j = m at *
   go_wp2_with (at_builtin; refine wpList_append_rd rfl _ _ rfl B _ _ rfl ho2 _ _ rfl hrd ?c1 ?c2 ?_)
   case c1 => rw [hyl]; simp; omega
   case c2 => simp; omega
   intro v3 w3 ho3 hg3
   have hb3 : Below B w w3 := below_grown (hb'.trans (hba.mono hB')) (by simp; omega) ho2 hg3
   have hl3 := ho3.lenOf
   go_wp2
   go_roundw
   case rel =>
    refine ⟨j + 1, by omega, ?_, hb3, Nat.le_trans (by simp; omega) hg3.size⟩
    rw [List.replicate_succ']
    exact ho3
   case measure =>
    rw [hl3, hlv]
    simp
    omega
  ·obtain rfl : j = 14 - xs.length := by omega
   have hltI : ¬ ((xs.length + (14 - xs.length) : Nat) : Int) < 14 := by omega
   have hcv := ho'.rd.conv
   generalize xs.length + (14 - xs.length) = m at *
   go_wp2
   go_ret
   exact ⟨rfl, hb'⟩
theorem fill_key (i k : Int) (rest : List Int) (h : rest.length ≤ 9) : (fixB i.toNat 4 ++ [k % 256] ++ rest) ++ List.replicate (14 - (fixB i.toNat 4 ++ [k % 256] ++ rest).length) 0 = keyL i k rest := by
 unfold keyL
 rw [List.length_append, List.length_append, fixB_length, List.length_singleton, show 14 - (4 + 1 + rest.length) = 9 - rest.length from by omega]
 simp
theorem empty_yes {s : ByteArray} (h : s.toList = []) : (s.toList == []) = true ∧ s.toList.isEmpty = true := by rw [h]; exact ⟨rfl, rfl⟩
theorem empty_no {s : ByteArray} (h : s.toList ≠ []) : (s.toList == []) = false ∧ s.toList.isEmpty = false := by
 cases hx : s.toList with
 | nil => exact absurd hx h
 | cons a l => exact ⟨rfl, rfl⟩
theorem rc_rec0 (w : World) (i : Int) (s : ByteArray) (h0 : i ≠ 0) (hs : s.toList = []) : Calls Tryz.prog 156 #[plV ⟨i, 1, s, 0⟩] w fun e w' => e = .returned (.int .i64 0) ∧ Below w.heap.size w w' := by
 have hb : (i != 0) = true := by simpa using h0
 obtain ⟨e1, e2⟩ := empty_yes hs
 unfold plV
 go_enter Tryz.func156, Tryz.ntmps156
 go_wp2
 go_ret
 exact ⟨rfl, (Below.refl _ _).alloc (Nat.le_refl _) _⟩
theorem rc_rec1 (w : World) (i : Int) (s : ByteArray) (c : Int) (h0 : i ≠ 0) (hs : s.toList = []) (hc : c ≠ 0) : Calls Tryz.prog 156 #[plV ⟨i, 1, s, c⟩] w fun e w' => e = .returned (.int .i64 30) ∧ Below w.heap.size w w' := by
 have hb : (i != 0) = true := by simpa using h0
 obtain ⟨e1, e2⟩ := empty_yes hs
 have hc' : (c == 0) = false := by simpa using hc
 unfold plV
 go_enter Tryz.func156, Tryz.ntmps156
 go_wp2
 go_ret
 exact ⟨rfl, (Below.refl _ _).alloc (Nat.le_refl _) _⟩
theorem rc_rec2 (w : World) (i : Int) (s : ByteArray) (c : Int) (h0 : i ≠ 0) (hs : s.toList ≠ []) : Calls Tryz.prog 156 #[plV ⟨i, 1, s, c⟩] w fun e w' => e = .returned (.int .i64 30) ∧ Below w.heap.size w w' := by
 have hb : (i != 0) = true := by simpa using h0
 obtain ⟨e1, e2⟩ := empty_no hs
 unfold plV
 go_enter Tryz.func156, Tryz.ntmps156
 go_wp2
 go_ret
 exact ⟨rfl, (Below.refl _ _).alloc (Nat.le_refl _) _⟩
theorem rc_ent0 (w : World) (i : Int) (s : ByteArray) (h0 : i ≠ 0) (hn : s.size ≤ maxLen) (hs : nameOk s = true) : Calls Tryz.prog 156 #[plV ⟨i, 2, s, 0⟩] w fun e w' => e = .returned (.int .i64 0) ∧ Below w.heap.size w w' := by
 have hb : (i != 0) = true := by simpa using h0
 have hc : ∀ W, Calls Tryz.prog 81 #[.string s] W fun e w' => e = .returned (.int .i64 0) ∧ W = w' := fun W => by
  have := refName_any W s hn
  rwa [nameE_0 hs] at this
 unfold plV
 go_enter Tryz.func156, Tryz.ntmps156
 go_wp2_with (go_at_call 81; refine (hc _).mono ?_; rintro e w1 ⟨rfl, rfl⟩)
 go_ret
 exact ⟨rfl, (Below.refl _ _).alloc (Nat.le_refl _) _⟩
theorem rc_ent1 (w : World) (i : Int) (s : ByteArray) (c : Int) (h0 : i ≠ 0) (hn : s.size ≤ maxLen) (hs : nameOk s = true) (hc0 : c ≠ 0) : Calls Tryz.prog 156 #[plV ⟨i, 2, s, c⟩] w fun e w' => e = .returned (.int .i64 30) ∧ Below w.heap.size w w' := by
 have hb : (i != 0) = true := by simpa using h0
 have hc : ∀ W, Calls Tryz.prog 81 #[.string s] W fun e w' => e = .returned (.int .i64 0) ∧ W = w' := fun W => by
  have := refName_any W s hn
  rwa [nameE_0 hs] at this
 have hc' : (c == 0) = false := by simpa using hc0
 unfold plV
 go_enter Tryz.func156, Tryz.ntmps156
 go_wp2_with (go_at_call 81; refine (hc _).mono ?_; rintro e w1 ⟨rfl, rfl⟩)
 go_ret
 exact ⟨rfl, (Below.refl _ _).alloc (Nat.le_refl _) _⟩
theorem rc_ent2 (w : World) (i : Int) (s : ByteArray) (c : Int) (h0 : i ≠ 0) (hn : s.size ≤ maxLen) (hs : nameOk s = false) : Calls Tryz.prog 156 #[plV ⟨i, 2, s, c⟩] w fun e w' => e = .returned (.int .i64 30) ∧ Below w.heap.size w w' := by
 have hb : (i != 0) = true := by simpa using h0
 have hc : ∀ W, Calls Tryz.prog 81 #[.string s] W fun e w' => e = .returned (.int .i64 30) ∧ W = w' := fun W => by
  have := refName_any W s hn
  rwa [nameE_30 hs] at this
 unfold plV
 go_enter Tryz.func156, Tryz.ntmps156
 go_wp2_with (go_at_call 81; refine (hc _).mono ?_; rintro e w1 ⟨rfl, rfl⟩)
 go_ret
 exact ⟨rfl, (Below.refl _ _).alloc (Nat.le_refl _) _⟩
theorem rc_dat0 (w : World) (i : Int) (s : ByteArray) (c : Int) (h0 : i ≠ 0) (hs : s.toList = []) (hc : c < 16) : Calls Tryz.prog 156 #[plV ⟨i, 3, s, c⟩] w fun e w' => e = .returned (.int .i64 0) ∧ Below w.heap.size w w' := by
 have hb : (i != 0) = true := by simpa using h0
 obtain ⟨e1, e2⟩ := empty_yes hs
 unfold plV
 go_enter Tryz.func156, Tryz.ntmps156
 go_wp2
 go_ret
 exact ⟨rfl, (Below.refl _ _).alloc (Nat.le_refl _) _⟩
theorem rc_dat1 (w : World) (i : Int) (s : ByteArray) (c : Int) (h0 : i ≠ 0) (hs : s.toList = []) (hc : ¬ c < 16) : Calls Tryz.prog 156 #[plV ⟨i, 3, s, c⟩] w fun e w' => e = .returned (.int .i64 30) ∧ Below w.heap.size w w' := by
 have hb : (i != 0) = true := by simpa using h0
 obtain ⟨e1, e2⟩ := empty_yes hs
 unfold plV
 go_enter Tryz.func156, Tryz.ntmps156
 go_wp2
 go_ret
 exact ⟨rfl, (Below.refl _ _).alloc (Nat.le_refl _) _⟩
theorem rc_dat2 (w : World) (i : Int) (s : ByteArray) (c : Int) (h0 : i ≠ 0) (hs : s.toList ≠ []) : Calls Tryz.prog 156 #[plV ⟨i, 3, s, c⟩] w fun e w' => e = .returned (.int .i64 30) ∧ Below w.heap.size w w' := by
 have hb : (i != 0) = true := by simpa using h0
 obtain ⟨e1, e2⟩ := empty_no hs
 unfold plV
 go_enter Tryz.func156, Tryz.ntmps156
 go_wp2
 go_ret
 exact ⟨rfl, (Below.refl _ _).alloc (Nat.le_refl _) _⟩
theorem rc_part (w : World) (i k : Int) (s : ByteArray) (c : Int) (h1 : k ≠ 1) (h2 : k ≠ 2) (h3 : k ≠ 3) : Calls Tryz.prog 156 #[plV ⟨i, k, s, c⟩] w fun e w' => e = .returned (.int .i64 30) ∧ Below w.heap.size w w' := by
 unfold plV
 go_enter Tryz.func156, Tryz.ntmps156
 go_wp2
 go_ret
 exact ⟨rfl, (Below.refl _ _).alloc (Nat.le_refl _) _⟩
theorem rc_ino1 (w : World) (s : ByteArray) (c : Int) : Calls Tryz.prog 156 #[plV ⟨0, 1, s, c⟩] w fun e w' => e = .returned (.int .i64 30) ∧ Below w.heap.size w w' := by
 unfold plV
 go_enter Tryz.func156, Tryz.ntmps156
 go_wp2
 go_ret
 exact ⟨rfl, (Below.refl _ _).alloc (Nat.le_refl _) _⟩
theorem rc_ino2 (w : World) (s : ByteArray) (c : Int) : Calls Tryz.prog 156 #[plV ⟨0, 2, s, c⟩] w fun e w' => e = .returned (.int .i64 30) ∧ Below w.heap.size w w' := by
 unfold plV
 go_enter Tryz.func156, Tryz.ntmps156
 go_wp2
 go_ret
 exact ⟨rfl, (Below.refl _ _).alloc (Nat.le_refl _) _⟩
theorem rc_ino3 (w : World) (s : ByteArray) (c : Int) : Calls Tryz.prog 156 #[plV ⟨0, 3, s, c⟩] w fun e w' => e = .returned (.int .i64 30) ∧ Below w.heap.size w w' := by
 unfold plV
 go_enter Tryz.func156, Tryz.ntmps156
 go_wp2
 go_ret
 exact ⟨rfl, (Below.refl _ _).alloc (Nat.le_refl _) _⟩
theorem refCheck_any (w : World) (p : Pl) (hp : PlOk p) : Calls Tryz.prog 156 #[plV p] w fun e w' => e = .returned (.int .i64 (plE p)) ∧ Below w.heap.size w w' := by
 have hn := hp.n1
 clear hp
 obtain ⟨i, k, s, c⟩ := p
 dsimp only at hn
 unfold plE
 by_cases h1 : k = 1
 ·subst h1
  by_cases h0 : i = 0
  ·subst h0; exact rc_ino1 w s c
  ·by_cases hs : s.toList = []
   ·by_cases hc : c = 0
    ·subst hc
     rw [if_pos (by simp [plOk, h0, hs])]
     exact rc_rec0 w i s h0 hs
    ·rw [if_neg (by simp [plOk, hc])]
     exact rc_rec1 w i s c h0 hs hc
   ·rw [if_neg (by simp [plOk, hs])]
    exact rc_rec2 w i s c h0 hs
 ·by_cases h2 : k = 2
  ·subst h2
   by_cases h0 : i = 0
   ·subst h0; exact rc_ino2 w s c
   ·rw [plOk_ent i s c h0]
    cases hs : nameOk s
    ·exact rc_ent2 w i s c h0 hn hs
    ·by_cases hc : c = 0
     ·subst hc; exact rc_ent0 w i s h0 hn hs
     ·rw [if_neg (by simp [hc])]
      exact rc_ent1 w i s c h0 hn hs hc
  ·by_cases h3 : k = 3
   ·subst h3
    by_cases h0 : i = 0
    ·subst h0; exact rc_ino3 w s c
    ·rw [plOk_dat i s c h0]
     by_cases hs : s.toList = []
     ·by_cases hc : c < 16
      ·rw [if_pos (by simp [hs, hc])]
       exact rc_dat0 w i s c h0 hs hc
      ·rw [if_neg (by simp [hc])]
       exact rc_dat1 w i s c h0 hs hc
     ·rw [if_neg (by simp [hs])]
      exact rc_dat2 w i s c h0 hs
   ·rw [if_neg (by simp [plOk, h1, h2, h3])]
    exact rc_part w i k s c h1 h2 h3
theorem refKey_any (w : World) (p : Pl) (hp : PlOk p) : Calls Tryz.prog 223 #[plV p] w fun e w' => e = .returned (.tuple #[.string (keyS p), .int .i64 (plE p)]) ∧ Below w.heap.size w w' := by
 have hck : ∀ W, Calls Tryz.prog 156 #[.agg #[.int .u32 p.ino, .int .i64 p.part, .string p.name, .int .u32 p.chunk]] W fun e w' => e = .returned (.int .i64 (plE p)) ∧ Below W.heap.size W w' := fun W => refCheck_any W p hp
 obtain ⟨w1, hw1⟩ : ∃ w1, w1 = w.alloc (.cells #[.int .u32 p.ino, .int .i64 p.part, .string p.name, .int .u32 p.chunk] 114) := ⟨_, rfl⟩
 have hb1 : Below w.heap.size w w1 := by rw [hw1]; exact (Below.refl _ _).alloc (Nat.le_refl _) _
 have hp1 : PlAt w1 w.heap.size p := by rw [hw1]; exact PlAt.laid w p
 obtain ⟨h0, h1, _, _, _, h2, h3⟩ := hp
 unfold plV
 cases hok : plOk p
 ·have e1 : plE p = 30 := by unfold plE; rw [hok]; rfl
  have e2 : keyS p = ⟨#[]⟩ := by unfold keyS; rw [hok]; rfl
  rw [e1] at hck ⊢
  rw [e2]
  go_enter Tryz.func223, Tryz.ntmps223
  go_wp2_with fail
  rw [← hw1]
  refine (hck _).mono ?_
  rintro e w2 ⟨rfl, hb2⟩
  go_wp2
  go_ret2
  exact ⟨rfl, thenB hb1 hb2⟩
 ·have e1 : plE p = 0 := by unfold plE; rw [hok]; rfl
  have e2 : keyS p = strOfNums (keyL p.ino p.part (restP p)) := by unfold keyS; rw [hok]; rfl
  have hrl := restP_length hok
  have hsz := plOk_size hok
  obtain ⟨hi0, hpc⟩ := plOk_cases hok
  rw [e1] at hck ⊢
  rw [e2]
  clear hok e1 e2
  have hfa : ∀ (W : World) (B : Nat) (v : Value), Own W B v (fixB p.ino.toNat 4 ++ [p.part % 256] ++ restP p) → B ≤ W.heap.size → Calls Tryz.prog 247 #[v] W fun e w' => e = .returned (.string (strOfNums (keyL p.ino p.part (restP p)))) ∧ Below B W w' := fun W B v ho hB => by
   have := fill_any W B v _ ho hB (by simp [fixB_length]; omega)
   rwa [fill_key p.ino p.part (restP p) hrl] at this
  rcases hpc with ⟨hpt, hnm, hch⟩ | ⟨hpt, hnm, hch⟩ | ⟨hpt, hnm, hch⟩
  ·have hrest : restP p = [] := by
    unfold restP
    rw [if_neg (by omega)]
    exact List.eq_nil_of_length_eq_zero (by rw [strB_length, ← size_toList, hnm]; rfl)
   rw [hrest] at hfa ⊢
   rw [List.append_nil] at hfa
   obtain ⟨i, k, s, c⟩ := p
   dsimp only at *
   subst hpt
   clear hch hnm hi0 hrest
   go_enter Tryz.func223, Tryz.ntmps223
   go_wp2_with fail
   rw [← hw1]
   clear hw1
   refine (hck _).mono ?_
   rintro e w2 ⟨rfl, hb2⟩
   have hp2 := hp1.below hb2
   have c0 := hp2.c0
   have c1 := hp2.c1
   go_wp2_with fail
   refine (head_any _ _ _ h0 h1).mono ?_
   rintro e w3 ⟨v3, rfl, ho3, hb3⟩
   have d1 := (hp2.below hb3).c1
   go_wp2_with fail
   refine (hfa _ _ _ ho3 hb3.size).mono ?_
   rintro e w4 ⟨rfl, hb4⟩
   go_wp2
   go_ret2
   exact ⟨rfl, thenB hb1 (thenB hb2 (hb3.trans hb4))⟩
  ·have hrest : restP p = strB p.name := by
    unfold restP
    rw [if_neg (by omega)]
   rw [hrest] at hfa ⊢
   obtain ⟨i, k, s, c⟩ := p
   dsimp only at *
   subst hpt
   clear hch hnm hi0 hrest
   obtain ⟨inf, hi, hz0, hz1, hz2⟩ := info_parts Tryz.info5
   go_enter Tryz.func223, Tryz.ntmps223
   go_wp2_with fail
   rw [← hw1]
   clear hw1
   refine (hck _).mono ?_
   rintro e w2 ⟨rfl, hb2⟩
   have hp2 := hp1.below hb2
   have c0 := hp2.c0
   have c1 := hp2.c1
   go_wp2_with fail
   refine (head_any _ _ _ h0 h1).mono ?_
   rintro e w3 ⟨v3, rfl, ho3, hb3⟩
   have d1 := (hp2.below hb3).c1
   have d2 := (hp2.below hb3).c2
   have hln : (fixB i.toNat 4 ++ [(2 : Int) % 256]).length = 5 := by simp [fixB_length]
   have hsz3 := hb3.size
   clear c0 c1
   go_wp2_with (at_builtin; refine Lib.wpList_append_own_string _ rfl _ _ 188 9 rfl w2.heap.size 5 inf Tryz.underlying188 Tryz.underlying9 hi hz0 hz1 hz2 _ _ _ rfl ho3 s rfl ?c2 ?c3 ?c4 ?_)
   case c2 => rw [hln]; unfold maxLen; omega
   case c3 => rw [hln]; omega
   case c4 => exact hsz3
   intro v4 w4 hown hgr hnil
   have ho4 : Own w4 w2.heap.size v4 (fixB i.toNat 4 ++ [(2 : Int) % 256] ++ strB s) := by
    unfold Own
    rw [List.length_append, strB_length, List.map_append, ← strCells_eq]
    exact hown
   have hb4 : Below w2.heap.size w2 w4 := below_grown hb3 hsz3 ho3 hgr
   have e1 : w4.cell? ⟨w.heap.size, 1, none⟩ = some (.int .i64 2) := (hp2.below hb4).c1
   clear d1 d2
   go_wp2_with fail
   refine (hfa _ _ _ ho4 hb4.size).mono ?_
   rintro e w5 ⟨rfl, hb5⟩
   go_wp2
   go_ret2
   exact ⟨rfl, thenB hb1 (thenB hb2 (hb4.trans hb5))⟩
  ·have hrest : restP p = fixB p.chunk.toNat 4 := by
    unfold restP
    rw [if_pos hpt]
   rw [hrest] at hfa ⊢
   obtain ⟨i, k, s, c⟩ := p
   dsimp only at *
   subst hpt
   clear hch hnm hi0 hrest
   go_enter Tryz.func223, Tryz.ntmps223
   go_wp2_with fail
   rw [← hw1]
   clear hw1
   refine (hck _).mono ?_
   rintro e w2 ⟨rfl, hb2⟩
   have hp2 := hp1.below hb2
   have c0 := hp2.c0
   have c1 := hp2.c1
   go_wp2_with fail
   refine (head_any _ _ _ h0 h1).mono ?_
   rintro e w3 ⟨v3, rfl, ho3, hb3⟩
   have d1 := (hp2.below hb3).c1
   have d3 := (hp2.below hb3).c3
   have hln : (fixB i.toNat 4 ++ [(3 : Int) % 256]).length = 5 := by simp [fixB_length]
   have hsz3 := hb3.size
   clear c0 c1
   go_wp2_with fail
   refine (refFixed_any _ c 4 h2 (by omega)).mono ?_
   rintro e w4 ⟨v4, rfl, ho4, hb4⟩
   rw [fixL_four c h2 h3] at ho4
   have ho34 := ho3.below hb4
   have hsz4 := hb4.size
   clear d1 d3
   go_wp2_with (at_builtin; refine wpList_append_rd rfl _ _ rfl w2.heap.size _ _ rfl ho34 _ _ rfl ho4.rd ?c1 ?c2 ?_)
   case c1 => rw [hln, fixB_length]; omega
   case c2 => omega
   intro v5 w5 ho5 hg5
   have hb5 : Below w2.heap.size w2 w5 := below_grown (hb3.trans (hb4.mono hsz3)) (by omega) ho34 hg5
   go_wp2_with fail
   refine (hfa _ _ _ ho5 hb5.size).mono ?_
   rintro e w6 ⟨rfl, hb6⟩
   go_wp2
   go_ret2
   exact ⟨rfl, thenB hb1 (thenB hb2 (hb5.trans hb6))⟩
end Go.Proofs.YtiplhhaehbjghaaGreat
