/- The document's Set. -/
import Derived.Test.YtiplhhaehbjghaaGreatM1
import Derived.Test.YtiplhhaehbjghaaGreatIX
import Derived.Test.YtiplhhaehbjghaaGreatS2
namespace Go.Proofs.YtiplhhaehbjghaaGreat
open Go.RowKit Go.Maps
set_option linter.unusedVariables false
set_option maxHeartbeats 32000000
set_option maxRecDepth 100000
set_option linter.unusedSimpArgs false
theorem wf1_pos {st : Option (In4 × Int)} {f : Int × Int} (h : ∀ q, st = some q → (q.2 = 0 ∨ q.2 = 1 ∨ q.2 = 2 ∨ q.2 = 3 ∨ q.2 = 4 ∨ q.2 = 5 ∨ q.2 = 6 ∨ q.2 = 7)) {p : In4 × Int} (hp : wf1 st f = some p) : p.2 ≠ 0 := by
 cases st with
 | none => cases hp
 | some q =>
  obtain ⟨⟨k, m, l, z⟩, sum⟩ := q
  have h2 := h _ rfl
  dsimp only at h2
  unfold wf1 at hp
  dsimp only at hp
  split at hp
  ·cases hp
  ·split at hp
   ·cases hp
    rcases h2 with rfl | rfl | rfl | rfl | rfl | rfl | rfl | rfl <;> (dsimp only; decide)
   ·split at hp
    ·cases hp
     rcases h2 with rfl | rfl | rfl | rfl | rfl | rfl | rfl | rfl <;> (dsimp only; decide)
    ·split at hp
     ·cases hp
      rcases h2 with rfl | rfl | rfl | rfl | rfl | rfl | rfl | rfl <;> (dsimp only; decide)
     ·cases hp
theorem wfL_pos {fs : List (Int × Int)} (hf : fiOk fs) (hn : fs ≠ []) {p : In4 × Int} (hp : wfL in0 fs = some p) : p.2 ≠ 0 := by
 obtain ⟨ys, y, rfl⟩ : ∃ ys y, fs = ys ++ [y] := ⟨fs.dropLast, fs.getLast hn, (List.dropLast_concat_getLast hn).symm⟩
 unfold wfL at hp
 rw [List.foldl_append] at hp
 refine wf1_pos (fun q hq => ?_) hp
 exact (wf_fold (fun x hx => hf x (List.mem_append_left _ hx)) (st := some (in0, 0)) (fun q hq => by cases hq; exact ⟨in0_ok, .inl rfl⟩) q hq).2
structure SxS (w W : World) (gi gc : Nat) (i : In4) (p : Pl) (sum : Int) (j : In4) : Prop where
 i : InRow W gi i.k i.m i.l i.s
 c : CgAt W gc (fieldsC p sum j.k j.m j.l j.s)
 bel : Below w.heap.size w W
 lgi : w.heap.size ≤ gi
 lgc : gi < gc
theorem SxS.below {w W W' : World} {gi gc : Nat} {i : In4} {p : Pl} {sum : Int} {j : In4} (h : SxS w W gi gc i p sum j) (hb : Below W.heap.size W W') : SxS w W' gi gc i p sum j := ⟨h.i.below hb, h.c.below hb, h.bel.trans (hb.mono h.bel.size), h.lgi, h.lgc⟩
theorem SxS.set1 {w W : World} {gi gc : Nat} {k m l z : Int} {p : Pl} {sum : Int} {jk jm jl jz : Int} (h : SxS w W gi gc ⟨k, m, l, z⟩ p sum ⟨jk, jm, jl, jz⟩) (t v : Int) : SxS w (((W.setCell ⟨gc, 6, none⟩ (.int .i64 t)).setCell ⟨gi, 1, none⟩ (.int .i64 v)).setCell ⟨gc, 8, none⟩ (.int .i64 v)) gi gc ⟨k, v, l, z⟩ p t ⟨jk, v, jl, jz⟩ := by
 have g1 := h.lgi
 have g2 := h.lgc
 refine ⟨((h.i.apart _ _ _ (by omega)).set1 v).apart _ _ _ (by omega), ?_, ((h.bel.setCell (by dsimp only; omega) _).setCell (by dsimp only; omega) _).setCell (by dsimp only; omega) _, g1, g2⟩
 exact ((h.c.set 6 (.int .i64 t) (fieldsC p t jk jm jl jz) rfl).apart gi 1 _ (by omega)).set 8 (.int .i64 v) (fieldsC p t jk v jl jz) rfl
theorem SxS.set2 {w W : World} {gi gc : Nat} {k m l z : Int} {p : Pl} {sum : Int} {jk jm jl jz : Int} (h : SxS w W gi gc ⟨k, m, l, z⟩ p sum ⟨jk, jm, jl, jz⟩) (t v : Int) : SxS w (((W.setCell ⟨gc, 6, none⟩ (.int .i64 t)).setCell ⟨gi, 2, none⟩ (.int .i64 v)).setCell ⟨gc, 9, none⟩ (.int .i64 v)) gi gc ⟨k, m, v, z⟩ p t ⟨jk, jm, v, jz⟩ := by
 have g1 := h.lgi
 have g2 := h.lgc
 refine ⟨((h.i.apart _ _ _ (by omega)).set2 v).apart _ _ _ (by omega), ?_, ((h.bel.setCell (by dsimp only; omega) _).setCell (by dsimp only; omega) _).setCell (by dsimp only; omega) _, g1, g2⟩
 exact ((h.c.set 6 (.int .i64 t) (fieldsC p t jk jm jl jz) rfl).apart gi 2 _ (by omega)).set 9 (.int .i64 v) (fieldsC p t jk jm v jz) rfl
theorem SxS.set3 {w W : World} {gi gc : Nat} {k m l z : Int} {p : Pl} {sum : Int} {jk jm jl jz : Int} (h : SxS w W gi gc ⟨k, m, l, z⟩ p sum ⟨jk, jm, jl, jz⟩) (t v : Int) : SxS w (((W.setCell ⟨gc, 6, none⟩ (.int .i64 t)).setCell ⟨gi, 3, none⟩ (.int .i64 v)).setCell ⟨gc, 10, none⟩ (.int .i64 v)) gi gc ⟨k, m, l, v⟩ p t ⟨jk, jm, jl, v⟩ := by
 have g1 := h.lgi
 have g2 := h.lgc
 refine ⟨((h.i.apart _ _ _ (by omega)).set3 v).apart _ _ _ (by omega), ?_, ((h.bel.setCell (by dsimp only; omega) _).setCell (by dsimp only; omega) _).setCell (by dsimp only; omega) _, g1, g2⟩
 exact ((h.c.set 6 (.int .i64 t) (fieldsC p t jk jm jl jz) rfl).apart gi 3 _ (by omega)).set 10 (.int .i64 v) (fieldsC p t jk jm jl v) rfl
theorem set_x {B : Nat} {w : World} {x : Nat} {X : List Nat} {s : Sg} (h : XsIn B w x X s) (ino : Int) (h0 : 0 ≤ ino) (h1 : ino ≤ 4294967295) (fa : Option Addr) (fn fc : Nat) (fs : List (Int × Int)) (hr : RdZ 2 fiE w (.slice fa fn fc) fs) (hrx : ∀ b off, fa = some ⟨b, off, none⟩ → fs ≠ [] → b ∉ X) (hn : fn ≤ 1000) (hf : fiOk fs) {N : Nat} (hk : Sk s N) (hN : N ≤ 4000) : Calls Tryz.prog 46 #[.pointer (some ⟨x, 0, none⟩), .int .u32 ino, .slice fa fn fc] w fun e w' =>
  e = .returned (.int .i64 (setR s ino fs).2) ∧ XsOut B w x X (setR s ino fs).1 w' := by
 have cf := inode_x h hk.ck ino h0 h1
 have HZ : Hid ((fdR s ino).2 = 0 → ino ≠ 0) := fd_zero
 have HF : Hid (setF s ino (fdR s ino) (wfR (fdR s ino).1 fs) (wfR in0 fs).1 = setR s ino fs) := rfl
 generalize setR s ino fs = R at *
 generalize fdR s ino = F at *
 obtain ⟨⟨fk, fm, fl, fz⟩, fe⟩ := F
 unfold inV at cf
 dsimp only at cf HF ⊢
 have HH : Hid (XsIn B w x X s) := h
 have HX : Hid (∀ k ∈ X, k < w.heap.size) := fun k hk => (h.lt k hk).1
 have HK : Hid (Sk s N) := hk
 have HN : Hid (N ≤ 4000) := hN
 have HR : Hid (RdZ 2 fiE w (.slice fa fn fc) fs) := hr
 have HFO : Hid (fiOk fs) := hf
 clear h hk hN hr hf
 go_enter Tryz.func46, Tryz.ntmps46
 go_wp2_with fail
 refine cf.mono ?_
 rintro e w1 ⟨rfl, hb1⟩
 clear cf
 have hb2 := bel1 w1 (.cells #[.int .i64 fk, .int .i64 fm, .int .i64 fl, .int .i64 fz] 91)
 have hi2 : InRow (w1.alloc (.cells #[.int .i64 fk, .int .i64 fm, .int .i64 fl, .int .i64 fz] 91)) w1.heap.size fk fm fl fz := ⟨heap_alloc_new w1 _⟩
 obtain ⟨w2, hw2⟩ : ∃ w2, w1.alloc (.cells #[.int .i64 fk, .int .i64 fm, .int .i64 fl, .int .i64 fz] 91) = w2 := ⟨_, rfl⟩
 rw [hw2] at hb2 hi2
 have hB2 := thenB hb1 hb2
 have HB2 : Hid (Below w.heap.size w w2) := hB2
 have HLE : Hid (w.heap.size ≤ w1.heap.size) := hb1.size
 by_cases he : fe = 0
 case neg =>
  have heb : (fe != 0) = true := by simpa using he
  have HE : Hid (R = (s, fe)) := by unfold Hid; rw [← HF.out]; unfold setF; rw [if_pos he]
  clear HF hi2
  go_wp2
  go_ret
  exact ⟨by rw [HE.out]; first | done | rfl, by rw [HE.out]; exact HH.out.out HB2.out⟩
 subst he
 have HI2 : Hid (InRow w2 w1.heap.size fk fm fl fz) := hi2
 have HNE : Hid (ino ≠ 0) := HZ.out rfl
 have cr := rrec_any w2 ino
 have HBD : Hid (True) := trivial
 clear hi2 hb1 hb2 hB2
 go_wp2_with fail
 refine cr.mono ?_
 rintro e w3 ⟨rfl, hb3⟩
 clear cr
 have len0 : cg0.pt.bytes.length = 32 := cg0_ok.pt.ch.1
 have lenp : (plC (recP ino)).pt.bytes.length = 32 := cg0_ok.pt.ch.1
 have hz := zeroCg
 have hcg := CgAt.laid w3 cg0
 have hb4 : Below w3.heap.size w3 ((w3.alloc (.cells (cgC cg0) 119)).setRow w3.heap.size (cgC (plC (recP ino)))) := below_setRow (bel1 w3 _) (Nat.le_refl _) _
 obtain ⟨w4, hw4⟩ : ∃ w4, (w3.alloc (.cells (cgC cg0) 119)).setRow w3.heap.size (cgC (plC (recP ino))) = w4 := ⟨_, rfl⟩
 have hc4 : CgAt w4 w3.heap.size (fieldsC (recP ino) 0 0 0 0 0) := by rw [← hw4]; exact hcg.setRow (plC (recP ino))
 rw [hw4] at hb4
 have HS4 : Hid (SxS w w4 w1.heap.size w3.heap.size ⟨fk, fm, fl, fz⟩ (recP ino) 0 in0) := ⟨(HI2.out.below hb3).below hb4, hc4, thenB (thenB HB2.out hb3) hb4, HLE.out, by have := HI2.out.lt; have := hb3.size; omega⟩
 clear hb3 hb4 hc4
 obtain ⟨hl, hnc, hcm⟩ := HR.out.len
 have HL : Hid (fs.length = fn) := hl
 clear hl hnc hcm
 go_wp2_with (first
  | (refine wpList_buildBy rfl 119 _ rfl _ rfl [(0, plV (recP ino))] (by kernel_rfl) _ (bt_pl (recP ino)) ?_)
  | (refine wpList_storeG rfl _ _ rfl w3.heap.size (plC (recP ino)) cg0 rfl rfl lenp len0 hcg ?_; rw [hw4]))
 clear hcg hz lenp len0 hw4
 generalize w1.heap.size = gi at *
 generalize w3.heap.size = gc at *
 have HFN : Hid (fn ≤ 1000) := hn
 go_loopg [29] fn (fun kx s29 wr => ∃ (t : Nat) (i j : In4) (sum : Int), s29 = .int .i64 t ∧ t ≤ fn ∧ fn - t ≤ kx ∧ Hid (SxS w wr gi gc i (recP ino) sum j ∧ wfL ⟨fk, fm, fl, fz⟩ (fs.take t) = some (i, sum) ∧ wfL in0 (fs.take t) = some (j, sum)))
 case atStart => exact ⟨0, ⟨fk, fm, fl, fz⟩, in0, 0, rfl, Nat.zero_le _, by omega, HS4.out, rfl, rfl⟩
 case round =>
  obtain ⟨t, i, j, sum, rfl, hin, hkx, HW⟩ := hrel
  obtain ⟨ik, im, il, iz⟩ := i
  obtain ⟨jk, jm, jl, jz⟩ := j
  by_cases hlt : t < fn
  ·obtain ⟨⟨fb, fv⟩, hy⟩ : ∃ y, fs[t]? = some y := ⟨_, List.getElem?_eq_getElem (by have := HL.out; omega)⟩
   have HY : Hid (fs[t]? = some (fb, fv)) := hy
   have hrd := HR.out.below (HW.out.1.bel)
   obtain ⟨b0, o0, rfl, hb0, c0, c1⟩ := fi_cells hrd hy
   have hiI : (t : Int) < (fn : Int) := by omega
   have hib : (t : Int) + 1 ≤ 1000001 := by omega
   have hS5 := HW.out.1.below (bel1 wr (.cells #[.int .i64 fb, .int .i64 fv] 98))
   have v0 : (wr.alloc (.cells #[.int .i64 fb, .int .i64 fv] 98)).cell? ⟨wr.heap.size, 0, none⟩ = some (.int .i64 fb) := by rw [cell_of_row _ _ _ _ _ (0, 0) (heap_alloc_new wr _)]; rfl
   have v1 : (wr.alloc (.cells #[.int .i64 fb, .int .i64 fv] 98)).cell? ⟨wr.heap.size, 1, none⟩ = some (.int .i64 fv) := by rw [cell_of_row _ _ _ _ _ (0, 0) (heap_alloc_new wr _)]; rfl
   have hg1 : gi < wr.heap.size := HW.out.1.i.lt
   have hg2 : gc < wr.heap.size := HW.out.1.c.lt
   have hg3 : gi < gc := HW.out.1.lgc
   have hne1 : ¬ wr.heap.size = gi := by omega
   have hne2 : ¬ wr.heap.size = gc := by omega
   have hne3 : ¬ gi = gc := by omega
   have hne4 : ¬ gc = gi := by omega
   obtain ⟨w5, hw5⟩ : ∃ w5, wr.alloc (.cells #[.int .i64 fb, .int .i64 fv] 98) = w5 := ⟨_, rfl⟩
   rw [hw5] at hS5 v0 v1
   have HS5 : Hid (SxS w w5 gi gc ⟨ik, im, il, iz⟩ (recP ino) sum ⟨jk, jm, jl, jz⟩) := hS5
   have k6 : w5.cell? ⟨gc, 6, none⟩ = some (.int .i64 sum) := hS5.c.c6
   have k8 := hS5.c.c8
   have k9 := hS5.c.c9
   have k10 := hS5.c.c10
   have p6 := hS5.c.frozen 6
   have p8 := hS5.c.frozen 8
   have p9 := hS5.c.frozen 9
   have p10 := hS5.c.frozen 10
   have i1 := hS5.i.cell 1 _ rfl
   have i2 := hS5.i.cell 2 _ rfl
   have i3 := hS5.i.cell 3 _ rfl
   have f1 := hS5.i.fr 1
   have f2 := hS5.i.fr 2
   have f3 := hS5.i.fr 3
   dsimp only [fieldsC] at k8 k9 k10 i1 i2 i3
   have HNN : Hid (wfL ⟨fk, fm, fl, fz⟩ (fs.take t) = some (⟨ik, im, il, iz⟩, sum)) := HW.out.2.1
   have HJJ : Hid (wfL in0 (fs.take t) = some (⟨jk, jm, jl, jz⟩, sum)) := HW.out.2.2
   clear hy hrd hS5 HW hg1 hg2 hg3
   by_cases h1 : fb = 1
   ·subst h1
    cases ha : (bits .and .i64 sum 1 != 0) with
    | true =>
     have HE1 : Hid (R = (s, 1)) := by
      unfold Hid
      rw [← HF.out]
      have e1 : (wfR ⟨fk, fm, fl, fz⟩ fs).2.2 = false := by unfold wfR; rw [wfL_stop HY.out (by rw [HNN.out]; unfold wf1; simp [ha])]
      unfold setF
      rw [if_neg (by simp), if_pos (by rw [e1]; rfl)]
     have HBW : Hid (Below w.heap.size w w5) := HS5.out.bel
     clear HF HNN HJJ
     go_wp2
     go_ret
     exact ⟨by rw [HE1.out]; first | done | rfl, by rw [HE1.out]; exact HH.out.out HBW.out⟩
    | false =>
     have HEN : Hid (wfL ⟨fk, fm, fl, fz⟩ (fs.take (t + 1)) = some (⟨ik, fv, il, iz⟩, bits .or .i64 sum 1)) := by
      unfold Hid; rw [wfL_next HY.out, HNN.out]; unfold wf1; simp [ha]
     have HEJ : Hid (wfL in0 (fs.take (t + 1)) = some (⟨jk, fv, jl, jz⟩, bits .or .i64 sum 1)) := by
      unfold Hid; rw [wfL_next HY.out, HJJ.out]; unfold wf1; simp [ha]
     have HP := HS5.out.set1 (bits .or .i64 sum 1) fv
     have HPH : Hid _ := HP
     clear HNN HJJ HP
     go_wp2
     go_roundg (fn - (t + 1))
     case measure => omega
     case rel => exact ⟨t + 1, ⟨ik, fv, il, iz⟩, ⟨jk, fv, jl, jz⟩, bits .or .i64 sum 1, by rw [show ((t : Int) + 1) = ((t + 1 : Nat) : Int) by omega], by omega, by omega, HPH.out, HEN.out, HEJ.out⟩
   have h1b : (fb != 1) = true := by simpa using h1
   have h1c : (fb == 1) = false := by simpa using h1
   by_cases h2 : fb = 2
   ·subst h2
    cases ha : (bits .and .i64 sum 2 != 0) with
    | true =>
     have HE1 : Hid (R = (s, 1)) := by
      unfold Hid
      rw [← HF.out]
      have e1 : (wfR ⟨fk, fm, fl, fz⟩ fs).2.2 = false := by unfold wfR; rw [wfL_stop HY.out (by rw [HNN.out]; unfold wf1; simp [ha])]
      unfold setF
      rw [if_neg (by simp), if_pos (by rw [e1]; rfl)]
     have HBW : Hid (Below w.heap.size w w5) := HS5.out.bel
     clear HF HNN HJJ
     go_wp2
     go_ret
     exact ⟨by rw [HE1.out]; first | done | rfl, by rw [HE1.out]; exact HH.out.out HBW.out⟩
    | false =>
     have HEN : Hid (wfL ⟨fk, fm, fl, fz⟩ (fs.take (t + 1)) = some (⟨ik, im, fv, iz⟩, bits .or .i64 sum 2)) := by
      unfold Hid; rw [wfL_next HY.out, HNN.out]; unfold wf1; simp [ha]
     have HEJ : Hid (wfL in0 (fs.take (t + 1)) = some (⟨jk, jm, fv, jz⟩, bits .or .i64 sum 2)) := by
      unfold Hid; rw [wfL_next HY.out, HJJ.out]; unfold wf1; simp [ha]
     have HP := HS5.out.set2 (bits .or .i64 sum 2) fv
     have HPH : Hid _ := HP
     clear HNN HJJ HP
     go_wp2
     go_roundg (fn - (t + 1))
     case measure => omega
     case rel => exact ⟨t + 1, ⟨ik, im, fv, iz⟩, ⟨jk, jm, fv, jz⟩, bits .or .i64 sum 2, by rw [show ((t : Int) + 1) = ((t + 1 : Nat) : Int) by omega], by omega, by omega, HPH.out, HEN.out, HEJ.out⟩
   have h2b : (fb != 2) = true := by simpa using h2
   have h2c : (fb == 2) = false := by simpa using h2
   by_cases h4 : fb = 4
   ·subst h4
    cases ha : (bits .and .i64 sum 4 != 0) with
    | true =>
     have HE1 : Hid (R = (s, 1)) := by
      unfold Hid
      rw [← HF.out]
      have e1 : (wfR ⟨fk, fm, fl, fz⟩ fs).2.2 = false := by unfold wfR; rw [wfL_stop HY.out (by rw [HNN.out]; unfold wf1; simp [ha])]
      unfold setF
      rw [if_neg (by simp), if_pos (by rw [e1]; rfl)]
     have HBW : Hid (Below w.heap.size w w5) := HS5.out.bel
     clear HF HNN HJJ
     go_wp2
     go_ret
     exact ⟨by rw [HE1.out]; first | done | rfl, by rw [HE1.out]; exact HH.out.out HBW.out⟩
    | false =>
     have HEN : Hid (wfL ⟨fk, fm, fl, fz⟩ (fs.take (t + 1)) = some (⟨ik, im, il, fv⟩, bits .or .i64 sum 4)) := by
      unfold Hid; rw [wfL_next HY.out, HNN.out]; unfold wf1; simp [ha]
     have HEJ : Hid (wfL in0 (fs.take (t + 1)) = some (⟨jk, jm, jl, fv⟩, bits .or .i64 sum 4)) := by
      unfold Hid; rw [wfL_next HY.out, HJJ.out]; unfold wf1; simp [ha]
     have HP := HS5.out.set3 (bits .or .i64 sum 4) fv
     have HPH : Hid _ := HP
     clear HNN HJJ HP
     go_wp2
     go_roundg (fn - (t + 1))
     case measure => omega
     case rel => exact ⟨t + 1, ⟨ik, im, il, fv⟩, ⟨jk, jm, jl, fv⟩, bits .or .i64 sum 4, by rw [show ((t : Int) + 1) = ((t + 1 : Nat) : Int) by omega], by omega, by omega, HPH.out, HEN.out, HEJ.out⟩
   have h4b : (fb != 4) = true := by simpa using h4
   have HE1 : Hid (R = (s, 1)) := by
    unfold Hid
    rw [← HF.out]
    have e1 : (wfR ⟨fk, fm, fl, fz⟩ fs).2.2 = false := by unfold wfR; rw [wfL_stop HY.out (by rw [HNN.out]; unfold wf1; simp [h1, h2, h4])]
    unfold setF
    rw [if_neg (by simp), if_pos (by rw [e1]; rfl)]
   have HBW : Hid (Below w.heap.size w w5) := HS5.out.bel
   clear HF HNN HJJ
   go_wp2
   go_ret
   exact ⟨by rw [HE1.out]; first | done | rfl, by rw [HE1.out]; exact HH.out.out HBW.out⟩
  ·obtain rfl : fn = t := by omega
   obtain ⟨hw1, hw2, hw3⟩ := HW.out
   rw [List.take_of_length_le (by have := HL.out; omega)] at hw2 hw3
   have HW1 : Hid (SxS w wr gi gc ⟨ik, im, il, iz⟩ (recP ino) sum ⟨jk, jm, jl, jz⟩) := hw1
   have HB1 : Hid (Below w.heap.size w wr) := hw1.bel
   have HSM : Hid ((fs = [] → sum = 0) ∧ (fs ≠ [] → sum ≠ 0) ∧ InoOk jk jm jl jz ∧ (sum = 0 ∨ sum = 1 ∨ sum = 2 ∨ sum = 3 ∨ sum = 4 ∨ sum = 5 ∨ sum = 6 ∨ sum = 7)) := by
    refine ⟨fun e => ?_, fun e => wfL_pos HFO.out e hw3, wf_fold HFO.out (st := some (in0, 0)) (fun q hq => by cases hq; exact ⟨in0_ok, .inl rfl⟩) _ hw3⟩
    subst e
    unfold wfL at hw3
    simp at hw3
    exact hw3.2.symm
   have HSF : Hid (R = if inoOk ik im il iz = false then (s, 1) else if sum = 0 then (s, 0) else if (putX s.d (fieldsC (recP ino) sum jk jm jl jz)).2 ≠ 0 then ({ s with d := putS s.d (fieldsC (recP ino) sum jk jm jl jz) }, (putX s.d (fieldsC (recP ino) sum jk jm jl jz)).2) else ({ s with d := putS s.d (fieldsC (recP ino) sum jk jm jl jz), U := addK s.U ino (kindsL sum) }, 0)) := by
    unfold Hid
    rw [← HF.out]
    unfold setF wfR
    rw [hw2, hw3]
    simp
   have li : Hid _ := hw1.i.load
   have cc := irefCheck_any wr ik im il iz
   clear hw1 hw2 hw3 HW HF hkx hin hlt
   go_wp2_with (refine wpList_loadG rfl 91 _ rfl _ rfl _ li.out ?_)
   refine cc.mono ?_
   rintro e w6 ⟨rfl, hb6⟩
   clear cc li
   have HW6 : Hid (SxS w w6 gi gc ⟨ik, im, il, iz⟩ (recP ino) sum ⟨jk, jm, jl, jz⟩) := HW1.out.below hb6
   clear hb6 HW1 HB1
   cases hok : inoOk ik im il iz with
   | false =>
    have HE1 : Hid (R = (s, 1)) := by unfold Hid; rw [HSF.out, if_pos hok]
    rw [inoE_11 hok]
    clear HSF
    go_wp2
    go_ret
    exact ⟨by rw [HE1.out]; first | done | rfl, by rw [HE1.out]; exact HH.out.out HW6.out.bel⟩
   | true =>
   rw [inoE_0 hok]
   by_cases hnil : fs = []
   ·have hf0 : fn = 0 := by rw [← HL.out, hnil]; rfl
    subst hf0
    have HE1 : Hid (R = (s, 0)) := by unfold Hid; rw [HSF.out, if_neg (by rw [hok]; decide), if_pos (HSM.out.1 hnil)]
    clear HSF hnil
    go_wp2
    go_ret
    exact ⟨by rw [HE1.out]; first | done | rfl, by rw [HE1.out]; exact HH.out.out HW6.out.bel⟩
   have hf0 : ¬ (fn : Int) = 0 := fun e => hnil (List.eq_nil_of_length_eq_zero (by have := HL.out; omega))
   have hs0 : sum ≠ 0 := HSM.out.2.1 hnil
   have HSG : Hid ((if (putX s.d (fieldsC (recP ino) sum jk jm jl jz)).2 ≠ 0 then ({ s with d := putS s.d (fieldsC (recP ino) sum jk jm jl jz) }, (putX s.d (fieldsC (recP ino) sum jk jm jl jz)).2) else ({ s with d := putS s.d (fieldsC (recP ino) sum jk jm jl jz), U := addK s.U ino (kindsL sum) }, 0)) = R) := by
    have e := HSF.out
    rw [if_neg (show ¬ inoOk ik im il iz = false by rw [hok]; decide), if_neg hs0] at e
    exact e.symm
   have HCG : Hid (CgOk (fieldsC (recP ino) sum jk jm jl jz)) := fields_ok (f := sum) (j := ⟨jk, jm, jl, jz⟩) h0 h1 (by have := HSM.out.2.2.2; omega) HSM.out.2.2.1
   have HS1 : Hid (sum = 1 ∨ sum = 2 ∨ sum = 3 ∨ sum = 4 ∨ sum = 5 ∨ sum = 6 ∨ sum = 7) := by have := HSM.out.2.2.2; unfold Hid; omega
   clear HSF hok hs0 hnil HSM
   have HKP : Hid (s.d.pus.length ≤ 5000 ∧ s.d.L.length ≤ 5000 ∧ s.U.length ≤ 4000) := ⟨by have := HK.out.P; have := HN.out; omega, by have := HK.out.L; have := HN.out; omega, by have := HK.out.U; have := HN.out; omega⟩
   have hlc : (fieldsC (recP ino) sum jk jm jl jz).pt.bytes.length = 32 := cg0_ok.pt.ch.1
   obtain ⟨c, hc⟩ : ∃ c, fieldsC (recP ino) sum jk jm jl jz = c := ⟨_, rfl⟩
   have HC6 : Hid (c.fields = sum) := by unfold Hid; rw [← hc]; rfl
   have HCA : Hid (CgAt w6 gc c) := by have := HW6.out.c; rw [hc] at this; exact this
   rw [hc] at hlc HCG HSG
   have HLC : Hid (c.pt.bytes.length = 32) := hlc
   have hx4 := (HH.out.below HW6.out.bel).below (Below.refl _ w6).drew
   have HBW : Hid (Below w.heap.size w w6.drew) := HW6.out.bel.drew
   have HGC : Hid (w.heap.size ≤ gc) := by have := HW6.out.lgi; have := HW6.out.lgc; unfold Hid; omega
   clear hc hlc HW6
   go_wp2_with fail
   obtain ⟨rv, q, hvr, hq, hput⟩ := hx4.putV
   have HVQ : Hid (x ≠ q ∧ rv ≠ q ∧ gc ≠ q) := ⟨(hvr.ne hq).1, (hvr.ne hq).2, hq _ _ _ _ (show w6.drew.heap[gc]? = _ from HCA.out.row) (by decide)⟩
   have HPT : Hid _ := hput
   have hS0 : VRow w6.drew x rv q ∧ CgAt w6.drew gc c := ⟨hvr, ⟨HCA.out.row⟩⟩
   clear hx4 hvr hq hput
   refine wp_region_noPanic ?_
   refine wp_region_held_drew (S := fun W => VRow W x rv q ∧ CgAt W gc c) (by kernel_rfl) hS0 (fun hHeld => ?_)
   refine tk 0 (.pointer (some ⟨x, 0, none⟩)) rfl ?_
   try simp only [nz]
   refine tk 1 (.pointer (some ⟨x, 0, none⟩)) rfl ?_
   try simp only [nz]
   refine tk 2 (.pointer (some ⟨x, 0, none⟩)) rfl ?_
   try simp only [nz]
   refine tk 3 (.pointer (some ⟨rv, 0, none⟩)) rfl ?_ (fun W hSw => by (try dsimp only at hSw); (have z := hSw.1.c0; go_simp))
   try simp only [nz]
   refine tk 4 (.pointer (some ⟨rv, 0, none⟩)) rfl ?_
   try simp only [nz]
   refine tk 5 (.pointer (some ⟨rv, 1, none⟩)) rfl ?_
   try simp only [nz]
   refine tk 6 (.pointer (some ⟨q, 0, none⟩)) rfl ?_ (fun W hSw => by (try dsimp only at hSw); (have z := hSw.1.c1; go_simp))
   try simp only [nz]
   refine wpAnyH_take (i := 7) (v := .agg (cgC c)) rfl (by kernel_rfl) (by kernel_rfl) (by kernel_rfl) (fun _ _ _ h => h) (yields_load (by rfl) _ _ rfl _ rfl _ (fun W hW => hW.2.load HLC.out)) (by assumption) ?_
   try simp only [nz]
   have cp := HPT.out w6.drew (Below.refl _ _) c HCG.out HKP.out.1 HKP.out.2.1
   refine rd 8 rfl (fun K hK => ?_)
   go_simp
   go_wp2_with (go_at_call 90; refine cp.mono ?_; rintro e w9 ⟨rfl, ho9, hz9, hk9⟩)
   have HO9 : Hid (XsOut B w x X { s with d := putS s.d c } w9) := XsOut.pre HBW.out ho9
   obtain ⟨X9, hy1, hy2, hy3⟩ := ho9
   have HY1 : Hid (XsIn B w9 x X9 { s with d := putS s.d c }) := hy1
   have HY2 : Hid (Sole X w w9) := (Sole.of_below HBW.out X).trans hy2
   have HY3 : Hid (∀ k ∈ X9, k ∈ X ∨ w.heap.size ≤ k) := fun k hk => (hy3 k hk).imp id (Nat.le_trans HBW.out.size)
   have HY4 : Hid (gc ∉ X9 ∧ ∀ k ∈ X9, k < w9.heap.size) := ⟨fun hm => by
    rcases hy3 _ hm with e | e
    ·have := HX.out _ e; have := HGC.out; omega
    ·have := hHeld.2.lt; omega, fun k hk => (hy1.lt k hk).1⟩
   clear hy1 hy2 hy3
   have HC9 : Hid (CgAt w9 gc c) := ⟨(hk9 _ hHeld.2.lt HVQ.out.2.2).trans hHeld.2.row⟩
   refine hK.out _ _ ⟨hHeld.1.keep ⟨HVQ.out.1, HVQ.out.2.1⟩ hk9, HC9.out⟩ (fun hHeld3 => ?_)
   clear hK K cp
   try simp only [nz]
   refine tk 9 (.int .i64 (putX s.d c).2) rfl ?_
   try simp only [nz]
   refine wpAnyH_done (by kernel_rfl) ?_ _
   refine NoPanic.normal ?_
   clear hHeld hHeld3 hz9 hk9 hS0 HPT HCG HCA
   obtain ⟨pe, hpe⟩ : ∃ pe, (putX s.d c).2 = pe := ⟨_, rfl⟩
   rw [hpe] at HSG ⊢
   clear hpe
   by_cases hp0 : pe = 0
   case neg =>
    have hpb : (pe != 0) = true := by simpa using hp0
    have HE1 : Hid (R = ({ s with d := putS s.d c }, pe)) := by have := HSG.out; rw [if_pos hp0] at this; exact this.symm
    clear HSG
    go_wp2
    go_ret
    exact ⟨by rw [HE1.out]; first | done | rfl, by rw [HE1.out]; exact HO9.out⟩
   subst hp0
   have HE2 : Hid (R = ({ s with d := putS s.d c, U := addK s.U ino (kindsL sum) }, 0)) := by have := HSG.out; rw [if_neg (by simp)] at this; exact this.symm
   clear HSG
   have hb10 := bel1 w9 (.cells #[.int .i64 1, .int .i64 2, .int .i64 3] 3)
   have hr10 := heap_alloc_new w9 (.cells #[.int .i64 1, .int .i64 2, .int .i64 3] 3)
   obtain ⟨w10, hw10⟩ : ∃ w10, w9.alloc (.cells #[.int .i64 1, .int .i64 2, .int .i64 3] 3) = w10 := ⟨_, rfl⟩
   rw [hw10] at hb10 hr10
   have HR10 : Hid (w10.heap[w9.heap.size]? = some (.cells #[.int .i64 1, .int .i64 2, .int .i64 3] 3 (0, 0))) := hr10
   have HX10 : Hid (XsIn B w10 x X9 { s with d := putS s.d c }) := HY1.out.below hb10
   have HC10 : Hid (CgAt w10 gc c) := HC9.out.below hb10
   have HB10 : Hid (Below w9.heap.size w9 w10) := hb10
   have HNK : Hid (w9.heap.size ∉ X9) := fun hm => by have := HY4.out.2 _ hm; omega
   clear hb10 hr10
   obtain ⟨wL, rfl⟩ : ∃ wL, wL = wr := ⟨wr, rfl⟩
   go_wp2_with fail
   try rw [hw10]
   clear hw10
   generalize w9.heap.size = gz at HR10 HNK ⊢
   go_loopg [110] 4 (fun kx s110 wr => ∃ (k : Nat), s110 = .int .i64 k ∧ k ≤ 3 ∧ 4 - k ≤ kx ∧ Hid (XsOut B w10 x X9 { s with d := putS s.d c, U := addK s.U ino (kindsT sum k) } wr))
   case atStart => exact ⟨0, rfl, by decide, by omega, by have e : kindsT sum 0 = [] := rfl; rw [e]; exact HX10.out.out (Below.refl _ _)⟩
   case round =>
    obtain ⟨k, rfl, hk3, hkx, HV⟩ := hrel
    have hcw : CgAt wr gc c := ⟨HV.out.sole.row HC10.out.row HY4.out.1⟩
    have hrw := HV.out.sole.row HR10.out HNK.out
    have k6 : wr.cell? ⟨gc, 6, none⟩ = some (.int .i64 sum) := by have := hcw.c6; rw [HC6.out] at this; exact this
    have z0 : wr.cell? ⟨gz, 0, none⟩ = some (.int .i64 1) := by rw [cell_of_row _ _ _ _ _ (0, 0) hrw]; rfl
    have z1 : wr.cell? ⟨gz, 1, none⟩ = some (.int .i64 2) := by rw [cell_of_row _ _ _ _ _ (0, 0) hrw]; rfl
    have z2 : wr.cell? ⟨gz, 2, none⟩ = some (.int .i64 3) := by rw [cell_of_row _ _ _ _ _ (0, 0) hrw]; rfl
    have hlen : (addK s.U ino (kindsT sum k)).length ≤ 4100 := by have e1 := addK_len s.U ino (kindsT sum k); have e2 := kindsT_len sum k; have e3 := HKP.out.2.2; omega
    have HLEN : Hid ((addK s.U ino (kindsT sum k)).length ≤ 4100) := hlen
    clear hcw hrw hlen
    have hss := HS1.out
    obtain rfl | rfl | rfl | rfl : k = 0 ∨ k = 1 ∨ k = 2 ∨ k = 3 := by omega
    ·rcases hss with rfl | rfl | rfl | rfl | rfl | rfl | rfl
     ·have ct := HV.out.call (R := fun e => e = .returned (.tuple #[])) (fun X1 z => wroteK z HNE.out (k := 1) (.inl rfl) (by dsimp only; have := HLEN.out; omega))
      go_wp2_with fail
      refine ct.mono ?_
      rintro e w11 ⟨rfl, ho⟩
      have HO11 : Hid (XsOut B w10 x X9 { s with d := putS s.d c, U := addK s.U ino (kindsT 1 1) } w11) := by
       have e1 : kindsT 1 0 = [] := by decide
       have e2 : kindsT 1 1 = [1] := by decide
       rw [e1] at ho
       unfold Hid
       rw [e2]
       exact ho
      clear ct ho HV
      go_wp2
      go_roundg 3
      case measure => omega
      case rel => exact ⟨1, rfl, by decide, by omega, HO11.out⟩
     ·have HO11 : Hid (XsOut B w10 x X9 { s with d := putS s.d c, U := addK s.U ino (kindsT 2 1) } wr) := by
       have e : kindsT 2 1 = kindsT 2 0 := by decide
       rw [e]
       exact HV.out
      clear HV
      go_wp2
      go_roundg 3
      case measure => omega
      case rel => exact ⟨1, rfl, by decide, by omega, HO11.out⟩
     ·have ct := HV.out.call (R := fun e => e = .returned (.tuple #[])) (fun X1 z => wroteK z HNE.out (k := 1) (.inl rfl) (by dsimp only; have := HLEN.out; omega))
      go_wp2_with fail
      refine ct.mono ?_
      rintro e w11 ⟨rfl, ho⟩
      have HO11 : Hid (XsOut B w10 x X9 { s with d := putS s.d c, U := addK s.U ino (kindsT 3 1) } w11) := by
       have e1 : kindsT 3 0 = [] := by decide
       have e2 : kindsT 3 1 = [1] := by decide
       rw [e1] at ho
       unfold Hid
       rw [e2]
       exact ho
      clear ct ho HV
      go_wp2
      go_roundg 3
      case measure => omega
      case rel => exact ⟨1, rfl, by decide, by omega, HO11.out⟩
     ·have HO11 : Hid (XsOut B w10 x X9 { s with d := putS s.d c, U := addK s.U ino (kindsT 4 1) } wr) := by
       have e : kindsT 4 1 = kindsT 4 0 := by decide
       rw [e]
       exact HV.out
      clear HV
      go_wp2
      go_roundg 3
      case measure => omega
      case rel => exact ⟨1, rfl, by decide, by omega, HO11.out⟩
     ·have ct := HV.out.call (R := fun e => e = .returned (.tuple #[])) (fun X1 z => wroteK z HNE.out (k := 1) (.inl rfl) (by dsimp only; have := HLEN.out; omega))
      go_wp2_with fail
      refine ct.mono ?_
      rintro e w11 ⟨rfl, ho⟩
      have HO11 : Hid (XsOut B w10 x X9 { s with d := putS s.d c, U := addK s.U ino (kindsT 5 1) } w11) := by
       have e1 : kindsT 5 0 = [] := by decide
       have e2 : kindsT 5 1 = [1] := by decide
       rw [e1] at ho
       unfold Hid
       rw [e2]
       exact ho
      clear ct ho HV
      go_wp2
      go_roundg 3
      case measure => omega
      case rel => exact ⟨1, rfl, by decide, by omega, HO11.out⟩
     ·have HO11 : Hid (XsOut B w10 x X9 { s with d := putS s.d c, U := addK s.U ino (kindsT 6 1) } wr) := by
       have e : kindsT 6 1 = kindsT 6 0 := by decide
       rw [e]
       exact HV.out
      clear HV
      go_wp2
      go_roundg 3
      case measure => omega
      case rel => exact ⟨1, rfl, by decide, by omega, HO11.out⟩
     ·have ct := HV.out.call (R := fun e => e = .returned (.tuple #[])) (fun X1 z => wroteK z HNE.out (k := 1) (.inl rfl) (by dsimp only; have := HLEN.out; omega))
      go_wp2_with fail
      refine ct.mono ?_
      rintro e w11 ⟨rfl, ho⟩
      have HO11 : Hid (XsOut B w10 x X9 { s with d := putS s.d c, U := addK s.U ino (kindsT 7 1) } w11) := by
       have e1 : kindsT 7 0 = [] := by decide
       have e2 : kindsT 7 1 = [1] := by decide
       rw [e1] at ho
       unfold Hid
       rw [e2]
       exact ho
      clear ct ho HV
      go_wp2
      go_roundg 3
      case measure => omega
      case rel => exact ⟨1, rfl, by decide, by omega, HO11.out⟩
    ·rcases hss with rfl | rfl | rfl | rfl | rfl | rfl | rfl
     ·have HO11 : Hid (XsOut B w10 x X9 { s with d := putS s.d c, U := addK s.U ino (kindsT 1 2) } wr) := by
       have e : kindsT 1 2 = kindsT 1 1 := by decide
       rw [e]
       exact HV.out
      clear HV
      go_wp2
      go_roundg 2
      case measure => omega
      case rel => exact ⟨2, rfl, by decide, by omega, HO11.out⟩
     ·have ct := HV.out.call (R := fun e => e = .returned (.tuple #[])) (fun X1 z => wroteK z HNE.out (k := 2) (.inr (.inl rfl)) (by dsimp only; have := HLEN.out; omega))
      go_wp2_with fail
      refine ct.mono ?_
      rintro e w11 ⟨rfl, ho⟩
      have HO11 : Hid (XsOut B w10 x X9 { s with d := putS s.d c, U := addK s.U ino (kindsT 2 2) } w11) := by
       have e1 : kindsT 2 1 = [] := by decide
       have e2 : kindsT 2 2 = [2] := by decide
       rw [e1] at ho
       unfold Hid
       rw [e2]
       exact ho
      clear ct ho HV
      go_wp2
      go_roundg 2
      case measure => omega
      case rel => exact ⟨2, rfl, by decide, by omega, HO11.out⟩
     ·have ct := HV.out.call (R := fun e => e = .returned (.tuple #[])) (fun X1 z => wroteK z HNE.out (k := 2) (.inr (.inl rfl)) (by dsimp only; have := HLEN.out; omega))
      go_wp2_with fail
      refine ct.mono ?_
      rintro e w11 ⟨rfl, ho⟩
      have HO11 : Hid (XsOut B w10 x X9 { s with d := putS s.d c, U := addK s.U ino (kindsT 3 2) } w11) := by
       have e1 : kindsT 3 1 = [1] := by decide
       have e2 : kindsT 3 2 = [1, 2] := by decide
       rw [e1] at ho
       unfold Hid
       rw [e2]
       exact ho
      clear ct ho HV
      go_wp2
      go_roundg 2
      case measure => omega
      case rel => exact ⟨2, rfl, by decide, by omega, HO11.out⟩
     ·have HO11 : Hid (XsOut B w10 x X9 { s with d := putS s.d c, U := addK s.U ino (kindsT 4 2) } wr) := by
       have e : kindsT 4 2 = kindsT 4 1 := by decide
       rw [e]
       exact HV.out
      clear HV
      go_wp2
      go_roundg 2
      case measure => omega
      case rel => exact ⟨2, rfl, by decide, by omega, HO11.out⟩
     ·have HO11 : Hid (XsOut B w10 x X9 { s with d := putS s.d c, U := addK s.U ino (kindsT 5 2) } wr) := by
       have e : kindsT 5 2 = kindsT 5 1 := by decide
       rw [e]
       exact HV.out
      clear HV
      go_wp2
      go_roundg 2
      case measure => omega
      case rel => exact ⟨2, rfl, by decide, by omega, HO11.out⟩
     ·have ct := HV.out.call (R := fun e => e = .returned (.tuple #[])) (fun X1 z => wroteK z HNE.out (k := 2) (.inr (.inl rfl)) (by dsimp only; have := HLEN.out; omega))
      go_wp2_with fail
      refine ct.mono ?_
      rintro e w11 ⟨rfl, ho⟩
      have HO11 : Hid (XsOut B w10 x X9 { s with d := putS s.d c, U := addK s.U ino (kindsT 6 2) } w11) := by
       have e1 : kindsT 6 1 = [] := by decide
       have e2 : kindsT 6 2 = [2] := by decide
       rw [e1] at ho
       unfold Hid
       rw [e2]
       exact ho
      clear ct ho HV
      go_wp2
      go_roundg 2
      case measure => omega
      case rel => exact ⟨2, rfl, by decide, by omega, HO11.out⟩
     ·have ct := HV.out.call (R := fun e => e = .returned (.tuple #[])) (fun X1 z => wroteK z HNE.out (k := 2) (.inr (.inl rfl)) (by dsimp only; have := HLEN.out; omega))
      go_wp2_with fail
      refine ct.mono ?_
      rintro e w11 ⟨rfl, ho⟩
      have HO11 : Hid (XsOut B w10 x X9 { s with d := putS s.d c, U := addK s.U ino (kindsT 7 2) } w11) := by
       have e1 : kindsT 7 1 = [1] := by decide
       have e2 : kindsT 7 2 = [1, 2] := by decide
       rw [e1] at ho
       unfold Hid
       rw [e2]
       exact ho
      clear ct ho HV
      go_wp2
      go_roundg 2
      case measure => omega
      case rel => exact ⟨2, rfl, by decide, by omega, HO11.out⟩
    ·rcases hss with rfl | rfl | rfl | rfl | rfl | rfl | rfl
     ·have HO11 : Hid (XsOut B w10 x X9 { s with d := putS s.d c, U := addK s.U ino (kindsT 1 3) } wr) := by
       have e : kindsT 1 3 = kindsT 1 2 := by decide
       rw [e]
       exact HV.out
      clear HV
      go_wp2
      go_roundg 1
      case measure => omega
      case rel => exact ⟨3, rfl, by decide, by omega, HO11.out⟩
     ·have HO11 : Hid (XsOut B w10 x X9 { s with d := putS s.d c, U := addK s.U ino (kindsT 2 3) } wr) := by
       have e : kindsT 2 3 = kindsT 2 2 := by decide
       rw [e]
       exact HV.out
      clear HV
      go_wp2
      go_roundg 1
      case measure => omega
      case rel => exact ⟨3, rfl, by decide, by omega, HO11.out⟩
     ·have HO11 : Hid (XsOut B w10 x X9 { s with d := putS s.d c, U := addK s.U ino (kindsT 3 3) } wr) := by
       have e : kindsT 3 3 = kindsT 3 2 := by decide
       rw [e]
       exact HV.out
      clear HV
      go_wp2
      go_roundg 1
      case measure => omega
      case rel => exact ⟨3, rfl, by decide, by omega, HO11.out⟩
     ·have ct := HV.out.call (R := fun e => e = .returned (.tuple #[])) (fun X1 z => wroteK z HNE.out (k := 3) (.inr (.inr (.inl rfl))) (by dsimp only; have := HLEN.out; omega))
      go_wp2_with fail
      refine ct.mono ?_
      rintro e w11 ⟨rfl, ho⟩
      have HO11 : Hid (XsOut B w10 x X9 { s with d := putS s.d c, U := addK s.U ino (kindsT 4 3) } w11) := by
       have e1 : kindsT 4 2 = [] := by decide
       have e2 : kindsT 4 3 = [3] := by decide
       rw [e1] at ho
       unfold Hid
       rw [e2]
       exact ho
      clear ct ho HV
      go_wp2
      go_roundg 1
      case measure => omega
      case rel => exact ⟨3, rfl, by decide, by omega, HO11.out⟩
     ·have ct := HV.out.call (R := fun e => e = .returned (.tuple #[])) (fun X1 z => wroteK z HNE.out (k := 3) (.inr (.inr (.inl rfl))) (by dsimp only; have := HLEN.out; omega))
      go_wp2_with fail
      refine ct.mono ?_
      rintro e w11 ⟨rfl, ho⟩
      have HO11 : Hid (XsOut B w10 x X9 { s with d := putS s.d c, U := addK s.U ino (kindsT 5 3) } w11) := by
       have e1 : kindsT 5 2 = [1] := by decide
       have e2 : kindsT 5 3 = [1, 3] := by decide
       rw [e1] at ho
       unfold Hid
       rw [e2]
       exact ho
      clear ct ho HV
      go_wp2
      go_roundg 1
      case measure => omega
      case rel => exact ⟨3, rfl, by decide, by omega, HO11.out⟩
     ·have ct := HV.out.call (R := fun e => e = .returned (.tuple #[])) (fun X1 z => wroteK z HNE.out (k := 3) (.inr (.inr (.inl rfl))) (by dsimp only; have := HLEN.out; omega))
      go_wp2_with fail
      refine ct.mono ?_
      rintro e w11 ⟨rfl, ho⟩
      have HO11 : Hid (XsOut B w10 x X9 { s with d := putS s.d c, U := addK s.U ino (kindsT 6 3) } w11) := by
       have e1 : kindsT 6 2 = [2] := by decide
       have e2 : kindsT 6 3 = [2, 3] := by decide
       rw [e1] at ho
       unfold Hid
       rw [e2]
       exact ho
      clear ct ho HV
      go_wp2
      go_roundg 1
      case measure => omega
      case rel => exact ⟨3, rfl, by decide, by omega, HO11.out⟩
     ·have ct := HV.out.call (R := fun e => e = .returned (.tuple #[])) (fun X1 z => wroteK z HNE.out (k := 3) (.inr (.inr (.inl rfl))) (by dsimp only; have := HLEN.out; omega))
      go_wp2_with fail
      refine ct.mono ?_
      rintro e w11 ⟨rfl, ho⟩
      have HO11 : Hid (XsOut B w10 x X9 { s with d := putS s.d c, U := addK s.U ino (kindsT 7 3) } w11) := by
       have e1 : kindsT 7 2 = [1, 2] := by decide
       have e2 : kindsT 7 3 = [1, 2, 3] := by decide
       rw [e1] at ho
       unfold Hid
       rw [e2]
       exact ho
      clear ct ho HV
      go_wp2
      go_roundg 1
      case measure => omega
      case rel => exact ⟨3, rfl, by decide, by omega, HO11.out⟩
    ·have HT : Hid (XsOut B w10 x X9 { s with d := putS s.d c, U := addK s.U ino (kindsL sum) } wr) := by
      have e : kindsT sum 3 = kindsL sum := by rcases hss with rfl | rfl | rfl | rfl | rfl | rfl | rfl <;> decide
      rw [← e]
      exact HV.out
     clear HV hss k6 z0 z1 z2
     go_wp2
     go_ret
     exact ⟨by rw [HE2.out]; first | done | rfl, by rw [HE2.out]; exact XsOut.then HY2.out HY3.out (XsOut.pre HB10.out HT.out)⟩
end Go.Proofs.YtiplhhaehbjghaaGreat
