/- The contracts of extent.placeOf, piecesOf. -/
import Derived.Test.YtiplhhaehbjghaaGreatXA
namespace Go.Proofs.YtiplhhaehbjghaaGreat
open Go.RowKit Go.Maps
set_option linter.unusedVariables false
set_option maxHeartbeats 32000000
set_option maxRecDepth 100000
set_option linter.unusedSimpArgs false
theorem placeOf_any (w : World) (i : Int) (c : Nat) (hc : c ≤ 1000) : Calls Tryz.prog 154 #[.int .u32 i, .int .i64 (c : Int)] w fun e w' => e = .returned (plV (datP i c)) ∧ Below w.heap.size w w' := by
 have h0 : (0 : Int) ≤ (c : Int) := by omega
 have h1 : (c : Int) ≤ 1000 := by omega
 go_enter Tryz.func154, Tryz.ntmps154
 go_wp2
 exact ret_place rfl w.heap.size (datP i c) rfl (heap_alloc_new w _) rfl ⟨rfl, (Below.refl _ _).alloc (Nat.le_refl _) _⟩
def pcE (b o0 : Nat) (p : Pc3) : List Value := [.int .i64 (p.c : Int), .int .i64 (p.at_ : Int), .slice (some ⟨b, o0 + p.o, none⟩) p.n p.n]
theorem pc_len (b o0 : Nat) (p : Pc3) : (pcE b o0 p).length = 3 := rfl
theorem pc_one (b o0 : Nat) (p : Pc3) : ∀ u ∈ pcE b o0 p, u.oneCell' = true := fun u hu => by
 simp [pcE] at hu
 rcases hu with rfl | rfl | rfl <;> rfl
theorem info_pc : (Tryz.prog.info? 242).map (fun i => (i.zero, i.size, i.bytes)) = some (some (.agg #[.int .i64 0, .int .i64 0, .slice none 0 0]), 3, 40) := by kernel_rfl
theorem rd_pc (w : World) (b o0 : Nat) (p : Pc3) : RdZ 3 (pcE b o0) (w.alloc (.cells (pcE b o0 p).toArray 242)) (.slice (some ⟨w.heap.size, 0, none⟩) 1 1) [p] :=
 rdZ_own (pc_len b o0) (base := w.heap.size) (e := 242) ⟨rfl, .inr ⟨w.heap.size, 1, (pcE b o0 p).toArray, rfl, Nat.le_refl _, heap_alloc_new _ _, Nat.le_refl _, by decide, rfl, by simp [pcE]⟩⟩
theorem pieces_any (w : World) (b o0 n cap : Nat) (hn : n ≤ cap) (hc : cap ≤ maxLen) (h64 : n ≤ 64) (off : Nat) (ho : off ≤ 512) : Calls Tryz.prog 152 #[.slice (some ⟨b, o0, none⟩) n cap, .int .i64 (off : Int)] w fun e w' =>
  ∃ a c, e = .returned (.slice a (pcsL off n).length c) ∧ OwnL w.heap.size 242 3 (pcE b o0) w' (.slice a (pcsL off n).length c) (pcsL off n) ∧ Below w.heap.size w w' := by
 obtain ⟨iE, hiE, hz0, hz1, hz2⟩ := info_parts info_pc
 obtain ⟨R, hR⟩ : ∃ R, pcsL off n = R := ⟨_, rfl⟩
 rw [hR]
 have HF : Hid (pcsF n 0 off n = R) := hR
 have HLR : Hid (R.length ≤ 64) := by unfold Hid; rw [← hR]; exact Nat.le_trans (pcsF_len _ _ _ _) h64
 have HC : Hid (n ≤ cap ∧ cap ≤ maxLen) := ⟨hn, hc⟩
 clear hR hn hc
 go_enter Tryz.func152, Tryz.ntmps152
 go_wp2
 go_loopg [0, 1, 5, 6, 7] n (fun kx s0 s1 s5 s6 s7 wr => ∃ (o L : Nat) (ad : Option Addr) (cp : Nat) (pa : Option Addr) (pn pc : Nat), s0 = .slice ad L cp ∧ s1 = .int .i64 ((off + o : Nat) : Int) ∧ s5 = .slice pa pn pc ∧ o + L = n ∧ L ≤ kx ∧
   Hid ((0 < L → ad = some ⟨b, o0 + o, none⟩ ∧ cp = cap - o) ∧ Below w.heap.size w wr ∧ ∃ A, OwnL w.heap.size 242 3 (pcE b o0) wr (.slice pa pn pc) A ∧ A ++ pcsF n o (off + o) L = R))
 case atStart => exact ⟨0, n, _, cap, none, 0, 0, rfl, rfl, rfl, by omega, by omega, fun _ => ⟨rfl, rfl⟩, Below.refl _ _, [], OwnL.nil _ _ _ _ _, HF.out⟩
 case round =>
  obtain ⟨o, L, ad, cp, pa, pn, pc, rfl, rfl, rfl, hoL, hkx, HW⟩ := hrel
  obtain ⟨X, hX⟩ : ∃ X, off + o = X := ⟨_, rfl⟩
  rw [hX] at HW ⊢
  have hX1 : X ≤ 576 := by omega
  by_cases hlt : 0 < L
  ·obtain ⟨h1, h2, A, h3, h4⟩ := HW.out
   obtain ⟨rfl, rfl⟩ := h1 hlt
   have hLI : (0 : Int) < (L : Int) := by omega
   obtain ⟨q, hq⟩ : ∃ q, X / 32 = q := ⟨_, rfl⟩
   obtain ⟨r, hrr⟩ : ∃ r, X % 32 = r := ⟨_, rfl⟩
   obtain ⟨k, hk⟩ : ∃ k, 32 - r = k := ⟨_, rfl⟩
   have hq' : (X : Int) / 32 = (q : Int) := by omega
   have hr' : (X : Int) % 32 = (r : Int) := by omega
   have hk' : (32 : Int) - (r : Int) = (k : Int) := by omega
   have hk0 : 0 < k := by omega
   have hk32 : k ≤ 32 := by omega
   have hoc : o + L ≤ cap := by have := HC.out.1; omega
   clear HW h1
   by_cases hLk : L < k
   ·have hLkI : (L : Int) < (k : Int) := by omega
    by_cases hce : cap - o = L
    ·skip
     have r1 := rd_pc wr b o0 ⟨q, r, o, L⟩
     have b1 := bel1 wr (.cells (pcE b o0 ⟨q, r, o, L⟩).toArray 242)
     have o1 := OwnL.below h3 b1
     have B1 : Hid _ := h2.trans (b1.mono h2.size)
     have HO3 : Hid _ := h3
     unfold pcE at r1 B1
     dsimp only at r1 B1
     have o1 : OwnL w.heap.size 242 3 (pcE b o0) (wr.alloc (.cells #[.int .i64 (q : Int), .int .i64 (r : Int), .slice (some ⟨b, o0 + o, none⟩) L L] 242)) (.slice pa pn pc) A := o1
     have HA : Hid (A ++ ⟨q, r, o, L⟩ :: pcsF n (o + L) (X + L) 0 = R) := by
      unfold Hid
      rw [← h4, pcsF_next (by omega) hlt]
      have hm : pcN X L = L := by unfold pcN; omega
      rw [hm, hq, hrr]
      first | done | rw [Nat.sub_self]
     have HAL : Hid (A.length ≤ 64) := by
      have := HLR.out
      rw [← h4, List.length_append] at this
      unfold Hid; omega
     clear h4 h2 h3 b1
     go_wp2_with (refine wpList_append_E (pc_len b o0) (pc_one b o0) Tryz.underlying239 hiE hz0 hz1 hz2 rfl (by decide) (by decide) rfl _ _ rfl w.heap.size _ _ rfl o1 _ [⟨q, r, o, L⟩] rfl r1 (by have := HAL.out; simp; omega) B1.out.size ?_; rintro v2 w5 ho2 hg2; obtain ⟨a2, c2, rfl⟩ := row_slice ho2)
     have HO2 : Hid (OwnL w.heap.size 242 3 (pcE b o0) w5 (.slice a2 (A.length + 1) c2) (A ++ [⟨q, r, o, L⟩])) := by
      have h := ho2
      rw [show (A ++ [(⟨q, r, o, L⟩ : Pc3)]).length = A.length + 1 by simp] at h
      exact h
     have HG2 : Hid _ := hg2
     clear ho2 hg2 o1 r1
     go_roundg 0
     case measure => omega
     case rel =>
      refine ⟨o + L, 0, _, _, a2, _, c2, rfl, ?_, rfl, by omega, by omega, fun hpos => ?_, ?_, A ++ [⟨q, r, o, L⟩], HO2.out, ?_⟩
      ·rw [show off + (o + L) = X + L by omega]; rfl
      ·first
        | (exfalso; omega)
        | exact ⟨by rw [show o0 + (o + L) = o0 + o + L by omega], by omega⟩
      ·refine tgrown_below B1.out HG2.out ?_ B1.out.size
       intro g hg
       rcases HO3.out.2 with ⟨e, _⟩ | ⟨g', cap', cur, e, hb', _⟩
       ·rw [e] at hg; cases hg
       ·rw [e] at hg; cases hg; exact hb'
      ·rw [show off + (o + L) = X + L by omega, List.append_assoc]
       exact HA.out
    ·have hce2 : L < cap - o := by omega
     have r1 := rd_pc wr b o0 ⟨q, r, o, L⟩
     have b1 := bel1 wr (.cells (pcE b o0 ⟨q, r, o, L⟩).toArray 242)
     have o1 := OwnL.below h3 b1
     have B1 : Hid _ := h2.trans (b1.mono h2.size)
     have HO3 : Hid _ := h3
     unfold pcE at r1 B1
     dsimp only at r1 B1
     have o1 : OwnL w.heap.size 242 3 (pcE b o0) (wr.alloc (.cells #[.int .i64 (q : Int), .int .i64 (r : Int), .slice (some ⟨b, o0 + o, none⟩) L L] 242)) (.slice pa pn pc) A := o1
     have HA : Hid (A ++ ⟨q, r, o, L⟩ :: pcsF n (o + L) (X + L) 0 = R) := by
      unfold Hid
      rw [← h4, pcsF_next (by omega) hlt]
      have hm : pcN X L = L := by unfold pcN; omega
      rw [hm, hq, hrr]
      first | done | rw [Nat.sub_self]
     have HAL : Hid (A.length ≤ 64) := by
      have := HLR.out
      rw [← h4, List.length_append] at this
      unfold Hid; omega
     clear h4 h2 h3 b1
     go_wp2_with (refine wpList_append_E (pc_len b o0) (pc_one b o0) Tryz.underlying239 hiE hz0 hz1 hz2 rfl (by decide) (by decide) rfl _ _ rfl w.heap.size _ _ rfl o1 _ [⟨q, r, o, L⟩] rfl r1 (by have := HAL.out; simp; omega) B1.out.size ?_; rintro v2 w5 ho2 hg2; obtain ⟨a2, c2, rfl⟩ := row_slice ho2)
     have HO2 : Hid (OwnL w.heap.size 242 3 (pcE b o0) w5 (.slice a2 (A.length + 1) c2) (A ++ [⟨q, r, o, L⟩])) := by
      have h := ho2
      rw [show (A ++ [(⟨q, r, o, L⟩ : Pc3)]).length = A.length + 1 by simp] at h
      exact h
     have HG2 : Hid _ := hg2
     clear ho2 hg2 o1 r1
     go_roundg 0
     case measure => omega
     case rel =>
      refine ⟨o + L, 0, _, _, a2, _, c2, rfl, ?_, rfl, by omega, by omega, fun hpos => ?_, ?_, A ++ [⟨q, r, o, L⟩], HO2.out, ?_⟩
      ·rw [show off + (o + L) = X + L by omega]; rfl
      ·first
        | (exfalso; omega)
        | exact ⟨by rw [show o0 + (o + L) = o0 + o + L by omega], by omega⟩
      ·refine tgrown_below B1.out HG2.out ?_ B1.out.size
       intro g hg
       rcases HO3.out.2 with ⟨e, _⟩ | ⟨g', cap', cur, e, hb', _⟩
       ·rw [e] at hg; cases hg
       ·rw [e] at hg; cases hg; exact hb'
      ·rw [show off + (o + L) = X + L by omega, List.append_assoc]
       exact HA.out
   ·have hLkI : ¬ (L : Int) < (k : Int) := by omega
    by_cases hkL : k = L
    ·subst hkL
     by_cases hce : cap - o = k
     ·skip
      have r1 := rd_pc wr b o0 ⟨q, r, o, k⟩
      have b1 := bel1 wr (.cells (pcE b o0 ⟨q, r, o, k⟩).toArray 242)
      have o1 := OwnL.below h3 b1
      have B1 : Hid _ := h2.trans (b1.mono h2.size)
      have HO3 : Hid _ := h3
      unfold pcE at r1 B1
      dsimp only at r1 B1
      have o1 : OwnL w.heap.size 242 3 (pcE b o0) (wr.alloc (.cells #[.int .i64 (q : Int), .int .i64 (r : Int), .slice (some ⟨b, o0 + o, none⟩) k k] 242)) (.slice pa pn pc) A := o1
      have HA : Hid (A ++ ⟨q, r, o, k⟩ :: pcsF n (o + k) (X + k) 0 = R) := by
       unfold Hid
       rw [← h4, pcsF_next (by omega) hlt]
       have hm : pcN X k = k := by unfold pcN; omega
       rw [hm, hq, hrr]
       first | done | rw [Nat.sub_self]
      have HAL : Hid (A.length ≤ 64) := by
       have := HLR.out
       rw [← h4, List.length_append] at this
       unfold Hid; omega
      clear h4 h2 h3 b1
      go_wp2_with (refine wpList_append_E (pc_len b o0) (pc_one b o0) Tryz.underlying239 hiE hz0 hz1 hz2 rfl (by decide) (by decide) rfl _ _ rfl w.heap.size _ _ rfl o1 _ [⟨q, r, o, k⟩] rfl r1 (by have := HAL.out; simp; omega) B1.out.size ?_; rintro v2 w5 ho2 hg2; obtain ⟨a2, c2, rfl⟩ := row_slice ho2)
      have HO2 : Hid (OwnL w.heap.size 242 3 (pcE b o0) w5 (.slice a2 (A.length + 1) c2) (A ++ [⟨q, r, o, k⟩])) := by
       have h := ho2
       rw [show (A ++ [(⟨q, r, o, k⟩ : Pc3)]).length = A.length + 1 by simp] at h
       exact h
      have HG2 : Hid _ := hg2
      clear ho2 hg2 o1 r1
      go_roundg 0
      case measure => omega
      case rel =>
       refine ⟨o + k, 0, _, _, a2, _, c2, rfl, ?_, rfl, by omega, by omega, fun hpos => ?_, ?_, A ++ [⟨q, r, o, k⟩], HO2.out, ?_⟩
       ·rw [show off + (o + k) = X + k by omega]; rfl
       ·first
         | (exfalso; omega)
         | exact ⟨by rw [show o0 + (o + k) = o0 + o + k by omega], by omega⟩
       ·refine tgrown_below B1.out HG2.out ?_ B1.out.size
        intro g hg
        rcases HO3.out.2 with ⟨e, _⟩ | ⟨g', cap', cur, e, hb', _⟩
        ·rw [e] at hg; cases hg
        ·rw [e] at hg; cases hg; exact hb'
       ·rw [show off + (o + k) = X + k by omega, List.append_assoc]
        exact HA.out
     ·have hce2 : k < cap - o := by omega
      have r1 := rd_pc wr b o0 ⟨q, r, o, k⟩
      have b1 := bel1 wr (.cells (pcE b o0 ⟨q, r, o, k⟩).toArray 242)
      have o1 := OwnL.below h3 b1
      have B1 : Hid _ := h2.trans (b1.mono h2.size)
      have HO3 : Hid _ := h3
      unfold pcE at r1 B1
      dsimp only at r1 B1
      have o1 : OwnL w.heap.size 242 3 (pcE b o0) (wr.alloc (.cells #[.int .i64 (q : Int), .int .i64 (r : Int), .slice (some ⟨b, o0 + o, none⟩) k k] 242)) (.slice pa pn pc) A := o1
      have HA : Hid (A ++ ⟨q, r, o, k⟩ :: pcsF n (o + k) (X + k) 0 = R) := by
       unfold Hid
       rw [← h4, pcsF_next (by omega) hlt]
       have hm : pcN X k = k := by unfold pcN; omega
       rw [hm, hq, hrr]
       first | done | rw [Nat.sub_self]
      have HAL : Hid (A.length ≤ 64) := by
       have := HLR.out
       rw [← h4, List.length_append] at this
       unfold Hid; omega
      clear h4 h2 h3 b1
      go_wp2_with (refine wpList_append_E (pc_len b o0) (pc_one b o0) Tryz.underlying239 hiE hz0 hz1 hz2 rfl (by decide) (by decide) rfl _ _ rfl w.heap.size _ _ rfl o1 _ [⟨q, r, o, k⟩] rfl r1 (by have := HAL.out; simp; omega) B1.out.size ?_; rintro v2 w5 ho2 hg2; obtain ⟨a2, c2, rfl⟩ := row_slice ho2)
      have HO2 : Hid (OwnL w.heap.size 242 3 (pcE b o0) w5 (.slice a2 (A.length + 1) c2) (A ++ [⟨q, r, o, k⟩])) := by
       have h := ho2
       rw [show (A ++ [(⟨q, r, o, k⟩ : Pc3)]).length = A.length + 1 by simp] at h
       exact h
      have HG2 : Hid _ := hg2
      clear ho2 hg2 o1 r1
      go_roundg 0
      case measure => omega
      case rel =>
       refine ⟨o + k, 0, _, _, a2, _, c2, rfl, ?_, rfl, by omega, by omega, fun hpos => ?_, ?_, A ++ [⟨q, r, o, k⟩], HO2.out, ?_⟩
       ·rw [show off + (o + k) = X + k by omega]; rfl
       ·first
         | (exfalso; omega)
         | exact ⟨by rw [show o0 + (o + k) = o0 + o + k by omega], by omega⟩
       ·refine tgrown_below B1.out HG2.out ?_ B1.out.size
        intro g hg
        rcases HO3.out.2 with ⟨e, _⟩ | ⟨g', cap', cur, e, hb', _⟩
        ·rw [e] at hg; cases hg
        ·rw [e] at hg; cases hg; exact hb'
       ·rw [show off + (o + k) = X + k by omega, List.append_assoc]
        exact HA.out
    ·have hkL2 : k < L := by omega
     have hce2 : k < cap - o := by omega
     have r1 := rd_pc wr b o0 ⟨q, r, o, k⟩
     have b1 := bel1 wr (.cells (pcE b o0 ⟨q, r, o, k⟩).toArray 242)
     have o1 := OwnL.below h3 b1
     have B1 : Hid _ := h2.trans (b1.mono h2.size)
     have HO3 : Hid _ := h3
     unfold pcE at r1 B1
     dsimp only at r1 B1
     have o1 : OwnL w.heap.size 242 3 (pcE b o0) (wr.alloc (.cells #[.int .i64 (q : Int), .int .i64 (r : Int), .slice (some ⟨b, o0 + o, none⟩) k k] 242)) (.slice pa pn pc) A := o1
     have HA : Hid (A ++ ⟨q, r, o, k⟩ :: pcsF n (o + k) (X + k) (L - k) = R) := by
      unfold Hid
      rw [← h4, pcsF_next (by omega) hlt]
      have hm : pcN X L = k := by unfold pcN; omega
      rw [hm, hq, hrr]
      first | done | rw [Nat.sub_self]
     have HAL : Hid (A.length ≤ 64) := by
      have := HLR.out
      rw [← h4, List.length_append] at this
      unfold Hid; omega
     clear h4 h2 h3 b1
     go_wp2_with (refine wpList_append_E (pc_len b o0) (pc_one b o0) Tryz.underlying239 hiE hz0 hz1 hz2 rfl (by decide) (by decide) rfl _ _ rfl w.heap.size _ _ rfl o1 _ [⟨q, r, o, k⟩] rfl r1 (by have := HAL.out; simp; omega) B1.out.size ?_; rintro v2 w5 ho2 hg2; obtain ⟨a2, c2, rfl⟩ := row_slice ho2)
     have HO2 : Hid (OwnL w.heap.size 242 3 (pcE b o0) w5 (.slice a2 (A.length + 1) c2) (A ++ [⟨q, r, o, k⟩])) := by
      have h := ho2
      rw [show (A ++ [(⟨q, r, o, k⟩ : Pc3)]).length = A.length + 1 by simp] at h
      exact h
     have HG2 : Hid _ := hg2
     clear ho2 hg2 o1 r1
     go_roundg (L - k)
     case measure => omega
     case rel =>
      refine ⟨o + k, (L - k), _, _, a2, _, c2, rfl, ?_, rfl, by omega, by omega, fun hpos => ?_, ?_, A ++ [⟨q, r, o, k⟩], HO2.out, ?_⟩
      ·rw [show off + (o + k) = X + k by omega]; rfl
      ·first
        | (exfalso; omega)
        | exact ⟨by rw [show o0 + (o + k) = o0 + o + k by omega], by omega⟩
      ·refine tgrown_below B1.out HG2.out ?_ B1.out.size
       intro g hg
       rcases HO3.out.2 with ⟨e, _⟩ | ⟨g', cap', cur, e, hb', _⟩
       ·rw [e] at hg; cases hg
       ·rw [e] at hg; cases hg; exact hb'
      ·rw [show off + (o + k) = X + k by omega, List.append_assoc]
       exact HA.out
  ·obtain rfl : L = 0 := by omega
   obtain ⟨h1, h2, A, h3, h4⟩ := HW.out
   have e0 : pcsF n o X 0 = [] := by cases n <;> rfl
   rw [e0, List.append_nil] at h4
   subst h4
   have hnn : pn = A.length := by
    obtain ⟨a', c', e⟩ := row_slice h3
    simp only [Value.slice.injEq] at e
    exact e.2.1
   subst hnn
   have HO : Hid _ := h3
   have HB : Hid _ := h2
   clear h3 h2 h1 HW e0
   go_wp2
   go_ret
   exact ⟨pa, pc, rfl, HO.out, HB.out⟩
end Go.Proofs.YtiplhhaehbjghaaGreat
