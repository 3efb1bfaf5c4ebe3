/- VwRv, VwRef3: in one text. -/
import Derived.Test.YtiplhhaehbjghaaGreatM1
import Derived.Test.YtiplhhaehbjghaaGreatDG
import Derived.Test.YtiplhhaehbjghaaGreatVR
namespace Go.Proofs.YtiplhhaehbjghaaGreat
open Go.RowKit
set_option linter.unusedVariables false
set_option maxHeartbeats 32000000
set_option maxRecDepth 100000
set_option linter.unusedSimpArgs false
structure RvAt (w : World) (v : Nat) (a : Option Addr) (len cap q : Nat) : Prop where
 row : w.heap[v]? = some (.cells #[.slice a len cap, .pointer (some ⟨q, 0, none⟩)] 108 (0, 0))
theorem RvAt.lt {w : World} {v : Nat} {a : Option Addr} {len cap q : Nat} (h : RvAt w v a len cap q) : v < w.heap.size := (Array.getElem?_eq_some_iff.1 h.row).1
theorem RvAt.below {w w' : World} {v : Nat} {a : Option Addr} {len cap q : Nat} (h : RvAt w v a len cap q) (hb : Below w.heap.size w w') : RvAt w' v a len cap q := ⟨(hb.block v h.lt).trans h.row⟩
theorem RvAt.c0 {w : World} {v : Nat} {a : Option Addr} {len cap q : Nat} (h : RvAt w v a len cap q) : w.cell? ⟨v, 0, none⟩ = some (.slice a len cap) := by rw [cell_of_row _ _ _ _ _ (0, 0) h.row]; rfl
theorem RvAt.c1 {w : World} {v : Nat} {a : Option Addr} {len cap q : Nat} (h : RvAt w v a len cap q) : w.cell? ⟨v, 1, none⟩ = some (.pointer (some ⟨q, 0, none⟩)) := by rw [cell_of_row _ _ _ _ _ (0, 0) h.row]; rfl
structure Xd (w : World) (q : Nat) (s : Dl) (xs : List Cg) (v : Value) : Prop where
 x : XdAt w q v s.most xs
 r : Rel s xs
 ok : DlOk s
theorem Xd.below {w w' : World} {q : Nat} {s : Dl} {xs : List Cg} {v : Value} (h : Xd w q s xs v) (hb : Below w.heap.size w w') : Xd w' q s xs v := ⟨h.x.below hb, h.r, h.ok⟩
theorem Xd.keep {w w' : World} {q : Nat} {s : Dl} {xs : List Cg} {v : Value} (h : Xd w q s xs v) (hs : w.heap.size ≤ w'.heap.size) (hp : w'.heap[q]? = w.heap[q]?) (hv : ∀ g, v.ownBlock = some g → w'.heap[g]? = w.heap[g]?) : Xd w' q s xs v := ⟨h.x.keep hs hp hv, h.r, h.ok⟩
theorem Xd.xget {w : World} {q : Nat} {s : Dl} {xs : List Cg} {v : Value} (h : Xd w q s xs v) (z : Pl) (hz : PlOk z) : Calls Tryz.prog 103 #[.pointer (some ⟨q, 0, none⟩), plV z] w fun e w' => e = .returned (.tuple #[.agg (cgC (wasX s z)), .bool (isX s z)]) ∧ Below w.heap.size w w' := by
 have := xget_any h.x z hz
 rw [← h.r.now z] at this
 exact this
theorem Xd.put {w : World} {q : Nat} {s : Dl} {xs : List Cg} {v : Value} (h : Xd w q s xs v) (c : Cg) (hc : CgOk c) (hm : s.pus.length ≤ 5000) (hL : s.L.length ≤ 5000) : Calls Tryz.prog 90 #[.pointer (some ⟨q, 0, none⟩), .agg (cgC c)] w fun e w' =>
  e = .returned (.int .i64 (putX s c).2) ∧ ∃ xs' v', Xd w' q (putS s c) xs' v' ∧ KeepX q w w' ∧ (∀ k, v'.ownBlock = some k → v.ownBlock = some k ∨ w.heap.size ≤ k) := by
 refine (xput_any h.x h.r h.ok rfl (by rw [h.r.len]; exact hm) hL c hc).mono ?_
 rintro e w' ⟨rfl, v', h1, h2, h3⟩
 by_cases h0 : (putX s c).2 = 0
 ·rw [if_pos h0] at h1
  refine ⟨rfl, xs ++ [c], v', ⟨?_, h.r.put h.ok hc h0, putS_ok h.ok hc⟩, h2, h3⟩
  rw [show (putS s c).most = s.most by unfold putS; rw [if_pos h0]]
  exact h1
 ·rw [if_neg h0] at h1
  rw [show putS s c = s by unfold putS; rw [if_neg h0]]
  exact ⟨rfl, xs, v', ⟨h1, h.r, h.ok⟩, h2, h3⟩
structure RgS (w1 : World) (G : Nat) (c : Cg) (W : World) : Prop where
 bel : Below w1.heap.size w1 W
 cg : CgAt W G c
 it : ∃ y, y.bytes.length = 32 ∧ ItAt 130 W w1.heap.size y
theorem rget_any {w : World} {v q : Nat} {s : Dl} {xs : List Cg} {vq : Value} {a : Option Addr} {len cap : Nat} {l : List (ByteArray × ByteArray)} (hv : RvAt w v a len cap q) (hl : RdK w a len cap l) (hD : Xd w q s xs vq) (z : Pl) (hz : PlOk z) : Calls Tryz.prog 111 #[.pointer (some ⟨v, 0, none⟩), plV z] w fun e w' =>
  e = .returned (.tuple #[.agg (itC (refG l s z).1), .bool (refG l s z).2.1, .int .i64 (refG l s z).2.2]) ∧ Below w.heap.size w w' := by
 have hzR := zeroItemR
 have hzC := zeroCg
 have len0 := ch_zero.1
 have lenc : cg0.pt.bytes.length = 32 := cg0_ok.pt.ch.1
 have al : ∀ (A : World) (o : Obj), Below A.heap.size A (A.alloc o) := fun A o => (Below.refl _ A).alloc (Nat.le_refl _) o
 have hq1 := PlAt.laid w z
 have hb1 := al w (.cells (plCells z) 114)
 obtain ⟨w1, hw1⟩ : ∃ w1, w.alloc (.cells (plCells z) 114) = w1 := ⟨_, rfl⟩
 rw [hw1] at hq1 hb1
 have hi2 := ItAt.laid 130 w1 it0
 have hb2 := al w1 (.cells (itC it0) 130)
 obtain ⟨w2, hw2⟩ : ∃ w2, w1.alloc (.cells (itC it0) 130) = w2 := ⟨_, rfl⟩
 rw [hw2] at hi2 hb2
 have hB2 := thenB hb1 hb2
 have hq2 := hq1.below hb2
 have lp2 : Hid _ := hq2.loadG
 have HLE : Hid (w.heap.size ≤ w1.heap.size) := hb1.size
 have HL12 : Hid (w1.heap.size < w2.heap.size) := hi2.lt
 have ck := refCheck_any w2 z hz
 rw [show plV z = .agg (plCells z) from rfl] at ck lp2 ⊢
 have hsok := hD.ok
 have HXL : Hid ((wasX s z).pt.bytes.length = 32) := (getL_ok hsok.L z).pt.ch.1
 have HXO : Hid (CgOk (wasX s z)) := getL_ok hsok.L z
 have HE : Hid (refG l s z = if plOk z then refT l z (wasX s z) (isX s z) else (it0, false, 30)) := rfl
 generalize refG l s z = R at *
 go_enter Tryz.func111, Tryz.ntmps111
 go_wp2_with (refine wpList_loadG rfl 114 _ rfl _ rfl _ lp2.out ?_)
 refine ck.mono ?_
 rintro e w3 ⟨rfl, hb3⟩
 clear ck lp2
 have HB3 : Hid (Below w1.heap.size w1 w3) := hb2.trans (hb3.mono hb2.size)
 have hi3 := hi2.below hb3
 have HI3 : Hid _ := hi3
 have HW3 : Hid (w2.heap.size ≤ w3.heap.size) := hb3.size
 cases hk : plOk z
 ·have HP : Hid (plE z = 30) := by unfold Hid plE; rw [hk]; rfl
  rw [HP.out]
  go_wp2_with (first | (refine wpList_buildBy rfl 130 _ rfl _ rfl [] (by kernel_rfl) (itC it0) built_zeroR ?_) | (refine wpList_storeR rfl _ _ rfl w1.heap.size it0 it0 rfl rfl len0 len0 hi3 ?_))
  exact ret_itemR3 rfl w1.heap.size it0 len0 rfl _ rfl _ rfl (HI3.out.setRow _) rfl ⟨by rw [HE.out, hk]; rfl, below_setRow (thenB hB2 hb3) HLE.out _⟩
 ·have HP : Hid (plE z = 0) := by unfold Hid plE; rw [hk]; rfl
  have HK : Hid (plOk z = true) := hk
  clear hk
  rw [HP.out]
  have qv1 : ∀ W, Below w3.heap.size w3 W → W.cell? ⟨v, 1, none⟩ = some (.pointer (some ⟨q, 0, none⟩)) := fun W hW => (hv.below (thenB (thenB hB2 hb3) hW)).c1
  have qp : ∀ W, Below w3.heap.size w3 W → (Instr.loadAt 114 (.pointer (some ⟨w.heap.size, 0, none⟩))).run Tryz.prog W = .ok (.agg (plCells z)) W := fun W hW => ((hq2.below hb3).below hW).loadG
  have cx : ∀ W, Below w3.heap.size w3 W → Calls Tryz.prog 103 #[.pointer (some ⟨q, 0, none⟩), .agg (plCells z)] W fun e w' => e = .returned (.tuple #[.agg (cgC (wasX s z)), .bool (isX s z)]) ∧ Below W.heap.size W w' := fun W hW => (hD.below (thenB (thenB hB2 hb3) hW)).xget z hz
  have QS : Hid (∀ W, Below w1.heap.size w1 W → W.cell? ⟨v, 0, none⟩ = some (.slice a len cap)) := fun W hW => (hv.below (thenB hb1 hW)).c0
  have QP : Hid (∀ W, Below w1.heap.size w1 W → (Instr.loadAt 114 (.pointer (some ⟨w.heap.size, 0, none⟩))).run Tryz.prog W = .ok (.agg (plCells z)) W) := fun W hW => (hq1.below hW).loadG
  have QA : Hid (∀ W, Below w1.heap.size w1 W → Calls Tryz.prog 157 #[.slice a len cap, .agg (plCells z), .agg (cgC (wasX s z)), .bool (isX s z)] W fun e w' => e = .returned (.tuple #[.agg (itC (refT l z (wasX s z) (isX s z)).1), .bool (refT l z (wasX s z) (isX s z)).2.1, .int .i64 (refT l z (wasX s z) (isX s z)).2.2]) ∧ Below W.heap.size W w') := fun W hW => at_any W a len cap l (hl.below (thenB hb1 hW)) z hz HK.out (wasX s z) HXO.out (isX s z)
  have HTL : Hid ((refT l z (wasX s z) (isX s z)).1.bytes.length = 32) := by
   unfold Hid refT
   repeat' split
   all_goals (first | exact refW_len len0 _ _ | exact len0 | exact refW_len (stI_ok l z).ch.1 _ _ | exact (stI_ok l z).ch.1)
  have HB1 : Hid _ := hb1
  rw [HK.out, if_pos rfl] at HE
  generalize refT l z (wasX s z) (isX s z) = T at *
  generalize isX s z = is at *
  generalize wasX s z = c at *
  clear hq1 hq2 hi2 hb2 hB2 hb3 hi3 hb1 hD hv hl hsok
  go_upto_region 4 with fail
  go_cut [8, 9] from 16 to 24 (fun t8 t9 wx => ∃ G, t8 = .pointer (some ⟨G, 0, none⟩) ∧ t9 = .bool is ∧ Hid (CgAt wx G c) ∧ Hid (w3.heap.size ≤ G) ∧ Hid (Below w3.heap.size w3 wx))
  case first =>
   clear QS QP QA
   go_wp2_with fail
   refine wp_region_noPanic ?_
   refine wp_region_held_drew (S := fun W => Below w3.heap.size w3 W) (by kernel_rfl) (Below.refl _ _).drew (fun hHeld => ?_)
   refine tk 0 (.pointer (some ⟨v, 0, none⟩)) rfl ?_
   try simp only [nz]
   refine tk 1 (.pointer (some ⟨v, 0, none⟩)) rfl ?_
   try simp only [nz]
   refine tk 2 (.pointer (some ⟨v, 1, none⟩)) rfl ?_
   try simp only [nz]
   refine tk 3 (.pointer (some ⟨q, 0, none⟩)) rfl ?_ (fun W hSw => by (try dsimp only at hSw); (have z := qv1 W hSw; go_simp))
   try simp only [nz]
   refine wpAnyH_take (i := 4) (v := .agg (plCells z)) rfl (by kernel_rfl) (by kernel_rfl) (by kernel_rfl) (fun _ _ _ h => h) (yields_load (by rfl) _ _ rfl _ rfl _ qp) (by assumption) ?_
   try simp only [nz]
   refine wpAnyH_ready (rs := [5, 9]) (by kernel_rfl) (by simp) ?_
   refine AllReadyH.cons rfl (fun K hK => ?_) (AllReadyH.cons rfl (fun K hK => ?_) AllReadyH.nil)
   ·go_simp
    go_wp2_with (go_at_call 103; refine (cx _ (by assumption)).mono ?_; rintro e w5 ⟨rfl, hb5⟩)
    refine hK.out _ _ (hHeld.trans (hb5.mono hHeld.size)) (fun hHeld2 => ?_)
    clear hK K
    try simp only [nz]
    refine tk 6 (.tuple #[.agg (cgC c), .bool is]) rfl ?_
    try simp only [nz]
    refine tk 7 (.agg (cgC c)) rfl ?_
    try simp only [nz]
    refine tk 8 (.bool is) rfl ?_
    try simp only [nz]
    refine rd 9 rfl (fun K hK => ?_)
    go_simp
    go_wp2
    have hat := CgAt.laid w5 cg0
    have HGE : Hid (w3.heap.size ≤ w5.heap.size) := hHeld2.size
    have hb6 := al w5 (.cells (cgC cg0) 119)
    obtain ⟨G, hG⟩ : ∃ G, w5.heap.size = G := ⟨_, rfl⟩
    refine hK.out _ _ (hHeld2.trans (hb6.mono hHeld2.size)) (fun hHeld3 => ?_)
    clear hK K
    try simp only [nz]
    obtain ⟨w6, hw6⟩ : ∃ w6, w5.alloc (.cells (cgC cg0) 119) = w6 := ⟨_, rfl⟩
    rw [hw6] at hat hHeld3 ⊢
    rw [hG] at hat HGE ⊢
    clear hb6 hw6 hb5 hHeld2 hG
    refine rd 10 rfl (fun K hK => ?_)
    rw [if_pos (by rfl)]
    refine wp_stC _ _ rfl G c cg0 rfl rfl HXL.out lenc hat ?_
    have HB7 : Hid (Below w3.heap.size w3 (w6.setRow G (cgC c))) := below_setRow hHeld3 HGE.out _
    have HA7 : Hid _ := hat.setRow c
    refine hK.out _ _ HB7.out (fun hHeld4 => ?_)
    clear hK K
    try simp only [nz]
    refine tk 11 (.bool is) rfl ?_
    try simp only [nz]
    refine wpAnyH_done (by kernel_rfl) ?_ _
    refine NoPanic.normal ?_
    clear hHeld hHeld3 hHeld4
    go_wp2_with fail
    go_meet
    case rel => exact ⟨G, rfl, rfl, HA7, HGE, HB7⟩
   ·go_simp
    go_wp2
    have hat : CgAt (w3.alloc (.cells (cgC cg0) 119)).drew w3.heap.size cg0 := (CgAt.laid w3 cg0).below (Below.refl _ _).drew
    have hb6 : Below w3.heap.size w3 (w3.alloc (.cells (cgC cg0) 119)).drew := (al w3 _).drew
    refine hK.out _ _ hb6 (fun hHeld2 => ?_)
    clear hK K
    try simp only [nz]
    obtain ⟨w6, hw6⟩ : ∃ w6, (w3.alloc (.cells (cgC cg0) 119)).drew = w6 := ⟨_, rfl⟩
    rw [hw6] at hat hHeld2 ⊢
    clear hw6 hb6 hHeld
    refine rd 5 rfl (fun K hK => ?_)
    go_simp
    go_wp2_with (go_at_call 103; refine (cx _ (by assumption)).mono ?_; rintro e w5 ⟨rfl, hb5⟩)
    have hat5 := hat.below hb5
    refine hK.out _ _ (hHeld2.trans (hb5.mono hHeld2.size)) (fun hHeld3 => ?_)
    clear hK K hat hb5 hHeld2
    try simp only [nz]
    refine tk 6 (.tuple #[.agg (cgC c), .bool is]) rfl ?_
    try simp only [nz]
    refine tk 7 (.agg (cgC c)) rfl ?_
    try simp only [nz]
    refine tk 8 (.bool is) rfl ?_
    try simp only [nz]
    refine rd 10 rfl (fun K hK => ?_)
    rw [if_pos (by rfl)]
    refine wp_stC _ _ rfl w3.heap.size c cg0 rfl rfl HXL.out lenc hat5 ?_
    have HB7 : Hid (Below w3.heap.size w3 (w5.setRow w3.heap.size (cgC c))) := below_setRow hHeld3 (Nat.le_refl _) _
    have HA7 : Hid _ := hat5.setRow c
    refine hK.out _ _ HB7.out (fun hHeld4 => ?_)
    clear hK K
    try simp only [nz]
    refine tk 11 (.bool is) rfl ?_
    try simp only [nz]
    refine wpAnyH_done (by kernel_rfl) ?_ _
    refine NoPanic.normal ?_
    clear hHeld3 hHeld4
    go_wp2_with fail
    go_meet
    case rel => exact ⟨w3.heap.size, rfl, rfl, HA7, Nat.le_refl _, HB7⟩
  case rest =>
   obtain ⟨G, rfl, rfl, HG, HGE, HBC⟩ := hcut
   have qs := QS.out
   have qa := QA.out
   have HNE : Hid (G ≠ w1.heap.size) := by unfold Hid; have := HGE.out; have := HW3.out; have := HL12.out; omega
   have HS0 : Hid (RgS w1 G c wc) := ⟨HB3.out.trans (HBC.out.mono HB3.out.size), HG.out, it0, len0, HI3.out.below HBC.out⟩
   clear qv1 qp cx HG HBC QS QA
   go_wp2_with fail
   refine wp_region_noPanic ?_
   refine wp_region_held_drew (S := fun W => RgS w1 G c W) (by kernel_rfl) ⟨HS0.out.bel.drew, HS0.out.cg.drew, by obtain ⟨y, h1, h2⟩ := HS0.out.it; exact ⟨y, h1, h2.below (Below.refl _ _).drew⟩⟩ (fun hHeld => ?_)
   refine tk 0 (.pointer (some ⟨v, 0, none⟩)) rfl ?_
   try simp only [nz]
   refine tk 1 (.pointer (some ⟨v, 0, none⟩)) rfl ?_
   try simp only [nz]
   refine tk 2 (.pointer (some ⟨v, 0, none⟩)) rfl ?_
   try simp only [nz]
   refine tk 3 (.slice a len cap) rfl ?_ (fun W hSw => by (try dsimp only at hSw); (have z := qs W hSw.bel; go_simp))
   try simp only [nz]
   refine wpAnyH_take (i := 4) (v := .agg (plCells z)) rfl (by kernel_rfl) (by kernel_rfl) (by kernel_rfl) (fun _ _ _ h => h) (yields_load (by rfl) _ _ rfl _ rfl _ (fun W hW => QP.out W hW.bel)) (by assumption) ?_
   try simp only [nz]
   refine wpAnyH_take (i := 5) (v := .agg (cgC c)) rfl (by kernel_rfl) (by kernel_rfl) (by kernel_rfl) (fun _ _ _ h => h) (yields_load (by rfl) _ _ rfl _ rfl _ (fun W hW => hW.cg.load HXL.out)) (by assumption) ?_
   try simp only [nz]
   refine tk 6 (.bool is) rfl ?_
   try simp only [nz]
   refine rd 7 rfl (fun K hK => ?_)
   go_simp
   go_wp2_with (go_at_call 157; refine (qa _ (RgS.bel (by assumption))).mono ?_; rintro e w5 ⟨rfl, hb5⟩)
   obtain ⟨y, hy1, hy2⟩ := hHeld.it
   have hcg5 := hHeld.cg.below hb5
   have hb15 := hHeld.bel.trans (hb5.mono hHeld.bel.size)
   have hit5 := hy2.below hb5
   refine hK.out _ _ ⟨hb15, hcg5, y, hy1, hit5⟩ (fun hHeld2 => ?_)
   clear hK K
   try simp only [nz]
   refine tk 8 (.agg (itC T.1)) rfl ?_
   try simp only [nz]
   refine tk 9 (.bool T.2.1) rfl ?_
   try simp only [nz]
   refine tk 10 (.int .i64 T.2.2) rfl ?_
   try simp only [nz]
   refine rd 11 rfl (fun K hK => ?_)
   rw [if_pos (by rfl)]
   refine wp_stR _ _ rfl w1.heap.size T.1 y rfl rfl HTL.out hy1 hit5 ?_
   have HB7 : Hid (Below w1.heap.size w1 (w5.setRow w1.heap.size (itC T.1))) := below_setRow hb15 (Nat.le_refl _) _
   have HA7 : Hid _ := hit5.setRow T.1
   refine hK.out _ _ ⟨HB7.out, hcg5.apartR _ _ HNE.out, T.1, HTL.out, HA7.out⟩ (fun hHeld4 => ?_)
   clear hK K
   try simp only [nz]
   refine tk 12 (.bool T.2.1) rfl ?_
   try simp only [nz]
   refine tk 13 (.int .i64 T.2.2) rfl ?_
   try simp only [nz]
   refine wpAnyH_done (by kernel_rfl) ?_ _
   refine NoPanic.normal ?_
   clear hHeld hHeld2 hHeld4
   go_wp2_with fail
   exact ret_itemR3 rfl w1.heap.size T.1 HTL.out rfl _ rfl _ rfl HA7.out rfl ⟨by rw [HE.out]; rfl, thenB HB1.out HB7.out⟩
end Go.Proofs.YtiplhhaehbjghaaGreat
