/- VwRef2, VwRef3: in one text. -/
import Derived.Test.YtjlglnhmkheidaaGreatN4
import Derived.Test.YtjlglnhmkheidaaGreatV9
import Derived.Test.YtjlglnhmkheidaaGreatN2
namespace Go.Proofs.YtjlglnhmkheidaaGreat
open Go.RowKit
set_option linter.unusedVariables false
set_option linter.unusedSimpArgs false
set_option maxRecDepth 4000

set_option maxRecDepth 100000

theorem wp_stR {w : World} {o : Oper} {a : Act} {K : Act → World → Prop} {Q : Exit → Act → World → Prop} (x y : Operand) (ho : o.op = .store 49 x y) (g : Nat) (z old : It) (hx : a.eval x = .pointer (some ⟨g, 0, none⟩)) (hy : a.eval y = .agg (itC z)) (hz : z.bytes.length = 32) (hold : old.bytes.length = 32) (hat : ItAt 49 w g old)
    (h : K (a.put o.dst undef) (w.setRow g (itC z))) : o.wp Tryz.prog a w K Q :=
  wp_store_row 49 x y ho g (itC z) hx hy 49 (itC old) hat.row (by rw [itC_size hz]; exact size_itemR) (by rw [itC_size hz, itC_size hold]) (one_item z) h
theorem refW_len {x : It} (hx : x.bytes.length = 32) (is : Bool) (c : Cg) : (refW x is c).1.bytes.length = 32 := by
  have h0 : zeroC.length = 32 := ch_zero.1
  unfold refW leadI laidI freshI
  repeat' split
  all_goals (first | exact h0 | exact layB_len _ _ | exact hx)
theorem st_err {l : List (ByteArray × ByteArray)} {q : Pl} (h : stE l q ≠ 0) : stI l q = it0 ∧ stB l q = false := by
  have e : stB l q = false := by
    unfold stB
    unfold stE at h
    cases hk : plOk q
    · rfl
    · cases hf : fdB l (keyS q)
      · rfl
      · rw [hk, hf] at h
        simp only [if_true] at h
        simp [h]
  exact ⟨by unfold stI; rw [e]; rfl, e⟩

set_option maxHeartbeats 8000000 in
theorem based_any (w : World) (a : Option Addr) (len cap : Nat) (l : List (ByteArray × ByteArray)) (hl : RdK w a len cap l) (p : Pl) (hp : PlOk p) (hk : plOk p = true) : Calls Tryz.prog 69 #[.slice a len cap, plV p] w fun e w' =>
    e = .returned (.tuple #[.agg (itC (stI l p)), .bool (stB l p), .int .i64 (stE l p)]) ∧ Below w.heap.size w w' := by
  have hzR := zeroItemR
  have len0 := ch_zero.1
  have al : ∀ (A : World) (o : Obj), Below A.heap.size A (A.alloc o) := fun A o => (Below.refl _ A).alloc (Nat.le_refl _) o
  have HP : Hid (plE p = 0) := by unfold Hid plE; rw [hk]; rfl
  have HK : Hid (plOk p = true) := hk
  clear hk
  have hq1 := PlAt.laid w p
  have hb1 := al w (.cells (plCells p) 26)
  obtain ⟨w1, hw1⟩ : ∃ w1, w.alloc (.cells (plCells p) 26) = w1 := ⟨_, rfl⟩
  rw [hw1] at hq1 hb1
  have hi2 := ItAt.laid 49 w1 it0
  have hb2 := al w1 (.cells (itC it0) 49)
  obtain ⟨w2, hw2⟩ : ∃ w2, w1.alloc (.cells (itC it0) 49) = w2 := ⟨_, rfl⟩
  rw [hw2] at hi2 hb2
  have hB2 := thenB hb1 hb2
  have hq2 := hq1.below hb2
  have lp2 : Hid _ := hq2.loadG
  have ck := refKey_any w2 p hp
  rw [HP.out] at ck
  rw [show plV p = .agg (plCells p) from rfl] at ck lp2 ⊢
  go_enter Tryz.func69, Tryz.ntmps69
  go_wp2_with (refine wpList_loadG rfl 26 _ rfl _ rfl _ lp2.out ?_)
  refine ck.mono ?_
  rintro e w3 ⟨rfl, hb3⟩
  clear ck lp2
  have hB3 := thenB hB2 hb3
  have cf := find_any w3 a len cap l (hl.below hB3) (keyS p)
  go_wp2_with fail
  refine cf.mono ?_
  rintro e wf ⟨rfl, hbf⟩
  clear cf
  have HBf : Hid _ := thenB hB3 hbf
  have HIf : Hid _ := (hi2.below hb3).below hbf
  have HQf : Hid _ := (hq2.below hb3).below hbf
  have HLE : Hid (w.heap.size ≤ w1.heap.size) := hb1.size
  clear hi2 hq2 hq1 hb1 hb2 hB2 hb3 hB3 hbf hw1 hw2
  obtain ⟨rb, hrb⟩ : ∃ rb, w1.heap.size = rb := ⟨_, rfl⟩
  rw [hrb] at HIf HLE ⊢
  clear hrb
  obtain ⟨fb, hfb⟩ : ∃ fb, fdB l (keyS p) = fb := ⟨_, rfl⟩
  obtain ⟨fn, hfn⟩ : ∃ fn, fdN l (keyS p) = fn := ⟨_, rfl⟩
  have HFB : Hid (fdB l (keyS p) = fb) := hfb
  have HFN : Hid (fdN l (keyS p) = fn) := hfn
  rw [hfb, hfn]
  clear hfb hfn
  cases fb
  · obtain ⟨q1, q2, q3⟩ := st_none HK.out HFB.out
    have Q : Hid _ := And.intro q1 (And.intro q2 q3)
    clear q1 q2 q3
    have hif := HIf.out
    go_wp2_with (first | (refine wpList_buildBy rfl 49 _ rfl _ rfl [] (by kernel_rfl) (itC it0) built_zeroR ?_) | (refine wpList_storeR rfl _ _ rfl rb it0 it0 rfl rfl len0 len0 hif ?_))
    exact ret_itemR3 rfl rb it0 len0 rfl _ rfl _ rfl (HIf.out.setRow _) rfl ⟨by rw [Q.out.1, Q.out.2.1, Q.out.2.2]; rfl, below_setRow HBf.out HLE.out _⟩
  · obtain ⟨q1, q2, q3⟩ := stI_dec HK.out HFB.out
    obtain ⟨pr, hpr, _⟩ := fdB_lt HFB.out
    have hvs : valS l (keyS p) = pr.2 := by unfold valS; rw [HFB.out, if_pos rfl, List.getD_eq_getElem?_getD, hpr]; rfl
    rw [hvs] at q1 q2 q3
    have Q : Hid _ := And.intro q1 (And.intro q2 q3)
    clear q1 q2 q3 hvs
    rw [HFN.out] at hpr
    have hlt := (List.getElem?_eq_some_iff.1 hpr).1
    obtain ⟨hll, hnc, hcm, hI⟩ := hl
    obtain ⟨bk, off, rfl, hbk, hcs⟩ := hI (by omega)
    have hrv := (hcs _ _ hpr).2
    have qp : ∀ W, Below wf.heap.size wf W → W.cell? ⟨w.heap.size, 1, none⟩ = some (.int .i64 p.part) := fun W hW => (HQf.out.below hW).c1
    have qv : ∀ W, Below wf.heap.size wf W → W.cell? ⟨bk, off + fn * 2 + 1, none⟩ = some (.string pr.2) := fun W hW => ((thenB HBf.out hW).cell (p := ⟨bk, off + fn * 2 + 1, none⟩) hbk).trans hrv
    have hltI : (fn : Int) < len := by omega
    unfold maxLen at hcm
    clear hI hcs hrv hpr
    have HDL : Hid ((decI p.part pr.2).bytes.length = 32) := (decI_ok p.part pr.2).ch.1
    obtain ⟨di, hdi⟩ : ∃ di, decI p.part pr.2 = di := ⟨_, rfl⟩
    obtain ⟨de, hde⟩ : ∃ de, decE p.part pr.2 = de := ⟨_, rfl⟩
    have cd : ∀ W, Calls Tryz.prog 28 #[.int .i64 p.part, .string pr.2] W fun e w' => e = .returned (.tuple #[.agg (itC di), .int .i64 de]) ∧ Below W.heap.size W w' := fun W => by rw [← hdi, ← hde]; exact refDec_any W p.part pr.2
    rw [hdi, hde] at Q
    rw [hdi] at HDL
    clear hdi hde
    go_upto_region 5 with fail
    go_cut [11, 12] from 27 to 37 (fun t11 t12 wx => ∃ G, t11 = .pointer (some ⟨G, 0, none⟩) ∧ t12 = .int .i64 de ∧ Hid (ItAt 49 wx G di) ∧ Hid (Below wf.heap.size wf wx))
    case first =>
      go_wp2_with fail
      refine wp_region_noPanic ?_
      refine wp_region_held_drew (S := fun W => Below wf.heap.size wf W) (by kernel_rfl) (Below.refl _ _).drew (fun hHeld => ?_)
      refine wpAnyH_take (i := 0) (v := .pointer (some ⟨w.heap.size, 1, none⟩)) rfl (by kernel_rfl) (by kernel_rfl) (by kernel_rfl) (fun _ _ _ h => h) (Or.inl ⟨by rfl, fun W hSw => by (try dsimp only at hSw); go_simp⟩) (by assumption) ?_
      try simp only [List.getElem_toArray, List.getElem_cons_zero, List.getElem_cons_succ, Act.put, List.setIfInBounds_toArray, List.set_cons_zero, List.set_cons_succ]
      refine wpAnyH_take (i := 1) (v := .int .i64 p.part) rfl (by kernel_rfl) (by kernel_rfl) (by kernel_rfl) (fun _ _ _ h => h) (Or.inl ⟨by rfl, fun W hSw => by (try dsimp only at hSw); (have z := qp W hSw; go_simp)⟩) (by assumption) ?_
      try simp only [List.getElem_toArray, List.getElem_cons_zero, List.getElem_cons_succ, Act.put, List.setIfInBounds_toArray, List.set_cons_zero, List.set_cons_succ]
      refine wpAnyH_take (i := 2) (v := .slice (some ⟨bk, off, none⟩) len cap) rfl (by kernel_rfl) (by kernel_rfl) (by kernel_rfl) (fun _ _ _ h => h) (Or.inl ⟨by rfl, fun W hSw => by (try dsimp only at hSw); go_simp⟩) (by assumption) ?_
      try simp only [List.getElem_toArray, List.getElem_cons_zero, List.getElem_cons_succ, Act.put, List.setIfInBounds_toArray, List.set_cons_zero, List.set_cons_succ]
      refine wpAnyH_take (i := 3) (v := .int .i64 fn) rfl (by kernel_rfl) (by kernel_rfl) (by kernel_rfl) (fun _ _ _ h => h) (Or.inl ⟨by rfl, fun W hSw => by (try dsimp only at hSw); go_simp⟩) (by assumption) ?_
      try simp only [List.getElem_toArray, List.getElem_cons_zero, List.getElem_cons_succ, Act.put, List.setIfInBounds_toArray, List.set_cons_zero, List.set_cons_succ]
      refine wpAnyH_take (i := 4) (v := .pointer (some ⟨bk, off + fn * 2, none⟩)) rfl (by kernel_rfl) (by kernel_rfl) (by kernel_rfl) (fun _ _ _ h => h) (Or.inl ⟨by rfl, fun W hSw => by (try dsimp only at hSw); go_simp⟩) (by assumption) ?_
      try simp only [List.getElem_toArray, List.getElem_cons_zero, List.getElem_cons_succ, Act.put, List.setIfInBounds_toArray, List.set_cons_zero, List.set_cons_succ]
      refine wpAnyH_take (i := 5) (v := .pointer (some ⟨bk, off + fn * 2 + 1, none⟩)) rfl (by kernel_rfl) (by kernel_rfl) (by kernel_rfl) (fun _ _ _ h => h) (Or.inl ⟨by rfl, fun W hSw => by (try dsimp only at hSw); go_simp⟩) (by assumption) ?_
      try simp only [List.getElem_toArray, List.getElem_cons_zero, List.getElem_cons_succ, Act.put, List.setIfInBounds_toArray, List.set_cons_zero, List.set_cons_succ]
      refine wpAnyH_take (i := 6) (v := .string pr.2) rfl (by kernel_rfl) (by kernel_rfl) (by kernel_rfl) (fun _ _ _ h => h) (Or.inl ⟨by rfl, fun W hSw => by (try dsimp only at hSw); (have z := qv W hSw; go_simp)⟩) (by assumption) ?_
      try simp only [List.getElem_toArray, List.getElem_cons_zero, List.getElem_cons_succ, Act.put, List.setIfInBounds_toArray, List.set_cons_zero, List.set_cons_succ]
      refine wpAnyH_ready (rs := [7, 11]) (by kernel_rfl) (by simp) ?_
      refine AllReadyH.cons rfl (fun K hK => ?_) (AllReadyH.cons rfl (fun K hK => ?_) AllReadyH.nil)
      · go_simp
        go_wp2_with (go_at_call 28; refine (cd _).mono ?_; rintro e w5 ⟨rfl, hb5⟩)
        refine hK.out _ _ (hHeld.trans (hb5.mono hHeld.size)) (fun hHeld2 => ?_)
        clear hK K
        try simp only [List.getElem_toArray, List.getElem_cons_zero, List.getElem_cons_succ, Act.put, List.setIfInBounds_toArray, List.set_cons_zero, List.set_cons_succ]
        refine wpAnyH_take (i := 8) (v := .tuple #[.agg (itC di), .int .i64 de]) rfl (by kernel_rfl) (by kernel_rfl) (by kernel_rfl) (fun _ _ _ h => h) (Or.inl ⟨by rfl, fun W hSw => by (try dsimp only at hSw); go_simp⟩) (by assumption) ?_
        try simp only [List.getElem_toArray, List.getElem_cons_zero, List.getElem_cons_succ, Act.put, List.setIfInBounds_toArray, List.set_cons_zero, List.set_cons_succ]
        refine wpAnyH_take (i := 9) (v := .agg (itC di)) rfl (by kernel_rfl) (by kernel_rfl) (by kernel_rfl) (fun _ _ _ h => h) (Or.inl ⟨by rfl, fun W hSw => by (try dsimp only at hSw); go_simp⟩) (by assumption) ?_
        try simp only [List.getElem_toArray, List.getElem_cons_zero, List.getElem_cons_succ, Act.put, List.setIfInBounds_toArray, List.set_cons_zero, List.set_cons_succ]
        refine wpAnyH_take (i := 10) (v := .int .i64 de) rfl (by kernel_rfl) (by kernel_rfl) (by kernel_rfl) (fun _ _ _ h => h) (Or.inl ⟨by rfl, fun W hSw => by (try dsimp only at hSw); go_simp⟩) (by assumption) ?_
        try simp only [List.getElem_toArray, List.getElem_cons_zero, List.getElem_cons_succ, Act.put, List.setIfInBounds_toArray, List.set_cons_zero, List.set_cons_succ]
        refine wpAnyH_ready (rs := [11]) (by kernel_rfl) (by simp) ?_
        refine AllReadyH.cons rfl (fun K hK => ?_) AllReadyH.nil
        go_simp
        go_wp2
        have hat := ItAt.laid 49 w5 it0
        have HGE : Hid (wf.heap.size ≤ w5.heap.size) := hHeld2.size
        have hb6 := al w5 (.cells (itC it0) 49)
        obtain ⟨G, hG⟩ : ∃ G, w5.heap.size = G := ⟨_, rfl⟩
        refine hK.out _ _ (hHeld2.trans (hb6.mono hHeld2.size)) (fun hHeld3 => ?_)
        clear hK K
        try simp only [List.getElem_toArray, List.getElem_cons_zero, List.getElem_cons_succ, Act.put, List.setIfInBounds_toArray, List.set_cons_zero, List.set_cons_succ]
        obtain ⟨w6, hw6⟩ : ∃ w6, w5.alloc (.cells (itC it0) 49) = w6 := ⟨_, rfl⟩
        rw [hw6] at hat hHeld3 ⊢
        rw [hG] at hat HGE ⊢
        clear hb6 hw6 hb5 hHeld2 hG
        refine wpAnyH_ready (rs := [12]) (by kernel_rfl) (by simp) ?_
        refine AllReadyH.cons rfl (fun K hK => ?_) AllReadyH.nil
        rw [if_pos (by rfl)]
        refine wp_stR _ _ rfl G di it0 rfl rfl HDL.out len0 hat ?_
        have HB7 : Hid (Below wf.heap.size wf (w6.setRow G (itC di))) := below_setRow hHeld3 HGE.out _
        have HA7 : Hid _ := hat.setRow di
        refine hK.out _ _ HB7.out (fun hHeld4 => ?_)
        clear hK K
        try simp only [List.getElem_toArray, List.getElem_cons_zero, List.getElem_cons_succ, Act.put, List.setIfInBounds_toArray, List.set_cons_zero, List.set_cons_succ]
        refine wpAnyH_take (i := 13) (v := .int .i64 de) rfl (by kernel_rfl) (by kernel_rfl) (by kernel_rfl) (fun _ _ _ h => h) (Or.inl ⟨by rfl, fun W hSw => by (try dsimp only at hSw); go_simp⟩) (by assumption) ?_
        try simp only [List.getElem_toArray, List.getElem_cons_zero, List.getElem_cons_succ, Act.put, List.setIfInBounds_toArray, List.set_cons_zero, List.set_cons_succ]
        refine wpAnyH_done (by kernel_rfl) ?_ _
        refine NoPanic.normal ?_
        clear hHeld hHeld3 hHeld4
        go_wp2_with fail
        go_meet
        case rel => exact ⟨G, rfl, rfl, HA7, HB7⟩
      · go_simp
        go_wp2
        have hat : ItAt 49 (wf.alloc (.cells (itC it0) 49)).drew wf.heap.size it0 := (ItAt.laid 49 wf it0).below (Below.refl _ _).drew
        have hb6 : Below wf.heap.size wf (wf.alloc (.cells (itC it0) 49)).drew := (al wf _).drew
        refine hK.out _ _ hb6 (fun hHeld2 => ?_)
        clear hK K
        try simp only [List.getElem_toArray, List.getElem_cons_zero, List.getElem_cons_succ, Act.put, List.setIfInBounds_toArray, List.set_cons_zero, List.set_cons_succ]
        obtain ⟨w6, hw6⟩ : ∃ w6, (wf.alloc (.cells (itC it0) 49)).drew = w6 := ⟨_, rfl⟩
        rw [hw6] at hat hHeld2 ⊢
        clear hw6 hb6 hHeld
        refine wpAnyH_ready (rs := [7]) (by kernel_rfl) (by simp) ?_
        refine AllReadyH.cons rfl (fun K hK => ?_) AllReadyH.nil
        go_simp
        go_wp2_with (go_at_call 28; refine (cd _).mono ?_; rintro e w5 ⟨rfl, hb5⟩)
        have hat5 := hat.below hb5
        refine hK.out _ _ (hHeld2.trans (hb5.mono hHeld2.size)) (fun hHeld3 => ?_)
        clear hK K hat hb5 hHeld2
        try simp only [List.getElem_toArray, List.getElem_cons_zero, List.getElem_cons_succ, Act.put, List.setIfInBounds_toArray, List.set_cons_zero, List.set_cons_succ]
        refine wpAnyH_take (i := 8) (v := .tuple #[.agg (itC di), .int .i64 de]) rfl (by kernel_rfl) (by kernel_rfl) (by kernel_rfl) (fun _ _ _ h => h) (Or.inl ⟨by rfl, fun W hSw => by (try dsimp only at hSw); go_simp⟩) (by assumption) ?_
        try simp only [List.getElem_toArray, List.getElem_cons_zero, List.getElem_cons_succ, Act.put, List.setIfInBounds_toArray, List.set_cons_zero, List.set_cons_succ]
        refine wpAnyH_take (i := 9) (v := .agg (itC di)) rfl (by kernel_rfl) (by kernel_rfl) (by kernel_rfl) (fun _ _ _ h => h) (Or.inl ⟨by rfl, fun W hSw => by (try dsimp only at hSw); go_simp⟩) (by assumption) ?_
        try simp only [List.getElem_toArray, List.getElem_cons_zero, List.getElem_cons_succ, Act.put, List.setIfInBounds_toArray, List.set_cons_zero, List.set_cons_succ]
        refine wpAnyH_take (i := 10) (v := .int .i64 de) rfl (by kernel_rfl) (by kernel_rfl) (by kernel_rfl) (fun _ _ _ h => h) (Or.inl ⟨by rfl, fun W hSw => by (try dsimp only at hSw); go_simp⟩) (by assumption) ?_
        try simp only [List.getElem_toArray, List.getElem_cons_zero, List.getElem_cons_succ, Act.put, List.setIfInBounds_toArray, List.set_cons_zero, List.set_cons_succ]
        refine wpAnyH_ready (rs := [12]) (by kernel_rfl) (by simp) ?_
        refine AllReadyH.cons rfl (fun K hK => ?_) AllReadyH.nil
        rw [if_pos (by rfl)]
        refine wp_stR _ _ rfl wf.heap.size di it0 rfl rfl HDL.out len0 hat5 ?_
        have HB7 : Hid (Below wf.heap.size wf (w5.setRow wf.heap.size (itC di))) := below_setRow hHeld3 (Nat.le_refl _) _
        have HA7 : Hid _ := hat5.setRow di
        refine hK.out _ _ HB7.out (fun hHeld4 => ?_)
        clear hK K
        try simp only [List.getElem_toArray, List.getElem_cons_zero, List.getElem_cons_succ, Act.put, List.setIfInBounds_toArray, List.set_cons_zero, List.set_cons_succ]
        refine wpAnyH_take (i := 13) (v := .int .i64 de) rfl (by kernel_rfl) (by kernel_rfl) (by kernel_rfl) (fun _ _ _ h => h) (Or.inl ⟨by rfl, fun W hSw => by (try dsimp only at hSw); go_simp⟩) (by assumption) ?_
        try simp only [List.getElem_toArray, List.getElem_cons_zero, List.getElem_cons_succ, Act.put, List.setIfInBounds_toArray, List.set_cons_zero, List.set_cons_succ]
        refine wpAnyH_done (by kernel_rfl) ?_ _
        refine NoPanic.normal ?_
        clear hHeld3 hHeld4
        go_wp2_with fail
        go_meet
        case rel => exact ⟨wf.heap.size, rfl, rfl, HA7, HB7⟩
    case rest =>
      obtain ⟨G, rfl, rfl, HG, HBC⟩ := hcut
      have lg : Hid _ := HG.out.loadR HDL.out
      have hic := HIf.out.below HBC.out
      have HIC : Hid _ := hic
      by_cases h0 : de = 0
      · subst h0
        go_wp2_with (first | (refine wpList_loadG rfl 49 _ rfl _ rfl _ lg.out ?_) | (refine wpList_storeR rfl _ _ rfl rb di it0 rfl rfl HDL.out len0 hic ?_))
        exact ret_itemR3 rfl rb di HDL.out rfl _ rfl _ rfl (HIC.out.setRow _) rfl ⟨by rw [Q.out.1, Q.out.2.1, Q.out.2.2]; rfl, below_setRow (thenB HBf.out HBC.out) HLE.out _⟩
      · have h0b : (de == 0) = false := by simp [h0]
        go_wp2_with (first | (refine wpList_loadG rfl 49 _ rfl _ rfl _ lg.out ?_) | (refine wpList_storeR rfl _ _ rfl rb di it0 rfl rfl HDL.out len0 hic ?_))
        exact ret_itemR3 rfl rb di HDL.out rfl _ rfl _ rfl (HIC.out.setRow _) rfl ⟨by rw [Q.out.1, Q.out.2.1, Q.out.2.2, decide_eq_false h0]; rfl, below_setRow (thenB HBf.out HBC.out) HLE.out _⟩

set_option maxHeartbeats 8000000 in
theorem at_any (w : World) (a : Option Addr) (len cap : Nat) (l : List (ByteArray × ByteArray)) (hl : RdK w a len cap l) (p : Pl) (hp : PlOk p) (hk : plOk p = true) (c : Cg) (hc : CgOk c) (ch : Bool) : Calls Tryz.prog 38 #[.slice a len cap, plV p, .agg (cgC c), .bool ch] w fun e w' =>
    e = .returned (.tuple #[.agg (itC (refT l p c ch).1), .bool (refT l p c ch).2.1, .int .i64 (refT l p c ch).2.2]) ∧ Below w.heap.size w w' := by
  have hzR := zeroItemR
  have len0 := ch_zero.1
  have al : ∀ (A : World) (o : Obj), Below A.heap.size A (A.alloc o) := fun A o => (Below.refl _ A).alloc (Nat.le_refl _) o
  have HCL : Hid (c.pt.bytes.length = 32) := hc.pt.ch.1
  have hq1 := PlAt.laid w p
  have hb1 := al w (.cells (plCells p) 26)
  obtain ⟨w1, hw1⟩ : ∃ w1, w.alloc (.cells (plCells p) 26) = w1 := ⟨_, rfl⟩
  rw [hw1] at hq1 hb1
  have hc2 := CgAt.laid w1 c
  have hb2 := al w1 (.cells (cgC c) 56)
  obtain ⟨w2, hw2⟩ : ∃ w2, w1.alloc (.cells (cgC c) 56) = w2 := ⟨_, rfl⟩
  rw [hw2] at hc2 hb2
  have hi3 := ItAt.laid 49 w2 it0
  have hb3 := al w2 (.cells (itC it0) 49)
  obtain ⟨w3, hw3⟩ : ∃ w3, w2.alloc (.cells (itC it0) 49) = w3 := ⟨_, rfl⟩
  rw [hw3] at hi3 hb3
  have hn4 := ItAt.laid 49 w3 it0
  have hb4 := alloc_row (A := w3) (.cells (itC it0) 49) (itC it0)
  have hx4 := hn4.setRow it0
  obtain ⟨w4, hw4⟩ : ∃ w4, (w3.alloc (.cells (itC it0) 49)).setRow w3.heap.size (itC it0) = w4 := ⟨_, rfl⟩
  rw [hw4] at hb4 hx4
  have hB4 := thenB hb1 (thenB hb2 (thenB hb3 hb4))
  have HQ4 : Hid _ := hq1.below (thenB hb2 (thenB hb3 hb4))
  have HC4 : Hid _ := hc2.below (thenB hb3 hb4)
  have HR4 : Hid _ := hi3.below hb4
  have HX4 : Hid _ := hx4
  have HLE : Hid (w.heap.size ≤ w2.heap.size) := Nat.le_trans hb1.size hb2.size
  have HLX : Hid (w2.heap.size < w3.heap.size) := by rw [← hw3]; show _ < _; simp
  have lc4 : Hid _ := HC4.out.load HCL.out
  have HE : Hid (refT l p c ch = if ch then (if refA c then refW it0 false c else if stE l p ≠ 0 then (it0, false, stE l p) else refW (stI l p) (stB l p) c) else (stI l p, stB l p, stE l p)) := rfl
  generalize refT l p c ch = R at *
  have ca := refAll_any w4 c hc
  rw [show plV p = .agg (plCells p) from rfl]
  go_enter Tryz.func38, Tryz.ntmps38
  have lq4 : Hid _ := HQ4.out.loadG
  rw [show plV p = .agg (plCells p) from rfl] at lq4
  have HSI : Hid ((stI l p).bytes.length = 32) := (stI_ok l p).ch.1
  have HL12 : Hid (w1.heap.size < w2.heap.size) := by rw [← hw2]; show _ < _; simp
  have cb := based_any w4 a len cap l (hl.below hB4) p hp hk
  rw [show plV p = .agg (plCells p) from rfl] at cb
  cases ch
  · clear ca lc4
    have lc4 := lq4
    go_wp2_with (first | (refine wpList_buildBy rfl 49 _ rfl _ rfl [] (by kernel_rfl) (itC it0) built_zeroR ?_) | (refine wpList_storeR rfl _ _ rfl w3.heap.size it0 it0 rfl rfl len0 len0 hn4 ?_; rw [hw4]) | (refine wpList_loadG rfl 26 _ rfl _ rfl _ lq4.out ?_) | (refine wpList_loadG rfl 56 _ rfl _ rfl _ lc4.out ?_))
    refine cb.mono ?_
    rintro e w5 ⟨rfl, hb5⟩
    have hB5 := thenB hB4 hb5
    have hn6 := ItAt.laid 49 w5 it0
    have hb6 := alloc_row (A := w5) (.cells (itC it0) 49) (itC (stI l p))
    have HY6 : Hid _ := hn6.setRow (stI l p)
    obtain ⟨w6, hw6⟩ : ∃ w6, (w5.alloc (.cells (itC it0) 49)).setRow w5.heap.size (itC (stI l p)) = w6 := ⟨_, rfl⟩
    rw [hw6] at hb6 HY6
    have hB6 := thenB hB5 hb6
    have hb46 := thenB hb5 hb6
    have hr6 := HR4.out.below hb46
    have hx6 := HX4.out.below hb46
    have hc6 := HC4.out.below hb46
    have ly6 : Hid _ := HY6.out.loadR HSI.out
    by_cases he : stE l p = 0
    · rw [he]
      have hx7 := hx6.setRow (stI l p)
      have hr7 : ItAt 49 (w6.setRow w3.heap.size (itC (stI l p))) w2.heap.size it0 := ⟨(setRow_other _ _ _ _ (by have := HLX.out; omega)).trans hr6.row⟩
      have hc7 : CgAt (w6.setRow w3.heap.size (itC (stI l p))) w1.heap.size c := ⟨(setRow_other _ _ _ _ (by have := HLX.out; have := HL12.out; omega)).trans hc6.row⟩
      have hB7 : Below w.heap.size w (w6.setRow w3.heap.size (itC (stI l p))) := below_setRow hB6 (by have := HLX.out; have := HLE.out; omega) _
      obtain ⟨w7, hw7⟩ : ∃ w7, w6.setRow w3.heap.size (itC (stI l p)) = w7 := ⟨_, rfl⟩
      rw [hw7] at hx7 hr7 hc7 hB7
      have lx7 : Hid _ := hx7.loadR HSI.out
      have lc7 : Hid _ := hc7.load HCL.out
      clear hc7 hc6 hb46 hb5 hB5 hB6 hb6
      go_wp2_with (first
        | (refine wpList_storeR rfl _ _ rfl w5.heap.size (stI l p) it0 rfl rfl HSI.out len0 hn6 ?_; rw [hw6])
        | (refine wpList_loadG rfl 49 _ rfl _ rfl _ ly6.out ?_)
        | (refine wpList_storeR rfl _ _ rfl w3.heap.size (stI l p) it0 rfl rfl HSI.out len0 hx6 ?_; rw [hw7])
        | (refine wpList_loadG rfl 49 _ rfl _ rfl _ lx7.out ?_)
        | (refine wpList_storeR rfl _ _ rfl w2.heap.size (stI l p) it0 rfl rfl HSI.out len0 hr7 ?_))
      exact ret_itemR3 rfl w2.heap.size (stI l p) HSI.out rfl _ rfl _ rfl (hr7.setRow _) rfl ⟨by rw [HE.out, if_neg (by simp), he]; rfl, below_setRow hB7 HLE.out _⟩
    · have E1 : Hid _ := (st_err he).1
      have E2 : Hid _ := (st_err he).2
      have heb : (stE l p != 0) = true := by simp [he]
      go_wp2_with (first
        | (refine wpList_storeR rfl _ _ rfl w5.heap.size (stI l p) it0 rfl rfl HSI.out len0 hn6 ?_; rw [hw6])
        | (refine wpList_buildBy rfl 49 _ rfl _ rfl [] (by kernel_rfl) (itC it0) built_zeroR ?_)
        | (refine wpList_storeR rfl _ _ rfl w2.heap.size it0 it0 rfl rfl len0 len0 hr6 ?_))
      exact ret_itemR3 rfl w2.heap.size it0 len0 rfl _ rfl _ rfl (hr6.setRow _) rfl ⟨by rw [HE.out]; simp [E1.out, E2.out], below_setRow hB6 HLE.out _⟩
  · cases hA : refA c
    · rw [hA] at ca
      go_wp2_with (first | (refine wpList_buildBy rfl 49 _ rfl _ rfl [] (by kernel_rfl) (itC it0) built_zeroR ?_) | (refine wpList_storeR rfl _ _ rfl w3.heap.size it0 it0 rfl rfl len0 len0 hn4 ?_; rw [hw4]) | (refine wpList_loadG rfl 26 _ rfl _ rfl _ lq4.out ?_) | (refine wpList_loadG rfl 56 _ rfl _ rfl _ lc4.out ?_))
      refine ca.mono ?_
      rintro e w4b ⟨rfl, hb4b⟩
      clear ca
      have hB4 := thenB hB4 hb4b
      have HQ4 : Hid _ := HQ4.out.below hb4b
      have HC4 : Hid _ := HC4.out.below hb4b
      have HR4 : Hid _ := HR4.out.below hb4b
      have HX4 : Hid _ := HX4.out.below hb4b
      have lq4 : Hid _ := HQ4.out.loadG
      rw [show plV p = .agg (plCells p) from rfl] at lq4
      have cb := based_any w4b a len cap l (hl.below hB4) p hp hk
      rw [show plV p = .agg (plCells p) from rfl] at cb
      clear hb4b
      go_wp2_with (first | (refine wpList_buildBy rfl 49 _ rfl _ rfl [] (by kernel_rfl) (itC it0) built_zeroR ?_) | (refine wpList_storeR rfl _ _ rfl w3.heap.size it0 it0 rfl rfl len0 len0 hn4 ?_; rw [hw4]) | (refine wpList_loadG rfl 26 _ rfl _ rfl _ lq4.out ?_) | (refine wpList_loadG rfl 56 _ rfl _ rfl _ lc4.out ?_))
      refine cb.mono ?_
      rintro e w5 ⟨rfl, hb5⟩
      have hB5 := thenB hB4 hb5
      have hn6 := ItAt.laid 49 w5 it0
      have hb6 := alloc_row (A := w5) (.cells (itC it0) 49) (itC (stI l p))
      have HY6 : Hid _ := hn6.setRow (stI l p)
      obtain ⟨w6, hw6⟩ : ∃ w6, (w5.alloc (.cells (itC it0) 49)).setRow w5.heap.size (itC (stI l p)) = w6 := ⟨_, rfl⟩
      rw [hw6] at hb6 HY6
      have hB6 := thenB hB5 hb6
      have hb46 := thenB hb5 hb6
      have hr6 := HR4.out.below hb46
      have hx6 := HX4.out.below hb46
      have hc6 := HC4.out.below hb46
      have ly6 : Hid _ := HY6.out.loadR HSI.out
      by_cases he : stE l p = 0
      · rw [he]
        have hx7 := hx6.setRow (stI l p)
        have hr7 : ItAt 49 (w6.setRow w3.heap.size (itC (stI l p))) w2.heap.size it0 := ⟨(setRow_other _ _ _ _ (by have := HLX.out; omega)).trans hr6.row⟩
        have hc7 : CgAt (w6.setRow w3.heap.size (itC (stI l p))) w1.heap.size c := ⟨(setRow_other _ _ _ _ (by have := HLX.out; have := HL12.out; omega)).trans hc6.row⟩
        have hB7 : Below w.heap.size w (w6.setRow w3.heap.size (itC (stI l p))) := below_setRow hB6 (by have := HLX.out; have := HLE.out; omega) _
        obtain ⟨w7, hw7⟩ : ∃ w7, w6.setRow w3.heap.size (itC (stI l p)) = w7 := ⟨_, rfl⟩
        rw [hw7] at hx7 hr7 hc7 hB7
        have lx7 : Hid _ := hx7.loadR HSI.out
        have lc7 : Hid _ := hc7.load HCL.out
        clear hc7 hc6 hb46 hb5 hB5 hB6 hb6
        have cw := rwth_any w7 (stI l p) (stI_ok l p) (stB l p) c hc
        go_wp2_with (first
          | (refine wpList_storeR rfl _ _ rfl w5.heap.size (stI l p) it0 rfl rfl HSI.out len0 hn6 ?_; rw [hw6])
          | (refine wpList_loadG rfl 49 _ rfl _ rfl _ ly6.out ?_)
          | (refine wpList_storeR rfl _ _ rfl w3.heap.size (stI l p) it0 rfl rfl HSI.out len0 hx6 ?_; rw [hw7])
          | (refine wpList_loadG rfl 49 _ rfl _ rfl _ lx7.out ?_)
          | (refine wpList_loadG rfl 56 _ rfl _ rfl _ lc7.out ?_))
        refine cw.mono ?_
        rintro e w8 ⟨rfl, hb8⟩
        clear cw
        have hr8 := hr7.below hb8
        have HWL : Hid ((refW (stI l p) (stB l p) c).1.bytes.length = 32) := refW_len (stI_ok l p).ch.1 _ _
        have HE8 : Hid (R = refW (stI l p) (stB l p) c) := by unfold Hid; rw [HE.out]; simp [hA, he]
        have HB8 : Hid _ := thenB hB7 hb8
        obtain ⟨Z, hZ⟩ : ∃ Z, refW (stI l p) (stB l p) c = Z := ⟨_, rfl⟩
        rw [hZ] at HWL HE8 ⊢
        clear hZ
        go_wp2_with (refine wpList_storeR rfl _ _ rfl w2.heap.size Z.1 it0 rfl rfl HWL.out len0 hr8 ?_)
        exact ret_itemR3 rfl w2.heap.size Z.1 HWL.out rfl _ rfl _ rfl (hr8.setRow _) rfl ⟨by rw [HE8.out]; rfl, below_setRow HB8.out HLE.out _⟩
      · have E1 : Hid _ := (st_err he).1
        have E2 : Hid _ := (st_err he).2
        have heb : (stE l p != 0) = true := by simp [he]
        go_wp2_with (first
          | (refine wpList_storeR rfl _ _ rfl w5.heap.size (stI l p) it0 rfl rfl HSI.out len0 hn6 ?_; rw [hw6])
          | (refine wpList_buildBy rfl 49 _ rfl _ rfl [] (by kernel_rfl) (itC it0) built_zeroR ?_)
          | (refine wpList_storeR rfl _ _ rfl w2.heap.size it0 it0 rfl rfl len0 len0 hr6 ?_))
        exact ret_itemR3 rfl w2.heap.size it0 len0 rfl _ rfl _ rfl (hr6.setRow _) rfl ⟨by rw [HE.out]; simp [hA, he], below_setRow hB6 HLE.out _⟩
    · rw [hA] at ca
      go_wp2_with (first | (refine wpList_buildBy rfl 49 _ rfl _ rfl [] (by kernel_rfl) (itC it0) built_zeroR ?_) | (refine wpList_storeR rfl _ _ rfl w3.heap.size it0 it0 rfl rfl len0 len0 hn4 ?_; rw [hw4]) | (refine wpList_loadG rfl 26 _ rfl _ rfl _ lq4.out ?_) | (refine wpList_loadG rfl 56 _ rfl _ rfl _ lc4.out ?_))
      refine ca.mono ?_
      rintro e w5 ⟨rfl, hb5⟩
      clear ca cb
      have hB5 := thenB hB4 hb5
      have hr5 := HR4.out.below hb5
      have lx5 : Hid _ := (HX4.out.below hb5).loadR len0
      have lc5 : Hid _ := (HC4.out.below hb5).load HCL.out
      have cw := rwth_any w5 it0 it0_ok false c hc
      go_wp2_with (first | (refine wpList_loadG rfl 49 _ rfl _ rfl _ lx5.out ?_) | (refine wpList_loadG rfl 56 _ rfl _ rfl _ lc5.out ?_))
      refine cw.mono ?_
      rintro e w8 ⟨rfl, hb8⟩
      clear cw
      have hr8 := hr5.below hb8
      have HWL : Hid ((refW it0 false c).1.bytes.length = 32) := refW_len len0 _ _
      have HE8 : Hid (R = refW it0 false c) := by unfold Hid; rw [HE.out]; simp [hA]
      generalize refW it0 false c = Z at *
      go_wp2_with (refine wpList_storeR rfl _ _ rfl w2.heap.size Z.1 it0 rfl rfl HWL.out len0 hr8 ?_)
      exact ret_itemR3 rfl w2.heap.size Z.1 HWL.out rfl _ rfl _ rfl (hr8.setRow _) rfl ⟨by rw [HE8.out]; rfl, below_setRow (thenB hB5 hb8) HLE.out _⟩

set_option maxRecDepth 100000

/-- The document's view, in a variable of its own. -/
structure RvAt (w : World) (v : Nat) (a : Option Addr) (len cap q : Nat) : Prop where
  row : w.heap[v]? = some (.cells #[.slice a len cap, .pointer (some ⟨q, 0, none⟩)] 40 (0, 0))
theorem RvAt.lt {w : World} {v : Nat} {a : Option Addr} {len cap q : Nat} (h : RvAt w v a len cap q) : v < w.heap.size := (Array.getElem?_eq_some_iff.1 h.row).1
theorem RvAt.below {w w' : World} {v : Nat} {a : Option Addr} {len cap q : Nat} (h : RvAt w v a len cap q) (hb : Below w.heap.size w w') : RvAt w' v a len cap q := ⟨(hb.block v h.lt).trans h.row⟩
theorem RvAt.c0 {w : World} {v : Nat} {a : Option Addr} {len cap q : Nat} (h : RvAt w v a len cap q) : w.cell? ⟨v, 0, none⟩ = some (.slice a len cap) := by rw [cell_of_row _ _ _ _ _ (0, 0) h.row]; rfl
theorem RvAt.c1 {w : World} {v : Nat} {a : Option Addr} {len cap q : Nat} (h : RvAt w v a len cap q) : w.cell? ⟨v, 1, none⟩ = some (.pointer (some ⟨q, 0, none⟩)) := by rw [cell_of_row _ _ _ _ _ (0, 0) h.row]; rfl

structure RgS (w1 : World) (G : Nat) (c : Cg) (W : World) : Prop where
  bel : Below w1.heap.size w1 W
  cg : CgAt W G c
  it : ∃ y, y.bytes.length = 32 ∧ ItAt 49 W w1.heap.size y

set_option maxHeartbeats 8000000 in
theorem rget_any {B : Nat} {w0 w : World} {v p b q : Nat} {s : Dl} {xs : List Cg} {a : Option Addr} {len cap : Nat} {l : List (ByteArray × ByteArray)} (hv : RvAt w v a len cap q) (hl : RdK w a len cap l) (hD : Both B w0 w p b q s xs) (z : Pl) (hz : PlOk z) : Calls Tryz.prog 14 #[.pointer (some ⟨v, 0, none⟩), plV z] w fun e w' =>
    e = .returned (.tuple #[.agg (itC (refG l s z).1), .bool (refG l s z).2.1, .int .i64 (refG l s z).2.2]) ∧ Below w.heap.size w w' := by
  have hzR := zeroItemR
  have hzC := zeroCg
  have len0 := ch_zero.1
  have lenc : cg0.pt.bytes.length = 32 := cg0_ok.pt.ch.1
  have al : ∀ (A : World) (o : Obj), Below A.heap.size A (A.alloc o) := fun A o => (Below.refl _ A).alloc (Nat.le_refl _) o
  have hq1 := PlAt.laid w z
  have hb1 := al w (.cells (plCells z) 26)
  obtain ⟨w1, hw1⟩ : ∃ w1, w.alloc (.cells (plCells z) 26) = w1 := ⟨_, rfl⟩
  rw [hw1] at hq1 hb1
  have hi2 := ItAt.laid 49 w1 it0
  have hb2 := al w1 (.cells (itC it0) 49)
  obtain ⟨w2, hw2⟩ : ∃ w2, w1.alloc (.cells (itC it0) 49) = w2 := ⟨_, rfl⟩
  rw [hw2] at hi2 hb2
  have hB2 := thenB hb1 hb2
  have hq2 := hq1.below hb2
  have lp2 : Hid _ := hq2.loadG
  have HLE : Hid (w.heap.size ≤ w1.heap.size) := hb1.size
  have HL12 : Hid (w1.heap.size < w2.heap.size) := hi2.lt
  have ck := refCheck_any w2 z hz
  rw [show plV z = .agg (plCells z) from rfl] at ck lp2 ⊢
  have hsok := hD.ok
  have HXL : Hid ((wasX s z).pt.bytes.length = 32) := (getL_ok hsok.L z).pt.ch.1
  have HXO : Hid (CgOk (wasX s z)) := getL_ok hsok.L z
  have HE : Hid (refG l s z = if plOk z then refT l z (wasX s z) (isX s z) else (it0, false, 30)) := rfl
  generalize refG l s z = R at *
  go_enter Tryz.func14, Tryz.ntmps14
  go_wp2_with (refine wpList_loadG rfl 26 _ rfl _ rfl _ lp2.out ?_)
  refine ck.mono ?_
  rintro e w3 ⟨rfl, hb3⟩
  clear ck lp2
  have HB3 : Hid (Below w1.heap.size w1 w3) := hb2.trans (hb3.mono hb2.size)
  have hi3 := hi2.below hb3
  have HI3 : Hid _ := hi3
  have HW3 : Hid (w2.heap.size ≤ w3.heap.size) := hb3.size
  cases hk : plOk z
  · have HP : Hid (plE z = 30) := by unfold Hid plE; rw [hk]; rfl
    rw [HP.out]
    go_wp2_with (first | (refine wpList_buildBy rfl 49 _ rfl _ rfl [] (by kernel_rfl) (itC it0) built_zeroR ?_) | (refine wpList_storeR rfl _ _ rfl w1.heap.size it0 it0 rfl rfl len0 len0 hi3 ?_))
    exact ret_itemR3 rfl w1.heap.size it0 len0 rfl _ rfl _ rfl (HI3.out.setRow _) rfl ⟨by rw [HE.out, hk]; rfl, below_setRow (thenB hB2 hb3) HLE.out _⟩
  · have HP : Hid (plE z = 0) := by unfold Hid plE; rw [hk]; rfl
    have HK : Hid (plOk z = true) := hk
    clear hk
    rw [HP.out]
    have qv1 : ∀ W, Below w3.heap.size w3 W → W.cell? ⟨v, 1, none⟩ = some (.pointer (some ⟨q, 0, none⟩)) := fun W hW => (hv.below (thenB (thenB hB2 hb3) hW)).c1
    have qp : ∀ W, Below w3.heap.size w3 W → (Instr.loadAt 26 (.pointer (some ⟨w.heap.size, 0, none⟩))).run Tryz.prog W = .ok (.agg (plCells z)) W := fun W hW => ((hq2.below hb3).below hW).loadG
    have cx : ∀ W, Below w3.heap.size w3 W → Calls Tryz.prog 24 #[.pointer (some ⟨q, 0, none⟩), .agg (plCells z)] W fun e w' => e = .returned (.tuple #[.agg (cgC (wasX s z)), .bool (isX s z)]) ∧ Below W.heap.size W w' := fun W hW => (hD.below (thenB (thenB hB2 hb3) hW)).xget z hz
    have QS : Hid (∀ W, Below w1.heap.size w1 W → W.cell? ⟨v, 0, none⟩ = some (.slice a len cap)) := fun W hW => (hv.below (thenB hb1 hW)).c0
    have QP : Hid (∀ W, Below w1.heap.size w1 W → (Instr.loadAt 26 (.pointer (some ⟨w.heap.size, 0, none⟩))).run Tryz.prog W = .ok (.agg (plCells z)) W) := fun W hW => (hq1.below hW).loadG
    have QA : Hid (∀ W, Below w1.heap.size w1 W → Calls Tryz.prog 38 #[.slice a len cap, .agg (plCells z), .agg (cgC (wasX s z)), .bool (isX s z)] W fun e w' => e = .returned (.tuple #[.agg (itC (refT l z (wasX s z) (isX s z)).1), .bool (refT l z (wasX s z) (isX s z)).2.1, .int .i64 (refT l z (wasX s z) (isX s z)).2.2]) ∧ Below W.heap.size W w') := fun W hW => at_any W a len cap l (hl.below (thenB hb1 hW)) z hz HK.out (wasX s z) HXO.out (isX s z)
    have HTL : Hid ((refT l z (wasX s z) (isX s z)).1.bytes.length = 32) := by
      unfold Hid refT
      repeat' split
      all_goals (first | exact refW_len len0 _ _ | exact len0 | exact refW_len (stI_ok l z).ch.1 _ _ | exact (stI_ok l z).ch.1)
    have HB1 : Hid _ := hb1
    rw [HK.out, if_pos rfl] at HE
    generalize refT l z (wasX s z) (isX s z) = T at *
    generalize isX s z = is at *
    generalize wasX s z = c at *
    clear hq1 hq2 hi2 hb2 hB2 hb3 hi3 hb1 hD hv hl hsok
    go_upto_region 4 with fail
    go_cut [8, 9] from 16 to 24 (fun t8 t9 wx => ∃ G, t8 = .pointer (some ⟨G, 0, none⟩) ∧ t9 = .bool is ∧ Hid (CgAt wx G c) ∧ Hid (w3.heap.size ≤ G) ∧ Hid (Below w3.heap.size w3 wx))
    case first =>
      clear QS QP QA
      go_wp2_with fail
      refine wp_region_noPanic ?_
      refine wp_region_held_drew (S := fun W => Below w3.heap.size w3 W) (by kernel_rfl) (Below.refl _ _).drew (fun hHeld => ?_)
      refine wpAnyH_take (i := 0) (v := .pointer (some ⟨v, 0, none⟩)) rfl (by kernel_rfl) (by kernel_rfl) (by kernel_rfl) (fun _ _ _ h => h) (Or.inl ⟨by rfl, fun W hSw => by (try dsimp only at hSw); go_simp⟩) (by assumption) ?_
      try simp only [List.getElem_toArray, List.getElem_cons_zero, List.getElem_cons_succ, Act.put, List.setIfInBounds_toArray, List.set_cons_zero, List.set_cons_succ]
      refine wpAnyH_take (i := 1) (v := .pointer (some ⟨v, 0, none⟩)) rfl (by kernel_rfl) (by kernel_rfl) (by kernel_rfl) (fun _ _ _ h => h) (Or.inl ⟨by rfl, fun W hSw => by (try dsimp only at hSw); go_simp⟩) (by assumption) ?_
      try simp only [List.getElem_toArray, List.getElem_cons_zero, List.getElem_cons_succ, Act.put, List.setIfInBounds_toArray, List.set_cons_zero, List.set_cons_succ]
      refine wpAnyH_take (i := 2) (v := .pointer (some ⟨v, 1, none⟩)) rfl (by kernel_rfl) (by kernel_rfl) (by kernel_rfl) (fun _ _ _ h => h) (Or.inl ⟨by rfl, fun W hSw => by (try dsimp only at hSw); go_simp⟩) (by assumption) ?_
      try simp only [List.getElem_toArray, List.getElem_cons_zero, List.getElem_cons_succ, Act.put, List.setIfInBounds_toArray, List.set_cons_zero, List.set_cons_succ]
      refine wpAnyH_take (i := 3) (v := .pointer (some ⟨q, 0, none⟩)) rfl (by kernel_rfl) (by kernel_rfl) (by kernel_rfl) (fun _ _ _ h => h) (Or.inl ⟨by rfl, fun W hSw => by (try dsimp only at hSw); (have z := qv1 W hSw; go_simp)⟩) (by assumption) ?_
      try simp only [List.getElem_toArray, List.getElem_cons_zero, List.getElem_cons_succ, Act.put, List.setIfInBounds_toArray, List.set_cons_zero, List.set_cons_succ]
      refine wpAnyH_take (i := 4) (v := .agg (plCells z)) rfl (by kernel_rfl) (by kernel_rfl) (by kernel_rfl) (fun _ _ _ h => h) (yields_load (by rfl) _ _ rfl _ rfl _ qp) (by assumption) ?_
      try simp only [List.getElem_toArray, List.getElem_cons_zero, List.getElem_cons_succ, Act.put, List.setIfInBounds_toArray, List.set_cons_zero, List.set_cons_succ]
      refine wpAnyH_ready (rs := [5, 9]) (by kernel_rfl) (by simp) ?_
      refine AllReadyH.cons rfl (fun K hK => ?_) (AllReadyH.cons rfl (fun K hK => ?_) AllReadyH.nil)
      · go_simp
        go_wp2_with (go_at_call 24; refine (cx _ (by assumption)).mono ?_; rintro e w5 ⟨rfl, hb5⟩)
        refine hK.out _ _ (hHeld.trans (hb5.mono hHeld.size)) (fun hHeld2 => ?_)
        clear hK K
        try simp only [List.getElem_toArray, List.getElem_cons_zero, List.getElem_cons_succ, Act.put, List.setIfInBounds_toArray, List.set_cons_zero, List.set_cons_succ]
        refine wpAnyH_take (i := 6) (v := .tuple #[.agg (cgC c), .bool is]) rfl (by kernel_rfl) (by kernel_rfl) (by kernel_rfl) (fun _ _ _ h => h) (Or.inl ⟨by rfl, fun W hSw => by (try dsimp only at hSw); go_simp⟩) (by assumption) ?_
        try simp only [List.getElem_toArray, List.getElem_cons_zero, List.getElem_cons_succ, Act.put, List.setIfInBounds_toArray, List.set_cons_zero, List.set_cons_succ]
        refine wpAnyH_take (i := 7) (v := .agg (cgC c)) rfl (by kernel_rfl) (by kernel_rfl) (by kernel_rfl) (fun _ _ _ h => h) (Or.inl ⟨by rfl, fun W hSw => by (try dsimp only at hSw); go_simp⟩) (by assumption) ?_
        try simp only [List.getElem_toArray, List.getElem_cons_zero, List.getElem_cons_succ, Act.put, List.setIfInBounds_toArray, List.set_cons_zero, List.set_cons_succ]
        refine wpAnyH_take (i := 8) (v := .bool is) rfl (by kernel_rfl) (by kernel_rfl) (by kernel_rfl) (fun _ _ _ h => h) (Or.inl ⟨by rfl, fun W hSw => by (try dsimp only at hSw); go_simp⟩) (by assumption) ?_
        try simp only [List.getElem_toArray, List.getElem_cons_zero, List.getElem_cons_succ, Act.put, List.setIfInBounds_toArray, List.set_cons_zero, List.set_cons_succ]
        refine wpAnyH_ready (rs := [9]) (by kernel_rfl) (by simp) ?_
        refine AllReadyH.cons rfl (fun K hK => ?_) AllReadyH.nil
        go_simp
        go_wp2
        have hat := CgAt.laid w5 cg0
        have HGE : Hid (w3.heap.size ≤ w5.heap.size) := hHeld2.size
        have hb6 := al w5 (.cells (cgC cg0) 56)
        obtain ⟨G, hG⟩ : ∃ G, w5.heap.size = G := ⟨_, rfl⟩
        refine hK.out _ _ (hHeld2.trans (hb6.mono hHeld2.size)) (fun hHeld3 => ?_)
        clear hK K
        try simp only [List.getElem_toArray, List.getElem_cons_zero, List.getElem_cons_succ, Act.put, List.setIfInBounds_toArray, List.set_cons_zero, List.set_cons_succ]
        obtain ⟨w6, hw6⟩ : ∃ w6, w5.alloc (.cells (cgC cg0) 56) = w6 := ⟨_, rfl⟩
        rw [hw6] at hat hHeld3 ⊢
        rw [hG] at hat HGE ⊢
        clear hb6 hw6 hb5 hHeld2 hG
        refine wpAnyH_ready (rs := [10]) (by kernel_rfl) (by simp) ?_
        refine AllReadyH.cons rfl (fun K hK => ?_) AllReadyH.nil
        rw [if_pos (by rfl)]
        refine wp_stC _ _ rfl G c cg0 rfl rfl HXL.out lenc hat ?_
        have HB7 : Hid (Below w3.heap.size w3 (w6.setRow G (cgC c))) := below_setRow hHeld3 HGE.out _
        have HA7 : Hid _ := hat.setRow c
        refine hK.out _ _ HB7.out (fun hHeld4 => ?_)
        clear hK K
        try simp only [List.getElem_toArray, List.getElem_cons_zero, List.getElem_cons_succ, Act.put, List.setIfInBounds_toArray, List.set_cons_zero, List.set_cons_succ]
        refine wpAnyH_take (i := 11) (v := .bool is) rfl (by kernel_rfl) (by kernel_rfl) (by kernel_rfl) (fun _ _ _ h => h) (Or.inl ⟨by rfl, fun W hSw => by (try dsimp only at hSw); go_simp⟩) (by assumption) ?_
        try simp only [List.getElem_toArray, List.getElem_cons_zero, List.getElem_cons_succ, Act.put, List.setIfInBounds_toArray, List.set_cons_zero, List.set_cons_succ]
        refine wpAnyH_done (by kernel_rfl) ?_ _
        refine NoPanic.normal ?_
        clear hHeld hHeld3 hHeld4
        go_wp2_with fail
        go_meet
        case rel => exact ⟨G, rfl, rfl, HA7, HGE, HB7⟩
      · go_simp
        go_wp2
        have hat : CgAt (w3.alloc (.cells (cgC cg0) 56)).drew w3.heap.size cg0 := (CgAt.laid w3 cg0).below (Below.refl _ _).drew
        have hb6 : Below w3.heap.size w3 (w3.alloc (.cells (cgC cg0) 56)).drew := (al w3 _).drew
        refine hK.out _ _ hb6 (fun hHeld2 => ?_)
        clear hK K
        try simp only [List.getElem_toArray, List.getElem_cons_zero, List.getElem_cons_succ, Act.put, List.setIfInBounds_toArray, List.set_cons_zero, List.set_cons_succ]
        obtain ⟨w6, hw6⟩ : ∃ w6, (w3.alloc (.cells (cgC cg0) 56)).drew = w6 := ⟨_, rfl⟩
        rw [hw6] at hat hHeld2 ⊢
        clear hw6 hb6 hHeld
        refine wpAnyH_ready (rs := [5]) (by kernel_rfl) (by simp) ?_
        refine AllReadyH.cons rfl (fun K hK => ?_) AllReadyH.nil
        go_simp
        go_wp2_with (go_at_call 24; refine (cx _ (by assumption)).mono ?_; rintro e w5 ⟨rfl, hb5⟩)
        have hat5 := hat.below hb5
        refine hK.out _ _ (hHeld2.trans (hb5.mono hHeld2.size)) (fun hHeld3 => ?_)
        clear hK K hat hb5 hHeld2
        try simp only [List.getElem_toArray, List.getElem_cons_zero, List.getElem_cons_succ, Act.put, List.setIfInBounds_toArray, List.set_cons_zero, List.set_cons_succ]
        refine wpAnyH_take (i := 6) (v := .tuple #[.agg (cgC c), .bool is]) rfl (by kernel_rfl) (by kernel_rfl) (by kernel_rfl) (fun _ _ _ h => h) (Or.inl ⟨by rfl, fun W hSw => by (try dsimp only at hSw); go_simp⟩) (by assumption) ?_
        try simp only [List.getElem_toArray, List.getElem_cons_zero, List.getElem_cons_succ, Act.put, List.setIfInBounds_toArray, List.set_cons_zero, List.set_cons_succ]
        refine wpAnyH_take (i := 7) (v := .agg (cgC c)) rfl (by kernel_rfl) (by kernel_rfl) (by kernel_rfl) (fun _ _ _ h => h) (Or.inl ⟨by rfl, fun W hSw => by (try dsimp only at hSw); go_simp⟩) (by assumption) ?_
        try simp only [List.getElem_toArray, List.getElem_cons_zero, List.getElem_cons_succ, Act.put, List.setIfInBounds_toArray, List.set_cons_zero, List.set_cons_succ]
        refine wpAnyH_take (i := 8) (v := .bool is) rfl (by kernel_rfl) (by kernel_rfl) (by kernel_rfl) (fun _ _ _ h => h) (Or.inl ⟨by rfl, fun W hSw => by (try dsimp only at hSw); go_simp⟩) (by assumption) ?_
        try simp only [List.getElem_toArray, List.getElem_cons_zero, List.getElem_cons_succ, Act.put, List.setIfInBounds_toArray, List.set_cons_zero, List.set_cons_succ]
        refine wpAnyH_ready (rs := [10]) (by kernel_rfl) (by simp) ?_
        refine AllReadyH.cons rfl (fun K hK => ?_) AllReadyH.nil
        rw [if_pos (by rfl)]
        refine wp_stC _ _ rfl w3.heap.size c cg0 rfl rfl HXL.out lenc hat5 ?_
        have HB7 : Hid (Below w3.heap.size w3 (w5.setRow w3.heap.size (cgC c))) := below_setRow hHeld3 (Nat.le_refl _) _
        have HA7 : Hid _ := hat5.setRow c
        refine hK.out _ _ HB7.out (fun hHeld4 => ?_)
        clear hK K
        try simp only [List.getElem_toArray, List.getElem_cons_zero, List.getElem_cons_succ, Act.put, List.setIfInBounds_toArray, List.set_cons_zero, List.set_cons_succ]
        refine wpAnyH_take (i := 11) (v := .bool is) rfl (by kernel_rfl) (by kernel_rfl) (by kernel_rfl) (fun _ _ _ h => h) (Or.inl ⟨by rfl, fun W hSw => by (try dsimp only at hSw); go_simp⟩) (by assumption) ?_
        try simp only [List.getElem_toArray, List.getElem_cons_zero, List.getElem_cons_succ, Act.put, List.setIfInBounds_toArray, List.set_cons_zero, List.set_cons_succ]
        refine wpAnyH_done (by kernel_rfl) ?_ _
        refine NoPanic.normal ?_
        clear hHeld3 hHeld4
        go_wp2_with fail
        go_meet
        case rel => exact ⟨w3.heap.size, rfl, rfl, HA7, Nat.le_refl _, HB7⟩
    case rest =>
      obtain ⟨G, rfl, rfl, HG, HGE, HBC⟩ := hcut
      have qs := QS.out
      have qa := QA.out
      have HNE : Hid (G ≠ w1.heap.size) := by unfold Hid; have := HGE.out; have := HW3.out; have := HL12.out; omega
      have HS0 : Hid (RgS w1 G c wc) := ⟨HB3.out.trans (HBC.out.mono HB3.out.size), HG.out, it0, len0, HI3.out.below HBC.out⟩
      clear qv1 qp cx HG HBC QS QA
      go_wp2_with fail
      refine wp_region_noPanic ?_
      refine wp_region_held_drew (S := fun W => RgS w1 G c W) (by kernel_rfl) ⟨HS0.out.bel.drew, HS0.out.cg.drew, by obtain ⟨y, h1, h2⟩ := HS0.out.it; exact ⟨y, h1, h2.below (Below.refl _ _).drew⟩⟩ (fun hHeld => ?_)
      refine wpAnyH_take (i := 0) (v := .pointer (some ⟨v, 0, none⟩)) rfl (by kernel_rfl) (by kernel_rfl) (by kernel_rfl) (fun _ _ _ h => h) (Or.inl ⟨by rfl, fun W hSw => by (try dsimp only at hSw); go_simp⟩) (by assumption) ?_
      try simp only [List.getElem_toArray, List.getElem_cons_zero, List.getElem_cons_succ, Act.put, List.setIfInBounds_toArray, List.set_cons_zero, List.set_cons_succ]
      refine wpAnyH_take (i := 1) (v := .pointer (some ⟨v, 0, none⟩)) rfl (by kernel_rfl) (by kernel_rfl) (by kernel_rfl) (fun _ _ _ h => h) (Or.inl ⟨by rfl, fun W hSw => by (try dsimp only at hSw); go_simp⟩) (by assumption) ?_
      try simp only [List.getElem_toArray, List.getElem_cons_zero, List.getElem_cons_succ, Act.put, List.setIfInBounds_toArray, List.set_cons_zero, List.set_cons_succ]
      refine wpAnyH_take (i := 2) (v := .pointer (some ⟨v, 0, none⟩)) rfl (by kernel_rfl) (by kernel_rfl) (by kernel_rfl) (fun _ _ _ h => h) (Or.inl ⟨by rfl, fun W hSw => by (try dsimp only at hSw); go_simp⟩) (by assumption) ?_
      try simp only [List.getElem_toArray, List.getElem_cons_zero, List.getElem_cons_succ, Act.put, List.setIfInBounds_toArray, List.set_cons_zero, List.set_cons_succ]
      refine wpAnyH_take (i := 3) (v := .slice a len cap) rfl (by kernel_rfl) (by kernel_rfl) (by kernel_rfl) (fun _ _ _ h => h) (Or.inl ⟨by rfl, fun W hSw => by (try dsimp only at hSw); (have z := qs W hSw.bel; go_simp)⟩) (by assumption) ?_
      try simp only [List.getElem_toArray, List.getElem_cons_zero, List.getElem_cons_succ, Act.put, List.setIfInBounds_toArray, List.set_cons_zero, List.set_cons_succ]
      refine wpAnyH_take (i := 4) (v := .agg (plCells z)) rfl (by kernel_rfl) (by kernel_rfl) (by kernel_rfl) (fun _ _ _ h => h) (yields_load (by rfl) _ _ rfl _ rfl _ (fun W hW => QP.out W hW.bel)) (by assumption) ?_
      try simp only [List.getElem_toArray, List.getElem_cons_zero, List.getElem_cons_succ, Act.put, List.setIfInBounds_toArray, List.set_cons_zero, List.set_cons_succ]
      refine wpAnyH_take (i := 5) (v := .agg (cgC c)) rfl (by kernel_rfl) (by kernel_rfl) (by kernel_rfl) (fun _ _ _ h => h) (yields_load (by rfl) _ _ rfl _ rfl _ (fun W hW => hW.cg.load HXL.out)) (by assumption) ?_
      try simp only [List.getElem_toArray, List.getElem_cons_zero, List.getElem_cons_succ, Act.put, List.setIfInBounds_toArray, List.set_cons_zero, List.set_cons_succ]
      refine wpAnyH_take (i := 6) (v := .bool is) rfl (by kernel_rfl) (by kernel_rfl) (by kernel_rfl) (fun _ _ _ h => h) (Or.inl ⟨by rfl, fun W hSw => by (try dsimp only at hSw); go_simp⟩) (by assumption) ?_
      try simp only [List.getElem_toArray, List.getElem_cons_zero, List.getElem_cons_succ, Act.put, List.setIfInBounds_toArray, List.set_cons_zero, List.set_cons_succ]
      refine wpAnyH_ready (rs := [7]) (by kernel_rfl) (by simp) ?_
      refine AllReadyH.cons rfl (fun K hK => ?_) AllReadyH.nil
      go_simp
      go_wp2_with (go_at_call 38; refine (qa _ (RgS.bel (by assumption))).mono ?_; rintro e w5 ⟨rfl, hb5⟩)
      obtain ⟨y, hy1, hy2⟩ := hHeld.it
      have hcg5 := hHeld.cg.below hb5
      have hb15 := hHeld.bel.trans (hb5.mono hHeld.bel.size)
      have hit5 := hy2.below hb5
      refine hK.out _ _ ⟨hb15, hcg5, y, hy1, hit5⟩ (fun hHeld2 => ?_)
      clear hK K
      try simp only [List.getElem_toArray, List.getElem_cons_zero, List.getElem_cons_succ, Act.put, List.setIfInBounds_toArray, List.set_cons_zero, List.set_cons_succ]
      refine wpAnyH_take (i := 8) (v := .agg (itC T.1)) rfl (by kernel_rfl) (by kernel_rfl) (by kernel_rfl) (fun _ _ _ h => h) (Or.inl ⟨by rfl, fun W hSw => by (try dsimp only at hSw); go_simp⟩) (by assumption) ?_
      try simp only [List.getElem_toArray, List.getElem_cons_zero, List.getElem_cons_succ, Act.put, List.setIfInBounds_toArray, List.set_cons_zero, List.set_cons_succ]
      refine wpAnyH_take (i := 9) (v := .bool T.2.1) rfl (by kernel_rfl) (by kernel_rfl) (by kernel_rfl) (fun _ _ _ h => h) (Or.inl ⟨by rfl, fun W hSw => by (try dsimp only at hSw); go_simp⟩) (by assumption) ?_
      try simp only [List.getElem_toArray, List.getElem_cons_zero, List.getElem_cons_succ, Act.put, List.setIfInBounds_toArray, List.set_cons_zero, List.set_cons_succ]
      refine wpAnyH_take (i := 10) (v := .int .i64 T.2.2) rfl (by kernel_rfl) (by kernel_rfl) (by kernel_rfl) (fun _ _ _ h => h) (Or.inl ⟨by rfl, fun W hSw => by (try dsimp only at hSw); go_simp⟩) (by assumption) ?_
      try simp only [List.getElem_toArray, List.getElem_cons_zero, List.getElem_cons_succ, Act.put, List.setIfInBounds_toArray, List.set_cons_zero, List.set_cons_succ]
      refine wpAnyH_ready (rs := [11]) (by kernel_rfl) (by simp) ?_
      refine AllReadyH.cons rfl (fun K hK => ?_) AllReadyH.nil
      rw [if_pos (by rfl)]
      refine wp_stR _ _ rfl w1.heap.size T.1 y rfl rfl HTL.out hy1 hit5 ?_
      have HB7 : Hid (Below w1.heap.size w1 (w5.setRow w1.heap.size (itC T.1))) := below_setRow hb15 (Nat.le_refl _) _
      have HA7 : Hid _ := hit5.setRow T.1
      refine hK.out _ _ ⟨HB7.out, hcg5.apartR _ _ HNE.out, T.1, HTL.out, HA7.out⟩ (fun hHeld4 => ?_)
      clear hK K
      try simp only [List.getElem_toArray, List.getElem_cons_zero, List.getElem_cons_succ, Act.put, List.setIfInBounds_toArray, List.set_cons_zero, List.set_cons_succ]
      refine wpAnyH_take (i := 12) (v := .bool T.2.1) rfl (by kernel_rfl) (by kernel_rfl) (by kernel_rfl) (fun _ _ _ h => h) (Or.inl ⟨by rfl, fun W hSw => by (try dsimp only at hSw); go_simp⟩) (by assumption) ?_
      try simp only [List.getElem_toArray, List.getElem_cons_zero, List.getElem_cons_succ, Act.put, List.setIfInBounds_toArray, List.set_cons_zero, List.set_cons_succ]
      refine wpAnyH_take (i := 13) (v := .int .i64 T.2.2) rfl (by kernel_rfl) (by kernel_rfl) (by kernel_rfl) (fun _ _ _ h => h) (Or.inl ⟨by rfl, fun W hSw => by (try dsimp only at hSw); go_simp⟩) (by assumption) ?_
      try simp only [List.getElem_toArray, List.getElem_cons_zero, List.getElem_cons_succ, Act.put, List.setIfInBounds_toArray, List.set_cons_zero, List.set_cons_succ]
      refine wpAnyH_done (by kernel_rfl) ?_ _
      refine NoPanic.normal ?_
      clear hHeld hHeld2 hHeld4
      go_wp2_with fail
      exact ret_itemR3 rfl w1.heap.size T.1 HTL.out rfl _ rfl _ rfl HA7.out rfl ⟨by rw [HE.out]; rfl, thenB HB1.out HB7.out⟩

end Go.Proofs.YtjlglnhmkheidaaGreat
