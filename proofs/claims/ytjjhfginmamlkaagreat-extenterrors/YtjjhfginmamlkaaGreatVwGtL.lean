/- The contract of view.Get over a store that may fail (written by tools/laws/VwChL_gen.py). -/
import Derived.Test.YtjjhfginmamlkaaGreatVwChL
import Derived.Test.YtjjhfginmamlkaaGreatV6
namespace Go.Proofs.YtjjhfginmamlkaaGreat
open Go.RowKit
set_option linter.unusedVariables false
set_option linter.unusedSimpArgs false
set_option maxRecDepth 100000

/-- What a view tells; how often its base may be asked behind it. -/
def vgV (l : List (ByteArray × ByteArray)) (f : Int) (s : Dl) (q : Pl) : It × Bool × Int := if isX s q then chV l f (wasX s q) else stV l f q
def vgF (f : Int) (s : Dl) (q : Pl) : Int := if isX s q then chF f (wasX s q) else stF f q
theorem VwAt.soleG {w w' : World} {v g p g' : Nat} (h : VwAt w v g p) (hs : Sole [g'] w w') (hn : v ≠ g') : VwAt w' v g p := ⟨(hs.block _ h.lt (by simpa using hn)).trans h.row⟩
theorem PlAt.soleG {w w' : World} {k g' : Nat} {q : Pl} (h : PlAt w k q) (hs : Sole [g'] w w') (hn : k ≠ g') : PlAt w' k q := ⟨(hs.block _ (Array.getElem?_eq_some_iff.1 h.row).1 (by simpa using hn)).trans h.row⟩
theorem VwAt.setRowX {w : World} {v g p k : Nat} {cs : Array Value} (h : VwAt w v g p) (hn : v ≠ k) : VwAt (w.setRow k cs) v g p := ⟨(setRow_other _ _ _ _ hn).trans h.row⟩
theorem PlAt.setRowX {w : World} {k k' : Nat} {cs : Array Value} {q : Pl} (h : PlAt w k q) (hn : k ≠ k') : PlAt (w.setRow k' cs) k q := ⟨(setRow_other _ _ _ _ hn).trans h.row⟩

set_option maxHeartbeats 8000000 in
theorem vget_l {B : Nat} {w0 w : World} {v g p b : Nat} {s : Dl} {a : Option Addr} {n cap : Nat} {l : List (ByteArray × ByteArray)} {f : Int} (hv : VwAt w v g p) (hd : DlN B w0 w p b s) (hS : SoL w g a n cap l f) (q : Pl) (hq : PlOk q) : Calls Tryz.prog 73 #[.pointer (some ⟨v, 0, none⟩), plV q] w fun e w' =>
    e = .returned (.tuple #[.agg (itC (vgV l f s q).1), .bool (vgV l f s q).2.1, .int .i64 (vgV l f s q).2.2]) ∧ LOut w g a n cap l (vgF f s q) w' := by
  have hz := zeroItem
  have hzc := zeroCg
  have len0 := ch_zero.1
  have lenc : cg0.pt.bytes.length = 32 := cg0_ok.pt.ch.1
  have al : ∀ (A : World) (o : Obj), Below A.heap.size A (A.alloc o) := fun A o => (Below.refl _ A).alloc (Nat.le_refl _) o
  have hsok : DlOk s := by obtain ⟨v, hd, _⟩ := hd.d; exact hd.ok
  have hxok := getL_ok hsok.L q
  have HXL : Hid ((wasX s q).pt.bytes.length = 32) := hxok.pt.ch.1
  have hq1 := PlAt.laid w q
  have hb1 := al w (.cells (plCells q) 87)
  obtain ⟨w1, hw1⟩ : ∃ w1, w.alloc (.cells (plCells q) 87) = w1 := ⟨_, rfl⟩
  rw [hw1] at hq1 hb1
  have hi2 := ItAt.laid 150 w1 it0
  have hb2 := al w1 (.cells (itC it0) 150)
  have HSZ : Hid (w1.heap.size < (w1.alloc (.cells (itC it0) 150)).heap.size) := by unfold Hid; simp
  obtain ⟨w2, hw2⟩ : ∃ w2, w1.alloc (.cells (itC it0) 150) = w2 := ⟨_, rfl⟩
  rw [hw2] at hi2 hb2 HSZ
  have qv1 : ∀ W, Below w2.heap.size w2 W → W.cell? ⟨v, 1, none⟩ = some (.pointer (some ⟨p, 0, none⟩)) := fun W hW => (hv.below (thenB (thenB hb1 hb2) hW)).c1
  have qp : ∀ W, Below w2.heap.size w2 W → (Instr.loadAt 87 (.pointer (some ⟨w.heap.size, 0, none⟩))).run Tryz.prog W = .ok (.agg (plCells q)) W := fun W hW => ((hq1.below hb2).below hW).loadG
  have cgt : ∀ W, Below w2.heap.size w2 W → Calls Tryz.prog 91 #[.pointer (some ⟨p, 0, none⟩), .agg (plCells q)] W fun e w' => e = .returned (.tuple #[.agg (cgC (wasX s q)), .bool (isX s q)]) ∧ Below W.heap.size W w' := fun W hW => (hd.below (thenB (thenB hb1 hb2) hW)).get q hq
  have HV : Hid (∀ W, VwAt W v g p → W.cell? ⟨v, 0, none⟩ = some (.iface 39 (.pointer (some ⟨g, 0, none⟩)))) := fun W hW => hW.c0
  have HQ : Hid (∀ W, (VwAt W v g p ∧ PlAt W w.heap.size q) → (Instr.loadAt 87 (.pointer (some ⟨w.heap.size, 0, none⟩))).run Tryz.prog W = .ok (.agg (plCells q)) W) := fun W hW => hW.2.loadG
  have HVW : Hid (∀ W, Below w1.heap.size w1 W → VwAt W v g p ∧ PlAt W w.heap.size q) := fun W hW => ⟨hv.below (thenB hb1 hW), hq1.below hW⟩
  have HVG : Hid (v ≠ g ∧ v < w.heap.size ∧ g < w.heap.size ∧ w.heap.size < w1.heap.size) := ⟨ne_of_type hv.row hS.row (by decide), hv.lt, hS.lt, (Array.getElem?_eq_some_iff.1 hq1.row).1⟩
  have HST : Hid (∀ W, Below w1.heap.size w1 W → Calls Tryz.prog 98 #[.iface 39 (.pointer (some ⟨g, 0, none⟩)), .agg (plCells q)] W fun e w' => e = .returned (.tuple #[.agg (itC (stV l f q).1), .bool (stV l f q).2.1, .int .i64 (stV l f q).2.2]) ∧ LOut W g a n cap l (stF f q) w') := fun W hW => (standing_l (hS.below (thenB hb1 hW)) q hq).mono (by rintro e w' ⟨rfl, k1, k2⟩; exact ⟨rfl, k1, k2⟩)
  have HCH : Hid (∀ W, Below w1.heap.size w1 W → Calls Tryz.prog 97 #[.iface 39 (.pointer (some ⟨g, 0, none⟩)), .agg (cgC (wasX s q))] W fun e w' => e = .returned (.tuple #[.agg (itC (chV l f (wasX s q)).1), .bool (chV l f (wasX s q)).2.1, .int .i64 (chV l f (wasX s q)).2.2]) ∧ LOut W g a n cap l (chF f (wasX s q)) w') := fun W hW => changed_l (hS.below (thenB hb1 hW)) (wasX s q) hxok
  have hlc : ((chV l f (wasX s q)).1).bytes.length = 32 := chR_len _ (stV_ok l f _).ch.1 _ _ _
  have hls : ((stV l f q).1).bytes.length = 32 := (stV_ok l f q).ch.1
  have HR : Hid (vgV l f s q = if isX s q then chV l f (wasX s q) else stV l f q) := rfl
  have HRF : Hid (vgF f s q = if isX s q then chF f (wasX s q) else stF f q) := rfl
  have HSS : Hid (SoL w g a n cap l f) := hS
  generalize vgV l f s q = R at *
  generalize vgF f s q = RF at *
  generalize isX s q = is at *
  generalize wasX s q = c at *
  generalize chV l f c = D at *
  generalize chF f c = cF at *
  obtain ⟨dI, dB, dE⟩ := D
  dsimp only at HCH hlc HR
  generalize stV l f q = V at *
  generalize stF f q = sF at *
  obtain ⟨sI, sB, sE⟩ := V
  dsimp only at HST hls HR
  have HLC : Hid (dI.bytes.length = 32) := hlc
  have HLS : Hid (sI.bytes.length = 32) := hls
  clear hlc hls hsok hxok hS hd hv
  rw [show plV q = .agg (plCells q) from rfl]
  go_enter Tryz.func73, Tryz.ntmps73
  go_wp2_with fail
  refine wp_region_noPanic ?_
  refine wp_region_held_drew (S := fun W => Below w2.heap.size w2 W) (by kernel_rfl) (Below.refl _ _).drew (fun hHeld => ?_)
  refine wpAnyH_take (i := 0) (v := .pointer (some ⟨v, 0, none⟩)) rfl (by kernel_rfl) (by kernel_rfl) (by kernel_rfl) (fun _ _ _ h => h) (Or.inl ⟨by rfl, fun W hSw => by (try dsimp only at hSw); go_simp⟩) (by assumption) ?_
  try simp only [List.getElem_toArray, List.getElem_cons_zero, List.getElem_cons_succ, Act.put, List.setIfInBounds_toArray, List.set_cons_zero, List.set_cons_succ]
  refine wpAnyH_take (i := 1) (v := .pointer (some ⟨v, 0, none⟩)) rfl (by kernel_rfl) (by kernel_rfl) (by kernel_rfl) (fun _ _ _ h => h) (Or.inl ⟨by rfl, fun W hSw => by (try dsimp only at hSw); go_simp⟩) (by assumption) ?_
  try simp only [List.getElem_toArray, List.getElem_cons_zero, List.getElem_cons_succ, Act.put, List.setIfInBounds_toArray, List.set_cons_zero, List.set_cons_succ]
  refine wpAnyH_take (i := 2) (v := .pointer (some ⟨v, 1, none⟩)) rfl (by kernel_rfl) (by kernel_rfl) (by kernel_rfl) (fun _ _ _ h => h) (Or.inl ⟨by rfl, fun W hSw => by (try dsimp only at hSw); go_simp⟩) (by assumption) ?_
  try simp only [List.getElem_toArray, List.getElem_cons_zero, List.getElem_cons_succ, Act.put, List.setIfInBounds_toArray, List.set_cons_zero, List.set_cons_succ]
  refine wpAnyH_take (i := 3) (v := .pointer (some ⟨p, 0, none⟩)) rfl (by kernel_rfl) (by kernel_rfl) (by kernel_rfl) (fun _ _ _ h => h) (Or.inl ⟨by rfl, fun W hSw => by (try dsimp only at hSw); (have z := qv1 W hSw; go_simp)⟩) (by assumption) ?_
  try simp only [List.getElem_toArray, List.getElem_cons_zero, List.getElem_cons_succ, Act.put, List.setIfInBounds_toArray, List.set_cons_zero, List.set_cons_succ]
  refine wpAnyH_take (i := 4) (v := .agg (plCells q)) rfl (by kernel_rfl) (by kernel_rfl) (by kernel_rfl) (fun _ _ _ h => h) (yields_load (by rfl) _ _ rfl _ rfl _ qp) (by assumption) ?_
  try simp only [List.getElem_toArray, List.getElem_cons_zero, List.getElem_cons_succ, Act.put, List.setIfInBounds_toArray, List.set_cons_zero, List.set_cons_succ]
  refine wpAnyH_ready (rs := [5, 9]) (by kernel_rfl) (by simp) ?_
  refine AllReadyH.cons rfl (fun K hK => ?_) (AllReadyH.cons rfl (fun K hK => ?_) AllReadyH.nil)
  · go_simp
    go_wp2_with (go_at_call 91; refine (cgt _ (by assumption)).mono ?_; rintro e w5 ⟨rfl, hb5⟩)
    refine hK.out _ _ (hHeld.trans (hb5.mono hHeld.size)) (fun hHeld2 => ?_)
    clear hK K
    try simp only [List.getElem_toArray, List.getElem_cons_zero, List.getElem_cons_succ, Act.put, List.setIfInBounds_toArray, List.set_cons_zero, List.set_cons_succ]
    refine wpAnyH_take (i := 6) (v := .tuple #[.agg (cgC c), .bool is]) rfl (by kernel_rfl) (by kernel_rfl) (by kernel_rfl) (fun _ _ _ h => h) (Or.inl ⟨by rfl, fun W hSw => by (try dsimp only at hSw); go_simp⟩) (by assumption) ?_
    try simp only [List.getElem_toArray, List.getElem_cons_zero, List.getElem_cons_succ, Act.put, List.setIfInBounds_toArray, List.set_cons_zero, List.set_cons_succ]
    refine wpAnyH_take (i := 7) (v := .agg (cgC c)) rfl (by kernel_rfl) (by kernel_rfl) (by kernel_rfl) (fun _ _ _ h => h) (Or.inl ⟨by rfl, fun W hSw => by (try dsimp only at hSw); go_simp⟩) (by assumption) ?_
    try simp only [List.getElem_toArray, List.getElem_cons_zero, List.getElem_cons_succ, Act.put, List.setIfInBounds_toArray, List.set_cons_zero, List.set_cons_succ]
    refine wpAnyH_take (i := 8) (v := .bool is) rfl (by kernel_rfl) (by kernel_rfl) (by kernel_rfl) (fun _ _ _ h => h) (Or.inl ⟨by rfl, fun W hSw => by (try dsimp only at hSw); go_simp⟩) (by assumption) ?_
    try simp only [List.getElem_toArray, List.getElem_cons_zero, List.getElem_cons_succ, Act.put, List.setIfInBounds_toArray, List.set_cons_zero, List.set_cons_succ]
    refine wpAnyH_ready (rs := [9]) (by kernel_rfl) (by simp) ?_
    refine AllReadyH.cons rfl (fun K hK => ?_) AllReadyH.nil
    go_simp
    go_wp2
    have hat := CgAt.laid w5 cg0
    have HGE : Hid (w2.heap.size ≤ w5.heap.size) := hHeld2.size
    have hb6 := al w5 (.cells (cgC cg0) 94)
    obtain ⟨G, hG⟩ : ∃ G, w5.heap.size = G := ⟨_, rfl⟩
    refine hK.out _ _ (hHeld2.trans (hb6.mono hHeld2.size)) (fun hHeld3 => ?_)
    clear hK K
    try simp only [List.getElem_toArray, List.getElem_cons_zero, List.getElem_cons_succ, Act.put, List.setIfInBounds_toArray, List.set_cons_zero, List.set_cons_succ]
    obtain ⟨w6, hw6⟩ : ∃ w6, w5.alloc (.cells (cgC cg0) 94) = w6 := ⟨_, rfl⟩
    have hi6 : ItAt 150 w6 w1.heap.size it0 := by rw [← hw6]; exact hi2.below (hHeld2.trans (hb6.mono hHeld2.size))
    rw [hw6] at hat hHeld3 ⊢
    rw [hG] at hat HGE ⊢
    clear hb6 hw6 hb5 hHeld2
    refine wpAnyH_ready (rs := [10]) (by kernel_rfl) (by simp) ?_
    refine AllReadyH.cons rfl (fun K hK => ?_) AllReadyH.nil
    rw [if_pos (by rfl)]
    refine wp_stC _ _ rfl G c cg0 rfl rfl HXL.out lenc hat ?_
    refine hK.out _ _ (below_setRow hHeld3 HGE.out _) (fun hHeld4 => ?_)
    clear hK K
    try simp only [List.getElem_toArray, List.getElem_cons_zero, List.getElem_cons_succ, Act.put, List.setIfInBounds_toArray, List.set_cons_zero, List.set_cons_succ]
    have hc7 := hat.setRow c
    have hi7 : ItAt 150 (w6.setRow G (cgC c)) w1.heap.size it0 := ⟨(setRow_other _ _ _ _ (by have := HGE.out; have := HSZ.out; omega)).trans hi6.row⟩
    obtain ⟨w7, hw7⟩ : ∃ w7, w6.setRow G (cgC c) = w7 := ⟨_, rfl⟩
    rw [hw7] at hc7 hi7 hHeld4 ⊢
    refine wpAnyH_take (i := 11) (v := .bool is) rfl (by kernel_rfl) (by kernel_rfl) (by kernel_rfl) (fun _ _ _ h => h) (Or.inl ⟨by rfl, fun W hSw => by (try dsimp only at hSw); go_simp⟩) (by assumption) ?_
    try simp only [List.getElem_toArray, List.getElem_cons_zero, List.getElem_cons_succ, Act.put, List.setIfInBounds_toArray, List.set_cons_zero, List.set_cons_succ]
    refine wpAnyH_done (by kernel_rfl) ?_ _
    refine NoPanic.normal ?_
    have HB7 : Hid (Below w1.heap.size w1 w7) := hb2.trans (hHeld4.mono hb2.size)
    have HGN : Hid (G ≠ w1.heap.size) := by unfold Hid; have := HGE.out; have := HSZ.out; omega
    have HGG : Hid (w1.heap.size ≤ G) := by unfold Hid; have := HGE.out; have := HSZ.out; omega
    have e0 := HV.out
    have e1 := HQ.out
    have e2 := HST.out
    have e3 := HCH.out
    clear hHeld hHeld3 hHeld4 hat hi6 hw7 hG qv1 qp cgt HGE
    cases is
    · go_wp2_with fail
      refine wp_region_noPanic ?_
      refine wp_region_held_drew (S := fun W => VwAt W v g p ∧ PlAt W w.heap.size q) (by kernel_rfl) (HVW.out _ HB7.out.drew) (fun hHeld => ?_)
      refine wpAnyH_take (i := 0) (v := .pointer (some ⟨v, 0, none⟩)) rfl (by kernel_rfl) (by kernel_rfl) (by kernel_rfl) (fun _ _ _ h => h) (Or.inl ⟨by rfl, fun W hSw => by (try dsimp only at hSw); go_simp⟩) (by assumption) ?_
      try simp only [List.getElem_toArray, List.getElem_cons_zero, List.getElem_cons_succ, Act.put, List.setIfInBounds_toArray, List.set_cons_zero, List.set_cons_succ]
      refine wpAnyH_take (i := 1) (v := .pointer (some ⟨v, 0, none⟩)) rfl (by kernel_rfl) (by kernel_rfl) (by kernel_rfl) (fun _ _ _ h => h) (Or.inl ⟨by rfl, fun W hSw => by (try dsimp only at hSw); go_simp⟩) (by assumption) ?_
      try simp only [List.getElem_toArray, List.getElem_cons_zero, List.getElem_cons_succ, Act.put, List.setIfInBounds_toArray, List.set_cons_zero, List.set_cons_succ]
      refine wpAnyH_take (i := 2) (v := .pointer (some ⟨v, 0, none⟩)) rfl (by kernel_rfl) (by kernel_rfl) (by kernel_rfl) (fun _ _ _ h => h) (Or.inl ⟨by rfl, fun W hSw => by (try dsimp only at hSw); go_simp⟩) (by assumption) ?_
      try simp only [List.getElem_toArray, List.getElem_cons_zero, List.getElem_cons_succ, Act.put, List.setIfInBounds_toArray, List.set_cons_zero, List.set_cons_succ]
      refine wpAnyH_take (i := 3) (v := .iface 39 (.pointer (some ⟨g, 0, none⟩))) rfl (by kernel_rfl) (by kernel_rfl) (by kernel_rfl) (fun _ _ _ h => h) (Or.inl ⟨by rfl, fun W hSw => by (try dsimp only at hSw); (have z := e0 W hSw.1; go_simp)⟩) (by assumption) ?_
      try simp only [List.getElem_toArray, List.getElem_cons_zero, List.getElem_cons_succ, Act.put, List.setIfInBounds_toArray, List.set_cons_zero, List.set_cons_succ]
      refine wpAnyH_take (i := 4) (v := .agg (plCells q)) rfl (by kernel_rfl) (by kernel_rfl) (by kernel_rfl) (fun _ _ _ h => h) (yields_load (by rfl) _ _ rfl _ rfl _ e1) (by assumption) ?_
      try simp only [List.getElem_toArray, List.getElem_cons_zero, List.getElem_cons_succ, Act.put, List.setIfInBounds_toArray, List.set_cons_zero, List.set_cons_succ]
      refine wpAnyH_ready (rs := [5]) (by kernel_rfl) (by simp) ?_
      refine AllReadyH.cons rfl (fun K hK => ?_) AllReadyH.nil
      go_simp
      go_wp2_with (go_at_call 98; refine (e2 _ HB7.out.drew).mono ?_; rintro e w8 ⟨rfl, hL8⟩)
      refine hK.out _ _ ⟨hHeld.1.soleG hL8.sole HVG.out.1, hHeld.2.soleG hL8.sole (by have := HVG.out; omega)⟩ (fun hHeld2 => ?_)
      clear hK K
      try simp only [List.getElem_toArray, List.getElem_cons_zero, List.getElem_cons_succ, Act.put, List.setIfInBounds_toArray, List.set_cons_zero, List.set_cons_succ]
      refine wpAnyH_take (i := 6) (v := .agg (itC sI)) rfl (by kernel_rfl) (by kernel_rfl) (by kernel_rfl) (fun _ _ _ h => h) (Or.inl ⟨by rfl, fun W hSw => by (try dsimp only at hSw); go_simp⟩) (by assumption) ?_
      try simp only [List.getElem_toArray, List.getElem_cons_zero, List.getElem_cons_succ, Act.put, List.setIfInBounds_toArray, List.set_cons_zero, List.set_cons_succ]
      refine wpAnyH_take (i := 7) (v := .bool sB) rfl (by kernel_rfl) (by kernel_rfl) (by kernel_rfl) (fun _ _ _ h => h) (Or.inl ⟨by rfl, fun W hSw => by (try dsimp only at hSw); go_simp⟩) (by assumption) ?_
      try simp only [List.getElem_toArray, List.getElem_cons_zero, List.getElem_cons_succ, Act.put, List.setIfInBounds_toArray, List.set_cons_zero, List.set_cons_succ]
      refine wpAnyH_take (i := 8) (v := .int .i64 sE) rfl (by kernel_rfl) (by kernel_rfl) (by kernel_rfl) (fun _ _ _ h => h) (Or.inl ⟨by rfl, fun W hSw => by (try dsimp only at hSw); go_simp⟩) (by assumption) ?_
      try simp only [List.getElem_toArray, List.getElem_cons_zero, List.getElem_cons_succ, Act.put, List.setIfInBounds_toArray, List.set_cons_zero, List.set_cons_succ]
      have hi8 : ItAt 150 w8 w1.heap.size it0 := ⟨(hL8.sole.block _ (Array.getElem?_eq_some_iff.1 hi7.row).1 (fun e => by rw [List.mem_singleton] at e; have := HVG.out; omega)).trans hi7.row⟩
      refine wpAnyH_ready (rs := [9]) (by kernel_rfl) (by simp) ?_
      refine AllReadyH.cons rfl (fun K hK => ?_) AllReadyH.nil
      rw [if_pos (by rfl)]
      refine wp_stI _ _ rfl w1.heap.size sI it0 rfl rfl HLS.out len0 hi8 ?_
      refine hK.out _ _ ⟨hHeld2.1.setRowX (by have := HVG.out; omega), hHeld2.2.setRowX (by have := HVG.out; omega)⟩ (fun hHeld3 => ?_)
      clear hK K
      try simp only [List.getElem_toArray, List.getElem_cons_zero, List.getElem_cons_succ, Act.put, List.setIfInBounds_toArray, List.set_cons_zero, List.set_cons_succ]
      refine wpAnyH_take (i := 10) (v := .bool sB) rfl (by kernel_rfl) (by kernel_rfl) (by kernel_rfl) (fun _ _ _ h => h) (Or.inl ⟨by rfl, fun W hSw => by (try dsimp only at hSw); go_simp⟩) (by assumption) ?_
      try simp only [List.getElem_toArray, List.getElem_cons_zero, List.getElem_cons_succ, Act.put, List.setIfInBounds_toArray, List.set_cons_zero, List.set_cons_succ]
      refine wpAnyH_take (i := 11) (v := .int .i64 sE) rfl (by kernel_rfl) (by kernel_rfl) (by kernel_rfl) (fun _ _ _ h => h) (Or.inl ⟨by rfl, fun W hSw => by (try dsimp only at hSw); go_simp⟩) (by assumption) ?_
      try simp only [List.getElem_toArray, List.getElem_cons_zero, List.getElem_cons_succ, Act.put, List.setIfInBounds_toArray, List.set_cons_zero, List.set_cons_succ]
      refine wpAnyH_done (by kernel_rfl) ?_ _
      refine NoPanic.normal ?_
      clear e0 e1 e2 e3
      go_wp2_with fail
      exact ret_item3 rfl w1.heap.size sI HLS.out rfl _ rfl _ rfl (hi8.setRow _) rfl ⟨by rw [HR.out]; rfl, by rw [HRF.out]; exact (LOut.pre (hb1.trans (HB7.out.drew.mono hb1.size)) hL8).setRow HSS.out _ (Nat.le_of_lt HVG.out.2.2.2) _⟩
    · have lC : ∀ W, (VwAt W v g p ∧ CgAt W G c) → (Instr.loadAt 94 (.pointer (some ⟨G, 0, none⟩))).run Tryz.prog W = .ok (.agg (cgC c)) W := fun W h => h.2.load HXL.out
      go_wp2_with fail
      refine wp_region_noPanic ?_
      refine wp_region_held_drew (S := fun W => VwAt W v g p ∧ CgAt W G c) (by kernel_rfl) ⟨(HVW.out _ HB7.out.drew).1, hc7.drew⟩ (fun hHeld => ?_)
      refine wpAnyH_take (i := 0) (v := .pointer (some ⟨v, 0, none⟩)) rfl (by kernel_rfl) (by kernel_rfl) (by kernel_rfl) (fun _ _ _ h => h) (Or.inl ⟨by rfl, fun W hSw => by (try dsimp only at hSw); go_simp⟩) (by assumption) ?_
      try simp only [List.getElem_toArray, List.getElem_cons_zero, List.getElem_cons_succ, Act.put, List.setIfInBounds_toArray, List.set_cons_zero, List.set_cons_succ]
      refine wpAnyH_take (i := 1) (v := .pointer (some ⟨v, 0, none⟩)) rfl (by kernel_rfl) (by kernel_rfl) (by kernel_rfl) (fun _ _ _ h => h) (Or.inl ⟨by rfl, fun W hSw => by (try dsimp only at hSw); go_simp⟩) (by assumption) ?_
      try simp only [List.getElem_toArray, List.getElem_cons_zero, List.getElem_cons_succ, Act.put, List.setIfInBounds_toArray, List.set_cons_zero, List.set_cons_succ]
      refine wpAnyH_take (i := 2) (v := .pointer (some ⟨v, 0, none⟩)) rfl (by kernel_rfl) (by kernel_rfl) (by kernel_rfl) (fun _ _ _ h => h) (Or.inl ⟨by rfl, fun W hSw => by (try dsimp only at hSw); go_simp⟩) (by assumption) ?_
      try simp only [List.getElem_toArray, List.getElem_cons_zero, List.getElem_cons_succ, Act.put, List.setIfInBounds_toArray, List.set_cons_zero, List.set_cons_succ]
      refine wpAnyH_take (i := 3) (v := .iface 39 (.pointer (some ⟨g, 0, none⟩))) rfl (by kernel_rfl) (by kernel_rfl) (by kernel_rfl) (fun _ _ _ h => h) (Or.inl ⟨by rfl, fun W hSw => by (try dsimp only at hSw); (have z := e0 W hSw.1; go_simp)⟩) (by assumption) ?_
      try simp only [List.getElem_toArray, List.getElem_cons_zero, List.getElem_cons_succ, Act.put, List.setIfInBounds_toArray, List.set_cons_zero, List.set_cons_succ]
      refine wpAnyH_take (i := 4) (v := .agg (cgC c)) rfl (by kernel_rfl) (by kernel_rfl) (by kernel_rfl) (fun _ _ _ h => h) (yields_load (by rfl) _ _ rfl _ rfl _ lC) (by assumption) ?_
      try simp only [List.getElem_toArray, List.getElem_cons_zero, List.getElem_cons_succ, Act.put, List.setIfInBounds_toArray, List.set_cons_zero, List.set_cons_succ]
      refine wpAnyH_ready (rs := [5]) (by kernel_rfl) (by simp) ?_
      refine AllReadyH.cons rfl (fun K hK => ?_) AllReadyH.nil
      go_simp
      go_wp2_with (go_at_call 97; refine (e3 _ HB7.out.drew).mono ?_; rintro e w8 ⟨rfl, hL8⟩)
      refine hK.out _ _ ⟨hHeld.1.soleG hL8.sole HVG.out.1, ⟨(hL8.sole.block _ hHeld.2.lt (fun e => by rw [List.mem_singleton] at e; have := HVG.out; have := HGG.out; omega)).trans hHeld.2.row⟩⟩ (fun hHeld2 => ?_)
      clear hK K
      try simp only [List.getElem_toArray, List.getElem_cons_zero, List.getElem_cons_succ, Act.put, List.setIfInBounds_toArray, List.set_cons_zero, List.set_cons_succ]
      refine wpAnyH_take (i := 6) (v := .agg (itC dI)) rfl (by kernel_rfl) (by kernel_rfl) (by kernel_rfl) (fun _ _ _ h => h) (Or.inl ⟨by rfl, fun W hSw => by (try dsimp only at hSw); go_simp⟩) (by assumption) ?_
      try simp only [List.getElem_toArray, List.getElem_cons_zero, List.getElem_cons_succ, Act.put, List.setIfInBounds_toArray, List.set_cons_zero, List.set_cons_succ]
      refine wpAnyH_take (i := 7) (v := .bool dB) rfl (by kernel_rfl) (by kernel_rfl) (by kernel_rfl) (fun _ _ _ h => h) (Or.inl ⟨by rfl, fun W hSw => by (try dsimp only at hSw); go_simp⟩) (by assumption) ?_
      try simp only [List.getElem_toArray, List.getElem_cons_zero, List.getElem_cons_succ, Act.put, List.setIfInBounds_toArray, List.set_cons_zero, List.set_cons_succ]
      refine wpAnyH_take (i := 8) (v := .int .i64 dE) rfl (by kernel_rfl) (by kernel_rfl) (by kernel_rfl) (fun _ _ _ h => h) (Or.inl ⟨by rfl, fun W hSw => by (try dsimp only at hSw); go_simp⟩) (by assumption) ?_
      try simp only [List.getElem_toArray, List.getElem_cons_zero, List.getElem_cons_succ, Act.put, List.setIfInBounds_toArray, List.set_cons_zero, List.set_cons_succ]
      have hi8 : ItAt 150 w8 w1.heap.size it0 := ⟨(hL8.sole.block _ (Array.getElem?_eq_some_iff.1 hi7.row).1 (fun e => by rw [List.mem_singleton] at e; have := HVG.out; omega)).trans hi7.row⟩
      refine wpAnyH_ready (rs := [9]) (by kernel_rfl) (by simp) ?_
      refine AllReadyH.cons rfl (fun K hK => ?_) AllReadyH.nil
      rw [if_pos (by rfl)]
      refine wp_stI _ _ rfl w1.heap.size dI it0 rfl rfl HLC.out len0 hi8 ?_
      refine hK.out _ _ ⟨hHeld2.1.setRowX (by have := HVG.out; omega), hHeld2.2.apartR _ _ HGN.out⟩ (fun hHeld3 => ?_)
      clear hK K
      try simp only [List.getElem_toArray, List.getElem_cons_zero, List.getElem_cons_succ, Act.put, List.setIfInBounds_toArray, List.set_cons_zero, List.set_cons_succ]
      refine wpAnyH_take (i := 10) (v := .bool dB) rfl (by kernel_rfl) (by kernel_rfl) (by kernel_rfl) (fun _ _ _ h => h) (Or.inl ⟨by rfl, fun W hSw => by (try dsimp only at hSw); go_simp⟩) (by assumption) ?_
      try simp only [List.getElem_toArray, List.getElem_cons_zero, List.getElem_cons_succ, Act.put, List.setIfInBounds_toArray, List.set_cons_zero, List.set_cons_succ]
      refine wpAnyH_take (i := 11) (v := .int .i64 dE) rfl (by kernel_rfl) (by kernel_rfl) (by kernel_rfl) (fun _ _ _ h => h) (Or.inl ⟨by rfl, fun W hSw => by (try dsimp only at hSw); go_simp⟩) (by assumption) ?_
      try simp only [List.getElem_toArray, List.getElem_cons_zero, List.getElem_cons_succ, Act.put, List.setIfInBounds_toArray, List.set_cons_zero, List.set_cons_succ]
      refine wpAnyH_done (by kernel_rfl) ?_ _
      refine NoPanic.normal ?_
      clear e0 e1 e2 e3 lC
      go_wp2_with fail
      exact ret_item3 rfl w1.heap.size dI HLC.out rfl _ rfl _ rfl (hi8.setRow _) rfl ⟨by rw [HR.out]; rfl, by rw [HRF.out]; exact (LOut.pre (hb1.trans (HB7.out.drew.mono hb1.size)) hL8).setRow HSS.out _ (Nat.le_of_lt HVG.out.2.2.2) _⟩
  · go_simp
    go_wp2
    have hat0 : CgAt (w2.alloc (.cells (cgC cg0) 94)).drew w2.heap.size cg0 := (CgAt.laid w2 cg0).drew
    have hb6 := (al w2 (.cells (cgC cg0) 94)).drew
    have HGE : Hid (w2.heap.size ≤ w2.heap.size) := Nat.le_refl _
    refine hK.out _ _ hb6 (fun hHeld2 => ?_)
    clear hK K
    try simp only [List.getElem_toArray, List.getElem_cons_zero, List.getElem_cons_succ, Act.put, List.setIfInBounds_toArray, List.set_cons_zero, List.set_cons_succ]
    obtain ⟨w5, hw5⟩ : ∃ w5, (w2.alloc (.cells (cgC cg0) 94)).drew = w5 := ⟨_, rfl⟩
    rw [hw5] at hat0 hHeld2 ⊢
    clear hb6 hw5
    refine wpAnyH_ready (rs := [5]) (by kernel_rfl) (by simp) ?_
    refine AllReadyH.cons rfl (fun K hK => ?_) AllReadyH.nil
    go_simp
    go_wp2_with (go_at_call 91; refine (cgt _ (by assumption)).mono ?_; rintro e w6 ⟨rfl, hb5⟩)
    refine hK.out _ _ (hHeld2.trans (hb5.mono hHeld2.size)) (fun hHeld3 => ?_)
    clear hK K
    try simp only [List.getElem_toArray, List.getElem_cons_zero, List.getElem_cons_succ, Act.put, List.setIfInBounds_toArray, List.set_cons_zero, List.set_cons_succ]
    refine wpAnyH_take (i := 6) (v := .tuple #[.agg (cgC c), .bool is]) rfl (by kernel_rfl) (by kernel_rfl) (by kernel_rfl) (fun _ _ _ h => h) (Or.inl ⟨by rfl, fun W hSw => by (try dsimp only at hSw); go_simp⟩) (by assumption) ?_
    try simp only [List.getElem_toArray, List.getElem_cons_zero, List.getElem_cons_succ, Act.put, List.setIfInBounds_toArray, List.set_cons_zero, List.set_cons_succ]
    refine wpAnyH_take (i := 7) (v := .agg (cgC c)) rfl (by kernel_rfl) (by kernel_rfl) (by kernel_rfl) (fun _ _ _ h => h) (Or.inl ⟨by rfl, fun W hSw => by (try dsimp only at hSw); go_simp⟩) (by assumption) ?_
    try simp only [List.getElem_toArray, List.getElem_cons_zero, List.getElem_cons_succ, Act.put, List.setIfInBounds_toArray, List.set_cons_zero, List.set_cons_succ]
    refine wpAnyH_take (i := 8) (v := .bool is) rfl (by kernel_rfl) (by kernel_rfl) (by kernel_rfl) (fun _ _ _ h => h) (Or.inl ⟨by rfl, fun W hSw => by (try dsimp only at hSw); go_simp⟩) (by assumption) ?_
    try simp only [List.getElem_toArray, List.getElem_cons_zero, List.getElem_cons_succ, Act.put, List.setIfInBounds_toArray, List.set_cons_zero, List.set_cons_succ]
    have hat := hat0.below hb5
    have hi6 : ItAt 150 w6 w1.heap.size it0 := hi2.below hHeld3
    have hG : True := trivial
    clear hat0 hb5 hHeld2
    refine wpAnyH_ready (rs := [10]) (by kernel_rfl) (by simp) ?_
    refine AllReadyH.cons rfl (fun K hK => ?_) AllReadyH.nil
    rw [if_pos (by rfl)]
    refine wp_stC _ _ rfl w2.heap.size c cg0 rfl rfl HXL.out lenc hat ?_
    refine hK.out _ _ (below_setRow hHeld3 HGE.out _) (fun hHeld4 => ?_)
    clear hK K
    try simp only [List.getElem_toArray, List.getElem_cons_zero, List.getElem_cons_succ, Act.put, List.setIfInBounds_toArray, List.set_cons_zero, List.set_cons_succ]
    have hc7 := hat.setRow c
    have hi7 : ItAt 150 (w6.setRow w2.heap.size (cgC c)) w1.heap.size it0 := ⟨(setRow_other _ _ _ _ (by have := HGE.out; have := HSZ.out; omega)).trans hi6.row⟩
    obtain ⟨w7, hw7⟩ : ∃ w7, w6.setRow w2.heap.size (cgC c) = w7 := ⟨_, rfl⟩
    rw [hw7] at hc7 hi7 hHeld4 ⊢
    refine wpAnyH_take (i := 11) (v := .bool is) rfl (by kernel_rfl) (by kernel_rfl) (by kernel_rfl) (fun _ _ _ h => h) (Or.inl ⟨by rfl, fun W hSw => by (try dsimp only at hSw); go_simp⟩) (by assumption) ?_
    try simp only [List.getElem_toArray, List.getElem_cons_zero, List.getElem_cons_succ, Act.put, List.setIfInBounds_toArray, List.set_cons_zero, List.set_cons_succ]
    refine wpAnyH_done (by kernel_rfl) ?_ _
    refine NoPanic.normal ?_
    have HB7 : Hid (Below w1.heap.size w1 w7) := hb2.trans (hHeld4.mono hb2.size)
    have HGN : Hid (w2.heap.size ≠ w1.heap.size) := by unfold Hid; have := HGE.out; have := HSZ.out; omega
    have HGG : Hid (w1.heap.size ≤ w2.heap.size) := by unfold Hid; have := HGE.out; have := HSZ.out; omega
    have e0 := HV.out
    have e1 := HQ.out
    have e2 := HST.out
    have e3 := HCH.out
    clear hHeld hHeld3 hHeld4 hat hi6 hw7 hG qv1 qp cgt HGE
    cases is
    · go_wp2_with fail
      refine wp_region_noPanic ?_
      refine wp_region_held_drew (S := fun W => VwAt W v g p ∧ PlAt W w.heap.size q) (by kernel_rfl) (HVW.out _ HB7.out.drew) (fun hHeld => ?_)
      refine wpAnyH_take (i := 0) (v := .pointer (some ⟨v, 0, none⟩)) rfl (by kernel_rfl) (by kernel_rfl) (by kernel_rfl) (fun _ _ _ h => h) (Or.inl ⟨by rfl, fun W hSw => by (try dsimp only at hSw); go_simp⟩) (by assumption) ?_
      try simp only [List.getElem_toArray, List.getElem_cons_zero, List.getElem_cons_succ, Act.put, List.setIfInBounds_toArray, List.set_cons_zero, List.set_cons_succ]
      refine wpAnyH_take (i := 1) (v := .pointer (some ⟨v, 0, none⟩)) rfl (by kernel_rfl) (by kernel_rfl) (by kernel_rfl) (fun _ _ _ h => h) (Or.inl ⟨by rfl, fun W hSw => by (try dsimp only at hSw); go_simp⟩) (by assumption) ?_
      try simp only [List.getElem_toArray, List.getElem_cons_zero, List.getElem_cons_succ, Act.put, List.setIfInBounds_toArray, List.set_cons_zero, List.set_cons_succ]
      refine wpAnyH_take (i := 2) (v := .pointer (some ⟨v, 0, none⟩)) rfl (by kernel_rfl) (by kernel_rfl) (by kernel_rfl) (fun _ _ _ h => h) (Or.inl ⟨by rfl, fun W hSw => by (try dsimp only at hSw); go_simp⟩) (by assumption) ?_
      try simp only [List.getElem_toArray, List.getElem_cons_zero, List.getElem_cons_succ, Act.put, List.setIfInBounds_toArray, List.set_cons_zero, List.set_cons_succ]
      refine wpAnyH_take (i := 3) (v := .iface 39 (.pointer (some ⟨g, 0, none⟩))) rfl (by kernel_rfl) (by kernel_rfl) (by kernel_rfl) (fun _ _ _ h => h) (Or.inl ⟨by rfl, fun W hSw => by (try dsimp only at hSw); (have z := e0 W hSw.1; go_simp)⟩) (by assumption) ?_
      try simp only [List.getElem_toArray, List.getElem_cons_zero, List.getElem_cons_succ, Act.put, List.setIfInBounds_toArray, List.set_cons_zero, List.set_cons_succ]
      refine wpAnyH_take (i := 4) (v := .agg (plCells q)) rfl (by kernel_rfl) (by kernel_rfl) (by kernel_rfl) (fun _ _ _ h => h) (yields_load (by rfl) _ _ rfl _ rfl _ e1) (by assumption) ?_
      try simp only [List.getElem_toArray, List.getElem_cons_zero, List.getElem_cons_succ, Act.put, List.setIfInBounds_toArray, List.set_cons_zero, List.set_cons_succ]
      refine wpAnyH_ready (rs := [5]) (by kernel_rfl) (by simp) ?_
      refine AllReadyH.cons rfl (fun K hK => ?_) AllReadyH.nil
      go_simp
      go_wp2_with (go_at_call 98; refine (e2 _ HB7.out.drew).mono ?_; rintro e w8 ⟨rfl, hL8⟩)
      refine hK.out _ _ ⟨hHeld.1.soleG hL8.sole HVG.out.1, hHeld.2.soleG hL8.sole (by have := HVG.out; omega)⟩ (fun hHeld2 => ?_)
      clear hK K
      try simp only [List.getElem_toArray, List.getElem_cons_zero, List.getElem_cons_succ, Act.put, List.setIfInBounds_toArray, List.set_cons_zero, List.set_cons_succ]
      refine wpAnyH_take (i := 6) (v := .agg (itC sI)) rfl (by kernel_rfl) (by kernel_rfl) (by kernel_rfl) (fun _ _ _ h => h) (Or.inl ⟨by rfl, fun W hSw => by (try dsimp only at hSw); go_simp⟩) (by assumption) ?_
      try simp only [List.getElem_toArray, List.getElem_cons_zero, List.getElem_cons_succ, Act.put, List.setIfInBounds_toArray, List.set_cons_zero, List.set_cons_succ]
      refine wpAnyH_take (i := 7) (v := .bool sB) rfl (by kernel_rfl) (by kernel_rfl) (by kernel_rfl) (fun _ _ _ h => h) (Or.inl ⟨by rfl, fun W hSw => by (try dsimp only at hSw); go_simp⟩) (by assumption) ?_
      try simp only [List.getElem_toArray, List.getElem_cons_zero, List.getElem_cons_succ, Act.put, List.setIfInBounds_toArray, List.set_cons_zero, List.set_cons_succ]
      refine wpAnyH_take (i := 8) (v := .int .i64 sE) rfl (by kernel_rfl) (by kernel_rfl) (by kernel_rfl) (fun _ _ _ h => h) (Or.inl ⟨by rfl, fun W hSw => by (try dsimp only at hSw); go_simp⟩) (by assumption) ?_
      try simp only [List.getElem_toArray, List.getElem_cons_zero, List.getElem_cons_succ, Act.put, List.setIfInBounds_toArray, List.set_cons_zero, List.set_cons_succ]
      have hi8 : ItAt 150 w8 w1.heap.size it0 := ⟨(hL8.sole.block _ (Array.getElem?_eq_some_iff.1 hi7.row).1 (fun e => by rw [List.mem_singleton] at e; have := HVG.out; omega)).trans hi7.row⟩
      refine wpAnyH_ready (rs := [9]) (by kernel_rfl) (by simp) ?_
      refine AllReadyH.cons rfl (fun K hK => ?_) AllReadyH.nil
      rw [if_pos (by rfl)]
      refine wp_stI _ _ rfl w1.heap.size sI it0 rfl rfl HLS.out len0 hi8 ?_
      refine hK.out _ _ ⟨hHeld2.1.setRowX (by have := HVG.out; omega), hHeld2.2.setRowX (by have := HVG.out; omega)⟩ (fun hHeld3 => ?_)
      clear hK K
      try simp only [List.getElem_toArray, List.getElem_cons_zero, List.getElem_cons_succ, Act.put, List.setIfInBounds_toArray, List.set_cons_zero, List.set_cons_succ]
      refine wpAnyH_take (i := 10) (v := .bool sB) rfl (by kernel_rfl) (by kernel_rfl) (by kernel_rfl) (fun _ _ _ h => h) (Or.inl ⟨by rfl, fun W hSw => by (try dsimp only at hSw); go_simp⟩) (by assumption) ?_
      try simp only [List.getElem_toArray, List.getElem_cons_zero, List.getElem_cons_succ, Act.put, List.setIfInBounds_toArray, List.set_cons_zero, List.set_cons_succ]
      refine wpAnyH_take (i := 11) (v := .int .i64 sE) rfl (by kernel_rfl) (by kernel_rfl) (by kernel_rfl) (fun _ _ _ h => h) (Or.inl ⟨by rfl, fun W hSw => by (try dsimp only at hSw); go_simp⟩) (by assumption) ?_
      try simp only [List.getElem_toArray, List.getElem_cons_zero, List.getElem_cons_succ, Act.put, List.setIfInBounds_toArray, List.set_cons_zero, List.set_cons_succ]
      refine wpAnyH_done (by kernel_rfl) ?_ _
      refine NoPanic.normal ?_
      clear e0 e1 e2 e3
      go_wp2_with fail
      exact ret_item3 rfl w1.heap.size sI HLS.out rfl _ rfl _ rfl (hi8.setRow _) rfl ⟨by rw [HR.out]; rfl, by rw [HRF.out]; exact (LOut.pre (hb1.trans (HB7.out.drew.mono hb1.size)) hL8).setRow HSS.out _ (Nat.le_of_lt HVG.out.2.2.2) _⟩
    · have lC : ∀ W, (VwAt W v g p ∧ CgAt W w2.heap.size c) → (Instr.loadAt 94 (.pointer (some ⟨w2.heap.size, 0, none⟩))).run Tryz.prog W = .ok (.agg (cgC c)) W := fun W h => h.2.load HXL.out
      go_wp2_with fail
      refine wp_region_noPanic ?_
      refine wp_region_held_drew (S := fun W => VwAt W v g p ∧ CgAt W w2.heap.size c) (by kernel_rfl) ⟨(HVW.out _ HB7.out.drew).1, hc7.drew⟩ (fun hHeld => ?_)
      refine wpAnyH_take (i := 0) (v := .pointer (some ⟨v, 0, none⟩)) rfl (by kernel_rfl) (by kernel_rfl) (by kernel_rfl) (fun _ _ _ h => h) (Or.inl ⟨by rfl, fun W hSw => by (try dsimp only at hSw); go_simp⟩) (by assumption) ?_
      try simp only [List.getElem_toArray, List.getElem_cons_zero, List.getElem_cons_succ, Act.put, List.setIfInBounds_toArray, List.set_cons_zero, List.set_cons_succ]
      refine wpAnyH_take (i := 1) (v := .pointer (some ⟨v, 0, none⟩)) rfl (by kernel_rfl) (by kernel_rfl) (by kernel_rfl) (fun _ _ _ h => h) (Or.inl ⟨by rfl, fun W hSw => by (try dsimp only at hSw); go_simp⟩) (by assumption) ?_
      try simp only [List.getElem_toArray, List.getElem_cons_zero, List.getElem_cons_succ, Act.put, List.setIfInBounds_toArray, List.set_cons_zero, List.set_cons_succ]
      refine wpAnyH_take (i := 2) (v := .pointer (some ⟨v, 0, none⟩)) rfl (by kernel_rfl) (by kernel_rfl) (by kernel_rfl) (fun _ _ _ h => h) (Or.inl ⟨by rfl, fun W hSw => by (try dsimp only at hSw); go_simp⟩) (by assumption) ?_
      try simp only [List.getElem_toArray, List.getElem_cons_zero, List.getElem_cons_succ, Act.put, List.setIfInBounds_toArray, List.set_cons_zero, List.set_cons_succ]
      refine wpAnyH_take (i := 3) (v := .iface 39 (.pointer (some ⟨g, 0, none⟩))) rfl (by kernel_rfl) (by kernel_rfl) (by kernel_rfl) (fun _ _ _ h => h) (Or.inl ⟨by rfl, fun W hSw => by (try dsimp only at hSw); (have z := e0 W hSw.1; go_simp)⟩) (by assumption) ?_
      try simp only [List.getElem_toArray, List.getElem_cons_zero, List.getElem_cons_succ, Act.put, List.setIfInBounds_toArray, List.set_cons_zero, List.set_cons_succ]
      refine wpAnyH_take (i := 4) (v := .agg (cgC c)) rfl (by kernel_rfl) (by kernel_rfl) (by kernel_rfl) (fun _ _ _ h => h) (yields_load (by rfl) _ _ rfl _ rfl _ lC) (by assumption) ?_
      try simp only [List.getElem_toArray, List.getElem_cons_zero, List.getElem_cons_succ, Act.put, List.setIfInBounds_toArray, List.set_cons_zero, List.set_cons_succ]
      refine wpAnyH_ready (rs := [5]) (by kernel_rfl) (by simp) ?_
      refine AllReadyH.cons rfl (fun K hK => ?_) AllReadyH.nil
      go_simp
      go_wp2_with (go_at_call 97; refine (e3 _ HB7.out.drew).mono ?_; rintro e w8 ⟨rfl, hL8⟩)
      refine hK.out _ _ ⟨hHeld.1.soleG hL8.sole HVG.out.1, ⟨(hL8.sole.block _ hHeld.2.lt (fun e => by rw [List.mem_singleton] at e; have := HVG.out; have := HGG.out; omega)).trans hHeld.2.row⟩⟩ (fun hHeld2 => ?_)
      clear hK K
      try simp only [List.getElem_toArray, List.getElem_cons_zero, List.getElem_cons_succ, Act.put, List.setIfInBounds_toArray, List.set_cons_zero, List.set_cons_succ]
      refine wpAnyH_take (i := 6) (v := .agg (itC dI)) rfl (by kernel_rfl) (by kernel_rfl) (by kernel_rfl) (fun _ _ _ h => h) (Or.inl ⟨by rfl, fun W hSw => by (try dsimp only at hSw); go_simp⟩) (by assumption) ?_
      try simp only [List.getElem_toArray, List.getElem_cons_zero, List.getElem_cons_succ, Act.put, List.setIfInBounds_toArray, List.set_cons_zero, List.set_cons_succ]
      refine wpAnyH_take (i := 7) (v := .bool dB) rfl (by kernel_rfl) (by kernel_rfl) (by kernel_rfl) (fun _ _ _ h => h) (Or.inl ⟨by rfl, fun W hSw => by (try dsimp only at hSw); go_simp⟩) (by assumption) ?_
      try simp only [List.getElem_toArray, List.getElem_cons_zero, List.getElem_cons_succ, Act.put, List.setIfInBounds_toArray, List.set_cons_zero, List.set_cons_succ]
      refine wpAnyH_take (i := 8) (v := .int .i64 dE) rfl (by kernel_rfl) (by kernel_rfl) (by kernel_rfl) (fun _ _ _ h => h) (Or.inl ⟨by rfl, fun W hSw => by (try dsimp only at hSw); go_simp⟩) (by assumption) ?_
      try simp only [List.getElem_toArray, List.getElem_cons_zero, List.getElem_cons_succ, Act.put, List.setIfInBounds_toArray, List.set_cons_zero, List.set_cons_succ]
      have hi8 : ItAt 150 w8 w1.heap.size it0 := ⟨(hL8.sole.block _ (Array.getElem?_eq_some_iff.1 hi7.row).1 (fun e => by rw [List.mem_singleton] at e; have := HVG.out; omega)).trans hi7.row⟩
      refine wpAnyH_ready (rs := [9]) (by kernel_rfl) (by simp) ?_
      refine AllReadyH.cons rfl (fun K hK => ?_) AllReadyH.nil
      rw [if_pos (by rfl)]
      refine wp_stI _ _ rfl w1.heap.size dI it0 rfl rfl HLC.out len0 hi8 ?_
      refine hK.out _ _ ⟨hHeld2.1.setRowX (by have := HVG.out; omega), hHeld2.2.apartR _ _ HGN.out⟩ (fun hHeld3 => ?_)
      clear hK K
      try simp only [List.getElem_toArray, List.getElem_cons_zero, List.getElem_cons_succ, Act.put, List.setIfInBounds_toArray, List.set_cons_zero, List.set_cons_succ]
      refine wpAnyH_take (i := 10) (v := .bool dB) rfl (by kernel_rfl) (by kernel_rfl) (by kernel_rfl) (fun _ _ _ h => h) (Or.inl ⟨by rfl, fun W hSw => by (try dsimp only at hSw); go_simp⟩) (by assumption) ?_
      try simp only [List.getElem_toArray, List.getElem_cons_zero, List.getElem_cons_succ, Act.put, List.setIfInBounds_toArray, List.set_cons_zero, List.set_cons_succ]
      refine wpAnyH_take (i := 11) (v := .int .i64 dE) rfl (by kernel_rfl) (by kernel_rfl) (by kernel_rfl) (fun _ _ _ h => h) (Or.inl ⟨by rfl, fun W hSw => by (try dsimp only at hSw); go_simp⟩) (by assumption) ?_
      try simp only [List.getElem_toArray, List.getElem_cons_zero, List.getElem_cons_succ, Act.put, List.setIfInBounds_toArray, List.set_cons_zero, List.set_cons_succ]
      refine wpAnyH_done (by kernel_rfl) ?_ _
      refine NoPanic.normal ?_
      clear e0 e1 e2 e3 lC
      go_wp2_with fail
      exact ret_item3 rfl w1.heap.size dI HLC.out rfl _ rfl _ rfl (hi8.setRow _) rfl ⟨by rw [HR.out]; rfl, by rw [HRF.out]; exact (LOut.pre (hb1.trans (HB7.out.drew.mono hb1.size)) hL8).setRow HSS.out _ (Nat.le_of_lt HVG.out.2.2.2) _⟩

end Go.Proofs.YtjjhfginmamlkaaGreat
