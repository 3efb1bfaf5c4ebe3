/- The contract of the history's Forget. -/
import Derived.Test.YtmncjecbgakmfaaRtHDel
namespace Go.Proofs.Ytmncjecbgakmfaa
open Go.RowKit
set_option linter.unusedVariables false
set_option linter.unusedSimpArgs false
set_option maxRecDepth 100000

def forgetV (V : List (Int × List Tc)) (up : Int) : List (Int × List Tc) := V.filter (fun p => decide (up < p.1))
theorem forget_V {K : List De} (h : (K.map De.ver).Pairwise (· < ·)) (up : Int) : (K.drop (behN K up)).map De.plain = forgetV (K.map De.plain) up := by
  rw [drop_beh h up, forgetV, List.filter_map]
  rfl

set_option maxHeartbeats 8000000 in
theorem hforget_any {B : Nat} {w0 w : World} {p : Nat} {V : List (Int × List Tc)} {G : List Nat} (h : HistF B w0 w p V G) (hV : V.length ≤ 1000) (up : Int) :
    Calls Try.prog 24 #[ptr p, .int .u64 up] w fun e w' => e = .returned (.tuple #[]) ∧ HOut B w0 w w' p (forgetV V up) G := by
  obtain ⟨hv, K, h1, h2, h3, h4, h5, h6, h7, h8⟩ := h
  have hKl : K.length ≤ 1000 := by rw [← h2, List.length_map] at hV; exact hV
  have hvf := forget_V h1.rise up
  rw [h2] at hvf
  obtain ⟨k, hk⟩ : ∃ k, behN K up = k := ⟨_, rfl⟩
  have hkl : k ≤ K.length := by rw [← hk]; exact beh_le K up
  rw [hk] at hvf
  have HH : Hid (HistAt w p hv K) := h1
  have HVF : Hid ((K.drop k).map De.plain = forgetV V up) := hvf
  have HB : Hid (B ≤ p ∧ (∀ k, hv.ownBlock = some k → B ≤ k) ∧ (∀ d ∈ K, ∀ k, d.v.ownBlock = some k → B ≤ k) ∧ B ≤ w.heap.size ∧ Below B w0 w) := ⟨h3, h4, h5, h6, h7⟩
  have HG : Hid (∀ g ∈ G, g < w.heap.size ∧ g ≠ p ∧ hv.ownBlock ≠ some g ∧ ∀ d ∈ K, d.v.ownBlock ≠ some g) := h8
  obtain ⟨RB, hRB⟩ : ∃ RB, RB = hv.ownBlock.toList := ⟨_, rfl⟩
  have hRt : ∀ k ∈ RB, ∃ cs, w.heap[k]? = some (.cells cs 69 (0, 0)) := fun k hk => by
    rw [hRB, Option.mem_toList] at hk; exact own_row h1.own hk
  have hp4 := h1.row
  have n1 : ∀ k ∈ RB, k ≠ p := fun k hk => by obtain ⟨cs, e⟩ := hRt k hk; exact ne_of_type e hp4 (by decide)
  have q1 : ∀ W, Sole RB w W → W.heap[p]? = some (.cells #[hv] 67 (0, 0)) := fun W hW => (hW.block p (Array.getElem?_eq_some_iff.1 hp4).1 (fun hk => n1 p hk rfl)).trans hp4
  have q1l : ∀ W, Sole RB w W → (Instr.loadAt 65 (.pointer (some ⟨p, 0, none⟩))).run Try.prog W = .ok hv W := fun W hW => by
    have c : W.cell? ⟨p, 0, none⟩ = some hv := by rw [cell_of_row _ _ _ _ _ (0, 0) (q1 W hW)]; rfl
    have u := Try.underlying65
    go_simp
  have hbe := behind_any (h1.below (Below.refl _ w).drew) up (by omega)
  rw [hk] at hbe
  have HKL : Hid (k ≤ K.length) := hkl
  unfold ptr at *
  clear h1 h2 h3 h4 h5 h6 h7 h8 hKl hV hvf hk hkl hp4
  go_enter Try.func24, Try.ntmps24
  go_wp2_with fail
  refine wp_region_noPanic ?_
  refine wp_region_sink 11 (S := fun W => Sole RB w W) (by kernel_rfl) (by kernel_rfl) (Sole.drew _ _) (fun hHeld => ?_)
  refine wpAnyH_take (i := 0) (v := .pointer (some ⟨p, 0, none⟩)) rfl (by kernel_rfl) (by kernel_rfl) (by kernel_rfl) (fun _ _ _ h => h) (Or.inl ⟨by rfl, fun W hSw => by (try dsimp only at hSw); go_simp⟩) (by assumption) ?_
  try simp only [List.getElem_toArray, List.getElem_cons_zero, List.getElem_cons_succ, Act.put, List.setIfInBounds_toArray, List.set_cons_zero, List.set_cons_succ]
  refine wpAnyH_take (i := 1) (v := .pointer (some ⟨p, 0, none⟩)) rfl (by kernel_rfl) (by kernel_rfl) (by kernel_rfl) (fun _ _ _ h => h) (Or.inl ⟨by rfl, fun W hSw => by (try dsimp only at hSw); go_simp⟩) (by assumption) ?_
  try simp only [List.getElem_toArray, List.getElem_cons_zero, List.getElem_cons_succ, Act.put, List.setIfInBounds_toArray, List.set_cons_zero, List.set_cons_succ]
  refine wpAnyH_take (i := 2) (v := .pointer (some ⟨p, 0, none⟩)) rfl (by kernel_rfl) (by kernel_rfl) (by kernel_rfl) (fun _ _ _ h => h) (Or.inl ⟨by rfl, fun W hSw => by (try dsimp only at hSw); go_simp⟩) (by assumption) ?_
  try simp only [List.getElem_toArray, List.getElem_cons_zero, List.getElem_cons_succ, Act.put, List.setIfInBounds_toArray, List.set_cons_zero, List.set_cons_succ]
  refine wpAnyH_take (i := 3) (v := .pointer (some ⟨p, 0, none⟩)) rfl (by kernel_rfl) (by kernel_rfl) (by kernel_rfl) (fun _ _ _ h => h) (Or.inl ⟨by rfl, fun W hSw => by (try dsimp only at hSw); go_simp⟩) (by assumption) ?_
  try simp only [List.getElem_toArray, List.getElem_cons_zero, List.getElem_cons_succ, Act.put, List.setIfInBounds_toArray, List.set_cons_zero, List.set_cons_succ]
  refine wpAnyH_take (i := 4) (v := hv) rfl (by kernel_rfl) (by kernel_rfl) (by kernel_rfl) (fun _ _ _ h => h) (yields_load (by rfl) _ _ rfl _ rfl _ q1l) (by assumption) ?_
  try simp only [List.getElem_toArray, List.getElem_cons_zero, List.getElem_cons_succ, Act.put, List.setIfInBounds_toArray, List.set_cons_zero, List.set_cons_succ]
  refine wpAnyH_take (i := 5) (v := .pointer (some ⟨p, 0, none⟩)) rfl (by kernel_rfl) (by kernel_rfl) (by kernel_rfl) (fun _ _ _ h => h) (Or.inl ⟨by rfl, fun W hSw => by (try dsimp only at hSw); go_simp⟩) (by assumption) ?_
  try simp only [List.getElem_toArray, List.getElem_cons_zero, List.getElem_cons_succ, Act.put, List.setIfInBounds_toArray, List.set_cons_zero, List.set_cons_succ]
  refine wpAnyH_take (i := 6) (v := .int .u64 up) rfl (by kernel_rfl) (by kernel_rfl) (by kernel_rfl) (fun _ _ _ h => h) (Or.inl ⟨by rfl, fun W hSw => by (try dsimp only at hSw); go_simp⟩) (by assumption) ?_
  try simp only [List.getElem_toArray, List.getElem_cons_zero, List.getElem_cons_succ, Act.put, List.setIfInBounds_toArray, List.set_cons_zero, List.set_cons_succ]
  refine wpAnyH_ready (rs := [7]) (by kernel_rfl) (by simp) ?_
  refine AllReadyH.cons rfl (fun K hK => ?_) AllReadyH.nil
  go_simp
  go_wp2_with (go_at_call 33; refine hbe.mono ?_; rintro e w1 ⟨rfl, hb1x⟩)
  have hb1 : Below w.heap.size w w1 := (Below.refl _ w).drew.trans (hb1x.mono (Nat.le_refl _))
  refine hK.out _ _ (Sole.of_below hb1 _) (fun hHeld2 => ?_)
  clear hK K hb1x
  have h1 := HH.out.below hb1
  have hdl := del_any h1.own (fun d hd => (h1.each d hd).one) HKL.out
  have H1 : Hid _ := h1
  clear h1
  refine wpAnyH_ready (rs := [8]) (by kernel_rfl) (by simp) ?_
  refine AllReadyH.cons rfl (fun K hK => ?_) AllReadyH.nil
  go_simp
  go_wp2_with (go_at_call 35; refine hdl.mono ?_; rintro e w2 ⟨u2, rfl, ho2, hu2, hs2⟩)
  have hS2 : Sole RB w w2 := (Sole.of_below hb1 _).trans (by rw [hRB]; exact hs2)
  refine hK.out _ _ hS2 (fun hHeld3 => ?_)
  clear hK K hs2
  refine wpAnyH_take (i := 9) (v := .pointer (some ⟨p, 0, none⟩)) rfl (by kernel_rfl) (by kernel_rfl) (by kernel_rfl) (fun _ _ _ h => h) (Or.inl ⟨by rfl, fun W hSw => by (try dsimp only at hSw); go_simp⟩) (by assumption) ?_
  try simp only [List.getElem_toArray, List.getElem_cons_zero, List.getElem_cons_succ, Act.put, List.setIfInBounds_toArray, List.set_cons_zero, List.set_cons_succ]
  refine wpAnyH_take (i := 10) (v := .pointer (some ⟨p, 0, none⟩)) rfl (by kernel_rfl) (by kernel_rfl) (by kernel_rfl) (fun _ _ _ h => h) (Or.inl ⟨by rfl, fun W hSw => by (try dsimp only at hSw); go_simp⟩) (by assumption) ?_
  try simp only [List.getElem_toArray, List.getElem_cons_zero, List.getElem_cons_succ, Act.put, List.setIfInBounds_toArray, List.set_cons_zero, List.set_cons_succ]
  have hG2 := q1 w2 hS2
  have c22 : w2.cell? ⟨p, 0, none⟩ = some hv := by rw [cell_of_row _ _ _ _ _ (0, 0) hG2]; rfl
  have f22 := frozen_of_row w2 p 0 _ _ hG2
  have hG3 := heap_setCell_same w2 p 0 _ _ u2 hG2
  obtain ⟨a2, c2, rfl⟩ := row_slice ho2
  obtain ⟨m, hm⟩ : ∃ m, K.length - k = m := ⟨_, rfl⟩
  rw [hm] at ho2 hG3 hu2 ⊢
  obtain ⟨w3, hw3⟩ : ∃ w3, w2.setCell ⟨p, 0, none⟩ (.slice a2 m c2) = w3 := ⟨_, rfl⟩
  have hS23 : Sole [p] w2 w3 := by rw [← hw3]; exact Sole.setCell _ _ (by simp)
  rw [hw3] at hG3
  have HG3 : Hid (w3.heap[p]? = some (.cells #[.slice a2 m c2] 67 (0, 0))) := hG3
  have HX : Hid (Sole RB w w2 ∧ Sole [p] w2 w3 ∧ K.length - k = m) := ⟨hS2, hS23, hm⟩
  have HO2 : Hid (w2.ownsRow 0 69 2 (.slice a2 m c2) m ((K.drop k).flatMap deE)) := ho2
  have HU2 : Hid ((Value.slice a2 m c2).ownBlock = hv.ownBlock) := hu2
  have HG2 : Hid (w2.heap[p]? = some (.cells #[hv] 67 (0, 0))) := hG2
  have HR : Hid (RB = hv.ownBlock.toList ∧ (∀ k ∈ RB, ∃ cs, w.heap[k]? = some (.cells cs 69 (0, 0))) ∧ ∀ k ∈ RB, k ≠ p) := ⟨hRB, hRt, n1⟩
  clear hS2 hS23 hm ho2 hu2 hG3 hRB hRt n1 q1 q1l hbe hdl hHeld hHeld2 hHeld3 hb1
  refine wpAnyH_done (by kernel_rfl) ?_ _
  refine Behind.run (by rfl) ?_
  go_simp
  go_wp2
  refine NoPanic.normal ?_
  go_wp2
  go_end0
  refine ⟨rfl, ?_⟩
  obtain ⟨s12, s23, hm⟩ := HX.out
  obtain ⟨hRB, hRt, n1⟩ := HR.out
  have h1 := HH.out
  have hsz : w.heap.size ≤ w3.heap.size := Nat.le_trans s12.size s23.size
  have hSall : Sole (p :: RB) w w3 := (s12.mono (fun k hk => by simp [hk])).trans (s23.mono (fun k hk => by simp at hk; simp [hk]))
  have hlen : (K.drop k).length = m := by rw [List.length_drop]; exact hm
  have hd3 : ∀ d ∈ K, DeOk w3 d := fun d hd => (h1.each d hd).keep hsz (fun q hq => by
    obtain ⟨cs, e⟩ := own_row (h1.each d hd).own hq
    refine hSall.block q (Array.getElem?_eq_some_iff.1 e).1 (fun hk => ?_)
    rcases List.mem_cons.1 hk with rfl | hk
    · exact ne_of_type e h1.row (by decide) rfl
    · obtain ⟨cs', e'⟩ := hRt _ hk
      exact ne_of_type e' e (by decide) rfl)
  have ho3 : w3.ownsRow 0 69 2 (.slice a2 m c2) m ((K.drop k).flatMap deE) := own_keep HO2.out s23.size (fun q hq hl => s23.block q hl (by
    obtain ⟨cs, e⟩ := own_row HO2.out hq
    have := ne_of_type e HG2.out (by decide)
    simpa using this))
  refine ⟨⟨.slice a2 m c2, K.drop k, ⟨HG3.out, by rw [hlen]; exact ho3, fun d hd => hd3 d (List.mem_of_mem_drop hd), ?_⟩, HVF.out, HB.out.1, ?_, fun d hd => HB.out.2.2.1 d (List.mem_of_mem_drop hd), Nat.le_trans HB.out.2.2.2.1 hsz, ?_, ?_⟩, hsz, fun g hg => ?_⟩
  · rw [List.map_drop]; exact h1.rise.sublist (List.drop_sublist _ _)
  · intro q hq
    rw [HU2.out] at hq
    exact HB.out.2.1 q hq
  · refine Sole.belowOf HB.out.2.2.2.2 hSall HB.out.2.2.2.1 (fun q hq => ?_)
    rcases List.mem_cons.1 hq with rfl | hq
    · exact HB.out.1
    · rw [hRB, Option.mem_toList] at hq; exact HB.out.2.1 q hq
  · intro g hg
    obtain ⟨k1, k2, k3, k4⟩ := HG.out g hg
    exact ⟨Nat.lt_of_lt_of_le k1 hsz, k2, by rw [HU2.out]; exact k3, fun d hd => k4 d (List.mem_of_mem_drop hd)⟩
  · obtain ⟨k1, k2, k3, k4⟩ := HG.out g hg
    refine hSall.block g k1 (fun hk => ?_)
    rcases List.mem_cons.1 hk with e | e
    · exact k2 e
    · rw [hRB, Option.mem_toList] at e; exact k3 e

end Go.Proofs.Ytmncjecbgakmfaa
