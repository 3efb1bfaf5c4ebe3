/- The contract of the set's Add. -/
import Derived.Test.YtjjhfginmamlkaaGreatR2
namespace Go.Proofs.YtjjhfginmamlkaaGreat
open Go.RowKit Go.Maps
set_option linter.unusedVariables false
set_option linter.unusedSimpArgs false
set_option maxRecDepth 100000

/-- What is in a set behind an addition. -/
def addL (L : List Tc) (t : Tc) : List Tc := if mayB t = true then (if hasL L t = true then L else L ++ [t]) else L
def AddOut (w : World) (p b : Nat) (v : Value) (L : List Tc) (w' : World) : Prop := ∃ v', SetAt w' p b v' L ∧ KeepQ p b v w w' v'
theorem slice_tc (x : Tc) (w : World) : (Instr.buildSlice 58 1 #[(0, .agg (tcC x))]).run Tryz.prog w = .ok (.slice (some ⟨w.heap.size, 0, none⟩) 1 1) (w.alloc (.cells (tcC x) 61)) := by
  have h : ∀ (k i l h : Int) (s : ByteArray), (Instr.buildSlice 58 1 #[(0, .agg (tcC ⟨k, i, s, l, h⟩))]).run Tryz.prog w = .ok (.slice (some ⟨w.heap.size, 0, none⟩) 1 1) (w.alloc (.cells (tcC ⟨k, i, s, l, h⟩) 61)) := by
    intro k i l h s
    kernel_rfl
  obtain ⟨k, i, s, l, u⟩ := x
  exact h k i l u s
/-- What Add reads. -/
structure AddS (w W : World) (p b : Nat) (v : Value) (L : List Tc) (t : Tc) : Prop where
  s : SetAt W p b v L
  t : TcAt W w.heap.size t
  bel : Below w.heap.size w W
theorem AddS.below {w W W' : World} {p b : Nat} {v : Value} {L : List Tc} {t : Tc} (h : AddS w W p b v L t) (hb : Below W.heap.size W W') : AddS w W' p b v L t := ⟨h.s.below hb, h.t.below hb, thenB h.bel (hb.mono (Nat.le_refl _))⟩
theorem AddS.drew {w W : World} {p b : Nat} {v : Value} {L : List Tc} {t : Tc} (h : AddS w W p b v L t) : AddS w W.drew p b v L t := ⟨h.s.drew, ⟨h.t.row⟩, h.bel.drew⟩

set_option maxHeartbeats 8000000 in
theorem add_any {w : World} {p b : Nat} {v : Value} {L : List Tc} (h : SetAt w p b v L) (t : Tc) (ht : TcOk t) (hN : L.length ≤ 20000) : Calls Tryz.prog 70 #[ptr p, .agg (tcC t)] w fun e w' =>
    e = .returned (.int .i64 (tckE t)) ∧ AddOut w p b v (addL L t) w' := by
  have hS1 : AddS w (w.alloc (.cells (tcC t) 61)) p b v L t := ⟨h.below (bel1 _ _), TcAt.laid w t, bel1 _ _⟩
  obtain ⟨w1, hw1⟩ : ∃ w1, w.alloc (.cells (tcC t) 61) = w1 := ⟨_, rfl⟩
  rw [hw1] at hS1
  have l1 : Hid _ := hS1.t.load
  have hc := tcheck_any w1 t
  unfold ptr
  unfold addL
  cases hm : mayB t with
  | false =>
    rw [tckE, if_neg (by rw [hm]; simp)] at hc ⊢
    rw [if_neg (by simp)]
    go_enter Tryz.func70, Tryz.ntmps70
    go_wp2_with (refine wpList_loadG rfl 61 _ rfl _ rfl _ l1.out ?_)
    refine hc.mono ?_
    rintro e w2 ⟨rfl, hb2⟩
    go_wp2
    go_ret
    exact ⟨rfl, _, (hS1.below hb2).s, KeepQ.of_below (hS1.below hb2).bel⟩
  | true =>
  rw [tckE, if_pos hm] at hc ⊢
  rw [if_pos rfl]
  obtain ⟨R, hR⟩ : ∃ R, (if hasL L t = true then L else L ++ [t]) = R := ⟨_, rfl⟩
  rw [hR]
  have HR : Hid _ := hR
  clear hR
  go_enter Tryz.func70, Tryz.ntmps70
  go_wp2_with (refine wpList_loadG rfl 61 _ rfl _ rfl _ l1.out ?_)
  refine hc.mono ?_
  rintro e w2 ⟨rfl, hb2⟩
  have hS2 := hS1.below hb2
  have hlook : ∀ W, AddS w W p b v L t → (Instr.lookup 103 (.map (some b)) (.agg (tcC t)) true).run Tryz.prog W = .ok (.tuple #[.agg #[], .bool (hasL L t)]) W := fun W hW => hW.s.sp.look hW.s.ok ht
  have hz := zeroU
  clear hw1 hS1 l1 hc hb2
  go_wp2_with fail
  refine wp_region_noPanic ?_
  refine wp_region_held_drew (S := fun W => AddS w W p b v L t) (by kernel_rfl) hS2.drew (fun hHeld => ?_)
  refine wpAnyH_take (i := 0) (v := .pointer (some ⟨p, 0, none⟩)) rfl (by kernel_rfl) (by kernel_rfl) (by kernel_rfl) (fun _ _ _ h => h) (Or.inl ⟨by rfl, fun W hSw => by (try dsimp only at hSw); go_simp⟩) (by assumption) ?_
  try simp only [List.getElem_toArray, List.getElem_cons_zero, List.getElem_cons_succ, Act.put, List.setIfInBounds_toArray, List.set_cons_zero, List.set_cons_succ]
  refine wpAnyH_take (i := 1) (v := .pointer (some ⟨p, 0, none⟩)) rfl (by kernel_rfl) (by kernel_rfl) (by kernel_rfl) (fun _ _ _ h => h) (Or.inl ⟨by rfl, fun W hSw => by (try dsimp only at hSw); go_simp⟩) (by assumption) ?_
  try simp only [List.getElem_toArray, List.getElem_cons_zero, List.getElem_cons_succ, Act.put, List.setIfInBounds_toArray, List.set_cons_zero, List.set_cons_succ]
  refine wpAnyH_take (i := 2) (v := .pointer (some ⟨p, 1, none⟩)) rfl (by kernel_rfl) (by kernel_rfl) (by kernel_rfl) (fun _ _ _ h => h) (Or.inl ⟨by rfl, fun W hSw => by (try dsimp only at hSw); go_simp⟩) (by assumption) ?_
  try simp only [List.getElem_toArray, List.getElem_cons_zero, List.getElem_cons_succ, Act.put, List.setIfInBounds_toArray, List.set_cons_zero, List.set_cons_succ]
  refine wpAnyH_take (i := 3) (v := .map (some b)) rfl (by kernel_rfl) (by kernel_rfl) (by kernel_rfl) (fun _ _ _ h => h) (yields_load (by rfl) _ _ rfl _ rfl _ (fun W h => h.s.load1)) (by assumption) ?_
  try simp only [List.getElem_toArray, List.getElem_cons_zero, List.getElem_cons_succ, Act.put, List.setIfInBounds_toArray, List.set_cons_zero, List.set_cons_succ]
  refine wpAnyH_take (i := 4) (v := .agg (tcC t)) rfl (by kernel_rfl) (by kernel_rfl) (by kernel_rfl) (fun _ _ _ h => h) (yields_load (by rfl) _ _ rfl _ rfl _ (fun W h => h.t.load)) (by assumption) ?_
  try simp only [List.getElem_toArray, List.getElem_cons_zero, List.getElem_cons_succ, Act.put, List.setIfInBounds_toArray, List.set_cons_zero, List.set_cons_succ]
  refine wpAnyH_take (i := 5) (v := .tuple #[.agg #[], .bool (hasL L t)]) rfl (by kernel_rfl) (by kernel_rfl) (by kernel_rfl) (fun _ _ _ h => h) (Or.inl ⟨by rfl, fun W hSw => by (try dsimp only at hSw); have hk := hlook W hSw; go_simp⟩) (by assumption) ?_
  try simp only [List.getElem_toArray, List.getElem_cons_zero, List.getElem_cons_succ, Act.put, List.setIfInBounds_toArray, List.set_cons_zero, List.set_cons_succ]
  refine wpAnyH_take (i := 6) (v := .tuple #[.agg #[], .bool (hasL L t)]) rfl (by kernel_rfl) (by kernel_rfl) (by kernel_rfl) (fun _ _ _ h => h) (Or.inl ⟨by rfl, fun W hSw => by (try dsimp only at hSw); go_simp⟩) (by assumption) ?_
  try simp only [List.getElem_toArray, List.getElem_cons_zero, List.getElem_cons_succ, Act.put, List.setIfInBounds_toArray, List.set_cons_zero, List.set_cons_succ]
  refine wpAnyH_take (i := 7) (v := .agg #[]) rfl (by kernel_rfl) (by kernel_rfl) (by kernel_rfl) (fun _ _ _ h => h) (Or.inl ⟨by rfl, fun W hSw => by (try dsimp only at hSw); go_simp⟩) (by assumption) ?_
  try simp only [List.getElem_toArray, List.getElem_cons_zero, List.getElem_cons_succ, Act.put, List.setIfInBounds_toArray, List.set_cons_zero, List.set_cons_succ]
  refine wpAnyH_take (i := 8) (v := .bool (hasL L t)) rfl (by kernel_rfl) (by kernel_rfl) (by kernel_rfl) (fun _ _ _ h => h) (Or.inl ⟨by rfl, fun W hSw => by (try dsimp only at hSw); go_simp⟩) (by assumption) ?_
  try simp only [List.getElem_toArray, List.getElem_cons_zero, List.getElem_cons_succ, Act.put, List.setIfInBounds_toArray, List.set_cons_zero, List.set_cons_succ]
  refine wpAnyH_ready (rs := [9]) (by kernel_rfl) (by simp) ?_
  refine AllReadyH.cons rfl (fun K hK => ?_) AllReadyH.nil
  go_simp
  refine hK.out _ _ (hHeld.below (bel1 _ _)) (fun hHeld2 => ?_)
  clear hK K
  try simp only [List.getElem_toArray, List.getElem_cons_zero, List.getElem_cons_succ, Act.put, List.setIfInBounds_toArray, List.set_cons_zero, List.set_cons_succ]
  refine wpAnyH_ready (rs := [10]) (by kernel_rfl) (by simp) ?_
  refine AllReadyH.cons rfl (fun K hK => ?_) AllReadyH.nil
  go_simp
  refine hK.out _ _ hHeld2 (fun hHeld3 => ?_)
  clear hK K
  refine wpAnyH_take (i := 11) (v := .bool (hasL L t)) rfl (by kernel_rfl) (by kernel_rfl) (by kernel_rfl) (fun _ _ _ h => h) (Or.inl ⟨by rfl, fun W hSw => by (try dsimp only at hSw); go_simp⟩) (by assumption) ?_
  try simp only [List.getElem_toArray, List.getElem_cons_zero, List.getElem_cons_succ, Act.put, List.setIfInBounds_toArray, List.set_cons_zero, List.set_cons_succ]
  refine wpAnyH_done (by kernel_rfl) ?_ _
  refine NoPanic.normal ?_
  clear hHeld hHeld3 hS2 hlook
  obtain ⟨w3, hw3⟩ : ∃ w3, (w2.alloc (.cells #[] 172)).drew = w3 := ⟨_, rfl⟩
  rw [hw3] at hHeld2 ⊢
  have hS3 := hHeld2
  clear hHeld2 hw3
  cases hh : hasL L t with
  | true =>
    go_wp2_with fail
    go_ret
    exact ⟨rfl, v, by rw [← HR.out, if_pos hh]; exact hS3.s, KeepQ.of_below hS3.bel⟩
  | false =>
  have HR2 : Hid (R = L ++ [t]) := by unfold Hid; rw [← HR.out, if_neg (by rw [hh]; simp)]
  clear HR
  have hno : t ∉ L := fun e => by rw [hasL_iff.2 e] at hh; cases hh
  obtain ⟨w4, hmu, hm4, ht4⟩ := (hS3.s.sp.keep (w' := w3.drew) rfl).put hS3.s.ok (by unfold maxLen; omega) ht hno
  have hg4 := ht4.grown
  have HM4 : Hid (SpAt w4 b (L ++ [t])) := hm4
  have hpb := hS3.s.bp
  clear ht4 hm4
  go_wp2_with fail
  refine wp_region_noPanic ?_
  refine wp_region_sink 6 (S := fun W => AddS w W p b v L t) (by kernel_rfl) (by kernel_rfl) hS3.drew (fun hHeld => ?_)
  refine wpAnyH_take (i := 0) (v := .pointer (some ⟨p, 0, none⟩)) rfl (by kernel_rfl) (by kernel_rfl) (by kernel_rfl) (fun _ _ _ h => h) (Or.inl ⟨by rfl, fun W hSw => by (try dsimp only at hSw); go_simp⟩) (by assumption) ?_
  try simp only [List.getElem_toArray, List.getElem_cons_zero, List.getElem_cons_succ, Act.put, List.setIfInBounds_toArray, List.set_cons_zero, List.set_cons_succ]
  refine wpAnyH_take (i := 1) (v := .pointer (some ⟨p, 0, none⟩)) rfl (by kernel_rfl) (by kernel_rfl) (by kernel_rfl) (fun _ _ _ h => h) (Or.inl ⟨by rfl, fun W hSw => by (try dsimp only at hSw); go_simp⟩) (by assumption) ?_
  try simp only [List.getElem_toArray, List.getElem_cons_zero, List.getElem_cons_succ, Act.put, List.setIfInBounds_toArray, List.set_cons_zero, List.set_cons_succ]
  refine wpAnyH_take (i := 2) (v := .pointer (some ⟨p, 1, none⟩)) rfl (by kernel_rfl) (by kernel_rfl) (by kernel_rfl) (fun _ _ _ h => h) (Or.inl ⟨by rfl, fun W hSw => by (try dsimp only at hSw); go_simp⟩) (by assumption) ?_
  try simp only [List.getElem_toArray, List.getElem_cons_zero, List.getElem_cons_succ, Act.put, List.setIfInBounds_toArray, List.set_cons_zero, List.set_cons_succ]
  refine wpAnyH_take (i := 3) (v := .map (some b)) rfl (by kernel_rfl) (by kernel_rfl) (by kernel_rfl) (fun _ _ _ h => h) (yields_load (by rfl) _ _ rfl _ rfl _ (fun W h => h.s.load1)) (by assumption) ?_
  try simp only [List.getElem_toArray, List.getElem_cons_zero, List.getElem_cons_succ, Act.put, List.setIfInBounds_toArray, List.set_cons_zero, List.set_cons_succ]
  refine wpAnyH_take (i := 4) (v := .agg (tcC t)) rfl (by kernel_rfl) (by kernel_rfl) (by kernel_rfl) (fun _ _ _ h => h) (yields_load (by rfl) _ _ rfl _ rfl _ (fun W h => h.t.load)) (by assumption) ?_
  try simp only [List.getElem_toArray, List.getElem_cons_zero, List.getElem_cons_succ, Act.put, List.setIfInBounds_toArray, List.set_cons_zero, List.set_cons_succ]
  refine wpAnyH_take (i := 5) (v := .agg #[]) rfl (by kernel_rfl) (by kernel_rfl) (by kernel_rfl) (fun _ _ _ h => h) (Or.inl ⟨by rfl, fun W hSw => by (try dsimp only at hSw); go_simp⟩) (by assumption) ?_
  try simp only [List.getElem_toArray, List.getElem_cons_zero, List.getElem_cons_succ, Act.put, List.setIfInBounds_toArray, List.set_cons_zero, List.set_cons_succ]
  refine wpAnyH_done (by kernel_rfl) ?_ _
  refine Behind.run (by rfl) ?_
  go_simp
  go_wp2
  refine NoPanic.normal ?_
  have hsz4 : w3.drew.heap.size ≤ w4.heap.size := hg4.size
  have hsz4' : w3.heap.size ≤ w4.heap.size := hsz4
  have hp4 : w4.heap[p]? = some (.cells #[v, .map (some b)] 105 (0, 0)) := (hg4.block p hS3.s.lt (fun e => hpb (by cases e; rfl))).trans hS3.s.row
  have ht4 : TcAt w4 w.heap.size t := ⟨(hg4.block _ hS3.t.lt (fun e => by
    cases e
    obtain ⟨x, cl, e2⟩ := hS3.s.sp.isMap
    rw [hS3.t.row] at e2; cases e2)).trans hS3.t.row⟩
  have ho4 := own_keep hS3.s.own hsz4 (fun q hq hl => hg4.block q hl (fun e => hS3.s.vb hq (by cases e; rfl)))
  have hK4 : Sole [b] w3 w4 := ⟨hg4.os, hg4.tape, hg4.output, hsz4, fun k hk hn => hg4.block k hk (fun e => hn (by cases e; simp))⟩
  have HK4 : Hid (Sole [b] w3 w4) := hK4
  obtain ⟨a0, cap0, rfl⟩ := own_shape h.own
  obtain ⟨RB, hRB⟩ : ∃ RB, RB = (Value.slice a0 L.length cap0).ownBlock.toList := ⟨_, rfl⟩
  have hRt : ∀ k ∈ RB, ∃ cs, w4.heap[k]? = some (.cells cs 61 (0, 0)) := fun k hk => by
    rw [hRB, Option.mem_toList] at hk; exact own_row ho4 hk
  have n1 : ∀ k ∈ RB, k ≠ p := fun k hk => by obtain ⟨cs, e⟩ := hRt k hk; exact ne_of_type e hp4 (by decide)
  have n2 : ∀ k ∈ RB, k ≠ w.heap.size := fun k hk e => by
    rw [hRB, Option.mem_toList] at hk
    obtain ⟨cs, e1⟩ := own_row h.own hk
    have := (Array.getElem?_eq_some_iff.1 e1).1
    omega
  have n5 : ∀ k ∈ RB, k ≠ b := fun k hk e => by
    rw [hRB, Option.mem_toList] at hk
    exact hS3.s.vb hk e
  have q1 : ∀ W, Sole RB w4 W → W.heap[p]? = some (.cells #[.slice a0 L.length cap0, .map (some b)] 105 (0, 0)) := fun W hW => (hW.block p (Array.getElem?_eq_some_iff.1 hp4).1 (fun hk => n1 p hk rfl)).trans hp4
  have q1l : ∀ W, Sole RB w4 W → (Instr.loadAt 58 (.pointer (some ⟨p, 0, none⟩))).run Tryz.prog W = .ok (.slice a0 L.length cap0) W := fun W hW => by
    have c : W.cell? ⟨p, 0, none⟩ = some (.slice a0 L.length cap0) := by rw [cell_of_row _ _ _ _ _ (0, 0) (q1 W hW)]; rfl
    have u := Tryz.underlying58
    go_simp
  have q2 : ∀ W, Sole RB w4 W → TcAt W w.heap.size t := fun W hW => ⟨(hW.block _ ht4.lt (fun hk => n2 _ hk rfl)).trans ht4.row⟩
  have hbs := slice_tc t
  obtain ⟨iP, hiP, hp0, hp1', hp2⟩ := info_parts info_tc
  have HB3 : Hid (Below w.heap.size w w3) := hS3.bel
  have HOK : Hid (∀ x ∈ L, TcOk x) := hS3.s.ok
  have HND : Hid L.Nodup := hS3.s.nd
  have HS3b : Hid (b < w3.heap.size) := hS3.s.sp.lt
  have HPS : Hid (p < w.heap.size) := h.lt
  clear hg4 hS3 hHeld hmu
  go_wp2_with fail
  refine wp_region_noPanic ?_
  refine wp_region_sink 10 (S := fun W => Sole RB w4 W) (by kernel_rfl) (by kernel_rfl) (Sole.drew _ _) (fun hHeld => ?_)
  refine wpAnyH_take (i := 0) (v := .pointer (some ⟨p, 0, none⟩)) rfl (by kernel_rfl) (by kernel_rfl) (by kernel_rfl) (fun _ _ _ h => h) (Or.inl ⟨by rfl, fun W hSw => by (try dsimp only at hSw); go_simp⟩) (by assumption) ?_
  try simp only [List.getElem_toArray, List.getElem_cons_zero, List.getElem_cons_succ, Act.put, List.setIfInBounds_toArray, List.set_cons_zero, List.set_cons_succ]
  refine wpAnyH_take (i := 1) (v := .pointer (some ⟨p, 0, none⟩)) rfl (by kernel_rfl) (by kernel_rfl) (by kernel_rfl) (fun _ _ _ h => h) (Or.inl ⟨by rfl, fun W hSw => by (try dsimp only at hSw); go_simp⟩) (by assumption) ?_
  try simp only [List.getElem_toArray, List.getElem_cons_zero, List.getElem_cons_succ, Act.put, List.setIfInBounds_toArray, List.set_cons_zero, List.set_cons_succ]
  refine wpAnyH_take (i := 2) (v := .pointer (some ⟨p, 0, none⟩)) rfl (by kernel_rfl) (by kernel_rfl) (by kernel_rfl) (fun _ _ _ h => h) (Or.inl ⟨by rfl, fun W hSw => by (try dsimp only at hSw); go_simp⟩) (by assumption) ?_
  try simp only [List.getElem_toArray, List.getElem_cons_zero, List.getElem_cons_succ, Act.put, List.setIfInBounds_toArray, List.set_cons_zero, List.set_cons_succ]
  refine wpAnyH_take (i := 3) (v := .pointer (some ⟨p, 0, none⟩)) rfl (by kernel_rfl) (by kernel_rfl) (by kernel_rfl) (fun _ _ _ h => h) (Or.inl ⟨by rfl, fun W hSw => by (try dsimp only at hSw); go_simp⟩) (by assumption) ?_
  try simp only [List.getElem_toArray, List.getElem_cons_zero, List.getElem_cons_succ, Act.put, List.setIfInBounds_toArray, List.set_cons_zero, List.set_cons_succ]
  refine wpAnyH_take (i := 4) (v := .slice a0 L.length cap0) rfl (by kernel_rfl) (by kernel_rfl) (by kernel_rfl) (fun _ _ _ h => h) (yields_load (by rfl) _ _ rfl _ rfl _ q1l) (by assumption) ?_
  try simp only [List.getElem_toArray, List.getElem_cons_zero, List.getElem_cons_succ, Act.put, List.setIfInBounds_toArray, List.set_cons_zero, List.set_cons_succ]
  refine wpAnyH_take (i := 5) (v := .agg (tcC t)) rfl (by kernel_rfl) (by kernel_rfl) (by kernel_rfl) (fun _ _ _ h => h) (yields_load (by rfl) _ _ rfl _ rfl _ (fun W h => (q2 W h).load)) (by assumption) ?_
  try simp only [List.getElem_toArray, List.getElem_cons_zero, List.getElem_cons_succ, Act.put, List.setIfInBounds_toArray, List.set_cons_zero, List.set_cons_succ]
  refine wpAnyH_ready (rs := [6]) (by kernel_rfl) (by simp) ?_
  refine AllReadyH.cons rfl (fun K hK => ?_) AllReadyH.nil
  rw [if_pos (by rfl)]
  refine wp_buildS 58 1 _ rfl #[(0, .agg (tcC t))] (by kernel_rfl) (hbs w4.drew) ?_
  have hb6 : Below w4.heap.size w4 (w4.drew.alloc (.cells (tcC t) 61)) := (Below.refl _ w4).drew.alloc (Nat.le_refl _) _
  have hS6 : Sole RB w4 (w4.drew.alloc (.cells (tcC t) 61)) := Sole.of_below hb6 _
  refine hK.out _ _ hS6 (fun hHeld2 => ?_)
  clear hK K
  try simp only [List.getElem_toArray, List.getElem_cons_zero, List.getElem_cons_succ, Act.put, List.setIfInBounds_toArray, List.set_cons_zero, List.set_cons_succ]
  have hrow6 : (w4.drew.alloc (.cells (tcC t) 61)).heap[w4.heap.size]? = some (.cells (tcC t) 61 (0, 0)) := heap_alloc_new _ _
  have hsz6 : w4.heap.size < (w4.drew.alloc (.cells (tcC t) 61)).heap.size := (Array.getElem?_eq_some_iff.1 hrow6).1
  obtain ⟨w6, hw6⟩ : ∃ w6, (w4.drew.alloc (.cells (tcC t) 61)) = w6 := ⟨_, rfl⟩
  rw [hw6] at hb6 hrow6 hS6 hHeld2 hsz6 ⊢
  have hO6 := own_keep ho4 hb6.size (fun q _ hl => hb6.block q hl)
  refine wpAnyH_ready (rs := [7]) (by kernel_rfl) (by simp) ?_
  refine AllReadyH.cons rfl (fun K hK => ?_) AllReadyH.nil
  rw [if_pos (by rfl)]
  obtain ⟨v7, w7, hrun, h7o, h7g, _, h7a⟩ := run_append_own_at (P := Tryz.prog) w6 0 58 58 61 iP _ 5 48 Tryz.underlying58 hiP hp0 hp1' hp2 rfl (by decide) (.slice a0 L.length cap0) L.length (L.flatMap tcE) hO6 ⟨w4.heap.size, 0, none⟩ 1 1 (tcE t) rfl (fun j u hu => by rw [show (⟨w4.heap.size, 0, none⟩ : Addr).add j = ⟨w4.heap.size, j, none⟩ by unfold Addr.add; split <;> simp_all]; rw [cell_of_row _ _ _ _ _ (0, 0) hrow6]; simpa [tcC, tcE] using hu) (tc_one _) (by unfold maxLen; omega) (by omega) (Nat.zero_le _)
  obtain ⟨a7, cap7, rfl⟩ := own_shape h7o
  refine wp_app _ _ 58 rfl _ _ rfl rfl hrun ?_
  have hS67 : Sole RB w6 w7 := ⟨h7g.os, h7g.tape, h7g.output, h7g.size, fun k hk hn => h7g.block k hk (fun e => hn (by rw [hRB, Option.mem_toList]; exact e.symm))⟩
  have hS7 : Sole RB w4 w7 := hS6.trans hS67
  refine hK.out _ _ hS7 (fun hHeld4 => ?_)
  clear hK K
  try simp only [List.getElem_toArray, List.getElem_cons_zero, List.getElem_cons_succ, Act.put, List.setIfInBounds_toArray, List.set_cons_zero, List.set_cons_succ]
  refine wpAnyH_take (i := 8) (v := .pointer (some ⟨p, 0, none⟩)) rfl (by kernel_rfl) (by kernel_rfl) (by kernel_rfl) (fun _ _ _ h => h) (Or.inl ⟨by rfl, fun W hSw => by (try dsimp only at hSw); go_simp⟩) (by assumption) ?_
  try simp only [List.getElem_toArray, List.getElem_cons_zero, List.getElem_cons_succ, Act.put, List.setIfInBounds_toArray, List.set_cons_zero, List.set_cons_succ]
  refine wpAnyH_take (i := 9) (v := .pointer (some ⟨p, 0, none⟩)) rfl (by kernel_rfl) (by kernel_rfl) (by kernel_rfl) (fun _ _ _ h => h) (Or.inl ⟨by rfl, fun W hSw => by (try dsimp only at hSw); go_simp⟩) (by assumption) ?_
  try simp only [List.getElem_toArray, List.getElem_cons_zero, List.getElem_cons_succ, Act.put, List.setIfInBounds_toArray, List.set_cons_zero, List.set_cons_succ]
  have hG7 := q1 w7 hS7
  have c72 : w7.cell? ⟨p, 0, none⟩ = some (.slice a0 L.length cap0) := by rw [cell_of_row _ _ _ _ _ (0, 0) hG7]; rfl
  have f72 := frozen_of_row w7 p 0 _ _ hG7
  have hG8 := heap_setCell_same w7 p 0 _ _ (.slice a7 (L.length + 1) cap7) hG7
  have hm7 : SpAt w7 b (L ++ [t]) := HM4.out.keep (hS7.block b HM4.out.lt (fun hk => n5 _ hk rfl))
  obtain ⟨w8, hw8⟩ : ∃ w8, w7.setCell ⟨p, 0, none⟩ (.slice a7 (L.length + 1) cap7) = w8 := ⟨_, rfl⟩
  have hS78 : Sole [p] w7 w8 := by rw [← hw8]; exact Sole.setCell _ _ (by simp)
  rw [hw8] at hG8
  have hne7 : ∀ k, (Value.slice a7 (L.length + 1) cap7).ownBlock = some k → k ≠ p := fun k hk => by
    obtain ⟨cs, e⟩ := own_row h7o hk; exact ne_of_type e hG7 (by decide)
  have hO8 : w8.ownsRow 0 61 5 (.slice a7 (L.length + 1) cap7) (L.length + 1) ((L ++ [t]).flatMap tcE) := by
    rw [List.flatMap_append, List.flatMap_cons, List.flatMap_nil, List.append_nil]
    exact own_keep h7o hS78.size (fun k hk hl => hS78.block k hl (by have := hne7 k hk; simpa using this))
  have hm8 : SpAt w8 b (L ++ [t]) := hm7.keep (hS78.block b hm7.lt (by simpa using hpb))
  have hK8 : Sole (p :: b :: RB) w w8 := (((Sole.of_below HB3.out _).trans (HK4.out.mono fun k hk => by simp at hk; simp [hk])).trans (hS7.mono fun k hk => by simp [hk])).trans (hS78.mono fun k hk => by simp at hk; simp [hk])
  have HA7 : Hid (∀ k, (Value.slice a7 (L.length + 1) cap7).ownBlock = some k → (Value.slice a0 L.length cap0).ownBlock = some k ∨ w.heap.size ≤ k) := fun k hk => by
    rcases h7a with e | e
    · left; rw [← e]; exact hk
    · rw [hk] at e; cases e; right; have := HB3.out.size; have := hb6.size; omega
  have HG8 : Hid (w8.heap[p]? = some (.cells #[.slice a7 (L.length + 1) cap7, .map (some b)] 105 (0, 0))) := hG8
  have HO8 : Hid (w8.ownsRow 0 61 5 (.slice a7 (L.length + 1) cap7) (L.length + 1) ((L ++ [t]).flatMap tcE)) := hO8
  have HK8 : Hid (Sole (p :: b :: RB) w w8) := hK8
  have HM8 : Hid (SpAt w8 b (L ++ [t])) := hm8
  refine wpAnyH_done (by kernel_rfl) ?_ _
  refine Behind.run (by rfl) ?_
  go_simp
  go_wp2
  refine NoPanic.normal ?_
  clear q1 q1l q2 hrun h7o h7g h7a hO6 hG7 hG8 hO8 hK8 hm8 hm7 c72 f72 hS6 hS67 hS7 hS78 hHeld hHeld2 hHeld4
  go_wp2
  go_ret
  rw [HR2.out]
  refine ⟨rfl, .slice a7 (L.length + 1) cap7, ⟨HG8.out, HM8.out, by rw [List.length_append]; exact HO8.out, fun x hx => ?_, ?_⟩, ?_⟩
  · rcases List.mem_append.1 hx with hx | hx
    · exact HOK.out x hx
    · rw [List.mem_singleton] at hx; rw [hx]; exact ht
  · rw [List.nodup_append]
    refine ⟨HND.out, by simp, fun x hx y hy e => ?_⟩
    rw [List.mem_singleton] at hy
    rw [e, hy] at hx
    exact hno hx
  · have k8 := HK8.out
    exact ⟨k8.os, k8.tape, k8.output, k8.size, fun k hk h1 h2 h3 => k8.block k hk (fun e => by rcases List.mem_cons.1 e with e | e; exact h1 e; rcases List.mem_cons.1 e with e | e; exact h2 e; rw [hRB, Option.mem_toList] at e; exact h3 e), HA7.out⟩

end Go.Proofs.YtjjhfginmamlkaaGreat
