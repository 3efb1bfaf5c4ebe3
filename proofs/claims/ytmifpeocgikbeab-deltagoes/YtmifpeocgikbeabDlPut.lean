/- The contracts of delta.New, Get, Count, Mark, behind, Put. -/
import Derived.Test.YtmifpeocgikbeabDlMap
import Derived.Test.YtmifpeocgikbeabMK
namespace Go.Proofs.Ytmifpeocgikbeab
open Go.RowKit Go.Maps
set_option linter.unusedVariables false
set_option linter.unusedSimpArgs false
set_option maxRecDepth 100000

def ptrV (p : Nat) : Value := .pointer (some ⟨p, 0, none⟩)

set_option maxHeartbeats 1000000 in
theorem dnew_any (w : World) (m : Int) (hm : m ≤ 9223372036854775807) : Calls Try.prog 5 #[.int .i64 m] w fun e w' => e = .returned (.pointer (some ⟨w.heap.size + 1, 0, none⟩)) ∧ DlAt w' (w.heap.size + 1) w.heap.size (.slice none 0 0) (newS m) ∧ Below w.heap.size w w' := by
  have hmm := @run_makeMap Try.prog
  have al : ∀ (A : World) (o : Obj), Below A.heap.size A (A.alloc o) := fun A o => (Below.refl _ A).alloc (Nat.le_refl _) o
  have hr : ∀ x : Int, newS m = ⟨x, [], []⟩ → DlAt ((w.alloc (.map #[] 0)).alloc (.cells #[.int .i64 x, .map (some w.heap.size), .slice none 0 0] 55)) (w.heap.size + 1) w.heap.size (.slice none 0 0) (newS m) := by
    intro x hx
    have hr := heap_alloc_new (w.alloc (.map #[] 0)) (.cells (dlC x w.heap.size (.slice none 0 0)) 55)
    rw [World.size_alloc] at hr
    have hk := newS_ok hm
    rw [hx] at hk ⊢
    exact ⟨hr, (MpAt.made w).keep ((al _ _).block _ (MpAt.made w).lt), World.ownsRow_nil _ _ _ _, hk⟩
  have hB : ∀ o, Below w.heap.size w ((w.alloc (.map #[] 0)).alloc o) := fun o => ((Below.refl _ w).alloc (Nat.le_refl _) _).alloc (by simp) _
  by_cases h0 : m < 0
  · have hx := hr 0 (by unfold newS; rw [show max m 0 = 0 by omega])
    clear hr
    go_enter Try.func5, Try.ntmps5
    go_wp2
    go_ret
    exact ⟨rfl, hx, hB _⟩
  · have hx := hr m (by unfold newS; rw [show max m 0 = m by omega])
    have h0' : 0 ≤ m := by omega
    clear hr
    go_enter Try.func5, Try.ntmps5
    go_wp2
    go_ret
    exact ⟨rfl, hx, hB _⟩

set_option maxHeartbeats 1000000 in
theorem dcount_any {w : World} {p b : Nat} {v : Value} {s : Dl} (h : DlAt w p b v s) : Calls Try.prog 15 #[.pointer (some ⟨p, 0, none⟩)] w fun e w' => e = .returned (.int .i64 s.L.length) ∧ w = w' := by
  have c1 := h.c1
  have hlen := fun ty => h.mp.len ty
  go_enter Try.func15, Try.ntmps15
  go_wp2
  go_ret
  exact ⟨rfl, rfl⟩

set_option maxHeartbeats 1000000 in
theorem dmark_any {w : World} {p b : Nat} {v : Value} {s : Dl} (h : DlAt w p b v s) : Calls Try.prog 20 #[.pointer (some ⟨p, 0, none⟩)] w fun e w' => e = .returned (.int .i64 s.pus.length) ∧ w = w' := by
  have c2 := h.c2
  obtain ⟨a, c, rfl⟩ := h.shape
  clear h
  go_enter Try.func20, Try.ntmps20
  go_wp2
  go_ret
  exact ⟨rfl, rfl⟩

/-- What Get reads. -/
structure GetS (w W : World) (p b : Nat) (v : Value) (s : Dl) (q : Pl) : Prop where
  d : DlAt W p b v s
  q : PlAt W w.heap.size q
  r : CgAt W (w.heap.size + 1) cg0
  bel : Below w.heap.size w W
theorem GetS.below {w W W' : World} {p b : Nat} {v : Value} {s : Dl} {q : Pl} (h : GetS w W p b v s q) (hb : Below W.heap.size W W') : GetS w W' p b v s q := ⟨h.d.below hb, h.q.below hb, h.r.below hb, h.bel.trans (hb.mono h.bel.size)⟩
theorem PlAt.drew {w : World} {g : Nat} {p : Pl} (h : PlAt w g p) : PlAt w.drew g p := ⟨h.row⟩
theorem PlAt.load {w : World} {g : Nat} {p : Pl} (h : PlAt w g p) : (Instr.loadAt 25 (.pointer (some ⟨g, 0, none⟩))).run Try.prog w = .ok (plV p) w := by
  have hl := run_loadVar_row (P := Try.prog) w g _ 25 (plCells p) _ _ h.row Try.underlying25 rfl (by kernel_rfl)
  simp only [Instr.loadAt, Instr.sureAddr, Sem.run_bind, Sem.run_pure, Result.andThen_ok, hl]
  rfl
theorem DlAt.load1 {w : World} {p b : Nat} {v : Value} {s : Dl} (h : DlAt w p b v s) : (Instr.loadAt 52 (.pointer (some ⟨p, 1, none⟩))).run Try.prog w = .ok (.map (some b)) w := by
  have c := h.c1
  have u := Try.underlying52
  go_simp
theorem DlAt.load2 {w : World} {p b : Nat} {v : Value} {s : Dl} (h : DlAt w p b v s) : (Instr.loadAt 53 (.pointer (some ⟨p, 2, none⟩))).run Try.prog w = .ok v w := by
  have c := h.c2
  have u := Try.underlying53
  go_simp

set_option maxHeartbeats 4000000 in
theorem dget_any {w : World} {p b : Nat} {v : Value} {s : Dl} (h : DlAt w p b v s) (q : Pl) (hq : PlOk q) : Calls Try.prog 11 #[.pointer (some ⟨p, 0, none⟩), plV q] w fun e w' =>
    e = .returned (.tuple #[.agg (cgC (wasX s q)), .bool (isX s q)]) ∧ Below w.heap.size w w' := by
  have hz := zeroCg
  have al : ∀ (A : World) (o : Obj), Below A.heap.size A (A.alloc o) := fun A o => (Below.refl _ A).alloc (Nat.le_refl _) o
  have hS1 : GetS w ((w.alloc (.cells (plCells q) 25)).alloc (.cells (cgC cg0) 37)) p b v s q := by
    have hr := CgAt.laid (w.alloc (.cells (plCells q) 25)) cg0
    rw [World.size_alloc] at hr
    exact ⟨(h.below (al _ _)).below (al _ _), (PlAt.laid w q).below (al _ _), hr, ((Below.refl _ w).alloc (Nat.le_refl _) _).alloc (by simp) _⟩
  have hpc : plCells q = #[.int .u32 q.ino, .int .i64 q.part, .string q.name, .int .u32 q.chunk] := rfl
  obtain ⟨w1, hw1⟩ : ∃ w1, (w.alloc (.cells (plCells q) 25)).alloc (.cells (cgC cg0) 37) = w1 := ⟨_, rfl⟩
  rw [hw1] at hS1
  rw [hpc] at hw1
  have HW : Hid ((wasX s q).pt.bytes.length = 32) := (getL_ok h.ok.L q).pt.ch.1
  have hlook : ∀ W, DlAt W p b v s → (Instr.lookup 52 (.map (some b)) (plV q) true).run Try.prog W = .ok (.tuple #[.agg (cgC (wasX s q)), .bool (isX s q)]) W := fun W hW => hW.mp.look hW.ok.L hq
  unfold plV
  go_enter Try.func11, Try.ntmps11
  go_wp2_with fail
  refine wp_region_noPanic ?_
  refine wp_region_held_drew (S := fun W => GetS w W p b v s q) (by kernel_rfl) ⟨hS1.d.drew, hS1.q.drew, hS1.r.drew, hS1.bel.drew⟩ (fun hHeld => ?_)
  refine wpAnyH_take (i := 0) (v := .pointer (some ⟨p, 0, none⟩)) rfl (by kernel_rfl) (by kernel_rfl) (by kernel_rfl) (fun _ _ _ h => h) (Or.inl ⟨by rfl, fun W hSw => by (try dsimp only at hSw); go_simp⟩) (by assumption) ?_
  try simp only [List.getElem_toArray, List.getElem_cons_zero, List.getElem_cons_succ, Act.put, List.setIfInBounds_toArray, List.set_cons_zero, List.set_cons_succ]
  refine wpAnyH_take (i := 1) (v := .pointer (some ⟨p, 0, none⟩)) rfl (by kernel_rfl) (by kernel_rfl) (by kernel_rfl) (fun _ _ _ h => h) (Or.inl ⟨by rfl, fun W hSw => by (try dsimp only at hSw); go_simp⟩) (by assumption) ?_
  try simp only [List.getElem_toArray, List.getElem_cons_zero, List.getElem_cons_succ, Act.put, List.setIfInBounds_toArray, List.set_cons_zero, List.set_cons_succ]
  refine wpAnyH_take (i := 2) (v := .pointer (some ⟨p, 1, none⟩)) rfl (by kernel_rfl) (by kernel_rfl) (by kernel_rfl) (fun _ _ _ h => h) (Or.inl ⟨by rfl, fun W hSw => by (try dsimp only at hSw); go_simp⟩) (by assumption) ?_
  try simp only [List.getElem_toArray, List.getElem_cons_zero, List.getElem_cons_succ, Act.put, List.setIfInBounds_toArray, List.set_cons_zero, List.set_cons_succ]
  refine wpAnyH_take (i := 3) (v := .map (some b)) rfl (by kernel_rfl) (by kernel_rfl) (by kernel_rfl) (fun _ _ _ h => h) (yields_load (by rfl) _ _ rfl _ rfl _ (fun W h => h.d.load1)) (by assumption) ?_
  try simp only [List.getElem_toArray, List.getElem_cons_zero, List.getElem_cons_succ, Act.put, List.setIfInBounds_toArray, List.set_cons_zero, List.set_cons_succ]
  refine wpAnyH_take (i := 4) (v := plV q) rfl (by kernel_rfl) (by kernel_rfl) (by kernel_rfl) (fun _ _ _ h => h) (yields_load (by rfl) _ _ rfl _ rfl _ (fun W h => h.q.load)) (by assumption) ?_
  try simp only [List.getElem_toArray, List.getElem_cons_zero, List.getElem_cons_succ, Act.put, List.setIfInBounds_toArray, List.set_cons_zero, List.set_cons_succ]
  refine wpAnyH_take (i := 5) (v := .tuple #[.agg (cgC (wasX s q)), .bool (isX s q)]) rfl (by kernel_rfl) (by kernel_rfl) (by kernel_rfl) (fun _ _ _ h => h) (Or.inl ⟨by rfl, fun W hSw => by (try dsimp only at hSw); have hk := hlook W hSw.d; go_simp⟩) (by assumption) ?_
  try simp only [List.getElem_toArray, List.getElem_cons_zero, List.getElem_cons_succ, Act.put, List.setIfInBounds_toArray, List.set_cons_zero, List.set_cons_succ]
  refine wpAnyH_take (i := 6) (v := .tuple #[.agg (cgC (wasX s q)), .bool (isX s q)]) rfl (by kernel_rfl) (by kernel_rfl) (by kernel_rfl) (fun _ _ _ h => h) (Or.inl ⟨by rfl, fun W hSw => by (try dsimp only at hSw); go_simp⟩) (by assumption) ?_
  try simp only [List.getElem_toArray, List.getElem_cons_zero, List.getElem_cons_succ, Act.put, List.setIfInBounds_toArray, List.set_cons_zero, List.set_cons_succ]
  refine wpAnyH_take (i := 7) (v := .agg (cgC (wasX s q))) rfl (by kernel_rfl) (by kernel_rfl) (by kernel_rfl) (fun _ _ _ h => h) (Or.inl ⟨by rfl, fun W hSw => by (try dsimp only at hSw); go_simp⟩) (by assumption) ?_
  try simp only [List.getElem_toArray, List.getElem_cons_zero, List.getElem_cons_succ, Act.put, List.setIfInBounds_toArray, List.set_cons_zero, List.set_cons_succ]
  refine wpAnyH_take (i := 8) (v := .bool (isX s q)) rfl (by kernel_rfl) (by kernel_rfl) (by kernel_rfl) (fun _ _ _ h => h) (Or.inl ⟨by rfl, fun W hSw => by (try dsimp only at hSw); go_simp⟩) (by assumption) ?_
  try simp only [List.getElem_toArray, List.getElem_cons_zero, List.getElem_cons_succ, Act.put, List.setIfInBounds_toArray, List.set_cons_zero, List.set_cons_succ]
  refine wpAnyH_ready (rs := [9]) (by kernel_rfl) (by simp) ?_
  refine AllReadyH.cons rfl (fun K hK => ?_) AllReadyH.nil
  go_simp
  refine hK.out _ _ (hHeld.below (al _ _)) (fun hHeld2 => ?_)
  clear hK K
  have hn := (CgAt.laid w1 cg0).drew
  try simp only [List.getElem_toArray, List.getElem_cons_zero, List.getElem_cons_succ, Act.put, List.setIfInBounds_toArray, List.set_cons_zero, List.set_cons_succ]
  refine wpAnyH_ready (rs := [10]) (by kernel_rfl) (by simp) ?_
  refine AllReadyH.cons rfl (fun K hK => ?_) AllReadyH.nil
  rw [if_pos (by rfl)]
  refine wp_store_row 37 _ _ rfl w1.heap.size (cgC (wasX s q)) rfl rfl 37 (cgC cg0) hn.row (by rw [cgC_size HW.out]; exact size_cg) (by rw [cgC_size HW.out, cgC_size len0]) (one_cg _) ?_
  have hB1 : w.heap.size + 1 < w1.heap.size := hHeld.r.lt
  have hn2 := hn.setRow (wasX s q)
  have hS9 : GetS w ((w1.alloc (.cells (cgC cg0) 37)).drew.setRow w1.heap.size (cgC (wasX s q))) p b v s q := ⟨hHeld2.d.keep (by simp [World.setRow]) (fun k hk hd => setRow_other _ _ _ _ (fun e => by have := hn.row; rw [← e] at this; rcases hd with rfl | ⟨cs, fr, hx⟩ | ⟨cs, fr, hx⟩; (obtain ⟨x, cl, hm⟩ := hHeld2.d.mp.isMap; rw [this] at hm; cases hm); (rw [this] at hx; cases hx); (rw [this] at hx; cases hx))), ⟨(setRow_other _ _ _ _ (by omega)).trans hHeld2.q.row⟩, hHeld2.r.apartR _ _ (by omega), below_setRow hHeld2.bel (by omega) _⟩
  refine hK.out _ _ hS9 (fun hHeld3 => ?_)
  clear hK K
  refine wpAnyH_take (i := 11) (v := .bool (isX s q)) rfl (by kernel_rfl) (by kernel_rfl) (by kernel_rfl) (fun _ _ _ h => h) (Or.inl ⟨by rfl, fun W hSw => by (try dsimp only at hSw); go_simp⟩) (by assumption) ?_
  try simp only [List.getElem_toArray, List.getElem_cons_zero, List.getElem_cons_succ, Act.put, List.setIfInBounds_toArray, List.set_cons_zero, List.set_cons_succ]
  refine wpAnyH_done (by kernel_rfl) ?_ _
  refine NoPanic.normal ?_
  have hl9 : Hid _ := hn2.load HW.out
  obtain ⟨w9, hw9⟩ : ∃ w9, (w1.alloc (.cells (cgC cg0) 37)).drew.setRow w1.heap.size (cgC (wasX s q)) = w9 := ⟨_, rfl⟩
  rw [hw9] at hS9 hl9 ⊢
  go_wp2_with (first | (refine wpList_loadG rfl 37 _ rfl _ rfl _ hl9.out ?_) | (refine wpList_storeG rfl _ _ rfl (w.heap.size + 1) (wasX s q) cg0 rfl rfl HW.out len0 hS9.r ?_))
  exact ret_cg2 rfl (w.heap.size + 1) (wasX s q) HW.out rfl _ rfl (hS9.r.setRow _) rfl ⟨rfl, below_setRow hS9.bel (by omega) _⟩

/-! ### behind -/
structure BehS (w W : World) (p b : Nat) (v : Value) (s : Dl) (x c r : Cg) : Prop where
  d : DlAt W p b v s
  t : TwoS w x c r W
theorem BehS.below {w W W' : World} {p b : Nat} {v : Value} {s : Dl} {x c r : Cg} (h : BehS w W p b v s x c r) (hb : Below W.heap.size W W') : BehS w W' p b v s x c r := ⟨h.d.below hb, h.t.below hb⟩

theorem dcount_r {w : World} {p b : Nat} {v : Value} {s : Dl} (h : DlAt w p b v s) : Calls Try.prog 15 #[.pointer (some ⟨p, 0, none⟩)] w fun e w' => e = .returned (.int .i64 s.L.length) ∧ w' = w := (dcount_any h).mono (by rintro e w' ⟨h1, h2⟩; exact ⟨h1, h2.symm⟩)
theorem DlAt.load0 {w : World} {p b : Nat} {v : Value} {s : Dl} (h : DlAt w p b v s) : (Instr.loadAt 3 (.pointer (some ⟨p, 0, none⟩))).run Try.prog w = .ok (.int .i64 s.most) w := by
  have c := h.c0
  have u := Try.underlying3
  go_simp

set_option maxHeartbeats 4000000 in
theorem behind_any {w : World} {p b : Nat} {v : Value} {s : Dl} (h : DlAt w p b v s) (x c : Cg) (is : Bool) (hx : CgOk x) (hc : CgOk c) : Calls Try.prog 16 #[.pointer (some ⟨p, 0, none⟩), .agg (cgC x), .bool is, .agg (cgC c)] w fun e w' =>
    e = .returned (.tuple #[.agg (cgC (behX s x is c).1), .int .i64 (behX s x is c).2]) ∧ Below w.heap.size w w' := by
  have HA : Hid (x.pt.bytes.length = 32) := hx.pt.ch.1
  have HB : Hid (c.pt.bytes.length = 32) := hc.pt.ch.1
  have hz := zeroCg
  have hT := two_laid w x c
  have hD : DlAt (((w.alloc (.cells (cgC x) 37)).alloc (.cells (cgC c) 37)).alloc (.cells (cgC cg0) 37)) p b v s := by
    have al : ∀ (A : World) (o : Obj), Below A.heap.size A (A.alloc o) := fun A o => (Below.refl _ A).alloc (Nat.le_refl _) o
    exact ((h.below (al _ _)).below (al _ _)).below (al _ _)
  obtain ⟨w1, hw1⟩ : ∃ w1, (((w.alloc (.cells (cgC x) 37)).alloc (.cells (cgC c) 37)).alloc (.cells (cgC cg0) 37)) = w1 := ⟨_, rfl⟩
  rw [hw1] at hT hD
  have hlb : Hid _ := hT.b.load HB.out
  go_enter Try.func16, Try.ntmps16
  go_wp2_with (refine wpList_loadG rfl 37 _ rfl _ rfl _ hlb.out ?_)
  refine (dcheck_any _ c hc).mono ?_
  rintro e w2 ⟨rfl, hb2⟩
  have hT2 := hT.below hb2
  have hD2 := hD.below hb2
  cases hk : ckOk c
  · have HX : Hid (behX s x is c = (cg0, 1)) := by unfold Hid behX; rw [hk]; rfl
    rw [show ckE c = 1 by unfold ckE; rw [hk]; rfl]
    go_wp2_with (first
      | (refine wpList_buildBy rfl 37 _ rfl _ rfl [] (by kernel_rfl) _ built_cg0 ?_)
      | (refine wpList_storeG rfl _ _ rfl (w.heap.size + 1 + 1) cg0 cg0 rfl rfl len0 len0 hT2.r ?_))
    exact ret_cg2 rfl (w.heap.size + 1 + 1) cg0 len0 rfl _ rfl (hT2.setR cg0).r rfl ⟨by rw [HX.out]; rfl, (hT2.setR cg0).bel⟩
  rw [show ckE c = 0 by unfold ckE; rw [hk]; rfl]
  have hla2 : Hid _ := hT2.a.load HA.out
  have hlb2 : Hid _ := hT2.b.load HB.out
  cases is
  · go_wp2_with fail
    refine wp_region_noPanic ?_
    refine wp_region_held_drew (S := fun W => BehS w W p b v s x c cg0) (by kernel_rfl) ⟨hD2.drew, hT2.drew⟩ (fun hHeld => ?_)
    refine wpAnyH_take (i := 0) (v := .pointer (some ⟨p, 0, none⟩)) rfl (by kernel_rfl) (by kernel_rfl) (by kernel_rfl) (fun _ _ _ h => h) (Or.inl ⟨by rfl, fun W hSw => by (try dsimp only at hSw); go_simp⟩) (by assumption) ?_
    try simp only [List.getElem_toArray, List.getElem_cons_zero, List.getElem_cons_succ, Act.put, List.setIfInBounds_toArray, List.set_cons_zero, List.set_cons_succ]
    refine wpAnyH_take (i := 2) (v := .pointer (some ⟨p, 0, none⟩)) rfl (by kernel_rfl) (by kernel_rfl) (by kernel_rfl) (fun _ _ _ h => h) (Or.inl ⟨by rfl, fun W hSw => by (try dsimp only at hSw); go_simp⟩) (by assumption) ?_
    try simp only [List.getElem_toArray, List.getElem_cons_zero, List.getElem_cons_succ, Act.put, List.setIfInBounds_toArray, List.set_cons_zero, List.set_cons_succ]
    refine wpAnyH_take (i := 3) (v := .pointer (some ⟨p, 0, none⟩)) rfl (by kernel_rfl) (by kernel_rfl) (by kernel_rfl) (fun _ _ _ h => h) (Or.inl ⟨by rfl, fun W hSw => by (try dsimp only at hSw); go_simp⟩) (by assumption) ?_
    try simp only [List.getElem_toArray, List.getElem_cons_zero, List.getElem_cons_succ, Act.put, List.setIfInBounds_toArray, List.set_cons_zero, List.set_cons_succ]
    refine wpAnyH_take (i := 4) (v := .pointer (some ⟨p, 0, none⟩)) rfl (by kernel_rfl) (by kernel_rfl) (by kernel_rfl) (fun _ _ _ h => h) (Or.inl ⟨by rfl, fun W hSw => by (try dsimp only at hSw); go_simp⟩) (by assumption) ?_
    try simp only [List.getElem_toArray, List.getElem_cons_zero, List.getElem_cons_succ, Act.put, List.setIfInBounds_toArray, List.set_cons_zero, List.set_cons_succ]
    refine wpAnyH_take (i := 5) (v := .int .i64 s.most) rfl (by kernel_rfl) (by kernel_rfl) (by kernel_rfl) (fun _ _ _ h => h) (yields_load (by rfl) _ _ rfl _ rfl _ (fun W h => h.d.load0)) (by assumption) ?_
    try simp only [List.getElem_toArray, List.getElem_cons_zero, List.getElem_cons_succ, Act.put, List.setIfInBounds_toArray, List.set_cons_zero, List.set_cons_succ]
    refine wpAnyH_ready (rs := [1]) (by kernel_rfl) (by simp) ?_
    refine AllReadyH.cons rfl (fun K hK => ?_) AllReadyH.nil
    go_simp
    go_wp2_with (go_at_call 15; refine (dcount_r hHeld.d).mono ?_; rintro e w' ⟨rfl, rfl⟩)
    refine hK.out _ _ hHeld (fun hHeld2 => ?_)
    clear hK K
    refine wpAnyH_take (i := 6) (v := .bool (decide (s.most ≤ (s.L.length : Int)))) rfl (by kernel_rfl) (by kernel_rfl) (by kernel_rfl) (fun _ _ _ h => h) (Or.inl ⟨by rfl, fun W hSw => by (try dsimp only at hSw); go_simp⟩) (by assumption) ?_
    try simp only [List.getElem_toArray, List.getElem_cons_zero, List.getElem_cons_succ, Act.put, List.setIfInBounds_toArray, List.set_cons_zero, List.set_cons_succ]
    refine wpAnyH_done (by kernel_rfl) ?_ _
    refine NoPanic.normal ?_
    by_cases hm : (s.L.length : Int) ≥ s.most
    · have HX : Hid (behX s x false c = (cg0, 201)) := by unfold Hid behX; rw [hk]; simp only [if_true, Bool.false_eq_true, if_false]; rw [if_pos hm]
      go_wp2_with (first
        | (refine wpList_buildBy rfl 37 _ rfl _ rfl [] (by kernel_rfl) _ built_cg0 ?_)
        | (refine wpList_storeG rfl _ _ rfl (w.heap.size + 1 + 1) cg0 cg0 rfl rfl len0 len0 hHeld2.t.r ?_))
      exact ret_cg2 rfl (w.heap.size + 1 + 1) cg0 len0 rfl _ rfl (hHeld2.t.setR cg0).r rfl ⟨by rw [HX.out]; rfl, (hHeld2.t.setR cg0).bel⟩
    · have HX : Hid (behX s x false c = (c, 0)) := by unfold Hid behX; rw [hk]; simp only [if_true, Bool.false_eq_true, if_false]; rw [if_neg hm]
      have hlb3 : Hid _ := hHeld2.t.b.load HB.out
      go_wp2_with (first
        | (refine wpList_loadG rfl 37 _ rfl _ rfl _ hlb3.out ?_)
        | (refine wpList_storeG rfl _ _ rfl (w.heap.size + 1 + 1) c cg0 rfl rfl HB.out len0 hHeld2.t.r ?_))
      exact ret_cg2 rfl (w.heap.size + 1 + 1) c HB.out rfl _ rfl (hHeld2.t.setR c).r rfl ⟨by rw [HX.out]; rfl, (hHeld2.t.setR c).bel⟩
  · have HX : Hid (behX s x true c = joinX x c) := by unfold Hid behX; rw [hk]; rfl
    have HJ : Hid ((joinX x c).1.pt.bytes.length = 32) := (joinX_ok hx hc).pt.ch.1
    go_wp2_with (first
      | (refine wpList_loadG rfl 37 _ rfl _ rfl _ hla2.out ?_)
      | (refine wpList_loadG rfl 37 _ rfl _ rfl _ hlb2.out ?_))
    refine (djoin_any _ x c hx hc).mono ?_
    rintro e w3 ⟨rfl, hb3⟩
    have hT3 := hT2.below hb3
    go_wp2_with (refine wpList_storeG rfl _ _ rfl (w.heap.size + 1 + 1) (joinX x c).1 cg0 rfl rfl HJ.out len0 hT3.r ?_)
    exact ret_cg2 rfl (w.heap.size + 1 + 1) (joinX x c).1 HJ.out rfl _ rfl (hT3.setR _).r rfl ⟨by rw [HX.out]; rfl, (hT3.setR _).bel⟩

/-! ### Put -/
def puC (x : Pu) : Array Value := (puL x).toArray
theorem built_pu (q : Pl) (c : Cg) (is : Bool) (hc : c.pt.bytes.length = 32) : Try.prog.built 59 [(0, plV q), (1, .agg (cgC c)), (2, .bool is)] = some (puC ⟨q, c, is⟩) := by
  have h : ∀ (q p : Pl) (g f : Bool) (n k m l s t : Int) (pf : Bool) (pm : Nat) (d : Nat → Int), Try.prog.built 59 [(0, plV q), (1, .agg (cgC ⟨p, g, f, n, k, m, l, s, t, ⟨pf, pm, (List.range 32).map d⟩⟩)), (2, .bool is)] = some (puC ⟨q, ⟨p, g, f, n, k, m, l, s, t, ⟨pf, pm, (List.range 32).map d⟩⟩, is⟩) := by intros; kernel_rfl
  obtain ⟨p, g, f, n, k, m, l, s, t, pt⟩ := c
  dsimp only at hc
  rw [pt_eq hc]; exact h _ _ _ _ _ _ _ _ _ _ _ _ _
theorem slice_pu (x : Pu) (hc : x.was.pt.bytes.length = 32) (w : World) : (Instr.buildSlice 53 1 #[(0, .agg (puC x))]).run Try.prog w = .ok (.slice (some ⟨w.heap.size, 0, none⟩) 1 1) (w.alloc (.cells (puC x) 59)) := by
  have h : ∀ (q p : Pl) (g f is : Bool) (n k m l s t : Int) (pf : Bool) (pm : Nat) (d : Nat → Int), (Instr.buildSlice 53 1 #[(0, .agg (puC ⟨q, ⟨p, g, f, n, k, m, l, s, t, ⟨pf, pm, (List.range 32).map d⟩⟩, is⟩))]).run Try.prog w = .ok (.slice (some ⟨w.heap.size, 0, none⟩) 1 1) (w.alloc (.cells (puC ⟨q, ⟨p, g, f, n, k, m, l, s, t, ⟨pf, pm, (List.range 32).map d⟩⟩, is⟩) 59)) := by intros; kernel_rfl
  obtain ⟨q, ⟨p, g, f, n, k, m, l, s, t, pt⟩, is⟩ := x
  dsimp only at hc
  rw [pt_eq hc]; exact h _ _ _ _ _ _ _ _ _ _ _ _ _ _

end Go.Proofs.Ytmifpeocgikbeab
