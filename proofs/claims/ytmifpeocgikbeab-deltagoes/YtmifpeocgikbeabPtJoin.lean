/- The contracts of patch.Join and Of. -/
import Derived.Test.YtmifpeocgikbeabPtTrim
import Derived.Deep.RegionHeld3
namespace Go.Proofs.Ytmifpeocgikbeab
open Go.RowKit
set_option linter.unusedVariables false
set_option linter.unusedSimpArgs false
set_option maxRecDepth 100000

theorem PtAt.load0 {w : World} {g : Nat} {p : Pt} (h : PtAt w g p) : (Instr.loadAt 4 (.pointer (some ⟨g, 0, none⟩))).run Try.prog w = .ok (.bool p.fresh) w := by
  have c := h.c0
  have u := Try.underlying4
  go_simp
theorem PtAt.load1 {w : World} {g : Nat} {p : Pt} (h : PtAt w g p) : (Instr.loadAt 23 (.pointer (some ⟨g, 1, none⟩))).run Try.prog w = .ok (.int .u32 (p.mask : Int)) w := by
  have c := h.c1
  have u := Try.underlying23
  go_simp

theorem field_pt (W : World) (p : Pt) (h : p.bytes.length = 32) : (Instr.field 35 (.agg (ptC p)) 2).run Try.prog W = .ok (.agg (bytesV p.bytes)) W := by
  have h2 : ∀ (f : Bool) (m : Nat) (g : Nat → Int), (Instr.field 35 (.agg (ptC ⟨f, m, (List.range 32).map g⟩)) 2).run Try.prog W = .ok (.agg (bytesV ((List.range 32).map g))) W := by intro f m g; kernel_rfl
  obtain ⟨f, m, b⟩ := p
  dsimp only at h ⊢
  rw [ch_eq h]; exact h2 f m _

theorem yields_build {ops : Array Oper} {S : World → Prop} {op : Oper} {a : Act} (hw : Region.wanted op (yielded ops a.tmps) = true) (t : TypeId) (parts : Array (Nat × Operand)) (ho : op.op = .build t parts)
    (vs : List (Nat × Value)) (hp : (parts.map fun (i, x) => (i, a.eval x)).toList = vs) (cells : Array Value) (hf : Try.prog.built t vs = some cells) : YieldsIf Try.prog ops S op (.agg cells) a :=
  .inl ⟨hw, fun w hw' => by
    unfold execOp
    simp only [ho, Sem.run_bind, run_build (P := Try.prog) w t _ cells (by rw [hp]; exact hf), Result.andThen_ok, Sem.run_pure]⟩

/-- Two patches in their boxes, and a result's. -/
structure JoinS (w : World) (a b : Pt) (W : World) : Prop where
  a : PtAt W w.heap.size a
  b : PtAt W (w.heap.size + 1) b
  r : ∃ r, r.bytes.length = 32 ∧ PtAt W (w.heap.size + 1 + 1) r
  bel : Below w.heap.size w W
theorem JoinS.below {w : World} {a b : Pt} {W W' : World} (h : JoinS w a b W) (hb : Below W.heap.size W W') : JoinS w a b W' := by
  obtain ⟨r, h1, h2⟩ := h.r
  exact ⟨h.a.below hb, h.b.below hb, ⟨r, h1, h2.below hb⟩, h.bel.trans (hb.mono h.bel.size)⟩

theorem joins_laid (w : World) (a b : Pt) : JoinS w a b (((w.alloc (.cells (ptC a) 35)).alloc (.cells (ptC b) 35)).alloc (.cells (ptC pt0) 35)) := by
  have al : ∀ (A : World) (o : Obj), Below A.heap.size A (A.alloc o) := fun A o => (Below.refl _ A).alloc (Nat.le_refl _) o
  have h2 := (PtAt.laid (w.alloc (.cells (ptC a) 35)) b).below (al _ (.cells (ptC pt0) 35))
  have h3 := PtAt.laid ((w.alloc (.cells (ptC a) 35)).alloc (.cells (ptC b) 35)) pt0
  rw [World.size_alloc] at h2
  rw [World.size_alloc, World.size_alloc] at h3
  exact ⟨((PtAt.laid w a).below (al _ _)).below (al _ _), h2, ⟨pt0, ch_zero.1, h3⟩, (((Below.refl _ w).alloc (Nat.le_refl _) _).alloc (by simp) _).alloc (by simp; omega) _⟩

set_option maxHeartbeats 4000000 in
theorem join_any (w : World) (a b : Pt) (ha : PtOk a) (hb : PtOk b) : Calls Try.prog 67 #[.agg (ptC a), .agg (ptC b)] w fun e w' => e = .returned (.agg (ptC (joinP a b))) ∧ Below w.heap.size w w' := by
  have hz := zeroPt
  have HA : Hid (a.bytes.length = 32) := ha.ch.1
  have HB : Hid (b.bytes.length = 32) := hb.ch.1
  have HZ : Hid (zeroC.length = 32) := ch_zero.1
  have hS1 := joins_laid w a b
  obtain ⟨w1, hw1⟩ : ∃ w1, (((w.alloc (.cells (ptC a) 35)).alloc (.cells (ptC b) 35)).alloc (.cells (ptC pt0) 35)) = w1 := ⟨_, rfl⟩
  rw [hw1] at hS1
  have c0 := hS1.b.c0
  cases hf : b.fresh
  · rw [hf] at c0
    have HJ : Hid (joinP a b = ⟨a.fresh, a.mask ||| b.mask, layB (trimP a).bytes b⟩) := by unfold Hid joinP; rw [hf]; rfl
    have hor := u32_or_nat a.mask b.mask ha.lt hb.lt
    have hT := trimP_ok ha
    have HTl : Hid ((trimP a).bytes.length = 32) := hT.ch.1
    have HL : Hid ((layB (trimP a).bytes b).length = 32) := layB_len _ _
    have tr := fun W => trim_any W a ha
    have ly := fun W => lay_any W (trimP a).bytes b hT.ch hb
    have hfl := fun W => field_pt W (trimP a) HTl.out
    rw [HJ.out]
    go_enter Try.func67, Try.ntmps67
    go_wp2_with fail
    refine wp_region_noPanic ?_
    refine wp_region_held_drew (S := fun W => JoinS w a b W) (by kernel_rfl) ⟨⟨hS1.a.row⟩, ⟨hS1.b.row⟩, (by obtain ⟨r, h1, h2⟩ := hS1.r; exact ⟨r, h1, ⟨h2.row⟩⟩), hS1.bel.drew⟩ (fun hHeld => ?_)
    refine wpAnyH_take (i := 0) (v := .pointer (some ⟨w.heap.size, 0, none⟩)) rfl (by kernel_rfl) (by kernel_rfl) (by kernel_rfl) (fun _ _ _ h => h) (Or.inl ⟨by rfl, fun W hSw => by (try dsimp only at hSw); go_simp⟩) (by assumption) ?_
    simp only [List.getElem_toArray, List.getElem_cons_zero, List.getElem_cons_succ, Act.put, List.setIfInBounds_toArray, List.set_cons_zero, List.set_cons_succ]
    refine wpAnyH_take (i := 1) (v := .bool a.fresh) rfl (by kernel_rfl) (by kernel_rfl) (by kernel_rfl) (fun _ _ _ h => h) (yields_load (by rfl) _ _ rfl _ rfl _ (fun W h => h.a.load0)) (by assumption) ?_
    simp only [List.getElem_toArray, List.getElem_cons_zero, List.getElem_cons_succ, Act.put, List.setIfInBounds_toArray, List.set_cons_zero, List.set_cons_succ]
    refine wpAnyH_take (i := 2) (v := .pointer (some ⟨w.heap.size, 1, none⟩)) rfl (by kernel_rfl) (by kernel_rfl) (by kernel_rfl) (fun _ _ _ h => h) (Or.inl ⟨by rfl, fun W hSw => by (try dsimp only at hSw); go_simp⟩) (by assumption) ?_
    simp only [List.getElem_toArray, List.getElem_cons_zero, List.getElem_cons_succ, Act.put, List.setIfInBounds_toArray, List.set_cons_zero, List.set_cons_succ]
    refine wpAnyH_take (i := 3) (v := .int .u32 (a.mask : Int)) rfl (by kernel_rfl) (by kernel_rfl) (by kernel_rfl) (fun _ _ _ h => h) (yields_load (by rfl) _ _ rfl _ rfl _ (fun W h => h.a.load1)) (by assumption) ?_
    simp only [List.getElem_toArray, List.getElem_cons_zero, List.getElem_cons_succ, Act.put, List.setIfInBounds_toArray, List.set_cons_zero, List.set_cons_succ]
    refine wpAnyH_take (i := 4) (v := .pointer (some ⟨w.heap.size + 1, 1, none⟩)) rfl (by kernel_rfl) (by kernel_rfl) (by kernel_rfl) (fun _ _ _ h => h) (Or.inl ⟨by rfl, fun W hSw => by (try dsimp only at hSw); go_simp⟩) (by assumption) ?_
    simp only [List.getElem_toArray, List.getElem_cons_zero, List.getElem_cons_succ, Act.put, List.setIfInBounds_toArray, List.set_cons_zero, List.set_cons_succ]
    refine wpAnyH_take (i := 5) (v := .int .u32 (b.mask : Int)) rfl (by kernel_rfl) (by kernel_rfl) (by kernel_rfl) (fun _ _ _ h => h) (yields_load (by rfl) _ _ rfl _ rfl _ (fun W h => h.b.load1)) (by assumption) ?_
    simp only [List.getElem_toArray, List.getElem_cons_zero, List.getElem_cons_succ, Act.put, List.setIfInBounds_toArray, List.set_cons_zero, List.set_cons_succ]
    refine wpAnyH_take (i := 6) (v := .int .u32 ((a.mask ||| b.mask : Nat) : Int)) rfl (by kernel_rfl) (by kernel_rfl) (by kernel_rfl) (fun _ _ _ h => h) (Or.inl ⟨by rfl, fun W hSw => by (try dsimp only at hSw); go_simp⟩) (by assumption) ?_
    simp only [List.getElem_toArray, List.getElem_cons_zero, List.getElem_cons_succ, Act.put, List.setIfInBounds_toArray, List.set_cons_zero, List.set_cons_succ]
    refine wpAnyH_take (i := 7) (v := .agg (ptC a)) rfl (by kernel_rfl) (by kernel_rfl) (by kernel_rfl) (fun _ _ _ h => h) (yields_load (by rfl) _ _ rfl _ rfl _ (fun W h => h.a.load HA.out)) (by assumption) ?_
    simp only [List.getElem_toArray, List.getElem_cons_zero, List.getElem_cons_succ, Act.put, List.setIfInBounds_toArray, List.set_cons_zero, List.set_cons_succ]
    refine wpAnyH_take (i := 10) (v := .agg (ptC b)) rfl (by kernel_rfl) (by kernel_rfl) (by kernel_rfl) (fun _ _ _ h => h) (yields_load (by rfl) _ _ rfl _ rfl _ (fun W h => h.b.load HB.out)) (by assumption) ?_
    simp only [List.getElem_toArray, List.getElem_cons_zero, List.getElem_cons_succ, Act.put, List.setIfInBounds_toArray, List.set_cons_zero, List.set_cons_succ]
    refine wpAnyH_ready (rs := [8]) (by kernel_rfl) (by simp) ?_
    refine AllReadyH.cons rfl (fun K hK => ?_) AllReadyH.nil
    go_simp
    go_wp2_with (go_at_call 66; refine (tr _).mono ?_; rintro e w2 ⟨rfl, hb2⟩)
    refine hK.out _ _ (hHeld.below hb2) (fun hHeld2 => ?_)
    clear hK K
    refine wpAnyH_take (i := 9) (v := .agg (bytesV (trimP a).bytes)) rfl (by kernel_rfl) (by kernel_rfl) (by kernel_rfl) (fun _ _ _ h => h) (Or.inl ⟨by rfl, fun W hSw => by (try dsimp only at hSw); go_simp⟩) (by assumption) ?_
    simp only [List.getElem_toArray, List.getElem_cons_zero, List.getElem_cons_succ, Act.put, List.setIfInBounds_toArray, List.set_cons_zero, List.set_cons_succ]
    refine wpAnyH_ready (rs := [11]) (by kernel_rfl) (by simp) ?_
    refine AllReadyH.cons rfl (fun K hK => ?_) AllReadyH.nil
    go_simp
    go_wp2_with (go_at_call 83; refine (ly _).mono ?_; rintro e w3 ⟨rfl, hb3⟩)
    refine hK.out _ _ (hHeld2.below hb3) (fun hHeld3 => ?_)
    clear hK K
    refine wpAnyH_take (i := 12) (v := .agg (ptC ⟨a.fresh, a.mask ||| b.mask, layB (trimP a).bytes b⟩)) rfl (by kernel_rfl) (by kernel_rfl) (by kernel_rfl) (fun _ _ _ h => h) (yields_build (by rfl) 35 _ rfl [(0, .bool a.fresh), (1, .int .u32 ((a.mask ||| b.mask : Nat) : Int)), (2, .agg (bytesV (layB (trimP a).bytes b)))] (by kernel_rfl) _ (built_pt a.fresh (a.mask ||| b.mask) HL.out)) (by assumption) ?_
    try simp only [List.getElem_toArray, List.getElem_cons_zero, List.getElem_cons_succ, Act.put, List.setIfInBounds_toArray, List.set_cons_zero, List.set_cons_succ]
    obtain ⟨r0, hr0, hat0⟩ := hHeld3.r
    refine wpAnyH_ready (rs := [13]) (by kernel_rfl) (by simp) ?_
    refine AllReadyH.cons rfl (fun K hK => ?_) AllReadyH.nil
    rw [if_pos (by rfl)]
    refine wp_store_row 35 _ _ rfl (w.heap.size + 1 + 1) (ptC ⟨a.fresh, a.mask ||| b.mask, layB (trimP a).bytes b⟩) rfl rfl 35 (ptC r0) hat0.row (by rw [ptC_size HL.out]; exact size_pt) (by rw [ptC_size hr0]; exact (ptC_size (p := ⟨a.fresh, a.mask ||| b.mask, layB (trimP a).bytes b⟩) HL.out).symm) (one_pt _) ?_
    have hr9 := hat0.setRow ⟨a.fresh, a.mask ||| b.mask, layB (trimP a).bytes b⟩
    have hB9 := below_setRow hHeld3.bel (show w.heap.size ≤ w.heap.size + 1 + 1 by omega) (ptC ⟨a.fresh, a.mask ||| b.mask, layB (trimP a).bytes b⟩)
    refine hK.out _ _ ⟨⟨(setRow_other _ _ _ _ (by omega)).trans hHeld3.a.row⟩, ⟨(setRow_other _ _ _ _ (by omega)).trans hHeld3.b.row⟩, ⟨_, HL.out, hr9⟩, hB9⟩ (fun hHeld4 => ?_)
    clear hK K
    refine wpAnyH_done (by kernel_rfl) ?_ _
    refine NoPanic.normal ?_
    go_wp2_with fail
    exact ret_pt rfl (w.heap.size + 1 + 1) _ HL.out rfl hr9 rfl ⟨rfl, hB9⟩
  · rw [hf] at c0
    have HJ : Hid (joinP a b = trimP b) := by unfold Hid joinP; rw [hf]; rfl
    have hT := trimP_ok hb
    have HTl : Hid ((trimP b).bytes.length = 32) := hT.ch.1
    have hl1 : Hid _ := hS1.b.load HB.out
    obtain ⟨r0, hr0, hat0⟩ := hS1.r
    have HR : Hid (r0.bytes.length = 32) := hr0
    clear hr0
    rw [HJ.out]
    go_enter Try.func67, Try.ntmps67
    go_wp2_with (refine wpList_loadG rfl 35 _ rfl _ rfl _ hl1.out ?_)
    refine (trim_any w1 b hb).mono ?_
    rintro e w2 ⟨rfl, hb2⟩
    have hat2 := hat0.below hb2
    have hB2 : Below w.heap.size w w2 := hS1.bel.trans (hb2.mono hS1.bel.size)
    go_wp2_with (refine wpList_storeP rfl _ _ rfl (w.heap.size + 1 + 1) (trimP b) r0 rfl rfl HTl.out HR.out hat2 ?_)
    exact ret_pt rfl (w.heap.size + 1 + 1) _ HTl.out rfl (hat2.setRow _) rfl ⟨rfl, below_setRow hB2 (by omega) _⟩

end Go.Proofs.Ytmifpeocgikbeab
