/- PtTrim, PtJoin: in one text. -/
import Derived.Test.YtjjhfginmamlkaaGreatPtLay
import Derived.Deep.RegionHeld3
namespace Go.Proofs.YtjjhfginmamlkaaGreat
open Go.RowKit
set_option linter.unusedVariables false
set_option linter.unusedSimpArgs false
set_option maxRecDepth 4000

set_option maxRecDepth 100000

theorem setCells_row (P : Program) (w : World) (g o : Nat) (e : TypeId) (vs : List Value) (cur : Array Value) (hg : w.heap[g]? = some (.cells cur e (0, 0))) (hfit : o + vs.length ≤ cur.size) (h1 : ∀ u ∈ vs, u.oneCell' = true) :
    w.setCells g o vs = w.setRow g (cur.toList.take o ++ vs ++ cur.toList.drop (o + vs.length)).toArray := by
  have a1 := run_storeCells_at P g o e vs 0 cur w hg (by simpa using hfit) h1
  have a2 := run_storeCells_cells (P := P) g o vs 0 w (fun j hj => by rw [cell_of_row _ _ _ _ _ (0, 0) hg, Array.getElem?_eq_getElem (by omega)]; rfl) (fun j hj => frozen_of_row w g _ _ _ hg) h1
  rw [a1] at a2
  simp only [Nat.add_zero, Result.ok.injEq, true_and] at a2
  exact a2.symm

/-- The bytes of a patch are written. -/
theorem wpList_storeM {w : World} {ops : Array Oper} {rest : List Oper} {o : Oper} {a : Act} {Q : Exit → Act → World → Prop} (hg : o.guard = none) (x y : Operand) (ho : o.op = .store 90 x y)
    (g : Nat) (b : List Int) (p : Pt) (hx : a.eval x = .pointer (some ⟨g, 2, none⟩)) (hy : a.eval y = .agg (bytesV b)) (hb : b.length = 32) (hp : p.bytes.length = 32) (hat : PtAt w g p)
    (h : wpList Tryz.prog ops Q rest (a.put o.dst undef) (w.setRow g (ptC ⟨p.fresh, p.mask, b⟩))) : wpList Tryz.prog ops Q (o :: rest) a w := by
  refine wpList_store_mid hg 90 x y ho g 2 (bytesV b) hx hy (fun j hj => ?_) (by rw [bytesV_size, hb]; exact size_ch) (one_bytes b) ?_
  · rw [bytesV_size, hb] at hj
    exact ⟨by rw [hat.byte hp hj]; rfl, hat.frozen _⟩
  · have e : w.setCells g 2 (bytesV b).toList = w.setRow g (ptC ⟨p.fresh, p.mask, b⟩) := by
      rw [setCells_row Tryz.prog w g 2 92 (bytesV b).toList (ptC p) hat.row (by rw [ptC_size hp, Array.length_toList, bytesV_size, hb]; decide) (fun u hu => (Array.all_eq_true_iff_forall_mem.1 (one_bytes b)) u (by simpa using hu))]
      congr 1
      apply Array.ext'
      have hd : (ptC p).toList.drop (2 + (bytesV b).toList.length) = [] := List.drop_of_length_le (by rw [Array.length_toList, ptC_size hp, Array.length_toList, bytesV_size, hb]; omega)
      simp only [hd, List.append_nil]
      simp [ptC, bytesV]
    rw [e]; exact h

set_option maxHeartbeats 2000000 in
theorem trim_any (w : World) (p : Pt) (hp : PtOk p) : Calls Tryz.prog 169 #[.agg (ptC p)] w fun e w' => e = .returned (.agg (ptC (trimP p))) ∧ Below w.heap.size w w' := by
  have hz := zeroPt
  have HP : Hid (p.bytes.length = 32) := hp.ch.1
  have HZ : Hid (zeroC.length = 32) := ch_zero.1
  have hT := trimP_ok hp
  have HT : Hid ((trimP p).bytes.length = 32) := hT.ch.1
  obtain ⟨w1, hw1⟩ : ∃ w1, (w.alloc (.cells (ptC p) 92)).alloc (.cells (ptC pt0) 92) = w1 := ⟨_, rfl⟩
  have hB1 : Below w.heap.size w w1 := by rw [← hw1]; exact ((Below.refl _ w).alloc (Nat.le_refl _) _).alloc (by simp) _
  have hp1 : PtAt w1 w.heap.size p := by rw [← hw1]; exact (PtAt.laid w p).below ((Below.refl _ _).alloc (Nat.le_refl _) _)
  have hr1 : PtAt w1 (w.heap.size + 1) pt0 := by rw [← hw1]; have := PtAt.laid (w.alloc (.cells (ptC p) 92)) pt0; rwa [World.size_alloc] at this
  have hl1 : Hid _ := hp1.load HP.out
  go_enter Tryz.func169, Tryz.ntmps169
  go_wp2_with (first
    | (refine wpList_buildBy rfl 90 _ rfl _ rfl [] (by kernel_rfl) (bytesV zeroC) built_ch0 ?_)
    | (refine wpList_loadG rfl 92 _ rfl _ rfl _ hl1.out ?_))
  refine (lay_any _ zeroC p ch_zero hp).mono ?_
  rintro e w2 ⟨rfl, hb2⟩
  have hp2 := hp1.below hb2
  have hr2 := hr1.below hb2
  have HL : Hid ((layB zeroC p).length = 32) := layB_len _ _
  have hp3 : PtAt (w2.setRow w.heap.size (ptC (trimP p))) w.heap.size (trimP p) := hp2.setRow _
  have hr3 : PtAt (w2.setRow w.heap.size (ptC (trimP p))) (w.heap.size + 1) pt0 := ⟨(setRow_other _ _ _ _ (by omega)).trans hr2.row⟩
  have hB3 : Below w.heap.size w (w2.setRow w.heap.size (ptC (trimP p))) := below_setRow (hB1.trans (hb2.mono hB1.size)) (Nat.le_refl _) _
  obtain ⟨w3, hw3⟩ : ∃ w3, w2.setRow w.heap.size (ptC (trimP p)) = w3 := ⟨_, rfl⟩
  rw [hw3] at hp3 hr3 hB3
  have hl3 : Hid _ := hp3.load HT.out
  go_wp2_with (first
    | (refine wpList_storeM rfl _ _ rfl w.heap.size (layB zeroC p) p rfl rfl HL.out HP.out hp2 ?_; rw [show (⟨p.fresh, p.mask, layB zeroC p⟩ : Pt) = trimP p from rfl, hw3])
    | (refine wpList_loadG rfl 92 _ rfl _ rfl _ hl3.out ?_)
    | (refine wpList_storeP rfl _ _ rfl (w.heap.size + 1) (trimP p) pt0 rfl rfl HT.out HZ.out hr3 ?_))
  refine ret_pt rfl (w.heap.size + 1) (trimP p) HT.out rfl (hr3.setRow _) rfl ⟨rfl, ?_⟩
  exact below_setRow hB3 (by omega) _

/-- What Zero tells. -/
def zeroE (o : Int) : Int := if o < 0 ∨ 32 < o then 1 else 0
def zeroP (o : Int) : Pt := if o < 0 ∨ 32 < o then pt0 else ⟨false, runM o.toNat (32 - o.toNat), zeroC⟩
theorem zeroP_ok (o : Int) : PtOk (zeroP o) := by
  unfold zeroP
  split
  · exact pt0_ok
  · exact ⟨runM_lt (by omega), ch_zero⟩

set_option maxHeartbeats 2000000 in
theorem zero_any (w : World) (o : Int) : Calls Tryz.prog 72 #[.int .i64 o] w fun e w' => e = .returned (.tuple #[.agg (ptC (zeroP o)), .int .i64 (zeroE o)]) ∧ Below w.heap.size w w' := by
  have hz := zeroPt
  have HZ : Hid (zeroC.length = 32) := ch_zero.1
  obtain ⟨w1, hw1⟩ : ∃ w1, w.alloc (.cells (ptC pt0) 92) = w1 := ⟨_, rfl⟩
  have hB1 : Below w.heap.size w w1 := by rw [← hw1]; exact (Below.refl _ w).alloc (Nat.le_refl _) _
  have hr1 : PtAt w1 w.heap.size pt0 := by rw [← hw1]; exact PtAt.laid w pt0
  by_cases hno : o < 0 ∨ 32 < o
  · rw [show zeroP o = pt0 from if_pos hno, show zeroE o = 1 from if_pos hno]
    by_cases h0 : o < 0
    · clear hno
      go_enter Tryz.func72, Tryz.ntmps72
      go_wp2_with (first
        | (refine wpList_buildBy rfl 92 _ rfl _ rfl [] (by kernel_rfl) (ptC pt0) built_pt0 ?_)
        | (refine wpList_storeP rfl _ _ rfl w.heap.size pt0 pt0 rfl rfl HZ.out HZ.out hr1 ?_))
      refine ret_pt2 rfl w.heap.size pt0 HZ.out rfl _ rfl (hr1.setRow _) rfl ⟨rfl, ?_⟩
      exact below_setRow hB1 (Nat.le_refl _) _
    · have h1 : 32 < o := by omega
      clear hno
      go_enter Tryz.func72, Tryz.ntmps72
      go_wp2_with (first
        | (refine wpList_buildBy rfl 92 _ rfl _ rfl [] (by kernel_rfl) (ptC pt0) built_pt0 ?_)
        | (refine wpList_storeP rfl _ _ rfl w.heap.size pt0 pt0 rfl rfl HZ.out HZ.out hr1 ?_))
      refine ret_pt2 rfl w.heap.size pt0 HZ.out rfl _ rfl (hr1.setRow _) rfl ⟨rfl, ?_⟩
      exact below_setRow hB1 (Nat.le_refl _) _
  · rw [show zeroP o = ⟨false, runM o.toNat (32 - o.toNat), zeroC⟩ from if_neg hno, show zeroE o = 0 from if_neg hno]
    obtain ⟨n, rfl⟩ : ∃ n : Nat, o = n := ⟨o.toNat, by omega⟩
    have hn : n ≤ 32 := by omega
    rw [Int.toNat_natCast]
    have hbf := bitsFrom_any w1 n hn
    clear hno
    generalize runM n (32 - n) = M at *
    go_enter Tryz.func72, Tryz.ntmps72
    go_wp2_with (first
      | (go_at_call 93; refine hbf.mono ?_; rintro e w2 ⟨rfl, rfl⟩)
      | (refine wpList_buildBy rfl 92 _ rfl _ rfl [(1, .int .u32 (M : Int))] (by kernel_rfl) (ptC ⟨false, M, zeroC⟩) (built_mask M) ?_)
      | (refine wpList_storeP rfl _ _ rfl w.heap.size ⟨false, M, zeroC⟩ pt0 rfl rfl HZ.out HZ.out hr1 ?_))
    refine ret_pt2 rfl w.heap.size ⟨false, M, zeroC⟩ HZ.out rfl _ rfl (hr1.setRow _) rfl ⟨rfl, ?_⟩
    exact below_setRow hB1 (Nat.le_refl _) _

set_option maxRecDepth 100000

theorem PtAt.load0 {w : World} {g : Nat} {p : Pt} (h : PtAt w g p) : (Instr.loadAt 4 (.pointer (some ⟨g, 0, none⟩))).run Tryz.prog w = .ok (.bool p.fresh) w := by
  have c := h.c0
  have u := Tryz.underlying4
  go_simp
theorem PtAt.load1 {w : World} {g : Nat} {p : Pt} (h : PtAt w g p) : (Instr.loadAt 28 (.pointer (some ⟨g, 1, none⟩))).run Tryz.prog w = .ok (.int .u32 (p.mask : Int)) w := by
  have c := h.c1
  have u := Tryz.underlying28
  go_simp

theorem field_pt (W : World) (p : Pt) (h : p.bytes.length = 32) : (Instr.field 92 (.agg (ptC p)) 2).run Tryz.prog W = .ok (.agg (bytesV p.bytes)) W := by
  have h2 : ∀ (f : Bool) (m : Nat) (g : Nat → Int), (Instr.field 92 (.agg (ptC ⟨f, m, (List.range 32).map g⟩)) 2).run Tryz.prog W = .ok (.agg (bytesV ((List.range 32).map g))) W := by intro f m g; kernel_rfl
  obtain ⟨f, m, b⟩ := p
  dsimp only at h ⊢
  rw [ch_eq h]; exact h2 f m _

theorem yields_build {ops : Array Oper} {S : World → Prop} {op : Oper} {a : Act} (hw : Region.wanted op (yielded ops a.tmps) = true) (t : TypeId) (parts : Array (Nat × Operand)) (ho : op.op = .build t parts)
    (vs : List (Nat × Value)) (hp : (parts.map fun (i, x) => (i, a.eval x)).toList = vs) (cells : Array Value) (hf : Tryz.prog.built t vs = some cells) : YieldsIf Tryz.prog ops S op (.agg cells) a :=
  .inl ⟨hw, fun w hw' => by
    unfold execOp
    simp only [ho, Sem.run_bind, run_build (P := Tryz.prog) w t _ cells (by rw [hp]; exact hf), Result.andThen_ok, Sem.run_pure]⟩

/-- Two patches in their boxes, and a result's. -/
structure JoinS (w : World) (a b : Pt) (W : World) : Prop where
  a : PtAt W w.heap.size a
  b : PtAt W (w.heap.size + 1) b
  r : ∃ r, r.bytes.length = 32 ∧ PtAt W (w.heap.size + 1 + 1) r
  bel : Below w.heap.size w W
theorem JoinS.below {w : World} {a b : Pt} {W W' : World} (h : JoinS w a b W) (hb : Below W.heap.size W W') : JoinS w a b W' := by
  obtain ⟨r, h1, h2⟩ := h.r
  exact ⟨h.a.below hb, h.b.below hb, ⟨r, h1, h2.below hb⟩, h.bel.trans (hb.mono h.bel.size)⟩

theorem joins_laid (w : World) (a b : Pt) : JoinS w a b (((w.alloc (.cells (ptC a) 92)).alloc (.cells (ptC b) 92)).alloc (.cells (ptC pt0) 92)) := by
  have al : ∀ (A : World) (o : Obj), Below A.heap.size A (A.alloc o) := fun A o => (Below.refl _ A).alloc (Nat.le_refl _) o
  have h2 := (PtAt.laid (w.alloc (.cells (ptC a) 92)) b).below (al _ (.cells (ptC pt0) 92))
  have h3 := PtAt.laid ((w.alloc (.cells (ptC a) 92)).alloc (.cells (ptC b) 92)) pt0
  rw [World.size_alloc] at h2
  rw [World.size_alloc, World.size_alloc] at h3
  exact ⟨((PtAt.laid w a).below (al _ _)).below (al _ _), h2, ⟨pt0, ch_zero.1, h3⟩, (((Below.refl _ w).alloc (Nat.le_refl _) _).alloc (by simp) _).alloc (by simp; omega) _⟩

set_option maxHeartbeats 4000000 in
theorem join_any (w : World) (a b : Pt) (ha : PtOk a) (hb : PtOk b) : Calls Tryz.prog 170 #[.agg (ptC a), .agg (ptC b)] w fun e w' => e = .returned (.agg (ptC (joinP a b))) ∧ Below w.heap.size w w' := by
  have hz := zeroPt
  have HA : Hid (a.bytes.length = 32) := ha.ch.1
  have HB : Hid (b.bytes.length = 32) := hb.ch.1
  have HZ : Hid (zeroC.length = 32) := ch_zero.1
  have hS1 := joins_laid w a b
  obtain ⟨w1, hw1⟩ : ∃ w1, (((w.alloc (.cells (ptC a) 92)).alloc (.cells (ptC b) 92)).alloc (.cells (ptC pt0) 92)) = w1 := ⟨_, rfl⟩
  rw [hw1] at hS1
  have c0 := hS1.b.c0
  cases hf : b.fresh
  · rw [hf] at c0
    have HJ : Hid (joinP a b = ⟨a.fresh, a.mask ||| b.mask, layB (trimP a).bytes b⟩) := by unfold Hid joinP; rw [hf]; rfl
    have hor := u32_or_nat a.mask b.mask ha.lt hb.lt
    have hT := trimP_ok ha
    have HTl : Hid ((trimP a).bytes.length = 32) := hT.ch.1
    have HL : Hid ((layB (trimP a).bytes b).length = 32) := layB_len _ _
    have tr := fun W => trim_any W a ha
    have ly := fun W => lay_any W (trimP a).bytes b hT.ch hb
    have hfl := fun W => field_pt W (trimP a) HTl.out
    rw [HJ.out]
    go_enter Tryz.func170, Tryz.ntmps170
    go_wp2_with fail
    refine wp_region_noPanic ?_
    refine wp_region_held_drew (S := fun W => JoinS w a b W) (by kernel_rfl) ⟨⟨hS1.a.row⟩, ⟨hS1.b.row⟩, (by obtain ⟨r, h1, h2⟩ := hS1.r; exact ⟨r, h1, ⟨h2.row⟩⟩), hS1.bel.drew⟩ (fun hHeld => ?_)
    refine wpAnyH_take (i := 0) (v := .pointer (some ⟨w.heap.size, 0, none⟩)) rfl (by kernel_rfl) (by kernel_rfl) (by kernel_rfl) (fun _ _ _ h => h) (Or.inl ⟨by rfl, fun W hSw => by (try dsimp only at hSw); go_simp⟩) (by assumption) ?_
    simp only [List.getElem_toArray, List.getElem_cons_zero, List.getElem_cons_succ, Act.put, List.setIfInBounds_toArray, List.set_cons_zero, List.set_cons_succ]
    refine wpAnyH_take (i := 1) (v := .bool a.fresh) rfl (by kernel_rfl) (by kernel_rfl) (by kernel_rfl) (fun _ _ _ h => h) (yields_load (by rfl) _ _ rfl _ rfl _ (fun W h => h.a.load0)) (by assumption) ?_
    simp only [List.getElem_toArray, List.getElem_cons_zero, List.getElem_cons_succ, Act.put, List.setIfInBounds_toArray, List.set_cons_zero, List.set_cons_succ]
    refine wpAnyH_take (i := 2) (v := .pointer (some ⟨w.heap.size, 1, none⟩)) rfl (by kernel_rfl) (by kernel_rfl) (by kernel_rfl) (fun _ _ _ h => h) (Or.inl ⟨by rfl, fun W hSw => by (try dsimp only at hSw); go_simp⟩) (by assumption) ?_
    simp only [List.getElem_toArray, List.getElem_cons_zero, List.getElem_cons_succ, Act.put, List.setIfInBounds_toArray, List.set_cons_zero, List.set_cons_succ]
    refine wpAnyH_take (i := 3) (v := .int .u32 (a.mask : Int)) rfl (by kernel_rfl) (by kernel_rfl) (by kernel_rfl) (fun _ _ _ h => h) (yields_load (by rfl) _ _ rfl _ rfl _ (fun W h => h.a.load1)) (by assumption) ?_
    simp only [List.getElem_toArray, List.getElem_cons_zero, List.getElem_cons_succ, Act.put, List.setIfInBounds_toArray, List.set_cons_zero, List.set_cons_succ]
    refine wpAnyH_take (i := 4) (v := .pointer (some ⟨w.heap.size + 1, 1, none⟩)) rfl (by kernel_rfl) (by kernel_rfl) (by kernel_rfl) (fun _ _ _ h => h) (Or.inl ⟨by rfl, fun W hSw => by (try dsimp only at hSw); go_simp⟩) (by assumption) ?_
    simp only [List.getElem_toArray, List.getElem_cons_zero, List.getElem_cons_succ, Act.put, List.setIfInBounds_toArray, List.set_cons_zero, List.set_cons_succ]
    refine wpAnyH_take (i := 5) (v := .int .u32 (b.mask : Int)) rfl (by kernel_rfl) (by kernel_rfl) (by kernel_rfl) (fun _ _ _ h => h) (yields_load (by rfl) _ _ rfl _ rfl _ (fun W h => h.b.load1)) (by assumption) ?_
    simp only [List.getElem_toArray, List.getElem_cons_zero, List.getElem_cons_succ, Act.put, List.setIfInBounds_toArray, List.set_cons_zero, List.set_cons_succ]
    refine wpAnyH_take (i := 6) (v := .int .u32 ((a.mask ||| b.mask : Nat) : Int)) rfl (by kernel_rfl) (by kernel_rfl) (by kernel_rfl) (fun _ _ _ h => h) (Or.inl ⟨by rfl, fun W hSw => by (try dsimp only at hSw); go_simp⟩) (by assumption) ?_
    simp only [List.getElem_toArray, List.getElem_cons_zero, List.getElem_cons_succ, Act.put, List.setIfInBounds_toArray, List.set_cons_zero, List.set_cons_succ]
    refine wpAnyH_take (i := 7) (v := .agg (ptC a)) rfl (by kernel_rfl) (by kernel_rfl) (by kernel_rfl) (fun _ _ _ h => h) (yields_load (by rfl) _ _ rfl _ rfl _ (fun W h => h.a.load HA.out)) (by assumption) ?_
    simp only [List.getElem_toArray, List.getElem_cons_zero, List.getElem_cons_succ, Act.put, List.setIfInBounds_toArray, List.set_cons_zero, List.set_cons_succ]
    refine wpAnyH_take (i := 10) (v := .agg (ptC b)) rfl (by kernel_rfl) (by kernel_rfl) (by kernel_rfl) (fun _ _ _ h => h) (yields_load (by rfl) _ _ rfl _ rfl _ (fun W h => h.b.load HB.out)) (by assumption) ?_
    simp only [List.getElem_toArray, List.getElem_cons_zero, List.getElem_cons_succ, Act.put, List.setIfInBounds_toArray, List.set_cons_zero, List.set_cons_succ]
    refine wpAnyH_ready (rs := [8]) (by kernel_rfl) (by simp) ?_
    refine AllReadyH.cons rfl (fun K hK => ?_) AllReadyH.nil
    go_simp
    go_wp2_with (go_at_call 169; refine (tr _).mono ?_; rintro e w2 ⟨rfl, hb2⟩)
    refine hK.out _ _ (hHeld.below hb2) (fun hHeld2 => ?_)
    clear hK K
    refine wpAnyH_take (i := 9) (v := .agg (bytesV (trimP a).bytes)) rfl (by kernel_rfl) (by kernel_rfl) (by kernel_rfl) (fun _ _ _ h => h) (Or.inl ⟨by rfl, fun W hSw => by (try dsimp only at hSw); go_simp⟩) (by assumption) ?_
    simp only [List.getElem_toArray, List.getElem_cons_zero, List.getElem_cons_succ, Act.put, List.setIfInBounds_toArray, List.set_cons_zero, List.set_cons_succ]
    refine wpAnyH_ready (rs := [11]) (by kernel_rfl) (by simp) ?_
    refine AllReadyH.cons rfl (fun K hK => ?_) AllReadyH.nil
    go_simp
    go_wp2_with (go_at_call 137; refine (ly _).mono ?_; rintro e w3 ⟨rfl, hb3⟩)
    refine hK.out _ _ (hHeld2.below hb3) (fun hHeld3 => ?_)
    clear hK K
    refine wpAnyH_take (i := 12) (v := .agg (ptC ⟨a.fresh, a.mask ||| b.mask, layB (trimP a).bytes b⟩)) rfl (by kernel_rfl) (by kernel_rfl) (by kernel_rfl) (fun _ _ _ h => h) (yields_build (by rfl) 92 _ rfl [(0, .bool a.fresh), (1, .int .u32 ((a.mask ||| b.mask : Nat) : Int)), (2, .agg (bytesV (layB (trimP a).bytes b)))] (by kernel_rfl) _ (built_pt a.fresh (a.mask ||| b.mask) HL.out)) (by assumption) ?_
    try simp only [List.getElem_toArray, List.getElem_cons_zero, List.getElem_cons_succ, Act.put, List.setIfInBounds_toArray, List.set_cons_zero, List.set_cons_succ]
    obtain ⟨r0, hr0, hat0⟩ := hHeld3.r
    refine wpAnyH_ready (rs := [13]) (by kernel_rfl) (by simp) ?_
    refine AllReadyH.cons rfl (fun K hK => ?_) AllReadyH.nil
    rw [if_pos (by rfl)]
    refine wp_store_row 92 _ _ rfl (w.heap.size + 1 + 1) (ptC ⟨a.fresh, a.mask ||| b.mask, layB (trimP a).bytes b⟩) rfl rfl 92 (ptC r0) hat0.row (by rw [ptC_size HL.out]; exact size_pt) (by rw [ptC_size hr0]; exact (ptC_size (p := ⟨a.fresh, a.mask ||| b.mask, layB (trimP a).bytes b⟩) HL.out).symm) (one_pt _) ?_
    have hr9 := hat0.setRow ⟨a.fresh, a.mask ||| b.mask, layB (trimP a).bytes b⟩
    have hB9 := below_setRow hHeld3.bel (show w.heap.size ≤ w.heap.size + 1 + 1 by omega) (ptC ⟨a.fresh, a.mask ||| b.mask, layB (trimP a).bytes b⟩)
    refine hK.out _ _ ⟨⟨(setRow_other _ _ _ _ (by omega)).trans hHeld3.a.row⟩, ⟨(setRow_other _ _ _ _ (by omega)).trans hHeld3.b.row⟩, ⟨_, HL.out, hr9⟩, hB9⟩ (fun hHeld4 => ?_)
    clear hK K
    refine wpAnyH_done (by kernel_rfl) ?_ _
    refine NoPanic.normal ?_
    go_wp2_with fail
    exact ret_pt rfl (w.heap.size + 1 + 1) _ HL.out rfl hr9 rfl ⟨rfl, hB9⟩
  · rw [hf] at c0
    have HJ : Hid (joinP a b = trimP b) := by unfold Hid joinP; rw [hf]; rfl
    have hT := trimP_ok hb
    have HTl : Hid ((trimP b).bytes.length = 32) := hT.ch.1
    have hl1 : Hid _ := hS1.b.load HB.out
    obtain ⟨r0, hr0, hat0⟩ := hS1.r
    have HR : Hid (r0.bytes.length = 32) := hr0
    clear hr0
    rw [HJ.out]
    go_enter Tryz.func170, Tryz.ntmps170
    go_wp2_with (refine wpList_loadG rfl 92 _ rfl _ rfl _ hl1.out ?_)
    refine (trim_any w1 b hb).mono ?_
    rintro e w2 ⟨rfl, hb2⟩
    have hat2 := hat0.below hb2
    have hB2 : Below w.heap.size w w2 := hS1.bel.trans (hb2.mono hS1.bel.size)
    go_wp2_with (refine wpList_storeP rfl _ _ rfl (w.heap.size + 1 + 1) (trimP b) r0 rfl rfl HTl.out HR.out hat2 ?_)
    exact ret_pt rfl (w.heap.size + 1 + 1) _ HTl.out rfl (hat2.setRow _) rfl ⟨rfl, below_setRow hB2 (by omega) _⟩

end Go.Proofs.YtjjhfginmamlkaaGreat
