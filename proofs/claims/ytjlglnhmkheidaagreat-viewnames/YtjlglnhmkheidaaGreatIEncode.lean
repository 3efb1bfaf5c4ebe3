/- The contract of item.Encode. -/
import Derived.Test.YtjlglnhmkheidaaGreatI3
import Derived.Deep.RegionHeld3
namespace Go.Proofs.YtjlglnhmkheidaaGreat
open Go.RowKit
set_option maxRecDepth 4000
set_option linter.unusedVariables false
set_option linter.unusedSimpArgs false

/-- Whether an item stands at a place of that part; the error's number; the value. -/
def encOk (p : Int) (x : It) : Bool := itEq (giveI p x) x && standsB p x
def encE (p : Int) (x : It) : Int := if wid p = 0 then 1 else if encOk p x then 0 else 11
def encS (p : Int) (x : It) : ByteArray := if encE p x = 0 then strOfNums (wrL p x) else ⟨#[]⟩

theorem enc_arg {p : Int} (h : wid p = 0) (x : It) : encE p x = 1 ∧ encS p x = ⟨#[]⟩ := by
  have : encE p x = 1 := by unfold encE; rw [if_pos h]
  exact ⟨this, by unfold encS; rw [this]; rfl⟩
theorem enc_no {p : Int} (h : wid p ≠ 0) {x : It} (ho : encOk p x = false) : encE p x = 11 ∧ encS p x = ⟨#[]⟩ := by
  have : encE p x = 11 := by unfold encE; rw [if_neg h, ho]; rfl
  exact ⟨this, by unfold encS; rw [this]; rfl⟩
theorem enc_yes {p : Int} (h : wid p ≠ 0) {x : It} (ho : encOk p x = true) : encE p x = 0 ∧ encS p x = strOfNums (wrL p x) := by
  have : encE p x = 0 := by unfold encE; rw [if_neg h, ho]; rfl
  exact ⟨this, by unfold encS; rw [this]; rfl⟩

theorem neq_items (w : World) {x y : It} (hx : x.bytes.length = 32) (hy : y.bytes.length = 32) : (binOp .neq 45 (.agg (itC x)) (.agg (itC y))).run Tryz.prog w = .ok (.bool (!itEq x y)) w := by
  rw [run_neq_struct, equal_items _ (by kernel_rfl) (by kernel_rfl) (by kernel_rfl) w 9997 hx hy]
  rfl

/-- A load that yields its value in every world of S may be taken first. -/
theorem iyields_load {ops : Array Oper} {S : World → Prop} {op : Oper} {a : Act} (hw : Region.wanted op (yielded ops a.tmps) = true) (ty : TypeId) (x : Operand) (ho : op.op = .load ty x)
    (q : Addr) (hx : a.eval x = .pointer (some q)) (v : Value) (hS : ∀ w, S w → (Instr.loadAt ty (.pointer (some q))).run Tryz.prog w = .ok v w) : YieldsIf Tryz.prog ops S op v a :=
  .inl ⟨hw, fun w hw' => by
    unfold execOp
    simp only [ho, hx, Sem.run_bind, Sem.run_pure, Result.andThen_ok, hS w hw']⟩

theorem ItAt.load {w : World} {g : Nat} {x : It} (h : ItAt 45 w g x) (hx : x.bytes.length = 32) : (Instr.loadAt 45 (.pointer (some ⟨g, 0, none⟩))).run Tryz.prog w = .ok (.agg (itC x)) w := by
  have hl := run_loadVar_row (P := Tryz.prog) w g _ 45 (itC x) _ _ h.row Tryz.underlying45 rfl (by rw [itC_size hx]; exact size_item)
  simp only [Instr.loadAt, Instr.sureAddr, Sem.run_bind, Sem.run_pure, Result.andThen_ok, hl]

set_option maxRecDepth 100000 in
set_option maxHeartbeats 4000000 in
theorem encode_a (w : World) (p : Int) (x : It) (hx : ItOk x) (hp : wid p ≠ 0) (h1 : itEq (giveI p x) x = false) : Calls Tryz.prog 81 #[.int .i64 p, .agg (itC x)] w fun e w' => e = .returned (.tuple #[.string ⟨#[]⟩, .int .i64 11]) ∧ Below w.heap.size w w' := by
  obtain ⟨w1, hw1⟩ : ∃ w1, w.alloc (.cells (itC x) 45) = w1 := ⟨_, rfl⟩
  have hB : Below w.heap.size w w1 := by rw [← hw1]; exact (Below.refl _ w).alloc (Nat.le_refl _) _
  have hat : ItAt 45 w1 w.heap.size x := by rw [← hw1]; exact ItAt.laid _ w x
  have HI : Hid ((Tryz.prog.info? 45).map (·.size) = some (itC x).size) := by unfold Hid; rw [itC_size hx.ch.1]; exact size_item
  have HA : Hid (w1.heap[w.heap.size]? = some (.cells (itC x) 45 (0, 0))) := hat.row
  have hwd := fun W => widthOf_any W p
  have htk := fun W => take_any W p x hx
  have hgv := fun W => give_any W p x hx
  have hsd := fun W => stands_any W p x hx
  have hwr := fun W => write_any W p x hx
  have hg := giveI_ok (p := p) hx
  have hne : ∀ W, (binOp .neq 45 (.agg (itC (giveI p x))) (.agg (itC x))).run Tryz.prog W = .ok (.bool true) W := fun W => by rw [neq_items W hg.ch.1 hx.ch.1, h1]; rfl
  clear h1 hsd hwr
  have hpI : ((wid p) == 0) = false := by rw [beq_eq_false_iff_ne]; exact hp
  generalize wid p = wd at *
  go_enter Tryz.func81, Tryz.ntmps81
  go_wp2_with fail
  refine (hwd _).mono ?_
  rintro e w' ⟨rfl, rfl⟩
  clear hwd
  go_wp2_with (refine wpList_load_row rfl 45 _ rfl w.heap.size rfl 45 (itC x) (0, 0) _ HA.out Tryz.underlying45 rfl HI.out ?_)
  refine (htk _).mono ?_
  rintro e w2 ⟨rfl, hb2⟩
  clear htk
  have hq : ∀ W, Below w2.heap.size w2 W → (Instr.loadAt 45 (.pointer (some ⟨w.heap.size, 0, none⟩))).run Tryz.prog W = .ok (.agg (itC x)) W := fun W hW => ((hat.below hb2).below hW).load hx.ch.1
  clear hat
  go_wp2_with fail
  refine wp_region_noPanic ?_
  refine wp_region_held_drew (S := fun W => Below w2.heap.size w2 W) (by kernel_rfl) (Below.refl _ _).drew (fun hHeld => ?_)
  refine wpAnyH_take (i := 0) (v := thV p x) rfl (by kernel_rfl) (by kernel_rfl) (by kernel_rfl) (fun _ _ _ h => h) (Or.inl ⟨by rfl, fun W hSw => by (try dsimp only at hSw); go_simp⟩) (by assumption) ?_
  simp only [List.getElem_toArray, List.getElem_cons_zero, List.getElem_cons_succ, Act.put, List.setIfInBounds_toArray, List.set_cons_zero, List.set_cons_succ]
  refine wpAnyH_take (i := 2) (v := .agg (itC x)) rfl (by kernel_rfl) (by kernel_rfl) (by kernel_rfl) (fun _ _ _ h => h) (iyields_load (by rfl) _ _ rfl _ rfl _ hq) (by assumption) ?_
  simp only [List.getElem_toArray, List.getElem_cons_zero, List.getElem_cons_succ, Act.put, List.setIfInBounds_toArray, List.set_cons_zero, List.set_cons_succ]
  refine wpAnyH_ready (rs := [1]) (by kernel_rfl) (by simp) ?_
  refine AllReadyH.cons rfl (fun K hK => ?_) AllReadyH.nil
  go_simp
  go_wp2_with (go_at_call 102; refine (hgv _).mono ?_; rintro e w3 ⟨rfl, hb3⟩)
  refine hK.out _ _ (keep2 (by assumption) (by assumption)) (fun hHeld2 => ?_)
  clear hK K
  refine wpAnyH_take (i := 3) (v := .bool true) rfl (by kernel_rfl) (by kernel_rfl) (by kernel_rfl) (fun _ _ _ h => h) (Or.inl ⟨by rfl, fun W hSw => by (try dsimp only at hSw); go_simp⟩) (by assumption) ?_
  simp only [List.getElem_toArray, List.getElem_cons_zero, List.getElem_cons_succ, Act.put, List.setIfInBounds_toArray, List.set_cons_zero, List.set_cons_succ]
  refine wpAnyH_take (i := 4) (v := .bool true) rfl (by kernel_rfl) (by kernel_rfl) (by kernel_rfl) (fun _ _ _ h => h) (Or.inl ⟨by rfl, fun W hSw => by (try dsimp only at hSw); go_simp⟩) (by assumption) ?_
  simp only [List.getElem_toArray, List.getElem_cons_zero, List.getElem_cons_succ, Act.put, List.setIfInBounds_toArray, List.set_cons_zero, List.set_cons_succ]
  refine wpAnyH_take (i := 5) (v := undef) rfl (by kernel_rfl) (by kernel_rfl) (by kernel_rfl) (fun _ _ _ h => h) (Or.inr ⟨by rfl, rfl⟩) (by assumption) ?_
  simp only [List.getElem_toArray, List.getElem_cons_zero, List.getElem_cons_succ, Act.put, List.setIfInBounds_toArray, List.set_cons_zero, List.set_cons_succ]
  refine wpAnyH_take (i := 6) (v := undef) rfl (by kernel_rfl) (by kernel_rfl) (by kernel_rfl) (fun _ _ _ h => h) (Or.inr ⟨by rfl, rfl⟩) (by assumption) ?_
  simp only [List.getElem_toArray, List.getElem_cons_zero, List.getElem_cons_succ, Act.put, List.setIfInBounds_toArray, List.set_cons_zero, List.set_cons_succ]
  refine wpAnyH_take (i := 7) (v := undef) rfl (by kernel_rfl) (by kernel_rfl) (by kernel_rfl) (fun _ _ _ h => h) (Or.inr ⟨by rfl, rfl⟩) (by assumption) ?_
  simp only [List.getElem_toArray, List.getElem_cons_zero, List.getElem_cons_succ, Act.put, List.setIfInBounds_toArray, List.set_cons_zero, List.set_cons_succ]
  refine wpAnyH_take (i := 8) (v := .bool true) rfl (by kernel_rfl) (by kernel_rfl) (by kernel_rfl) (fun _ _ _ h => h) (Or.inl ⟨by rfl, fun W hSw => by (try dsimp only at hSw); go_simp⟩) (by assumption) ?_
  simp only [List.getElem_toArray, List.getElem_cons_zero, List.getElem_cons_succ, Act.put, List.setIfInBounds_toArray, List.set_cons_zero, List.set_cons_succ]
  refine wpAnyH_done (by kernel_rfl) ?_ _
  refine NoPanic.normal ?_
  clear hq
  go_wp2
  go_ret2
  exact ⟨rfl, thenB hB (thenB hb2 hHeld2)⟩

set_option maxRecDepth 100000 in
set_option maxHeartbeats 4000000 in
theorem encode_b (w : World) (p : Int) (x : It) (hx : ItOk x) (hp : wid p ≠ 0) (h1 : itEq (giveI p x) x = true) (h2 : standsB p x = false) : Calls Tryz.prog 81 #[.int .i64 p, .agg (itC x)] w fun e w' => e = .returned (.tuple #[.string ⟨#[]⟩, .int .i64 11]) ∧ Below w.heap.size w w' := by
  obtain ⟨w1, hw1⟩ : ∃ w1, w.alloc (.cells (itC x) 45) = w1 := ⟨_, rfl⟩
  have hB : Below w.heap.size w w1 := by rw [← hw1]; exact (Below.refl _ w).alloc (Nat.le_refl _) _
  have hat : ItAt 45 w1 w.heap.size x := by rw [← hw1]; exact ItAt.laid _ w x
  have HI : Hid ((Tryz.prog.info? 45).map (·.size) = some (itC x).size) := by unfold Hid; rw [itC_size hx.ch.1]; exact size_item
  have HA : Hid (w1.heap[w.heap.size]? = some (.cells (itC x) 45 (0, 0))) := hat.row
  have hwd := fun W => widthOf_any W p
  have htk := fun W => take_any W p x hx
  have hgv := fun W => give_any W p x hx
  have hsd := fun W => stands_any W p x hx
  have hwr := fun W => write_any W p x hx
  have hg := giveI_ok (p := p) hx
  have hne : ∀ W, (binOp .neq 45 (.agg (itC (giveI p x))) (.agg (itC x))).run Tryz.prog W = .ok (.bool false) W := fun W => by rw [neq_items W hg.ch.1 hx.ch.1, h1]; rfl
  rw [h2] at hsd
  have hst := hsd
  clear h1 h2 hwr hsd
  have hpI : ((wid p) == 0) = false := by rw [beq_eq_false_iff_ne]; exact hp
  generalize wid p = wd at *
  go_enter Tryz.func81, Tryz.ntmps81
  go_wp2_with fail
  refine (hwd _).mono ?_
  rintro e w' ⟨rfl, rfl⟩
  clear hwd
  go_wp2_with (refine wpList_load_row rfl 45 _ rfl w.heap.size rfl 45 (itC x) (0, 0) _ HA.out Tryz.underlying45 rfl HI.out ?_)
  refine (htk _).mono ?_
  rintro e w2 ⟨rfl, hb2⟩
  clear htk
  have hq : ∀ W, Below w2.heap.size w2 W → (Instr.loadAt 45 (.pointer (some ⟨w.heap.size, 0, none⟩))).run Tryz.prog W = .ok (.agg (itC x)) W := fun W hW => ((hat.below hb2).below hW).load hx.ch.1
  clear hat
  go_wp2_with fail
  refine wp_region_noPanic ?_
  refine wp_region_held_drew (S := fun W => Below w2.heap.size w2 W) (by kernel_rfl) (Below.refl _ _).drew (fun hHeld => ?_)
  refine wpAnyH_take (i := 0) (v := thV p x) rfl (by kernel_rfl) (by kernel_rfl) (by kernel_rfl) (fun _ _ _ h => h) (Or.inl ⟨by rfl, fun W hSw => by (try dsimp only at hSw); go_simp⟩) (by assumption) ?_
  simp only [List.getElem_toArray, List.getElem_cons_zero, List.getElem_cons_succ, Act.put, List.setIfInBounds_toArray, List.set_cons_zero, List.set_cons_succ]
  refine wpAnyH_take (i := 2) (v := .agg (itC x)) rfl (by kernel_rfl) (by kernel_rfl) (by kernel_rfl) (fun _ _ _ h => h) (iyields_load (by rfl) _ _ rfl _ rfl _ hq) (by assumption) ?_
  simp only [List.getElem_toArray, List.getElem_cons_zero, List.getElem_cons_succ, Act.put, List.setIfInBounds_toArray, List.set_cons_zero, List.set_cons_succ]
  refine wpAnyH_ready (rs := [1]) (by kernel_rfl) (by simp) ?_
  refine AllReadyH.cons rfl (fun K hK => ?_) AllReadyH.nil
  go_simp
  go_wp2_with (go_at_call 102; refine (hgv _).mono ?_; rintro e w3 ⟨rfl, hb3⟩)
  refine hK.out _ _ (keep2 (by assumption) (by assumption)) (fun hHeld2 => ?_)
  clear hK K
  refine wpAnyH_take (i := 3) (v := .bool false) rfl (by kernel_rfl) (by kernel_rfl) (by kernel_rfl) (fun _ _ _ h => h) (Or.inl ⟨by rfl, fun W hSw => by (try dsimp only at hSw); go_simp⟩) (by assumption) ?_
  simp only [List.getElem_toArray, List.getElem_cons_zero, List.getElem_cons_succ, Act.put, List.setIfInBounds_toArray, List.set_cons_zero, List.set_cons_succ]
  refine wpAnyH_take (i := 4) (v := .bool false) rfl (by kernel_rfl) (by kernel_rfl) (by kernel_rfl) (fun _ _ _ h => h) (Or.inl ⟨by rfl, fun W hSw => by (try dsimp only at hSw); go_simp⟩) (by assumption) ?_
  simp only [List.getElem_toArray, List.getElem_cons_zero, List.getElem_cons_succ, Act.put, List.setIfInBounds_toArray, List.set_cons_zero, List.set_cons_succ]
  refine wpAnyH_take (i := 5) (v := thV p x) rfl (by kernel_rfl) (by kernel_rfl) (by kernel_rfl) (fun _ _ _ h => h) (Or.inl ⟨by rfl, fun W hSw => by (try dsimp only at hSw); go_simp⟩) (by assumption) ?_
  simp only [List.getElem_toArray, List.getElem_cons_zero, List.getElem_cons_succ, Act.put, List.setIfInBounds_toArray, List.set_cons_zero, List.set_cons_succ]
  refine wpAnyH_ready (rs := [6]) (by kernel_rfl) (by simp) ?_
  refine AllReadyH.cons rfl (fun K hK => ?_) AllReadyH.nil
  go_simp
  go_wp2_with (go_at_call 101; refine (hst _).mono ?_; rintro e w4 ⟨rfl, hb4⟩)
  refine hK.out _ _ (keep2 (by assumption) (by assumption)) (fun hHeld2 => ?_)
  clear hK K
  refine wpAnyH_take (i := 7) (v := .bool true) rfl (by kernel_rfl) (by kernel_rfl) (by kernel_rfl) (fun _ _ _ h => h) (Or.inl ⟨by rfl, fun W hSw => by (try dsimp only at hSw); go_simp⟩) (by assumption) ?_
  simp only [List.getElem_toArray, List.getElem_cons_zero, List.getElem_cons_succ, Act.put, List.setIfInBounds_toArray, List.set_cons_zero, List.set_cons_succ]
  refine wpAnyH_take (i := 8) (v := .bool true) rfl (by kernel_rfl) (by kernel_rfl) (by kernel_rfl) (fun _ _ _ h => h) (Or.inl ⟨by rfl, fun W hSw => by (try dsimp only at hSw); go_simp⟩) (by assumption) ?_
  simp only [List.getElem_toArray, List.getElem_cons_zero, List.getElem_cons_succ, Act.put, List.setIfInBounds_toArray, List.set_cons_zero, List.set_cons_succ]
  refine wpAnyH_done (by kernel_rfl) ?_ _
  refine NoPanic.normal ?_
  clear hq
  go_wp2
  go_ret2
  exact ⟨rfl, thenB hB (thenB hb2 hHeld2)⟩

set_option maxRecDepth 100000 in
set_option maxHeartbeats 4000000 in
theorem encode_c (w : World) (p : Int) (x : It) (hx : ItOk x) (hp : wid p ≠ 0) (h1 : itEq (giveI p x) x = true) (h2 : standsB p x = true) : Calls Tryz.prog 81 #[.int .i64 p, .agg (itC x)] w fun e w' => e = .returned (.tuple #[.string (strOfNums (wrL p x)), .int .i64 0]) ∧ Below w.heap.size w w' := by
  obtain ⟨w1, hw1⟩ : ∃ w1, w.alloc (.cells (itC x) 45) = w1 := ⟨_, rfl⟩
  have hB : Below w.heap.size w w1 := by rw [← hw1]; exact (Below.refl _ w).alloc (Nat.le_refl _) _
  have hat : ItAt 45 w1 w.heap.size x := by rw [← hw1]; exact ItAt.laid _ w x
  have HI : Hid ((Tryz.prog.info? 45).map (·.size) = some (itC x).size) := by unfold Hid; rw [itC_size hx.ch.1]; exact size_item
  have HA : Hid (w1.heap[w.heap.size]? = some (.cells (itC x) 45 (0, 0))) := hat.row
  have hwd := fun W => widthOf_any W p
  have htk := fun W => take_any W p x hx
  have hgv := fun W => give_any W p x hx
  have hsd := fun W => stands_any W p x hx
  have hwr := fun W => write_any W p x hx
  have hg := giveI_ok (p := p) hx
  have hne : ∀ W, (binOp .neq 45 (.agg (itC (giveI p x))) (.agg (itC x))).run Tryz.prog W = .ok (.bool false) W := fun W => by rw [neq_items W hg.ch.1 hx.ch.1, h1]; rfl
  have hwr := fun W => write_any W p x hx h2
  rw [h2] at hsd
  have hst := hsd
  clear h1 h2 hsd
  have hpI : ((wid p) == 0) = false := by rw [beq_eq_false_iff_ne]; exact hp
  generalize wid p = wd at *
  go_enter Tryz.func81, Tryz.ntmps81
  go_wp2_with fail
  refine (hwd _).mono ?_
  rintro e w' ⟨rfl, rfl⟩
  clear hwd
  go_wp2_with (refine wpList_load_row rfl 45 _ rfl w.heap.size rfl 45 (itC x) (0, 0) _ HA.out Tryz.underlying45 rfl HI.out ?_)
  refine (htk _).mono ?_
  rintro e w2 ⟨rfl, hb2⟩
  clear htk
  have hq : ∀ W, Below w2.heap.size w2 W → (Instr.loadAt 45 (.pointer (some ⟨w.heap.size, 0, none⟩))).run Tryz.prog W = .ok (.agg (itC x)) W := fun W hW => ((hat.below hb2).below hW).load hx.ch.1
  clear hat
  go_wp2_with fail
  refine wp_region_noPanic ?_
  refine wp_region_held_drew (S := fun W => Below w2.heap.size w2 W) (by kernel_rfl) (Below.refl _ _).drew (fun hHeld => ?_)
  refine wpAnyH_take (i := 0) (v := thV p x) rfl (by kernel_rfl) (by kernel_rfl) (by kernel_rfl) (fun _ _ _ h => h) (Or.inl ⟨by rfl, fun W hSw => by (try dsimp only at hSw); go_simp⟩) (by assumption) ?_
  simp only [List.getElem_toArray, List.getElem_cons_zero, List.getElem_cons_succ, Act.put, List.setIfInBounds_toArray, List.set_cons_zero, List.set_cons_succ]
  refine wpAnyH_take (i := 2) (v := .agg (itC x)) rfl (by kernel_rfl) (by kernel_rfl) (by kernel_rfl) (fun _ _ _ h => h) (iyields_load (by rfl) _ _ rfl _ rfl _ hq) (by assumption) ?_
  simp only [List.getElem_toArray, List.getElem_cons_zero, List.getElem_cons_succ, Act.put, List.setIfInBounds_toArray, List.set_cons_zero, List.set_cons_succ]
  refine wpAnyH_ready (rs := [1]) (by kernel_rfl) (by simp) ?_
  refine AllReadyH.cons rfl (fun K hK => ?_) AllReadyH.nil
  go_simp
  go_wp2_with (go_at_call 102; refine (hgv _).mono ?_; rintro e w3 ⟨rfl, hb3⟩)
  refine hK.out _ _ (keep2 (by assumption) (by assumption)) (fun hHeld2 => ?_)
  clear hK K
  refine wpAnyH_take (i := 3) (v := .bool false) rfl (by kernel_rfl) (by kernel_rfl) (by kernel_rfl) (fun _ _ _ h => h) (Or.inl ⟨by rfl, fun W hSw => by (try dsimp only at hSw); go_simp⟩) (by assumption) ?_
  simp only [List.getElem_toArray, List.getElem_cons_zero, List.getElem_cons_succ, Act.put, List.setIfInBounds_toArray, List.set_cons_zero, List.set_cons_succ]
  refine wpAnyH_take (i := 4) (v := .bool false) rfl (by kernel_rfl) (by kernel_rfl) (by kernel_rfl) (fun _ _ _ h => h) (Or.inl ⟨by rfl, fun W hSw => by (try dsimp only at hSw); go_simp⟩) (by assumption) ?_
  simp only [List.getElem_toArray, List.getElem_cons_zero, List.getElem_cons_succ, Act.put, List.setIfInBounds_toArray, List.set_cons_zero, List.set_cons_succ]
  refine wpAnyH_take (i := 5) (v := thV p x) rfl (by kernel_rfl) (by kernel_rfl) (by kernel_rfl) (fun _ _ _ h => h) (Or.inl ⟨by rfl, fun W hSw => by (try dsimp only at hSw); go_simp⟩) (by assumption) ?_
  simp only [List.getElem_toArray, List.getElem_cons_zero, List.getElem_cons_succ, Act.put, List.setIfInBounds_toArray, List.set_cons_zero, List.set_cons_succ]
  refine wpAnyH_ready (rs := [6]) (by kernel_rfl) (by simp) ?_
  refine AllReadyH.cons rfl (fun K hK => ?_) AllReadyH.nil
  go_simp
  go_wp2_with (go_at_call 101; refine (hst _).mono ?_; rintro e w4 ⟨rfl, hb4⟩)
  refine hK.out _ _ (keep2 (by assumption) (by assumption)) (fun hHeld2 => ?_)
  clear hK K
  refine wpAnyH_take (i := 7) (v := .bool false) rfl (by kernel_rfl) (by kernel_rfl) (by kernel_rfl) (fun _ _ _ h => h) (Or.inl ⟨by rfl, fun W hSw => by (try dsimp only at hSw); go_simp⟩) (by assumption) ?_
  simp only [List.getElem_toArray, List.getElem_cons_zero, List.getElem_cons_succ, Act.put, List.setIfInBounds_toArray, List.set_cons_zero, List.set_cons_succ]
  refine wpAnyH_take (i := 8) (v := .bool false) rfl (by kernel_rfl) (by kernel_rfl) (by kernel_rfl) (fun _ _ _ h => h) (Or.inl ⟨by rfl, fun W hSw => by (try dsimp only at hSw); go_simp⟩) (by assumption) ?_
  simp only [List.getElem_toArray, List.getElem_cons_zero, List.getElem_cons_succ, Act.put, List.setIfInBounds_toArray, List.set_cons_zero, List.set_cons_succ]
  refine wpAnyH_done (by kernel_rfl) ?_ _
  refine NoPanic.normal ?_
  clear hq
  go_wp2_with fail
  refine (hwr _).mono ?_
  rintro e w5 ⟨v5, rfl, hr5, hb5⟩
  have hcv := hr5.conv
  go_wp2
  go_ret2
  exact ⟨rfl, thenB hB (thenB hb2 (thenB hHeld2 hb5))⟩

set_option maxHeartbeats 1000000 in
theorem encode_z (w : World) (p : Int) (x : It) (h : wid p = 0) : Calls Tryz.prog 81 #[.int .i64 p, .agg (itC x)] w fun e w' => e = .returned (.tuple #[.string ⟨#[]⟩, .int .i64 1]) ∧ Below w.heap.size w w' := by
  have hwd : ∀ W, Calls Tryz.prog 99 #[.int .i64 p] W fun e w' => e = .returned (.int .i64 0) ∧ W = w' := fun W => by have := widthOf_any W p; rwa [h] at this
  clear h
  go_enter Tryz.func81, Tryz.ntmps81
  go_wp2_with fail
  refine (hwd _).mono ?_
  rintro e w' ⟨rfl, rfl⟩
  go_wp2_with fail
  go_ret2
  exact ⟨rfl, (Below.refl _ w).alloc (Nat.le_refl _) _⟩

theorem encode_any (w : World) (p : Int) (x : It) (hx : ItOk x) : Calls Tryz.prog 81 #[.int .i64 p, .agg (itC x)] w fun e w' => e = .returned (.tuple #[.string (encS p x), .int .i64 (encE p x)]) ∧ Below w.heap.size w w' := by
  by_cases hp : wid p = 0
  · obtain ⟨e1, e2⟩ := enc_arg hp x
    rw [e1, e2]
    exact encode_z w p x hp
  · cases h1 : itEq (giveI p x) x with
    | false =>
      obtain ⟨e1, e2⟩ := enc_no hp (x := x) (by unfold encOk; rw [h1]; rfl)
      rw [e1, e2]
      exact encode_a w p x hx hp h1
    | true =>
      cases h2 : standsB p x with
      | false =>
        obtain ⟨e1, e2⟩ := enc_no hp (x := x) (by unfold encOk; rw [h1, h2]; rfl)
        rw [e1, e2]
        exact encode_b w p x hx hp h1 h2
      | true =>
        obtain ⟨e1, e2⟩ := enc_yes hp (x := x) (by unfold encOk; rw [h1, h2]; rfl)
        rw [e1, e2]
        exact encode_c w p x hx hp h1 h2

end Go.Proofs.YtjlglnhmkheidaaGreat
