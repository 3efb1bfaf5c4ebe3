/- The contract of the document's Encode. -/
import Derived.Test.YtjlglnhmkheidaaGreatIEncode
import Derived.Test.YtjlglnhmkheidaaGreatI4
namespace Go.Proofs.YtjlglnhmkheidaaGreat
open Go.RowKit
set_option maxRecDepth 4000
set_option linter.unusedVariables false

theorem size_itemR : (Tryz.prog.info? 49).map (·.size) = some 37 := by kernel_rfl
theorem zeroItemR (w : World) : (zeroValue 49).run Tryz.prog w = .ok (.agg (itC it0)) w := by
  have h : (Tryz.prog.info? 49).map (fun i => (i.zero, i.size)) = some (some (.agg (itC it0)), 37) := by kernel_rfl
  exact (zero_of_info h).1 w
theorem built_zeroR : Tryz.prog.built 49 [] = some (itC it0) := by kernel_rfl

theorem wpList_storeR {w : World} {ops : Array Oper} {rest : List Oper} {o : Oper} {a : Act} {Q : Exit → Act → World → Prop} (hg : o.guard = none) (x y : Operand) (ho : o.op = .store 49 x y)
    (g : Nat) (z old : It) (hx : a.eval x = .pointer (some ⟨g, 0, none⟩)) (hy : a.eval y = .agg (itC z)) (hz : z.bytes.length = 32) (hold : old.bytes.length = 32) (hat : ItAt 49 w g old)
    (h : wpList Tryz.prog ops Q rest (a.put o.dst undef) (w.setRow g (itC z))) : wpList Tryz.prog ops Q (o :: rest) a w :=
  wpList_store_row hg 49 x y ho g (itC z) hx hy 49 (itC old) hat.row (by rw [itC_size hz]; exact size_itemR) (by rw [itC_size hz, itC_size hold]) (one_item z) h

theorem ItAt.loadR {w : World} {g : Nat} {x : It} (h : ItAt 49 w g x) (hx : x.bytes.length = 32) : (Instr.loadAt 49 (.pointer (some ⟨g, 0, none⟩))).run Tryz.prog w = .ok (.agg (itC x)) w := by
  have hl := run_loadVar_row (P := Tryz.prog) w g _ 49 (itC x) _ _ h.row Tryz.underlying49 rfl (by rw [itC_size hx]; exact size_itemR)
  simp only [Instr.loadAt, Instr.sureAddr, Sem.run_bind, Sem.run_pure, Result.andThen_ok, hl]
theorem ItAt.loadI {T : TypeId} {w : World} {g : Nat} {x : It} (h : ItAt T w g x) : (Instr.loadAt 42 (.pointer (some ⟨g, 0, none⟩))).run Tryz.prog w = .ok (.agg #[.int .i64 x.kind, .int .i64 x.mode, .int .i64 x.links, .int .i64 x.size]) w :=
  run_loadAt_mid w g 0 42 _ _ h.rangeI Tryz.underlying42 rfl size_inode
theorem ItAt.loadC {T : TypeId} {w : World} {g : Nat} {x : It} (h : ItAt T w g x) (hx : x.bytes.length = 32) : (Instr.loadAt 43 (.pointer (some ⟨g, 5, none⟩))).run Tryz.prog w = .ok (.agg (bytesV x.bytes)) w :=
  run_loadAt_mid w g 5 43 _ _ h.range Tryz.underlying43 rfl (by rw [List.length_map, hx]; exact size_chunk)

theorem neq_itemsR (w : World) {x y : It} (hx : x.bytes.length = 32) (hy : y.bytes.length = 32) : (binOp .neq 49 (.agg (itC x)) (.agg (itC y))).run Tryz.prog w = .ok (.bool (!itEq x y)) w := by
  rw [run_neq_struct, equal_items _ (by kernel_rfl) (by kernel_rfl) (by kernel_rfl) w 9997 hx hy]
  rfl

theorem itEq_comm (x y : It) : itEq x y = itEq y x := by
  rw [Bool.eq_iff_iff, itEq_iff, itEq_iff]
  exact eq_comm

/-! ### Cells stored one behind the other into a row -/
def setMany (cs : Array Value) : Nat → List Value → Array Value
  | _, [] => cs
  | o, v :: r => setMany (cs.setIfInBounds o v) (o + 1) r

theorem heap_setCells (g : Nat) (t : TypeId) : ∀ (vs : List Value) (o : Nat) (w : World) (cs : Array Value), w.heap[g]? = some (.cells cs t (0, 0)) → (w.setCells g o vs).heap[g]? = some (.cells (setMany cs o vs) t (0, 0))
  | [], _, _, _, h => h
  | v :: r, o, w, cs, h => heap_setCells g t r (o + 1) _ _ (heap_setCell_same w g o cs t v h)

theorem below_setCells {B : Nat} {w0 : World} {g : Nat} (hg : B ≤ g) : ∀ (vs : List Value) (o : Nat) (w : World), Below B w0 w → Below B w0 (w.setCells g o vs)
  | [], _, _, h => h
  | v :: r, o, w, h => below_setCells hg r (o + 1) _ (h.setCell hg v)

theorem setMany_toList : ∀ (vs : List Value) (o : Nat) (cs : Array Value), o + vs.length ≤ cs.size → (setMany cs o vs).toList = cs.toList.take o ++ vs ++ cs.toList.drop (o + vs.length)
  | [], o, cs, h => by simp [setMany]
  | v :: r, o, cs, h => by
    rw [List.length_cons] at h
    unfold setMany
    rw [setMany_toList r (o + 1) _ (by simp; omega), Array.toList_setIfInBounds]
    have hl : o < cs.toList.length := by simp; omega
    have e1 : (cs.toList.set o v).take (o + 1) = cs.toList.take o ++ [v] := by
      rw [List.take_succ_eq_append_getElem (by simpa using hl), List.take_set_of_le (Nat.le_refl _)]
      simp
    have e2 : (cs.toList.set o v).drop (o + 1 + r.length) = cs.toList.drop (o + (v :: r).length) := by
      rw [List.drop_set_of_lt (by omega)]
      congr 1
      simp
      omega
    rw [e1, e2]
    simp

theorem ItAt.there {T : TypeId} {w : World} {g : Nat} {x : It} (h : ItAt T w g x) (hx : x.bytes.length = 32) (o n : Nat) (hn : o + n ≤ 37) : w.there g o n := by
  intro j hj
  refine ⟨?_, by simp [World.frozen?, h.row]⟩
  rw [cell_of_row w g (o + j) _ _ (0, 0) h.row, Array.getElem?_eq_getElem (by rw [itC_size hx]; omega)]
  rfl

theorem ItAt.putI {T : TypeId} {w : World} {g : Nat} {x : It} (h : ItAt T w g x) (hx : x.bytes.length = 32) (k m l s : Int) : ItAt T (w.setCells g 0 [.int .i64 k, .int .i64 m, .int .i64 l, .int .i64 s]) g ⟨k, m, l, s, x.lead, x.bytes⟩ := by
  have := heap_setCells g T [.int .i64 k, .int .i64 m, .int .i64 l, .int .i64 s] 0 w _ h.row
  exact ⟨this⟩

theorem ItAt.putC {T : TypeId} {w : World} {g : Nat} {x : It} (h : ItAt T w g x) (hx : x.bytes.length = 32) (b : List Int) (hb : b.length = 32) : ItAt T (w.setCells g 5 (b.map (Value.int .u8))) g ⟨x.kind, x.mode, x.links, x.size, x.lead, b⟩ := by
  have := heap_setCells g T (b.map (Value.int .u8)) 5 w _ h.row
  refine ⟨this.trans ?_⟩
  congr 2
  apply Array.ext'
  rw [setMany_toList _ _ _ (by rw [itC_size hx, List.length_map, hb]; omega)]
  have hd : (itC x).toList.drop (5 + (b.map (Value.int .u8)).length) = [] := by
    apply List.drop_eq_nil_of_le
    rw [Array.length_toList, itC_size hx, List.length_map, hb]
    omega
  rw [hd]
  simp [itC]

theorem ItAt.putT {T : TypeId} {w : World} {g : Nat} {x : It} (h : ItAt T w g x) (t : Int) : ItAt T (w.setCell ⟨g, 4, none⟩ (.int .u32 t)) g ⟨x.kind, x.mode, x.links, x.size, t, x.bytes⟩ := by
  have := heap_setCell_same w g 4 _ T (.int .u32 t) h.row
  refine ⟨this.trans ?_⟩
  congr 2

theorem one_ino (k m l s : Int) : (#[Value.int .i64 k, .int .i64 m, .int .i64 l, .int .i64 s]).all (·.oneCell') = true := by simp [Value.oneCell']

theorem fixB_one (N : Nat) : fixB N 1 = [((N % 256 : Nat) : Int)] := by simp [fixB, dig]

theorem ItAt.fr {T : TypeId} {w : World} {g : Nat} {x : It} (h : ItAt T w g x) (j : Nat) : w.frozen? ⟨g, j, none⟩ = false := by simp [World.frozen?, h.row]

set_option maxRecDepth 100000 in
set_option maxHeartbeats 4000000 in
theorem refEnc_z (w : World) (p : Int) (x : It) (hx : ItOk x) (h1 : p ≠ 1) (h2 : p ≠ 2) (h3 : p ≠ 3) : Calls Tryz.prog 50 #[.int .i64 p, .agg (itC x)] w fun e w' => e = .returned (.tuple #[.string ⟨#[]⟩, .int .i64 1]) ∧ Below w.heap.size w w' := by
  obtain ⟨w1, hw1⟩ : ∃ w1, w.alloc (.cells (itC x) 49) = w1 := ⟨_, rfl⟩
  have hb1 : Below w.heap.size w w1 := by rw [← hw1]; exact (Below.refl _ w).alloc (Nat.le_refl _) _
  have hx1 : ItAt 49 w1 w.heap.size x := by rw [← hw1]; exact ItAt.laid _ w x
  obtain ⟨w2, hw2⟩ : ∃ w2, w1.alloc (.cells (itC it0) 49) = w2 := ⟨_, rfl⟩
  have hb2 : Below w1.heap.size w1 w2 := by rw [← hw2]; exact (Below.refl _ w1).alloc (Nat.le_refl _) _
  have hy2 : ItAt 49 w2 w1.heap.size it0 := by rw [← hw2]; exact ItAt.laid _ w1 it0
  obtain ⟨w3, hw3⟩ : ∃ w3, w2.setRow w1.heap.size (itC it0) = w3 := ⟨_, rfl⟩
  have hy3 : ItAt 49 w3 w1.heap.size it0 := by rw [← hw3]; exact hy2.setRow _
  have hb3 : Below w1.heap.size w1 w3 := by rw [← hw3]; exact below_setRow hb2 (Nat.le_refl _) _
  have hx3 := hx1.below hb3
  have hB3 : Below w.heap.size w w3 := thenB hb1 hb3
  have hz := zeroItemR
  have HX : Hid (x.bytes.length = 32) := hx.ch.1
  have hlt1 : w.heap.size < w1.heap.size := hx1.lt
  clear hx3 hy3
  go_enter Tryz.func50, Tryz.ntmps50
  go_wp2_with (refine wpList_storeR rfl _ _ rfl w1.heap.size it0 it0 rfl rfl ch_zero.1 ch_zero.1 hy2 ?_)
  go_ret2
  exact ⟨rfl, hB3⟩

set_option maxRecDepth 100000 in
set_option maxHeartbeats 4000000 in
theorem refEnc_1a (w : World) (x : It) (hx : ItOk x) (h1 : itEq (giveI 1 x) x = false) : Calls Tryz.prog 50 #[.int .i64 1, .agg (itC x)] w fun e w' => e = .returned (.tuple #[.string ⟨#[]⟩, .int .i64 11]) ∧ Below w.heap.size w w' := by
  obtain ⟨w1, hw1⟩ : ∃ w1, w.alloc (.cells (itC x) 49) = w1 := ⟨_, rfl⟩
  have hb1 : Below w.heap.size w w1 := by rw [← hw1]; exact (Below.refl _ w).alloc (Nat.le_refl _) _
  have hx1 : ItAt 49 w1 w.heap.size x := by rw [← hw1]; exact ItAt.laid _ w x
  obtain ⟨w2, hw2⟩ : ∃ w2, w1.alloc (.cells (itC it0) 49) = w2 := ⟨_, rfl⟩
  have hb2 : Below w1.heap.size w1 w2 := by rw [← hw2]; exact (Below.refl _ w1).alloc (Nat.le_refl _) _
  have hy2 : ItAt 49 w2 w1.heap.size it0 := by rw [← hw2]; exact ItAt.laid _ w1 it0
  obtain ⟨w3, hw3⟩ : ∃ w3, w2.setRow w1.heap.size (itC it0) = w3 := ⟨_, rfl⟩
  have hy3 : ItAt 49 w3 w1.heap.size it0 := by rw [← hw3]; exact hy2.setRow _
  have hb3 : Below w1.heap.size w1 w3 := by rw [← hw3]; exact below_setRow hb2 (Nat.le_refl _) _
  have hx3 := hx1.below hb3
  have hB3 : Below w.heap.size w w3 := thenB hb1 hb3
  have hz := zeroItemR
  have HX : Hid (x.bytes.length = 32) := hx.ch.1
  have hlt1 : w.heap.size < w1.heap.size := hx1.lt
  obtain ⟨k, m, l, s, t, b⟩ := x
  obtain ⟨w4, hw4⟩ : ∃ w4, w3.setCells w1.heap.size 0 [.int .i64 k, .int .i64 m, .int .i64 l, .int .i64 s] = w4 := ⟨_, rfl⟩
  have hb4 : Below w1.heap.size w1 w4 := by rw [← hw4]; exact below_setCells (Nat.le_refl _) _ _ _ hb3
  have hy4 : ItAt 49 w4 w1.heap.size ⟨k, m, l, s, 0, zeroC⟩ := by rw [← hw4]; exact hy3.putI ch_zero.1 k m l s
  have hx4 := hx1.below hb4
  have hB4 : Below w.heap.size w w4 := thenB hb1 hb4
  have hth := hy3.there ch_zero.1 0 4 (by omega)
  have LI : Hid _ := hx3.loadI
  have L3 : Hid _ := hx4.loadR hx.ch.1
  have L6 : Hid _ := hy4.loadR ch_zero.1
  have LI4 : Hid _ := hx4.loadI
  have HT : Hid (w3.there w1.heap.size 0 4) := hth
  rw [giveI_1] at h1
  have hne : ∀ W, (binOp .neq 49 (.agg (itC ⟨k, m, l, s, t, b⟩)) (.agg (itC ⟨k, m, l, s, 0, zeroC⟩))).run Tryz.prog W = .ok (.bool true) W := fun W => by rw [neq_itemsR W (x := ⟨k, m, l, s, t, b⟩) (y := ⟨k, m, l, s, 0, zeroC⟩) HX.out ch_zero.1, itEq_comm, h1]; rfl
  clear hx1 hx3 hy3 hb2 hb3 hth
  go_enter Tryz.func50, Tryz.ntmps50
  go_wp2_with (first
    | (refine wpList_storeR rfl _ _ rfl w1.heap.size it0 it0 rfl rfl ch_zero.1 ch_zero.1 hy2 ?_)
    | (refine iloadG rfl 42 _ rfl _ rfl _ LI.out ?_)
    | (refine wpList_store_mid rfl 42 _ _ rfl w1.heap.size 0 #[.int .i64 k, .int .i64 m, .int .i64 l, .int .i64 s] rfl rfl HT.out size_inode (one_ino k m l s) ?_; rw [show (#[Value.int .i64 k, .int .i64 m, .int .i64 l, .int .i64 s]).toList = [.int .i64 k, .int .i64 m, .int .i64 l, .int .i64 s] from rfl, hw4])
    | (refine iloadG rfl 49 _ rfl _ rfl _ L3.out ?_)
    | (refine iloadG rfl 49 _ rfl _ rfl _ L6.out ?_))
  go_ret2
  exact ⟨rfl, hB4⟩

set_option maxRecDepth 100000 in
set_option maxHeartbeats 4000000 in
theorem refEnc_1b (w : World) (x : It) (hx : ItOk x) (h1 : itEq (giveI 1 x) x = true) (h2 : standsB 1 x = false) : Calls Tryz.prog 50 #[.int .i64 1, .agg (itC x)] w fun e w' => e = .returned (.tuple #[.string ⟨#[]⟩, .int .i64 11]) ∧ Below w.heap.size w w' := by
  obtain ⟨w1, hw1⟩ : ∃ w1, w.alloc (.cells (itC x) 49) = w1 := ⟨_, rfl⟩
  have hb1 : Below w.heap.size w w1 := by rw [← hw1]; exact (Below.refl _ w).alloc (Nat.le_refl _) _
  have hx1 : ItAt 49 w1 w.heap.size x := by rw [← hw1]; exact ItAt.laid _ w x
  obtain ⟨w2, hw2⟩ : ∃ w2, w1.alloc (.cells (itC it0) 49) = w2 := ⟨_, rfl⟩
  have hb2 : Below w1.heap.size w1 w2 := by rw [← hw2]; exact (Below.refl _ w1).alloc (Nat.le_refl _) _
  have hy2 : ItAt 49 w2 w1.heap.size it0 := by rw [← hw2]; exact ItAt.laid _ w1 it0
  obtain ⟨w3, hw3⟩ : ∃ w3, w2.setRow w1.heap.size (itC it0) = w3 := ⟨_, rfl⟩
  have hy3 : ItAt 49 w3 w1.heap.size it0 := by rw [← hw3]; exact hy2.setRow _
  have hb3 : Below w1.heap.size w1 w3 := by rw [← hw3]; exact below_setRow hb2 (Nat.le_refl _) _
  have hx3 := hx1.below hb3
  have hB3 : Below w.heap.size w w3 := thenB hb1 hb3
  have hz := zeroItemR
  have HX : Hid (x.bytes.length = 32) := hx.ch.1
  have hlt1 : w.heap.size < w1.heap.size := hx1.lt
  obtain ⟨k, m, l, s, t, b⟩ := x
  obtain ⟨w4, hw4⟩ : ∃ w4, w3.setCells w1.heap.size 0 [.int .i64 k, .int .i64 m, .int .i64 l, .int .i64 s] = w4 := ⟨_, rfl⟩
  have hb4 : Below w1.heap.size w1 w4 := by rw [← hw4]; exact below_setCells (Nat.le_refl _) _ _ _ hb3
  have hy4 : ItAt 49 w4 w1.heap.size ⟨k, m, l, s, 0, zeroC⟩ := by rw [← hw4]; exact hy3.putI ch_zero.1 k m l s
  have hx4 := hx1.below hb4
  have hB4 : Below w.heap.size w w4 := thenB hb1 hb4
  have hth := hy3.there ch_zero.1 0 4 (by omega)
  have LI : Hid _ := hx3.loadI
  have L3 : Hid _ := hx4.loadR hx.ch.1
  have L6 : Hid _ := hy4.loadR ch_zero.1
  have LI4 : Hid _ := hx4.loadI
  have HT : Hid (w3.there w1.heap.size 0 4) := hth
  rw [giveI_1] at h1
  have hck : ∀ W, Calls Tryz.prog 82 #[.agg #[.int .i64 k, .int .i64 m, .int .i64 l, .int .i64 s]] W fun e w' => e = .returned (.int .i64 11) ∧ Below W.heap.size W w' := fun W => by
    have := irefCheck_any W k m l s
    rwa [inoE_11 h2] at this
  have hne : ∀ W, (binOp .neq 49 (.agg (itC ⟨k, m, l, s, t, b⟩)) (.agg (itC ⟨k, m, l, s, 0, zeroC⟩))).run Tryz.prog W = .ok (.bool false) W := fun W => by rw [neq_itemsR W (x := ⟨k, m, l, s, t, b⟩) (y := ⟨k, m, l, s, 0, zeroC⟩) HX.out ch_zero.1, itEq_comm, h1]; rfl
  clear hx1 hx3 hy3 hb2 hb3 hth
  clear h2
  go_enter Tryz.func50, Tryz.ntmps50
  go_wp2_with (first
    | (refine wpList_storeR rfl _ _ rfl w1.heap.size it0 it0 rfl rfl ch_zero.1 ch_zero.1 hy2 ?_)
    | (refine iloadG rfl 42 _ rfl _ rfl _ LI.out ?_)
    | (refine wpList_store_mid rfl 42 _ _ rfl w1.heap.size 0 #[.int .i64 k, .int .i64 m, .int .i64 l, .int .i64 s] rfl rfl HT.out size_inode (one_ino k m l s) ?_; rw [show (#[Value.int .i64 k, .int .i64 m, .int .i64 l, .int .i64 s]).toList = [.int .i64 k, .int .i64 m, .int .i64 l, .int .i64 s] from rfl, hw4])
    | (refine iloadG rfl 49 _ rfl _ rfl _ L3.out ?_)
    | (refine iloadG rfl 49 _ rfl _ rfl _ L6.out ?_)
    | (refine iloadG rfl 42 _ rfl _ rfl _ LI4.out ?_))
  refine (hck _).mono ?_
  rintro e w5 ⟨rfl, hb5⟩
  go_wp2
  go_ret2
  exact ⟨rfl, thenB hB4 hb5⟩

set_option maxRecDepth 100000 in
set_option maxHeartbeats 4000000 in
theorem refEnc_1c (w : World) (x : It) (hx : ItOk x) (h1 : itEq (giveI 1 x) x = true) (h2 : standsB 1 x = true) : Calls Tryz.prog 50 #[.int .i64 1, .agg (itC x)] w fun e w' => e = .returned (.tuple #[.string (strOfNums (wrL 1 x)), .int .i64 0]) ∧ Below w.heap.size w w' := by
  obtain ⟨w1, hw1⟩ : ∃ w1, w.alloc (.cells (itC x) 49) = w1 := ⟨_, rfl⟩
  have hb1 : Below w.heap.size w w1 := by rw [← hw1]; exact (Below.refl _ w).alloc (Nat.le_refl _) _
  have hx1 : ItAt 49 w1 w.heap.size x := by rw [← hw1]; exact ItAt.laid _ w x
  obtain ⟨w2, hw2⟩ : ∃ w2, w1.alloc (.cells (itC it0) 49) = w2 := ⟨_, rfl⟩
  have hb2 : Below w1.heap.size w1 w2 := by rw [← hw2]; exact (Below.refl _ w1).alloc (Nat.le_refl _) _
  have hy2 : ItAt 49 w2 w1.heap.size it0 := by rw [← hw2]; exact ItAt.laid _ w1 it0
  obtain ⟨w3, hw3⟩ : ∃ w3, w2.setRow w1.heap.size (itC it0) = w3 := ⟨_, rfl⟩
  have hy3 : ItAt 49 w3 w1.heap.size it0 := by rw [← hw3]; exact hy2.setRow _
  have hb3 : Below w1.heap.size w1 w3 := by rw [← hw3]; exact below_setRow hb2 (Nat.le_refl _) _
  have hx3 := hx1.below hb3
  have hB3 : Below w.heap.size w w3 := thenB hb1 hb3
  have hz := zeroItemR
  have HX : Hid (x.bytes.length = 32) := hx.ch.1
  have hlt1 : w.heap.size < w1.heap.size := hx1.lt
  obtain ⟨k, m, l, s, t, b⟩ := x
  obtain ⟨w4, hw4⟩ : ∃ w4, w3.setCells w1.heap.size 0 [.int .i64 k, .int .i64 m, .int .i64 l, .int .i64 s] = w4 := ⟨_, rfl⟩
  have hb4 : Below w1.heap.size w1 w4 := by rw [← hw4]; exact below_setCells (Nat.le_refl _) _ _ _ hb3
  have hy4 : ItAt 49 w4 w1.heap.size ⟨k, m, l, s, 0, zeroC⟩ := by rw [← hw4]; exact hy3.putI ch_zero.1 k m l s
  have hx4 := hx1.below hb4
  have hB4 : Below w.heap.size w w4 := thenB hb1 hb4
  have hth := hy3.there ch_zero.1 0 4 (by omega)
  have LI : Hid _ := hx3.loadI
  have L3 : Hid _ := hx4.loadR hx.ch.1
  have L6 : Hid _ := hy4.loadR ch_zero.1
  have LI4 : Hid _ := hx4.loadI
  have HT : Hid (w3.there w1.heap.size 0 4) := hth
  rw [giveI_1] at h1
  have hck : ∀ W, Calls Tryz.prog 82 #[.agg #[.int .i64 k, .int .i64 m, .int .i64 l, .int .i64 s]] W fun e w' => e = .returned (.int .i64 0) ∧ Below W.heap.size W w' := fun W => by
    have := irefCheck_any W k m l s
    rwa [inoE_0 h2] at this
  obtain ⟨⟨k0, k1⟩, ⟨m0, m1⟩, ⟨l0, l1⟩, s0, s1⟩ := inoOk_bounds (show inoOk k m l s = true from h2)
  have HR : Hid (wrL 1 ⟨k, m, l, s, t, b⟩ = [k] ++ fixB m.toNat 2 ++ [l] ++ fixB s.toNat 2) := by
    unfold Hid
    rw [wrL_1]
    unfold recL
    dsimp only
    rw [show fixB k.toNat 1 = [k] from by rw [fixB_one]; congr 1; omega, show fixB l.toNat 1 = [l] from by rw [fixB_one]; congr 1; omega]
  have wk : IntKind.u8.wrap k = k := by rw [IntKind.wrap_u8]; omega
  have wl : IntKind.u8.wrap l = l := by rw [IntKind.wrap_u8]; omega
  have hne : ∀ W, (binOp .neq 49 (.agg (itC ⟨k, m, l, s, t, b⟩)) (.agg (itC ⟨k, m, l, s, 0, zeroC⟩))).run Tryz.prog W = .ok (.bool false) W := fun W => by rw [neq_itemsR W (x := ⟨k, m, l, s, t, b⟩) (y := ⟨k, m, l, s, 0, zeroC⟩) HX.out ch_zero.1, itEq_comm, h1]; rfl
  clear hx1 hx3 hy3 hb2 hb3 hth
  clear h2
  go_enter Tryz.func50, Tryz.ntmps50
  go_wp2_with (first
    | (refine wpList_storeR rfl _ _ rfl w1.heap.size it0 it0 rfl rfl ch_zero.1 ch_zero.1 hy2 ?_)
    | (refine iloadG rfl 42 _ rfl _ rfl _ LI.out ?_)
    | (refine wpList_store_mid rfl 42 _ _ rfl w1.heap.size 0 #[.int .i64 k, .int .i64 m, .int .i64 l, .int .i64 s] rfl rfl HT.out size_inode (one_ino k m l s) ?_; rw [show (#[Value.int .i64 k, .int .i64 m, .int .i64 l, .int .i64 s]).toList = [.int .i64 k, .int .i64 m, .int .i64 l, .int .i64 s] from rfl, hw4])
    | (refine iloadG rfl 49 _ rfl _ rfl _ L3.out ?_)
    | (refine iloadG rfl 49 _ rfl _ rfl _ L6.out ?_)
    | (refine iloadG rfl 42 _ rfl _ rfl _ LI4.out ?_))
  refine (hck _).mono ?_
  rintro e w5 ⟨rfl, hb5⟩
  have hB5 := thenB hB4 hb5
  have hx5 := hx4.below hb5
  obtain ⟨w6, hw6⟩ : ∃ w6, w5.alloc (.cells #[.int .u8 k] 5) = w6 := ⟨_, rfl⟩
  have hb6 : Below w5.heap.size w5 w6 := by rw [← hw6]; exact (Below.refl _ w5).alloc (Nat.le_refl _) _
  have ho6 : Own w6 w5.heap.size (.slice (some ⟨w5.heap.size, 0, none⟩) 1 1) [k] := by rw [← hw6]; exact Own.laid (cs := #[.int .u8 k]) rfl (by decide) rfl
  have hx6 := hx5.below hb6
  have q0 := hx5.c0
  have q1 := hx6.c1
  have hsz6 := hb6.size
  clear hne LI L3 L6 LI4 HT hck hw1 hw2 hw3 hw4 hz
  go_wp2_with fail
  refine (refFix_any w6 w5.heap.size _ [k] m 2 ho6 hsz6 (by simp) (by omega) (by omega) m0 (by omega) (by omega)).mono ?_
  rintro e w7 ⟨v7, rfl, ho7, hb7⟩
  have hb57 : Below w5.heap.size w5 w7 := hb6.trans hb7
  have hx7 := hx5.below hb57
  have q2 := hx7.c2
  obtain ⟨w8, hw8⟩ : ∃ w8, w7.alloc (.cells #[.int .u8 l] 5) = w8 := ⟨_, rfl⟩
  have hb8 : Below w7.heap.size w7 w8 := by rw [← hw8]; exact (Below.refl _ w7).alloc (Nat.le_refl _) _
  have hr8 : Rd w8 (.slice (some ⟨w7.heap.size, 0, none⟩) 1 1) [l] := by rw [← hw8]; exact Rd.laid (cs := #[.int .u8 l]) rfl (by decide) rfl
  have ho8 := ho7.below hb8
  have hsz7 := hb57.size
  have hsz8 := hb8.size
  clear q0 q1 hw6 ho7
  go_wp2_with (at_builtin; refine wpList_append_rd rfl _ _ rfl w5.heap.size _ _ rfl ho8 _ _ rfl hr8 ?c1 ?c2 ?_)
  case c1 => simp [fixB_length]
  case c2 => omega
  intro v9 w9 ho9 hg9
  have hb59 : Below w5.heap.size w5 w9 := below_grown (hb57.trans (hb8.mono hsz7)) (by omega) ho8 hg9
  have hx9 := hx5.below hb59
  have q3 := hx9.c3
  clear hg9 ho8 hr8 q2 hw8
  go_wp2_with fail
  refine (refFix_any w9 w5.heap.size _ _ s 2 ho9 hb59.size (by simp [fixB_length]) (by omega) (by omega) s0 (by omega) (by omega)).mono ?_
  rintro e wa ⟨va, rfl, hoa, hba⟩
  have hcv : (convert 136 9 va).run Tryz.prog wa = .ok (.string (strOfNums (wrL 1 ⟨k, m, l, s, t, b⟩))) wa := by
    have h := hoa.rd.conv
    rw [HR.out]
    simpa using h
  go_wp2
  go_ret2
  exact ⟨rfl, hB5.trans ((hb59.trans hba).mono hB5.size)⟩

set_option maxRecDepth 100000 in
set_option maxHeartbeats 4000000 in
theorem refEnc_2a (w : World) (x : It) (hx : ItOk x) (h1 : itEq (giveI 2 x) x = false) : Calls Tryz.prog 50 #[.int .i64 2, .agg (itC x)] w fun e w' => e = .returned (.tuple #[.string ⟨#[]⟩, .int .i64 11]) ∧ Below w.heap.size w w' := by
  obtain ⟨w1, hw1⟩ : ∃ w1, w.alloc (.cells (itC x) 49) = w1 := ⟨_, rfl⟩
  have hb1 : Below w.heap.size w w1 := by rw [← hw1]; exact (Below.refl _ w).alloc (Nat.le_refl _) _
  have hx1 : ItAt 49 w1 w.heap.size x := by rw [← hw1]; exact ItAt.laid _ w x
  obtain ⟨w2, hw2⟩ : ∃ w2, w1.alloc (.cells (itC it0) 49) = w2 := ⟨_, rfl⟩
  have hb2 : Below w1.heap.size w1 w2 := by rw [← hw2]; exact (Below.refl _ w1).alloc (Nat.le_refl _) _
  have hy2 : ItAt 49 w2 w1.heap.size it0 := by rw [← hw2]; exact ItAt.laid _ w1 it0
  obtain ⟨w3, hw3⟩ : ∃ w3, w2.setRow w1.heap.size (itC it0) = w3 := ⟨_, rfl⟩
  have hy3 : ItAt 49 w3 w1.heap.size it0 := by rw [← hw3]; exact hy2.setRow _
  have hb3 : Below w1.heap.size w1 w3 := by rw [← hw3]; exact below_setRow hb2 (Nat.le_refl _) _
  have hx3 := hx1.below hb3
  have hB3 : Below w.heap.size w w3 := thenB hb1 hb3
  have hz := zeroItemR
  have HX : Hid (x.bytes.length = 32) := hx.ch.1
  have hlt1 : w.heap.size < w1.heap.size := hx1.lt
  obtain ⟨k, m, l, s, t, b⟩ := x
  obtain ⟨w4, hw4⟩ : ∃ w4, w3.setCell ⟨w1.heap.size, 4, none⟩ (.int .u32 t) = w4 := ⟨_, rfl⟩
  have hb4 : Below w1.heap.size w1 w4 := by rw [← hw4]; exact hb3.setCell (Nat.le_refl _) _
  have hy4 : ItAt 49 w4 w1.heap.size ⟨0, 0, 0, 0, t, zeroC⟩ := by rw [← hw4]; exact hy3.putT t
  have hx4 := hx1.below hb4
  have hB4 : Below w.heap.size w w4 := thenB hb1 hb4
  have q4 : w3.cell? ⟨w.heap.size, 4, none⟩ = some (.int .u32 t) := hx3.c4
  have q5 : w3.cell? ⟨w1.heap.size, 4, none⟩ = some (.int .u32 0) := hy3.c4
  have f5 := hy3.fr 4
  have q6 : w4.cell? ⟨w.heap.size, 4, none⟩ = some (.int .u32 t) := hx4.c4
  have L3 : Hid _ := hx4.loadR hx.ch.1
  have L6 : Hid _ := hy4.loadR ch_zero.1
  rw [giveI_2] at h1
  have hne : ∀ W, (binOp .neq 49 (.agg (itC ⟨k, m, l, s, t, b⟩)) (.agg (itC ⟨0, 0, 0, 0, t, zeroC⟩))).run Tryz.prog W = .ok (.bool true) W := fun W => by rw [neq_itemsR W (x := ⟨k, m, l, s, t, b⟩) (y := ⟨0, 0, 0, 0, t, zeroC⟩) HX.out ch_zero.1, itEq_comm, h1]; rfl
  clear hx1 hx3 hy3 hb2 hb3
  go_enter Tryz.func50, Tryz.ntmps50
  go_wp2_with (first
    | (refine wpList_storeR rfl _ _ rfl w1.heap.size it0 it0 rfl rfl ch_zero.1 ch_zero.1 hy2 ?_)
    | (refine iloadG rfl 49 _ rfl _ rfl _ L3.out ?_)
    | (refine iloadG rfl 49 _ rfl _ rfl _ L6.out ?_))
  go_ret2
  exact ⟨rfl, hB4⟩

set_option maxRecDepth 100000 in
set_option maxHeartbeats 4000000 in
theorem refEnc_2b (w : World) (x : It) (hx : ItOk x) (h1 : itEq (giveI 2 x) x = true) (h2 : standsB 2 x = false) : Calls Tryz.prog 50 #[.int .i64 2, .agg (itC x)] w fun e w' => e = .returned (.tuple #[.string ⟨#[]⟩, .int .i64 11]) ∧ Below w.heap.size w w' := by
  obtain ⟨w1, hw1⟩ : ∃ w1, w.alloc (.cells (itC x) 49) = w1 := ⟨_, rfl⟩
  have hb1 : Below w.heap.size w w1 := by rw [← hw1]; exact (Below.refl _ w).alloc (Nat.le_refl _) _
  have hx1 : ItAt 49 w1 w.heap.size x := by rw [← hw1]; exact ItAt.laid _ w x
  obtain ⟨w2, hw2⟩ : ∃ w2, w1.alloc (.cells (itC it0) 49) = w2 := ⟨_, rfl⟩
  have hb2 : Below w1.heap.size w1 w2 := by rw [← hw2]; exact (Below.refl _ w1).alloc (Nat.le_refl _) _
  have hy2 : ItAt 49 w2 w1.heap.size it0 := by rw [← hw2]; exact ItAt.laid _ w1 it0
  obtain ⟨w3, hw3⟩ : ∃ w3, w2.setRow w1.heap.size (itC it0) = w3 := ⟨_, rfl⟩
  have hy3 : ItAt 49 w3 w1.heap.size it0 := by rw [← hw3]; exact hy2.setRow _
  have hb3 : Below w1.heap.size w1 w3 := by rw [← hw3]; exact below_setRow hb2 (Nat.le_refl _) _
  have hx3 := hx1.below hb3
  have hB3 : Below w.heap.size w w3 := thenB hb1 hb3
  have hz := zeroItemR
  have HX : Hid (x.bytes.length = 32) := hx.ch.1
  have hlt1 : w.heap.size < w1.heap.size := hx1.lt
  obtain ⟨k, m, l, s, t, b⟩ := x
  obtain ⟨w4, hw4⟩ : ∃ w4, w3.setCell ⟨w1.heap.size, 4, none⟩ (.int .u32 t) = w4 := ⟨_, rfl⟩
  have hb4 : Below w1.heap.size w1 w4 := by rw [← hw4]; exact hb3.setCell (Nat.le_refl _) _
  have hy4 : ItAt 49 w4 w1.heap.size ⟨0, 0, 0, 0, t, zeroC⟩ := by rw [← hw4]; exact hy3.putT t
  have hx4 := hx1.below hb4
  have hB4 : Below w.heap.size w w4 := thenB hb1 hb4
  have q4 : w3.cell? ⟨w.heap.size, 4, none⟩ = some (.int .u32 t) := hx3.c4
  have q5 : w3.cell? ⟨w1.heap.size, 4, none⟩ = some (.int .u32 0) := hy3.c4
  have f5 := hy3.fr 4
  have q6 : w4.cell? ⟨w.heap.size, 4, none⟩ = some (.int .u32 t) := hx4.c4
  have L3 : Hid _ := hx4.loadR hx.ch.1
  have L6 : Hid _ := hy4.loadR ch_zero.1
  rw [giveI_2] at h1
  have ht0 : t = 0 := by simpa [stands_2] using h2
  subst ht0
  have hne : ∀ W, (binOp .neq 49 (.agg (itC ⟨k, m, l, s, 0, b⟩)) (.agg (itC ⟨0, 0, 0, 0, 0, zeroC⟩))).run Tryz.prog W = .ok (.bool false) W := fun W => by rw [neq_itemsR W (x := ⟨k, m, l, s, 0, b⟩) (y := ⟨0, 0, 0, 0, 0, zeroC⟩) HX.out ch_zero.1, itEq_comm, h1]; rfl
  clear hx1 hx3 hy3 hb2 hb3
  clear h2
  go_enter Tryz.func50, Tryz.ntmps50
  go_wp2_with (first
    | (refine wpList_storeR rfl _ _ rfl w1.heap.size it0 it0 rfl rfl ch_zero.1 ch_zero.1 hy2 ?_)
    | (refine iloadG rfl 49 _ rfl _ rfl _ L3.out ?_)
    | (refine iloadG rfl 49 _ rfl _ rfl _ L6.out ?_))
  go_ret2
  exact ⟨rfl, hB4⟩

set_option maxRecDepth 100000 in
set_option maxHeartbeats 4000000 in
theorem refEnc_2c (w : World) (x : It) (hx : ItOk x) (h1 : itEq (giveI 2 x) x = true) (h2 : standsB 2 x = true) : Calls Tryz.prog 50 #[.int .i64 2, .agg (itC x)] w fun e w' => e = .returned (.tuple #[.string (strOfNums (wrL 2 x)), .int .i64 0]) ∧ Below w.heap.size w w' := by
  obtain ⟨w1, hw1⟩ : ∃ w1, w.alloc (.cells (itC x) 49) = w1 := ⟨_, rfl⟩
  have hb1 : Below w.heap.size w w1 := by rw [← hw1]; exact (Below.refl _ w).alloc (Nat.le_refl _) _
  have hx1 : ItAt 49 w1 w.heap.size x := by rw [← hw1]; exact ItAt.laid _ w x
  obtain ⟨w2, hw2⟩ : ∃ w2, w1.alloc (.cells (itC it0) 49) = w2 := ⟨_, rfl⟩
  have hb2 : Below w1.heap.size w1 w2 := by rw [← hw2]; exact (Below.refl _ w1).alloc (Nat.le_refl _) _
  have hy2 : ItAt 49 w2 w1.heap.size it0 := by rw [← hw2]; exact ItAt.laid _ w1 it0
  obtain ⟨w3, hw3⟩ : ∃ w3, w2.setRow w1.heap.size (itC it0) = w3 := ⟨_, rfl⟩
  have hy3 : ItAt 49 w3 w1.heap.size it0 := by rw [← hw3]; exact hy2.setRow _
  have hb3 : Below w1.heap.size w1 w3 := by rw [← hw3]; exact below_setRow hb2 (Nat.le_refl _) _
  have hx3 := hx1.below hb3
  have hB3 : Below w.heap.size w w3 := thenB hb1 hb3
  have hz := zeroItemR
  have HX : Hid (x.bytes.length = 32) := hx.ch.1
  have hlt1 : w.heap.size < w1.heap.size := hx1.lt
  obtain ⟨k, m, l, s, t, b⟩ := x
  obtain ⟨w4, hw4⟩ : ∃ w4, w3.setCell ⟨w1.heap.size, 4, none⟩ (.int .u32 t) = w4 := ⟨_, rfl⟩
  have hb4 : Below w1.heap.size w1 w4 := by rw [← hw4]; exact hb3.setCell (Nat.le_refl _) _
  have hy4 : ItAt 49 w4 w1.heap.size ⟨0, 0, 0, 0, t, zeroC⟩ := by rw [← hw4]; exact hy3.putT t
  have hx4 := hx1.below hb4
  have hB4 : Below w.heap.size w w4 := thenB hb1 hb4
  have q4 : w3.cell? ⟨w.heap.size, 4, none⟩ = some (.int .u32 t) := hx3.c4
  have q5 : w3.cell? ⟨w1.heap.size, 4, none⟩ = some (.int .u32 0) := hy3.c4
  have f5 := hy3.fr 4
  have q6 : w4.cell? ⟨w.heap.size, 4, none⟩ = some (.int .u32 t) := hx4.c4
  have L3 : Hid _ := hx4.loadR hx.ch.1
  have L6 : Hid _ := hy4.loadR ch_zero.1
  rw [giveI_2] at h1
  have hne : ∀ W, (binOp .neq 49 (.agg (itC ⟨k, m, l, s, t, b⟩)) (.agg (itC ⟨0, 0, 0, 0, t, zeroC⟩))).run Tryz.prog W = .ok (.bool false) W := fun W => by rw [neq_itemsR W (x := ⟨k, m, l, s, t, b⟩) (y := ⟨0, 0, 0, 0, t, zeroC⟩) HX.out ch_zero.1, itEq_comm, h1]; rfl
  clear hx1 hx3 hy3 hb2 hb3
  have t0 := hx.t0
  have t1 := hx.t1
  dsimp only at t0 t1
  have wt : IntKind.i64.wrap t = t := by rw [IntKind.wrap_i64]; omega
  have ht0 : t ≠ 0 := by simpa [stands_2] using h2
  have htI : (t == 0) = false := by rw [beq_eq_false_iff_ne]; exact ht0
  clear h2
  go_enter Tryz.func50, Tryz.ntmps50
  go_wp2_with (first
    | (refine wpList_storeR rfl _ _ rfl w1.heap.size it0 it0 rfl rfl ch_zero.1 ch_zero.1 hy2 ?_)
    | (refine iloadG rfl 49 _ rfl _ rfl _ L3.out ?_)
    | (refine iloadG rfl 49 _ rfl _ rfl _ L6.out ?_))
  refine (refFix_any w4 w4.heap.size _ [] t 4 (Own.nil _ _) (Nat.le_refl _) (by simp) (by omega) (by omega) t0 (by omega) (by omega)).mono ?_
  rintro e w5 ⟨v5, rfl, ho5, hb5⟩
  rw [List.nil_append] at ho5
  have hcv : (convert 136 9 v5).run Tryz.prog w5 = .ok (.string (strOfNums (wrL 2 ⟨k, m, l, s, t, b⟩))) w5 := ho5.rd.conv
  go_wp2
  go_ret2
  exact ⟨rfl, thenB hB4 hb5⟩

set_option maxRecDepth 100000 in
set_option maxHeartbeats 4000000 in
theorem refEnc_3a (w : World) (x : It) (hx : ItOk x) (h1 : itEq (giveI 3 x) x = false) : Calls Tryz.prog 50 #[.int .i64 3, .agg (itC x)] w fun e w' => e = .returned (.tuple #[.string ⟨#[]⟩, .int .i64 11]) ∧ Below w.heap.size w w' := by
  obtain ⟨w1, hw1⟩ : ∃ w1, w.alloc (.cells (itC x) 49) = w1 := ⟨_, rfl⟩
  have hb1 : Below w.heap.size w w1 := by rw [← hw1]; exact (Below.refl _ w).alloc (Nat.le_refl _) _
  have hx1 : ItAt 49 w1 w.heap.size x := by rw [← hw1]; exact ItAt.laid _ w x
  obtain ⟨w2, hw2⟩ : ∃ w2, w1.alloc (.cells (itC it0) 49) = w2 := ⟨_, rfl⟩
  have hb2 : Below w1.heap.size w1 w2 := by rw [← hw2]; exact (Below.refl _ w1).alloc (Nat.le_refl _) _
  have hy2 : ItAt 49 w2 w1.heap.size it0 := by rw [← hw2]; exact ItAt.laid _ w1 it0
  obtain ⟨w3, hw3⟩ : ∃ w3, w2.setRow w1.heap.size (itC it0) = w3 := ⟨_, rfl⟩
  have hy3 : ItAt 49 w3 w1.heap.size it0 := by rw [← hw3]; exact hy2.setRow _
  have hb3 : Below w1.heap.size w1 w3 := by rw [← hw3]; exact below_setRow hb2 (Nat.le_refl _) _
  have hx3 := hx1.below hb3
  have hB3 : Below w.heap.size w w3 := thenB hb1 hb3
  have hz := zeroItemR
  have HX : Hid (x.bytes.length = 32) := hx.ch.1
  have hlt1 : w.heap.size < w1.heap.size := hx1.lt
  obtain ⟨k, m, l, s, t, b⟩ := x
  obtain ⟨w4, hw4⟩ : ∃ w4, w3.setCells w1.heap.size 5 (b.map (Value.int .u8)) = w4 := ⟨_, rfl⟩
  have hb4 : Below w1.heap.size w1 w4 := by rw [← hw4]; exact below_setCells (Nat.le_refl _) _ _ _ hb3
  have hy4 : ItAt 49 w4 w1.heap.size ⟨0, 0, 0, 0, 0, b⟩ := by rw [← hw4]; exact hy3.putC ch_zero.1 b hx.ch.1
  have hx4 := hx1.below hb4
  have hB4 : Below w.heap.size w w4 := thenB hb1 hb4
  have HT : Hid (w3.there w1.heap.size 5 (bytesV b).size) := by unfold Hid; rw [bytesV_size, HX.out]; exact hy3.there ch_zero.1 5 32 (by omega)
  have HS : Hid ((Tryz.prog.info? 43).map (·.size) = some (bytesV b).size) := by unfold Hid; rw [bytesV_size, HX.out]; exact size_chunk
  have LC : Hid _ := hx3.loadC hx.ch.1
  have L3 : Hid _ := hx4.loadR hx.ch.1
  have L6 : Hid _ := hy4.loadR hx.ch.1
  rw [giveI_3 (by decide) (by decide)] at h1
  have hne : ∀ W, (binOp .neq 49 (.agg (itC ⟨k, m, l, s, t, b⟩)) (.agg (itC ⟨0, 0, 0, 0, 0, b⟩))).run Tryz.prog W = .ok (.bool true) W := fun W => by rw [neq_itemsR W (x := ⟨k, m, l, s, t, b⟩) (y := ⟨0, 0, 0, 0, 0, b⟩) HX.out HX.out, itEq_comm, h1]; rfl
  clear hx1 hx3 hy3 hb2 hb3
  go_enter Tryz.func50, Tryz.ntmps50
  go_wp2_with (first
    | (refine wpList_storeR rfl _ _ rfl w1.heap.size it0 it0 rfl rfl ch_zero.1 ch_zero.1 hy2 ?_)
    | (refine iloadG rfl 43 _ rfl _ rfl _ LC.out ?_)
    | (refine wpList_store_mid rfl 43 _ _ rfl w1.heap.size 5 (bytesV b) rfl rfl HT.out HS.out (one_bytes b) ?_; rw [show (bytesV b).toList = b.map (Value.int .u8) from rfl, hw4])
    | (refine iloadG rfl 49 _ rfl _ rfl _ L3.out ?_)
    | (refine iloadG rfl 49 _ rfl _ rfl _ L6.out ?_))
  go_ret2
  exact ⟨rfl, hB4⟩

set_option maxRecDepth 100000 in
set_option maxHeartbeats 4000000 in
theorem refEnc_3c (w : World) (x : It) (hx : ItOk x) (h1 : itEq (giveI 3 x) x = true) : Calls Tryz.prog 50 #[.int .i64 3, .agg (itC x)] w fun e w' => e = .returned (.tuple #[.string (strOfNums (wrL 3 x)), .int .i64 0]) ∧ Below w.heap.size w w' := by
  obtain ⟨w1, hw1⟩ : ∃ w1, w.alloc (.cells (itC x) 49) = w1 := ⟨_, rfl⟩
  have hb1 : Below w.heap.size w w1 := by rw [← hw1]; exact (Below.refl _ w).alloc (Nat.le_refl _) _
  have hx1 : ItAt 49 w1 w.heap.size x := by rw [← hw1]; exact ItAt.laid _ w x
  obtain ⟨w2, hw2⟩ : ∃ w2, w1.alloc (.cells (itC it0) 49) = w2 := ⟨_, rfl⟩
  have hb2 : Below w1.heap.size w1 w2 := by rw [← hw2]; exact (Below.refl _ w1).alloc (Nat.le_refl _) _
  have hy2 : ItAt 49 w2 w1.heap.size it0 := by rw [← hw2]; exact ItAt.laid _ w1 it0
  obtain ⟨w3, hw3⟩ : ∃ w3, w2.setRow w1.heap.size (itC it0) = w3 := ⟨_, rfl⟩
  have hy3 : ItAt 49 w3 w1.heap.size it0 := by rw [← hw3]; exact hy2.setRow _
  have hb3 : Below w1.heap.size w1 w3 := by rw [← hw3]; exact below_setRow hb2 (Nat.le_refl _) _
  have hx3 := hx1.below hb3
  have hB3 : Below w.heap.size w w3 := thenB hb1 hb3
  have hz := zeroItemR
  have HX : Hid (x.bytes.length = 32) := hx.ch.1
  have hlt1 : w.heap.size < w1.heap.size := hx1.lt
  obtain ⟨k, m, l, s, t, b⟩ := x
  obtain ⟨w4, hw4⟩ : ∃ w4, w3.setCells w1.heap.size 5 (b.map (Value.int .u8)) = w4 := ⟨_, rfl⟩
  have hb4 : Below w1.heap.size w1 w4 := by rw [← hw4]; exact below_setCells (Nat.le_refl _) _ _ _ hb3
  have hy4 : ItAt 49 w4 w1.heap.size ⟨0, 0, 0, 0, 0, b⟩ := by rw [← hw4]; exact hy3.putC ch_zero.1 b hx.ch.1
  have hx4 := hx1.below hb4
  have hB4 : Below w.heap.size w w4 := thenB hb1 hb4
  have HT : Hid (w3.there w1.heap.size 5 (bytesV b).size) := by unfold Hid; rw [bytesV_size, HX.out]; exact hy3.there ch_zero.1 5 32 (by omega)
  have HS : Hid ((Tryz.prog.info? 43).map (·.size) = some (bytesV b).size) := by unfold Hid; rw [bytesV_size, HX.out]; exact size_chunk
  have LC : Hid _ := hx3.loadC hx.ch.1
  have L3 : Hid _ := hx4.loadR hx.ch.1
  have L6 : Hid _ := hy4.loadR hx.ch.1
  rw [giveI_3 (by decide) (by decide)] at h1
  have hne : ∀ W, (binOp .neq 49 (.agg (itC ⟨k, m, l, s, t, b⟩)) (.agg (itC ⟨0, 0, 0, 0, 0, b⟩))).run Tryz.prog W = .ok (.bool false) W := fun W => by rw [neq_itemsR W (x := ⟨k, m, l, s, t, b⟩) (y := ⟨0, 0, 0, 0, 0, b⟩) HX.out HX.out, itEq_comm, h1]; rfl
  have hrd : Rd w4 (.slice (some ⟨w.heap.size, 5, none⟩) 32 32) b := by
    have hl := HX.out
    dsimp only at hl
    refine ⟨_, 32, by rw [hl], by rw [hl]; omega, by unfold maxLen; omega, (by intro e; cases e), fun _ => ⟨_, 5, rfl, hx4.lt, fun i hi => ?_⟩⟩
    exact hx4.range i _ (by simp [List.getElem?_eq_getElem hi])
  have hcv := hrd.conv
  rw [wrL_3 (by decide) (by decide)]
  dsimp only
  clear hx1 hx3 hy3 hb2 hb3
  go_enter Tryz.func50, Tryz.ntmps50
  go_wp2_with (first
    | (refine wpList_storeR rfl _ _ rfl w1.heap.size it0 it0 rfl rfl ch_zero.1 ch_zero.1 hy2 ?_)
    | (refine iloadG rfl 43 _ rfl _ rfl _ LC.out ?_)
    | (refine wpList_store_mid rfl 43 _ _ rfl w1.heap.size 5 (bytesV b) rfl rfl HT.out HS.out (one_bytes b) ?_; rw [show (bytesV b).toList = b.map (Value.int .u8) from rfl, hw4])
    | (refine iloadG rfl 49 _ rfl _ rfl _ L3.out ?_)
    | (refine iloadG rfl 49 _ rfl _ rfl _ L6.out ?_))
  go_ret2
  exact ⟨rfl, hB4⟩

theorem refEnc_any (w : World) (p : Int) (x : It) (hx : ItOk x) : Calls Tryz.prog 50 #[.int .i64 p, .agg (itC x)] w fun e w' => e = .returned (.tuple #[.string (encS p x), .int .i64 (encE p x)]) ∧ Below w.heap.size w w' := by
  rcases wid_cases p with ⟨rfl, hw⟩ | ⟨rfl, hw⟩ | ⟨rfl, hw⟩ | ⟨h1, h2, h3, hw⟩
  · have hp : wid 1 ≠ 0 := by decide
    cases h1 : itEq (giveI 1 x) x with
    | false =>
      obtain ⟨e1, e2⟩ := enc_no hp (x := x) (by unfold encOk; rw [h1]; rfl)
      rw [e1, e2]; exact refEnc_1a w x hx h1
    | true =>
      cases h2 : standsB 1 x with
      | false =>
        obtain ⟨e1, e2⟩ := enc_no hp (x := x) (by unfold encOk; rw [h1, h2]; rfl)
        rw [e1, e2]; exact refEnc_1b w x hx h1 h2
      | true =>
        obtain ⟨e1, e2⟩ := enc_yes hp (x := x) (by unfold encOk; rw [h1, h2]; rfl)
        rw [e1, e2]; exact refEnc_1c w x hx h1 h2
  · have hp : wid 2 ≠ 0 := by decide
    cases h1 : itEq (giveI 2 x) x with
    | false =>
      obtain ⟨e1, e2⟩ := enc_no hp (x := x) (by unfold encOk; rw [h1]; rfl)
      rw [e1, e2]; exact refEnc_2a w x hx h1
    | true =>
      cases h2 : standsB 2 x with
      | false =>
        obtain ⟨e1, e2⟩ := enc_no hp (x := x) (by unfold encOk; rw [h1, h2]; rfl)
        rw [e1, e2]; exact refEnc_2b w x hx h1 h2
      | true =>
        obtain ⟨e1, e2⟩ := enc_yes hp (x := x) (by unfold encOk; rw [h1, h2]; rfl)
        rw [e1, e2]; exact refEnc_2c w x hx h1 h2
  · have hp : wid 3 ≠ 0 := by decide
    cases h1 : itEq (giveI 3 x) x with
    | false =>
      obtain ⟨e1, e2⟩ := enc_no hp (x := x) (by unfold encOk; rw [h1]; rfl)
      rw [e1, e2]; exact refEnc_3a w x hx h1
    | true =>
      obtain ⟨e1, e2⟩ := enc_yes hp (x := x) (by unfold encOk; rw [h1]; rfl)
      rw [e1, e2]; exact refEnc_3c w x hx h1
  · obtain ⟨e1, e2⟩ := enc_arg hw x
    rw [e1, e2]
    exact refEnc_z w p x hx h1 h2 h3

end Go.Proofs.YtjlglnhmkheidaaGreat
