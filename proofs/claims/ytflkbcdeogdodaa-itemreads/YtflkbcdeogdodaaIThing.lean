/- The contracts of item.take, give and stands; an item that is handed back. -/
import Derived.Test.YtflkbcdeogdodaaISmall
namespace Go.Proofs.Ytflkbcdeogdodaa
open Go.RowKit
set_option linter.unusedVariables false

/-- An item lies in the block 'g', a variable of the type T. -/
structure ItAt (T : TypeId) (w : World) (g : Nat) (x : It) : Prop where
  row : w.heap[g]? = some (.cells (itC x) T (0, 0))

theorem ItAt.lt {T : TypeId} {w : World} {g : Nat} {x : It} (h : ItAt T w g x) : g < w.heap.size := (Array.getElem?_eq_some_iff.1 h.row).1
theorem ItAt.below {T : TypeId} {w w' : World} {g : Nat} {x : It} (h : ItAt T w g x) (hb : Below w.heap.size w w') : ItAt T w' g x := ⟨(hb.block g h.lt).trans h.row⟩
theorem ItAt.laid (T : TypeId) (w : World) (x : It) : ItAt T (w.alloc (.cells (itC x) T)) w.heap.size x := ⟨heap_alloc_new w _⟩
theorem ItAt.cell {T : TypeId} {w : World} {g : Nat} {x : It} (h : ItAt T w g x) (j : Nat) (v : Value) (hv : (itC x)[j]? = some v) : w.cell? ⟨g, j, none⟩ = some v := by
  rw [cell_of_row w g j _ _ (0, 0) h.row]; exact hv
theorem ItAt.c0 {T : TypeId} {w : World} {g : Nat} {x : It} (h : ItAt T w g x) : w.cell? ⟨g, 0, none⟩ = some (.int .i64 x.kind) := h.cell 0 _ rfl
theorem ItAt.c1 {T : TypeId} {w : World} {g : Nat} {x : It} (h : ItAt T w g x) : w.cell? ⟨g, 1, none⟩ = some (.int .i64 x.mode) := h.cell 1 _ rfl
theorem ItAt.c2 {T : TypeId} {w : World} {g : Nat} {x : It} (h : ItAt T w g x) : w.cell? ⟨g, 2, none⟩ = some (.int .i64 x.links) := h.cell 2 _ rfl
theorem ItAt.c3 {T : TypeId} {w : World} {g : Nat} {x : It} (h : ItAt T w g x) : w.cell? ⟨g, 3, none⟩ = some (.int .i64 x.size) := h.cell 3 _ rfl
theorem ItAt.c4 {T : TypeId} {w : World} {g : Nat} {x : It} (h : ItAt T w g x) : w.cell? ⟨g, 4, none⟩ = some (.int .u32 x.lead) := h.cell 4 _ rfl
theorem ItAt.range {T : TypeId} {w : World} {g : Nat} {x : It} (h : ItAt T w g x) : w.rangeAt g 5 (x.bytes.map (Value.int .u8)) := by
  intro j v hv
  refine h.cell (5 + j) v ?_
  rw [Nat.add_comm]
  simpa [itC] using hv
theorem ItAt.rangeI {T : TypeId} {w : World} {g : Nat} {x : It} (h : ItAt T w g x) : w.rangeAt g 0 [.int .i64 x.kind, .int .i64 x.mode, .int .i64 x.links, .int .i64 x.size] := by
  intro j v hv
  rw [Nat.zero_add]
  match j, hv with
  | 0, hv => cases hv; exact h.c0
  | 1, hv => cases hv; exact h.c1
  | 2, hv => cases hv; exact h.c2
  | 3, hv => cases hv; exact h.c3

theorem below_setRow {B : Nat} {w0 w : World} {g : Nat} (hb : Below B w0 w) (hg : B ≤ g) (cs : Array Value) : Below B w0 (w.setRow g cs) := by
  refine ⟨hb.os, hb.tape, hb.output, by simpa [World.setRow] using hb.size, fun k hk => ?_⟩
  rw [← hb.block k hk]
  simp only [World.setRow, Array.getElem?_modify]
  rw [if_neg (by omega)]

theorem ItAt.setRow {T : TypeId} {w : World} {g : Nat} {x : It} (h : ItAt T w g x) (y : It) : ItAt T (w.setRow g (itC y)) g y := ⟨setRow_heap w g _ _ _ _ h.row⟩

theorem size_item : (Try.prog.info? 31).map (·.size) = some 37 := by kernel_rfl
theorem size_chunk : (Try.prog.info? 25).map (·.size) = some 32 := by kernel_rfl
theorem size_data : (Try.prog.info? 57).map (·.size) = some 32 := by kernel_rfl
theorem size_inode : (Try.prog.info? 23).map (·.size) = some 4 := by kernel_rfl

/-- A function whose only result lies in a variable hands that item back. -/
theorem ret_item {fn : Func} {R : Ending → World → Prop} {a : Act} {w : World} {p : Tmp} (h : fn.results = #[.cell p 31]) (g : Nat) (x : It) (hx : x.bytes.length = 32) (hp : a.tmps.getD p undef = .pointer (some ⟨g, 0, none⟩))
    (hg : ItAt 31 w g x) (hd : a.defers = []) (hR : R (.returned (.agg (itC x))) w) : bodyPost Try.prog fn R .ret a w :=
  bodyPost_ret (results_cell_row h a.tmps w g _ (itC x) _ _ hp hg.row Try.underlying31 rfl (by rw [itC_size hx]; exact size_item)) hd hR

/-- As 'ret_item', with an error's number beside it. -/
theorem ret_item2 {fn : Func} {R : Ending → World → Prop} {a : Act} {w : World} {p u : Tmp} (h : fn.results = #[.cell p 31, .tmp u]) (g : Nat) (x : It) (hx : x.bytes.length = 32) (hp : a.tmps.getD p undef = .pointer (some ⟨g, 0, none⟩)) (v : Value) (hu : a.tmps.getD u undef = v)
    (hg : ItAt 31 w g x) (hd : a.defers = []) (hR : R (.returned (.tuple #[.agg (itC x), v])) w) : bodyPost Try.prog fn R .ret a w := by
  refine bodyPost_ret ?_ hd hR
  have hp' : a.tmps[p]?.getD undef = .pointer (some ⟨g, 0, none⟩) := by simpa using hp
  have hu' : a.tmps[u]?.getD undef = v := by simpa using hu
  have hl := run_loadVar_row (P := Try.prog) w g _ 31 (itC x) _ _ hg.row Try.underlying31 rfl (by rw [itC_size hx]; exact size_item)
  simp [results, h, hp', hu', asAddr, hl, Result.andThen]

/-- The zero item, and the zero chunk. -/
theorem zeroItem (w : World) : (zeroValue 31).run Try.prog w = .ok (.agg (itC it0)) w := by
  have h : (Try.prog.info? 31).map (fun i => (i.zero, i.size)) = some (some (.agg (itC it0)), 37) := by kernel_rfl
  exact (zero_of_info h).1 w
theorem zeroData (w : World) : (zeroValue 57).run Try.prog w = .ok (.agg (bytesV zeroC)) w := by
  have h : (Try.prog.info? 57).map (fun i => (i.zero, i.size)) = some (some (.agg (bytesV zeroC)), 32) := by kernel_rfl
  exact (zero_of_info h).1 w

/-- What a thing is: a part's own fields of an item. -/
def thV (p : Int) (x : It) : Value :=
  if p = 1 then .iface 55 (.agg #[.int .i64 x.kind, .int .i64 x.mode, .int .i64 x.links, .int .i64 x.size])
  else if p = 2 then .iface 56 (.int .u32 x.lead)
  else .iface 57 (.agg (bytesV x.bytes))

theorem thV_1 (x : It) : thV 1 x = .iface 55 (.agg #[.int .i64 x.kind, .int .i64 x.mode, .int .i64 x.links, .int .i64 x.size]) := rfl
theorem thV_2 (x : It) : thV 2 x = .iface 56 (.int .u32 x.lead) := rfl
theorem thV_3 {p : Int} (h1 : p ≠ 1) (h2 : p ≠ 2) (x : It) : thV p x = .iface 57 (.agg (bytesV x.bytes)) := by unfold thV; rw [if_neg h1, if_neg h2]

set_option maxHeartbeats 1000000 in
theorem take_any (w : World) (p : Int) (x : It) (hx : ItOk x) : Calls Try.prog 16 #[.int .i64 p, .agg (itC x)] w fun e w' => e = .returned (thV p x) ∧ Below w.heap.size w w' := by
  obtain ⟨w1, hw1⟩ : ∃ w1, w.alloc (.cells (itC x) 31) = w1 := ⟨_, rfl⟩
  have hB : Below w.heap.size w w1 := by rw [← hw1]; exact (Below.refl _ w).alloc (Nat.le_refl _) _
  have hat : ItAt 31 w1 w.heap.size x := by rw [← hw1]; exact ItAt.laid _ w x
  have HI : Hid (w1.rangeAt w.heap.size 0 [.int .i64 x.kind, .int .i64 x.mode, .int .i64 x.links, .int .i64 x.size]) := hat.rangeI
  have HR : Hid (w1.rangeAt w.heap.size 5 (x.bytes.map (Value.int .u8))) := hat.range
  have HS : Hid ((Try.prog.info? 25).map (·.size) = some (x.bytes.map (Value.int .u8)).length) := by unfold Hid; rw [List.length_map, hx.ch.1]; exact size_chunk
  have c4 := hat.c4
  clear hat
  by_cases h1 : p = 1
  · subst h1
    rw [thV_1]
    go_enter Try.func16, Try.ntmps16
    go_wp2_with (refine wpList_load_mid rfl 23 _ rfl w.heap.size 0 rfl _ _ HI.out Try.underlying23 rfl size_inode ?_)
    go_ret
    exact ⟨rfl, hB⟩
  · by_cases h2 : p = 2
    · subst h2
      rw [thV_2]
      go_enter Try.func16, Try.ntmps16
      go_wp2
      go_ret
      exact ⟨rfl, hB⟩
    · rw [thV_3 h1 h2]
      go_enter Try.func16, Try.ntmps16
      go_wp2_with (refine wpList_load_mid rfl 25 _ rfl w.heap.size 5 rfl _ _ HR.out Try.underlying25 rfl HS.out ?_)
      go_ret
      exact ⟨rfl, hB⟩

end Go.Proofs.Ytflkbcdeogdodaa
