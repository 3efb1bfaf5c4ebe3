/- Laws on make, append, copy, len and string(b) at byte slices. -/
import Derived.Test.YtmifpeocgikbeabBase
import Derived.Lib.BufferWrite
import Derived.Deep.WholeRow
import Derived.Lib.SlBytesConst
import Derived.Laws.AppendOwnNone
import Derived.Deep.AppendSrc
import Derived.Stop.BytesEq
namespace Go.Proofs.Ytmifpeocgikbeab
open Go.RowKit
set_option linter.unusedVariables false
set_option maxRecDepth 4000

theorem Try.info5 : (Try.prog.info? 5).map (fun i => (i.zero, i.size, i.bytes)) = some (some (.int .u8 0), 1, 1) := by kernel_rfl

/-- 'make([]byte, n)': n zero bytes in a new block. -/
theorem make_bytes (w : World) (L : Int) (n : Nat) (hL : L = (n : Int)) (hn : n ≤ 140737488355328) :
    (Instr.makeSlice 128 (.int .i64 L) (.int .i64 L)).run Try.prog w = .ok (.slice (some ⟨w.heap.size, 0, none⟩) n n) (w.alloc (.cells (List.replicate n (Value.int .u8 0)).toArray 5)) := by
  subst hL
  obtain ⟨i, hi, hz0, hz1, hz2⟩ := info_parts Try.info5
  have h := run_make (P := Try.prog) w 128 5 i (.int .u8 0) Try.underlying128 hi hz0 .i64 .i64 n n (by omega) (by omega) (by rw [hz2]; omega) (by omega)
  rw [h, hz1, Int.toNat_natCast, Nat.mul_one]
  congr 2
  congr 1
  apply Array.ext'
  exact toList_madeCells_one (.int .u8 0) n

/-- The bytes of a text, and the error's number. -/
def strB (s : ByteArray) : List Int := s.data.toList.map fun c => (c.toNat : Int)

theorem strB_length (s : ByteArray) : (strB s).length = s.size := by
  rw [strB, List.length_map, Array.length_toList]
  rfl

theorem strB_byt (s : ByteArray) : Byt (strB s) := by
  intro x hx
  simp only [strB, List.mem_map] at hx
  obtain ⟨c, _, rfl⟩ := hx
  have := c.toNat_lt
  omega

theorem strOfNums_strB (s : ByteArray) : strOfNums (strB s) = s := by
  obtain ⟨d⟩ := s
  have h : (strB ⟨d⟩).map (fun n => UInt8.ofNat n.toNat) = d.toList := by
    simp only [strB, List.map_map]
    rw [show ((fun n : Int => UInt8.ofNat n.toNat) ∘ fun c : UInt8 => (c.toNat : Int)) = id from funext fun c => by simp]
    exact List.map_id _
  unfold strOfNums
  rw [h]

theorem strCells_eq (s : ByteArray) : Lib.strCells s = (strB s).map (Value.int .u8) := by simp [Lib.strCells, strB]

/-- The bytes behind the first one, as a string. -/
theorem conv_tail (w : World) (b off k c : Nat) (c0 : Int) (r : List Int) (hcr : c ≤ r.length) (hc : ∀ i, i < (c0 :: r).length → w.cell? ⟨b, off + i, none⟩ = some (.int .u8 ((c0 :: r).getD i 0))) :
    (convert 128 9 (.slice (some ⟨b, off + 1, none⟩) c k)).run Try.prog w = .ok (.string (strOfNums (r.take c))) w := by
  refine run_convert_bytes_arg w 128 5 Try.underlying128 Try.underlying5 b (off + 1) c k (r.take c) (by simp; omega) (fun i hi => ?_) 9 Try.underlying9
  have := hc (i + 1) (by simp; omega)
  rw [show off + 1 + i = off + (i + 1) from by omega, this]
  simp [hi]

theorem conv_none (w : World) (a : Option Addr) (k : Nat) : (convert 128 9 (.slice a 0 k)).run Try.prog w = .ok (.string ⟨#[]⟩) w := by
  cases a with
  | none => exact run_convert_bytes_nil w 128 5 Try.underlying128 Try.underlying5 0 k 9 Try.underlying9
  | some x =>
    rw [run_convert_bytes_string w 128 9 5 _ 0 k Try.underlying128 Try.underlying5 Try.underlying9]
    exact run_bytesToString w x 0 k [] (by simpa using run_loadCells_list (P := Try.prog) w x [] (fun j v hj => by simp at hj))

/-- 'string(v)' of a slice that reads as the bytes xs. -/
theorem Rd.conv {w : World} {v : Value} {xs : List Int} (h : Rd w v xs) : (convert 128 9 v).run Try.prog w = .ok (.string (strOfNums xs)) w := by
  obtain ⟨a, cap, rfl, h1, h2, _, h3⟩ := h
  cases xs with
  | nil => exact conv_none w a cap
  | cons x r =>
    obtain ⟨b, off, rfl, hlt, hc⟩ := h3 (by simp)
    exact run_convert_bytes_arg w 128 5 Try.underlying128 Try.underlying5 b off _ cap (x :: r) rfl hc 9 Try.underlying9

/-- A row that was just laid, whatever its mark, reads as its bytes. -/
theorem Rd.laid {w : World} {cs : Array Value} {n : Nat} {xs : List Int} {fr : Nat × Nat} (hn : n = xs.length) (hm : n ≤ maxLen) (hc : cs.toList = xs.map (Value.int .u8)) :
    Rd (w.alloc (.cells cs 5 fr)) (.slice (some ⟨w.heap.size, 0, none⟩) n n) xs := by
  subst hn
  refine ⟨_, _, rfl, Nat.le_refl _, hm, (by intro e; cases e), fun _ => ⟨_, _, rfl, by simp, fun i hi => ?_⟩⟩
  rw [Nat.zero_add, cell_of_row _ _ i cs 5 fr (heap_alloc_new w _), ← Array.getElem?_toList, hc]
  simp [List.getElem?_eq_getElem hi]

theorem wpList_append_rd {w : World} {ops : Array Oper} {rest : List Oper} {o : Oper} {a : Act} {Q : Exit → Act → World → Prop} (hgd : o.guard = none) (s x : Operand)
    (ho : o.op = .call { callee := .builtin .append, args := #[s, x], argTypes := #[128, 128] }) (base : Nat)
    (v : Value) (xs : List Int) (hs : a.eval s = v) (hown : Own w base v xs) (u : Value) (ys : List Int) (hx : a.eval x = u) (hrd : Rd w u ys)
    (hlen : xs.length + ys.length ≤ 140737488355328) (hbase : base ≤ w.heap.size)
    (h : ∀ v' w', Own w' base v' (xs ++ ys) → w.grownBy w' v.ownBlock → wpList Try.prog ops Q rest (a.put o.dst v') w') : wpList Try.prog ops Q (o :: rest) a w := by
  obtain ⟨i, hi, hz0, hz1, hz2⟩ := info_parts Try.info5
  obtain ⟨ad, cap, rfl, h1, h2, hnn, h3⟩ := hrd
  cases ad with
  | none =>
    obtain rfl := hnn rfl
    have hl : ys.length = 0 := by omega
    obtain rfl : ys = [] := List.eq_nil_of_length_eq_zero hl
    refine wpList_append_own_none hgd s x 128 ho base 5 i 1 Try.underlying128 hi v _ _ hs hown hx ?_
    exact h v w (by rw [List.append_nil]; exact hown) (World.grownBy.refl _ _)
  | some ad =>
    refine wpList_append_own w hgd s x 128 ho base 5 i (.int .u8 0) 1 1 Try.underlying128 hi hz0 hz1 hz2 rfl (by decide) v _ _ hs hown ad ys.length cap (ys.map (Value.int .u8)) hx (by simp) ?_ (ints_oneCell _ _) ?_ ?_ hbase ?_
    · intro j u hj
      have hj' : j < ys.length := by
        rcases Nat.lt_or_ge j ys.length with h | h
        · exact h
        · rw [List.getElem?_eq_none (by simpa using h)] at hj; cases hj
      obtain ⟨b, off, e, hlt, hc⟩ := h3 (by intro e; subst e; simp at hj')
      simp only [Option.some.injEq] at e
      subst e
      have hadd : (⟨b, off, none⟩ : Addr).add j = ⟨b, off + j, none⟩ := by unfold Addr.add; split <;> simp_all
      rw [hadd, hc j hj']
      rw [← hj]
      simp [List.getElem?_eq_getElem hj']
    · unfold maxLen; omega
    · omega
    · intro v' w' ho' hg _
      refine h v' w' ?_ hg
      unfold Own
      rw [List.length_append, List.map_append]
      exact ho'

/-- 'len(v)'. -/
theorem Rd.len {w : World} {v : Value} {xs : List Int} (h : Rd w v xs) (W : World) : (Builtin.len_ #[128] 3 #[v]).run Try.prog W = .ok (.int .i64 xs.length) W := by
  obtain ⟨a, cap, rfl, _⟩ := h
  simp [Builtin.len_, go_sem]

/-- What a grown row of the call's own leaves of old memory. -/
theorem below_grown {B : Nat} {w0 w w' : World} {v : Value} {xs : List Int} (hb : Below B w0 w) (hB : B ≤ w.heap.size) (hown : Own w B v xs) (hg : w.grownBy w' v.ownBlock) : Below B w0 w' :=
  hb.grown hg hB (fun k hk => (World.ownsRow.lt hown k hk).1)

/-- As 'Own', and the spare room holds bytes too. -/
def OwnI (w : World) (base : Nat) (v : Value) (xs : List Int) : Prop :=
  (v = .slice none 0 0 ∧ xs = []) ∨
  ∃ (g : Nat) (cur : List Int), v = .slice (some ⟨g, 0, none⟩) xs.length cur.length ∧ base ≤ g ∧ w.heap[g]? = some (.cells (cur.map (Value.int .u8)).toArray 5 (0, 0)) ∧ cur.length ≤ maxLen ∧ Byt cur ∧ xs.length ≤ cur.length ∧ cur.take xs.length = xs

theorem OwnI.own {w : World} {base : Nat} {v : Value} {xs : List Int} (h : OwnI w base v xs) : Own w base v xs := by
  rcases h with ⟨rfl, rfl⟩ | ⟨g, cur, rfl, hb, hg, hm, hy, hl, ht⟩
  · exact Own.nil _ _
  · refine ⟨by simp, .inr ⟨g, cur.length, _, rfl, hb, hg, hl, hm, by simp, ?_⟩⟩
    simp only [Nat.mul_one]
    rw [← List.map_take, ht]

theorem OwnI.nil (w : World) (base : Nat) : OwnI w base (.slice none 0 0) [] := .inl ⟨rfl, rfl⟩

theorem OwnI.mono {w : World} {base base' : Nat} {v : Value} {xs : List Int} (h : OwnI w base v xs) (hb : base' ≤ base) : OwnI w base' v xs := by
  rcases h with h | ⟨g, cur, rfl, hb', r⟩
  · exact .inl h
  · exact .inr ⟨g, cur, rfl, Nat.le_trans hb hb', r⟩

theorem OwnI.below {w w' : World} {base : Nat} {v : Value} {xs : List Int} (h : OwnI w base v xs) (hb : Below w.heap.size w w') : OwnI w' base v xs := by
  rcases h with h | ⟨g, cur, rfl, hb', hg, r⟩
  · exact .inl h
  · exact .inr ⟨g, cur, rfl, hb', (hb.block g (Array.getElem?_eq_some_iff.1 hg).1).trans hg, r⟩

/-- 'copy(dst, v)' into a row that is known whole. -/
theorem copy_rd (w : World) (g o dLen dCap : Nat) (cur : Array Value) (t : TypeId) (hg : w.heap[g]? = some (.cells cur t (0, 0))) (v : Value) (xs : List Int) (hr : Rd w v xs) (hle : xs.length ≤ dLen) (hfit : o + xs.length ≤ cur.size) :
    (Builtin.copy_ #[128, 128] 3 #[.slice (some ⟨g, o, none⟩) dLen dCap, v]).run Try.prog w = .ok (goInt xs.length) (w.setRow g (cur.toList.take o ++ xs.map (Value.int .u8) ++ cur.toList.drop (o + xs.length)).toArray) := by
  obtain ⟨a, cap, rfl, hcap, hm, hnn, hne⟩ := hr
  cases xs with
  | nil =>
    have h := run_copy_none (P := Try.prog) w 128 128 3 5 (some ⟨g, o, none⟩) a dLen dCap 0 cap Try.underlying128 (by kernel_rfl) (by simp)
    rw [List.length_nil, h]
    simp only [List.map_nil, List.append_nil, Nat.add_zero, List.take_append_drop, Array.toArray_toList]
    rw [setRow_self w g cur t (0, 0) hg]
    rfl
  | cons x r =>
    obtain ⟨b, off, rfl, hbl, hc⟩ := hne (by simp)
    have hmin : Nat.min (x :: r).length dLen = (x :: r).length := Nat.min_eq_left hle
    have h := run_copy_row Try.prog w 128 128 3 5 g o dLen dCap ⟨b, off, none⟩ (x :: r).length cap cur t ((x :: r).map (Value.int .u8)) Try.underlying128 (by kernel_rfl) hg (by rw [List.length_map, hmin])
      (fun j u hj => by
        have hj' : j < (x :: r).length := by
          rcases Nat.lt_or_ge j (x :: r).length with h | h
          · exact h
          · rw [List.getElem?_eq_none (by simpa using h)] at hj; cases hj
        have hadd : (⟨b, off, none⟩ : Addr).add j = ⟨b, off + j, none⟩ := by unfold Addr.add; split <;> simp_all
        rw [hadd, hc j hj', ← hj, List.getElem?_map, List.getD_eq_getElem?_getD, List.getElem?_eq_getElem hj']
        rfl) (by simpa using hfit) (ints_oneCell _ _)
    rw [h, List.length_map]

theorem wpList_append_run {w : World} {ops : Array Oper} {rest : List Oper} {o : Oper} {a : Act} {Q : Exit → Act → World → Prop} (hgd : o.guard = none) (s x : Operand)
    (ho : o.op = .call { callee := .builtin .append, args := #[s, x], argTypes := #[128, 128] }) (hty : o.type = 128) (v u : Value) (hs : a.eval s = v) (hx : a.eval x = u) (v' : Value) (w' : World)
    (hrun : (Builtin.append_ #[128, 128] 128 #[v, u]).run Try.prog w = .ok v' w') (h : wpList Try.prog ops Q rest (a.put o.dst v') w') : wpList Try.prog ops Q (o :: rest) a w := by
  refine wpList_plain hgd fun K hK => ?_
  unfold Oper.wp
  simp [execOp, ho, resolve, invoke, builtin, hs, hx, hty, hrun, Result.andThen]
  exact hK _ _ h

/-- 'append([]byte(nil or empty), u...)': what came is laid in a new row; the spare room is zeros. -/
theorem append_empty (w : World) (d : Option Addr) (hd : d = none ∨ ∃ g, d = some ⟨g, 0, none⟩ ∧ w.heap[g]? = some (.cells #[] 5 (0, 0))) (u : Value) (xs : List Int) (h : Rd w u xs) (hy : Byt xs) (hne : xs ≠ []) (hn : xs.length ≤ 140737488355328) :
    ∃ v' w', (Builtin.append_ #[128, 128] 128 #[.slice d 0 0, u]).run Try.prog w = .ok v' w' ∧ OwnI w' w.heap.size v' xs ∧ Below w.heap.size w w' := by
  obtain ⟨i, hi, hz0, hz1, hz2⟩ := info_parts Try.info5
  obtain ⟨a, cap, rfl, hcap, hm, hnn, hc⟩ := h
  obtain ⟨b, off, rfl, hbl, hc⟩ := hc hne
  have hp : 0 < xs.length := List.length_pos_iff.2 hne
  have hs := Src.ofSlice (P := Try.prog) w (size := i.size) Try.underlying128 ⟨b, off, none⟩ xs.length cap (xs.map (Value.int .u8)) (by rw [hz1]; simp) (fun j u hj => by
    have hj' : j < xs.length := by
      rcases Nat.lt_or_ge j xs.length with h | h
      · exact h
      · rw [List.getElem?_eq_none (by simpa using h)] at hj; cases hj
    have hadd : (⟨b, off, none⟩ : Addr).add j = ⟨b, off + j, none⟩ := by unfold Addr.add; split <;> simp_all
    rw [hadd, hc j hj', ← hj, List.getElem?_map, List.getD_eq_getElem?_getD, List.getElem?_eq_getElem hj']
    rfl) (ints_oneCell _ _)
  have hold : (Builtin.firstCells i.size 0 (.slice d 0 0)).run Try.prog w.drew = .ok ([] : List Value).toArray w.drew := by
    cases d with
    | none => simp [Builtin.firstCells]
    | some x => simpa using run_firstCells_some (P := Try.prog) w.drew i.size 0 x 0 0 [] (by simp) (fun j u hj => by simp at hj)
  have hr := run_append_grow_src (P := Try.prog) w 128 128 128 5 i (.int .u8 0) Try.underlying128 hi hz0 d 0 0 [] hold _ xs.length _ hs (by omega) (by omega) (by rw [hz2, Nat.zero_add]; exact growslice_fits hp (by omega))
  rw [Nat.zero_add] at hr
  obtain ⟨c, hge, hcl, hce⟩ : ∃ c, xs.length ≤ c ∧ c ≤ maxLen ∧ c = grownCap w xs.length 0 5 := ⟨_, grownCap_ge w xs.length 0 5, grownCap_le_maxLen w xs.length 0 5 (by unfold maxLen; omega), rfl⟩
  rw [← hce] at hr
  have hcells : (([] : List Value) ++ xs.map (Value.int .u8)).toArray ++ Builtin.zeroCells (Value.int .u8 0).cells (c - xs.length) = ((xs ++ List.replicate (c - xs.length) 0).map (Value.int .u8)).toArray := by
    apply Array.ext'
    have hz : (Builtin.zeroCells (Value.int .u8 0).cells (c - xs.length)).toList = List.replicate (c - xs.length) (Value.int .u8 0) := by
      apply List.ext_getElem
      · simp [Builtin.zeroCells, Value.cells]
      · intro k h1 h2
        simp [Builtin.zeroCells, Value.cells, Nat.mod_one]
    rw [Array.toList_append, hz]
    simp
  rw [hcells] at hr
  refine ⟨_, _, hr, .inr ⟨w.heap.size, xs ++ List.replicate (c - xs.length) 0, ?_, Nat.le_refl _, heap_alloc_new w.drew _, ?_, ?_, ?_, ?_⟩, (Below.refl _ w).drew.alloc (Nat.le_refl _) _⟩
  · rw [List.length_append, List.length_replicate, show xs.length + (c - xs.length) = c from by omega]
  · simp; omega
  · exact hy.append (fun x hx => by rw [List.eq_of_mem_replicate hx]; omega)
  · simp
  · exact List.take_left

/-- A byte of a row stored anew. -/
theorem row_set {W : World} {g j : Nat} {cur : List Int} (hg : W.heap[g]? = some (.cells (cur.map (Value.int .u8)).toArray 5 (0, 0))) (z : Int) :
    (W.setCell ⟨g, j, none⟩ (.int .u8 z)).heap[g]? = some (.cells ((cur.set j z).map (Value.int .u8)).toArray 5 (0, 0)) := by
  rw [heap_setCell_same W g j _ 5 _ hg]
  congr 2
  apply Array.ext'
  rw [Array.toList_setIfInBounds, List.map_set]

theorem row_cell {W : World} {g j : Nat} {cur : List Int} (hg : W.heap[g]? = some (.cells (cur.map (Value.int .u8)).toArray 5 (0, 0))) (hj : j < cur.length) : W.cell? ⟨g, j, none⟩ = some (.int .u8 (cur.getD j 0)) := by
  rw [cell_of_row _ _ j _ 5 (0, 0) hg, List.getElem?_toArray, List.getElem?_map, List.getD_eq_getElem?_getD, List.getElem?_eq_getElem hj]
  rfl

theorem OwnI.setCell {W : World} {base : Nat} {y : Value} {ys : List Int} (h : OwnI W base y ys) {g j : Nat} (hg : g < base) (u : Value) : OwnI (W.setCell ⟨g, j, none⟩ u) base y ys := by
  rcases h with h | ⟨g', cur, rfl, hb, hh, r⟩
  · exact .inl h
  · refine .inr ⟨g', cur, rfl, hb, ?_, r⟩
    rw [heap_setCell_other _ _ _ _ (by show g' ≠ g; omega)]
    exact hh

/-- 'v[:k]' of a slice that reads as xs. -/
theorem Rd.cut {w : World} {a : Option Addr} {n cap : Nat} {xs : List Int} (h : Rd w (.slice a n cap) xs) (k : Nat) (hk : k ≤ n) : Rd w (.slice a k cap) (xs.take k) := by
  have hl := rd_length h
  obtain ⟨a', cap', e, h1, h2, h3, h4⟩ := h
  simp only [Value.slice.injEq] at e
  obtain ⟨rfl, _, rfl⟩ := e
  have hlk : (xs.take k).length = k := by rw [List.length_take]; omega
  refine ⟨a, cap, by rw [hlk], by omega, h2, h3, fun hne => ?_⟩
  obtain ⟨b, off, rfl, hb, hc⟩ := h4 (by intro e; subst e; simp at hne)
  refine ⟨b, off, rfl, hb, fun i hi => ?_⟩
  rw [hc i (by omega)]
  simp [show i < k from by omega]
/-- A row of the call's own that holds something is not nil. -/
theorem Own.open {w : World} {base : Nat} {v : Value} {xs : List Int} (h : Own w base v xs) (hp : 0 < xs.length) : ∃ g cap, v = .slice (some ⟨g, 0, none⟩) xs.length cap ∧ xs.length ≤ cap ∧ cap ≤ maxLen := by
  rcases h.2 with ⟨rfl, h0⟩ | ⟨g, cap, cur, rfl, _, _, hl, hm, _, _⟩
  · omega
  · exact ⟨g, cap, rfl, hl, hm⟩

theorem keep2 {w3 W w' : World} (k : Below W.heap.size W w') (h : Below w3.heap.size w3 W) : Below w3.heap.size w3 w' := h.trans (k.mono h.size)

/-- Any four bytes or more are some bytes, and four behind them. -/
theorem four_of (L : List Int) (h : L.length = 4) : ∃ t0 t1 t2 t3, L = [t0, t1, t2, t3] := by
  match L, h with
  | [a, b, c, d], _ => exact ⟨a, b, c, d, rfl⟩

def toU (a : List Int) : List UInt8 := a.map fun n => UInt8.ofNat n.toNat

theorem toU_cell (a : List Int) (h : Byt a) : (toU a).map Extern.Stop.cell = a.map (Value.int .u8) := by
  unfold toU
  rw [List.map_map]
  apply List.map_congr_left
  intro x hx
  obtain ⟨h0, h1⟩ := h x hx
  simp only [Function.comp_apply, Extern.Stop.cell]
  congr 1
  simp
  omega

theorem toU_inj (a b : List Int) (ha : Byt a) (hb : Byt b) (h : toU a = toU b) : a = b := by
  have := congrArg (List.map Extern.Stop.cell) h
  rw [toU_cell a ha, toU_cell b hb] at this
  exact (List.map_inj_right (fun x y e => by cases e; rfl)).1 this

theorem strOf_inj {a b : List Int} (ha : Byt a) (hb : Byt b) (h : strOfNums a = strOfNums b) : a = b := by
  have : toU a = toU b := by
    have := congrArg (fun s : ByteArray => s.data.toList) h
    simpa [strOfNums_data, toU] using this
  exact toU_inj a b ha hb this

theorem beq_strOf {a b : List Int} (ha : Byt a) (hb : Byt b) : ((strOfNums a).toList == (strOfNums b).toList) = decide (a = b) := by
  rw [ByteArray.toList_eq, ByteArray.toList_eq, Bool.eq_iff_iff, decide_eq_true_iff, beq_iff_eq]
  exact ⟨fun h => toU_inj a b ha hb h, fun e => by rw [e]⟩

theorem thenB {A B C : World} (h : Below A.heap.size A B) (k : Below B.heap.size B C) : Below A.heap.size A C := h.trans (k.mono h.size)

end Go.Proofs.Ytmifpeocgikbeab
