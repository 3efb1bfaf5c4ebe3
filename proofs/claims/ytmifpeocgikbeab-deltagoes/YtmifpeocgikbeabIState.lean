/- What stands at a place, in plain words, and how it lies in memory; no function of the program. -/
import Derived.Test.YtmifpeocgikbeabLaws
import Derived.Test.YtmifpeocgikbeabNumMath
import Derived.Deep.MidRow
import Derived.Great.BuildSlice
import Derived.ChangeKeysEq
import Derived.Laws.Rows
namespace Go.Proofs.Ytmifpeocgikbeab
open Go.RowKit
set_option maxRecDepth 4000
set_option linter.unusedVariables false

/-- An item, in plain words. -/
structure It where
  kind : Int
  mode : Int
  links : Int
  size : Int
  lead : Int
  bytes : List Int

/-- An inode's fields are ints. -/
structure InoOk (k m l s : Int) : Prop where
  k0 : -9223372036854775808 ≤ k
  k1 : k ≤ 9223372036854775807
  m0 : -9223372036854775808 ≤ m
  m1 : m ≤ 9223372036854775807
  l0 : -9223372036854775808 ≤ l
  l1 : l ≤ 9223372036854775807
  s0 : -9223372036854775808 ≤ s
  s1 : s ≤ 9223372036854775807

/-- 32 bytes. -/
def Ch (b : List Int) : Prop := b.length = 32 ∧ Byt b

/-- What an item's fields are. -/
structure ItOk (x : It) : Prop where
  ino : InoOk x.kind x.mode x.links x.size
  t0 : 0 ≤ x.lead
  t1 : x.lead ≤ 4294967295
  ch : Ch x.bytes

def bytesV (b : List Int) : Array Value := (b.map (Value.int .u8)).toArray
def zeroC : List Int := List.replicate 32 0
def itC (x : It) : Array Value := (Value.int .i64 x.kind :: Value.int .i64 x.mode :: Value.int .i64 x.links :: Value.int .i64 x.size :: Value.int .u32 x.lead :: x.bytes.map (Value.int .u8)).toArray
def it0 : It := ⟨0, 0, 0, 0, 0, zeroC⟩

theorem ch_zero : Ch zeroC := ⟨List.length_replicate, fun x hx => by rw [List.eq_of_mem_replicate hx]; omega⟩
theorem it0_ok : ItOk it0 := ⟨⟨by decide, by decide, by decide, by decide, by decide, by decide, by decide, by decide⟩, by decide, by decide, ch_zero⟩

theorem bytesV_size (b : List Int) : (bytesV b).size = b.length := by simp [bytesV]
theorem itC_size {x : It} (h : x.bytes.length = 32) : (itC x).size = 37 := by simp [itC, h]

/-- 32 bytes are the first, the second, .. -/
theorem ch_eq {b : List Int} (h : b.length = 32) : b = (List.range 32).map fun i => b.getD i 0 := by
  apply List.ext_getElem
  · simp [h]
  · intro i h1 h2
    simp [List.getElem?_eq_getElem h1]

theorem one_bytes (b : List Int) : (bytesV b).all (·.oneCell') = true :=
  Array.all_eq_true_iff_forall_mem.2 (fun u hu => ints_oneCell .u8 b u (by simpa [bytesV] using hu))

theorem one_item (x : It) : (itC x).all (·.oneCell') = true := by
  refine Array.all_eq_true_iff_forall_mem.2 (fun u hu => ?_)
  have hu' : u = Value.int .i64 x.kind ∨ u = Value.int .i64 x.mode ∨ u = Value.int .i64 x.links ∨ u = Value.int .i64 x.size ∨ u = Value.int .u32 x.lead ∨ u ∈ x.bytes.map (Value.int .u8) := by
    simpa only [itC, List.mem_toArray, List.mem_cons] using hu
  rcases hu' with rfl | rfl | rfl | rfl | rfl | hu'
  · rfl
  · rfl
  · rfl
  · rfl
  · rfl
  · exact ints_oneCell .u8 x.bytes u hu'

/-! ### '==' -/
theorem eqItems_bytes (w : World) (d : Nat) (a b : List Int) : ∀ is : List Nat, (∀ i ∈ is, i < a.length ∧ i < b.length) →
    (Op.eqItems (d + 1) 5 1 (bytesV a) (bytesV b) is).run Try.prog w = .ok (is.all fun i => a.getD i 0 == b.getD i 0) w
  | [], _ => by simp [Op.eqItems]
  | i :: is, h => by
    obtain ⟨ha, hb⟩ := h i (by simp)
    have pa : (part 5 (bytesV a) (i * 1)).run Try.prog w = .ok (.int .u8 (a.getD i 0)) w := run_part_plain w (by kernel_rfl) (by simp [bytesV, List.getElem?_eq_getElem ha])
    have pb : (part 5 (bytesV b) (i * 1)).run Try.prog w = .ok (.int .u8 (b.getD i 0)) w := run_part_plain w (by kernel_rfl) (by simp [bytesV, List.getElem?_eq_getElem hb])
    have he : (Op.equalIn (d + 1) 5 (.int .u8 (a.getD i 0)) (.int .u8 (b.getD i 0))).run Try.prog w = .ok (a.getD i 0 == b.getD i 0) w := run_equalIn_int w d 5 .u8 .u8 _ _ Try.underlying5
    have ih := eqItems_bytes w d a b is (fun j hj => h j (by simp [hj]))
    simp only [Op.eqItems, Sem.run_bind, pa, pb, he, Result.andThen_ok, List.all_cons]
    cases hq : (a.getD i 0 == b.getD i 0)
    · simp
    · simpa using ih

theorem equal_chunks (w : World) (d : Nat) {a b : List Int} (ha : a.length = 32) (hb : b.length = 32) : (Op.equalIn (d + 2) 33 (.agg (bytesV a)) (.agg (bytesV b))).run Try.prog w = .ok (decide (a = b)) w := by
  obtain ⟨i, hi⟩ : ∃ i, Try.prog.info? 5 = some i := by
    obtain ⟨i, hi, _⟩ := info_parts Try.info5
    exact ⟨i, hi⟩
  rw [run_equalIn_array w (d + 1) _ _ (n := 32) (e := 5) (by kernel_rfl) hi, show Try.prog.cellsOf 5 = 1 from by kernel_rfl, eqItems_bytes w d a b (List.range 32) (fun i h => by have := List.mem_range.1 h; rw [ha, hb]; exact ⟨this, this⟩)]
  have : ((List.range 32).all fun i => a.getD i 0 == b.getD i 0) = decide (a = b) := by
    rw [Bool.eq_iff_iff, List.all_eq_true, decide_eq_true_iff]
    refine ⟨fun h => ?_, fun h i _ => by rw [h]; simp⟩
    apply List.ext_getElem
    · rw [ha, hb]
    · intro i h1 h2
      have := h i (by simp; rw [← ha]; exact h1)
      simpa [List.getElem?_eq_getElem h1, List.getElem?_eq_getElem h2] using this
  rw [this]

theorem eq_chunks (w : World) {a b : List Int} (ha : a.length = 32) (hb : b.length = 32) : (binOp .eql 33 (.agg (bytesV a)) (.agg (bytesV b))).run Try.prog w = .ok (.bool (decide (a = b))) w := by
  rw [run_eql_struct, equal_chunks w 9998 ha hb]
  rfl

def inoEq (k m l s k' m' l' s' : Int) : Bool := k == k' && m == m' && l == l' && s == s'

theorem equal_inodes (w : World) (d : Nat) (k m l s k' m' l' s' : Int) : (Op.equalIn (d + 2) 32 (.agg #[.int .i64 k, .int .i64 m, .int .i64 l, .int .i64 s]) (.agg #[.int .i64 k', .int .i64 m', .int .i64 l', .int .i64 s'])).run Try.prog w = .ok (inoEq k m l s k' m' l' s') w := by
  have u3 := Try.underlying3
  have hS : Try.prog.underlying 32 = some (.struct (Try.prog.fieldsOf 32)) := by kernel_rfl
  have hp : Try.prog.stoodInHeld 32 = false := by kernel_rfl
  rw [run_equalIn_agg w (d + 1) _ _ _ hS hp]
  simp only [Program.fieldsOf, Try.underlying32]
  go_simp
  unfold inoEq
  by_cases h1 : k = k' <;> by_cases h2 : m = m' <;> by_cases h3 : l = l' <;> by_cases h4 : s = s' <;> simp [h1, h2, h3, h4]

theorem eq_inodes (w : World) (k m l s k' m' l' s' : Int) : (binOp .eql 32 (.agg #[.int .i64 k, .int .i64 m, .int .i64 l, .int .i64 s]) (.agg #[.int .i64 k', .int .i64 m', .int .i64 l', .int .i64 s'])).run Try.prog w = .ok (.bool (inoEq k m l s k' m' l' s')) w := by
  rw [run_eql_struct, equal_inodes w 9998]
  rfl

def itEq (x y : It) : Bool := inoEq x.kind x.mode x.links x.size y.kind y.mode y.links y.size && x.lead == y.lead && decide (x.bytes = y.bytes)

theorem itEq_iff {x y : It} : itEq x y = true ↔ x = y := by
  obtain ⟨k, m, l, s, t, b⟩ := x
  obtain ⟨k', m', l', s', t', b'⟩ := y
  simp only [itEq, inoEq, Bool.and_eq_true, beq_iff_eq, decide_eq_true_iff, It.mk.injEq]
  constructor
  · rintro ⟨⟨⟨⟨⟨h1, h2⟩, h3⟩, h4⟩, h5⟩, h6⟩; exact ⟨h1, h2, h3, h4, h5, h6⟩
  · rintro ⟨h1, h2, h3, h4, h5, h6⟩; exact ⟨⟨⟨⟨⟨h1, h2⟩, h3⟩, h4⟩, h5⟩, h6⟩

theorem part_ino (w : World) (x : It) : (part 32 (itC x) 0).run Try.prog w = .ok (.agg #[.int .i64 x.kind, .int .i64 x.mode, .int .i64 x.links, .int .i64 x.size]) w := by
  obtain ⟨i, hi, hs⟩ : ∃ i, Try.prog.info? 32 = some i ∧ i.size = 4 := by
    have h : (Try.prog.info? 32).map (·.size) = some 4 := by kernel_rfl
    cases hq : Try.prog.info? 32 with
    | none => rw [hq] at h; cases h
    | some i => rw [hq] at h; exact ⟨i, rfl, by simpa using h⟩
  have he : (itC x).extract 0 4 = #[.int .i64 x.kind, .int .i64 x.mode, .int .i64 x.links, .int .i64 x.size] := by
    apply Array.ext'; simp [itC]
  simp [part, isAgg, run_underlying Try.underlying32, sizeOf, typeInfo, hi, hs, he]

theorem part_lead (w : World) (x : It) : (part 23 (itC x) 4).run Try.prog w = .ok (.int .u32 x.lead) w := by
  simp [part, isAgg, run_underlying Try.underlying23, itC]

theorem part_bytes (w : World) (x : It) (h : x.bytes.length = 32) : (part 33 (itC x) 5).run Try.prog w = .ok (.agg (bytesV x.bytes)) w := by
  obtain ⟨i, hi, hs⟩ : ∃ i, Try.prog.info? 33 = some i ∧ i.size = 32 := by
    have h : (Try.prog.info? 33).map (·.size) = some 32 := by kernel_rfl
    cases hq : Try.prog.info? 33 with
    | none => rw [hq] at h; cases h
    | some i => rw [hq] at h; exact ⟨i, rfl, by simpa using h⟩
  have he : (itC x).extract 5 (5 + 32) = bytesV x.bytes := by
    apply Array.ext'
    simp only [itC, bytesV, Array.toList_extract, List.extract_eq_take_drop]
    simp only [List.drop_succ_cons, List.drop_zero]
    exact List.take_of_length_le (by simp [h])
  simp [part, isAgg, run_underlying Try.underlying33, sizeOf, typeInfo, hi, hs, he]

theorem eqFields_cons (w : World) (d : Nat) (xs ys : Array Value) (f : Field) (fs : List Field) (a b : Value) (r : Bool) (hn : decide (f.name = "_") = false) (ha : (part f.type xs f.offset).run Try.prog w = .ok a w)
    (hb : (part f.type ys f.offset).run Try.prog w = .ok b w) (he : (Op.equalIn d f.type a b).run Try.prog w = .ok r w) :
    (Op.eqFields d xs ys (f :: fs)).run Try.prog w = if r then (Op.eqFields d xs ys fs).run Try.prog w else .ok false w := by
  have hn' : f.name ≠ "_" := of_decide_eq_false hn
  simp only [Op.eqFields, Sem.run_bind, Sem.run_ite]
  rw [if_pos hn']
  simp only [ha, hb, he, Result.andThen_ok]
  cases r <;> simp

theorem equal_items (T : TypeId) (hS : Try.prog.underlying T = some (.struct (Try.prog.fieldsOf T))) (hp : Try.prog.stoodInHeld T = false)
    (hF : ((Try.prog.fieldsOf T).toList.map fun f => (f.type, f.offset, decide (f.name = "_"))) = [(32, 0, false), (23, 4, false), (33, 5, false)])
    (w : World) (d : Nat) {x y : It} (hx : x.bytes.length = 32) (hy : y.bytes.length = 32) :
    (Op.equalIn (d + 3) T (.agg (itC x)) (.agg (itC y))).run Try.prog w = .ok (itEq x y) w := by
  have u24 := Try.underlying23
  have a1 := part_ino w x
  have a2 := part_lead w x
  have a3 := part_bytes w x hx
  have b1 := part_ino w y
  have b2 := part_lead w y
  have b3 := part_bytes w y hy
  have e1 := equal_inodes w d x.kind x.mode x.links x.size y.kind y.mode y.links y.size
  have e3 := equal_chunks w d hx hy
  have e2 : (Op.equalIn (d + 2) 23 (.int .u32 x.lead) (.int .u32 y.lead)).run Try.prog w = .ok (x.lead == y.lead) w := run_equalIn_int w (d + 1) 23 .u32 .u32 _ _ u24
  rw [run_equalIn_agg w (d + 2) _ _ _ hS hp]
  generalize (Try.prog.fieldsOf T).toList = L at hF
  have hl : L.length = 3 := by have := congrArg List.length hF; simpa using this
  match L, hl, hF with
  | [f0, f1, f2], _, hF =>
    simp only [List.map_cons, List.map_nil, List.cons.injEq, Prod.mk.injEq, and_true] at hF
    obtain ⟨⟨t0, o0, n0⟩, ⟨t1, o1, n1⟩, t2, o2, n2⟩ := hF
    rw [eqFields_cons w (d + 2) _ _ f0 _ _ _ _ n0 (by rw [t0, o0]; exact a1) (by rw [t0, o0]; exact b1) (by rw [t0]; exact e1)]
    rw [eqFields_cons w (d + 2) _ _ f1 _ _ _ _ n1 (by rw [t1, o1]; exact a2) (by rw [t1, o1]; exact b2) (by rw [t1]; exact e2)]
    rw [eqFields_cons w (d + 2) _ _ f2 _ _ _ _ n2 (by rw [t2, o2]; exact a3) (by rw [t2, o2]; exact b3) (by rw [t2]; exact e3)]
    unfold itEq
    simp only [Op.eqFields, Sem.run_pure]
    cases inoEq x.kind x.mode x.links x.size y.kind y.mode y.links y.size <;> cases (x.lead == y.lead) <;> cases decide (x.bytes = y.bytes) <;> rfl

end Go.Proofs.Ytmifpeocgikbeab
