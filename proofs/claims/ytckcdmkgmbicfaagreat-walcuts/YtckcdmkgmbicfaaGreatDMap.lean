/- A map from int to blocks of 512 bytes, as a function; no function of the program. -/
import Derived.Test.YtckcdmkgmbicfaaGreatLaws
import Derived.Maps.OwnSet
import Derived.Lib.SlKeysI
import Derived.ChangeKeysEq
namespace Go.Proofs.YtckcdmkgmbicfaaGreat
open Go.RowKit Go.Maps
set_option linter.unusedVariables false

def bytesV (b : List Int) : Array Value := (b.map (Value.int .u8)).toArray
def Blk (b : List Int) : Prop := b.length = 512 ∧ Byt b
def zeroB : List Int := List.replicate 512 0
def encB (b : List Int) : DataW Unit := .agg (b.map fun x => .lit (.int .u8 x))

theorem blk_zero : Blk zeroB := ⟨List.length_replicate, fun x hx => by rw [List.eq_of_mem_replicate hx]; omega⟩

theorem bytesV_inj {a b : List Int} (h : bytesV a = bytesV b) : a = b := by
  have := congrArg Array.toList h
  simp only [bytesV] at this
  exact (List.map_inj_right (fun x y e => by cases e; rfl)).1 this

theorem bytesV_size (b : List Int) : (bytesV b).size = b.length := by simp [bytesV]

theorem encB_inj {a b : List Int} (h : encB a = encB b) : a = b := by
  simp only [encB, DataW.agg.injEq] at h
  exact (List.map_inj_right (fun x y e => by cases e; rfl)).1 h

/-- A byte, off a value. -/
def byteOf : Value → Option Int
  | .int .u8 x => if 0 ≤ x ∧ x ≤ 255 then some x else none
  | _ => none

/-- Bytes, off values. -/
def bytesOf : List Value → Option (List Int)
  | [] => some []
  | v :: l =>
    match byteOf v, bytesOf l with
    | some x, some b => some (x :: b)
    | _, _ => none

theorem bytesOf_mk (b : List Int) (hb : Byt b) : bytesOf (b.map (Value.int .u8)) = some b := by
  induction b with
  | nil => rfl
  | cons x b ih =>
    have hx := hb x (List.mem_cons_self ..)
    have h1 : byteOf (.int .u8 x) = some x := by simp only [byteOf]; rw [if_pos (by omega)]
    simp only [List.map_cons, bytesOf, h1, ih fun y hy => hb y (List.mem_cons_of_mem _ hy)]

theorem byteOf_inv {v : Value} {x : Int} (h : byteOf v = some x) : v = .int .u8 x ∧ 0 ≤ x ∧ x ≤ 255 := by
  unfold byteOf at h
  split at h
  · split at h
    · cases h; exact ⟨rfl, by omega, by omega⟩
    · cases h
  · cases h

theorem bytesOf_inv (l : List Value) : ∀ b, bytesOf l = some b → Byt b ∧ l = b.map (Value.int .u8) := by
  induction l with
  | nil => intro b h; cases h; exact ⟨fun x hx => (by cases hx), rfl⟩
  | cons v l ih =>
    intro b h
    unfold bytesOf at h
    split at h
    · rename_i x c h1 h2
      cases h
      obtain ⟨e, h0, h3⟩ := byteOf_inv h1
      obtain ⟨hc, el⟩ := ih c h2
      refine ⟨fun y hy => ?_, by rw [e, el]; rfl⟩
      rcases List.mem_cons.1 hy with rfl | hy
      · constructor <;> omega
      · exact hc y hy
    · cases h

/-- How a block reads as an element of a map. -/
def blkElem (v : Value) : Option (DataW Unit × List MemPlace) :=
  match v with
  | .agg a =>
    match bytesOf a.toList with
    | some b => if b.length = 512 then some (encB b, []) else none
    | none => none
  | _ => none

theorem blkElem_mk {b : List Int} (hb : Blk b) : blkElem (.agg (bytesV b)) = some (encB b, []) := by
  have h : bytesOf (bytesV b).toList = some b := by simp only [bytesV]; exact bytesOf_mk b hb.2
  simp only [blkElem, h]
  rw [if_pos hb.1]

theorem blkElem_inv {v : Value} {z : DataW Unit × List MemPlace} (h : blkElem v = some z) : ∃ b, Blk b ∧ v = .agg (bytesV b) ∧ z = (encB b, []) := by
  unfold blkElem at h
  split at h
  · rename_i a
    split at h
    · rename_i b hb
      split at h
      · rename_i hl
        obtain ⟨h1, h2⟩ := bytesOf_inv _ b hb
        cases h
        exact ⟨b, ⟨hl, h1⟩, congrArg Value.agg (Array.ext' (by simp only [bytesV]; exact h2)), rfl⟩
      · cases h
    · cases h
  · cases h

/-- The block 'b' of the world is a map that has just the blocks that 'M' tells. -/
def MapAt (w : World) (b : Nat) (M : Int → Option (List Int)) : Prop :=
  ∃ D : DataW Unit, w.ownsMap Tryz.prog 3 blkElem b (Maps.size D) D ∧ (∀ i, has D (.int .i64 i) = (M i).isSome) ∧ ∀ i c, M i = some c → 0 ≤ i ∧ i < 1024 ∧ Blk c ∧ ∀ z, D.atKey (.int .i64 i) z = encB c

/-- The keys, rising. -/
def keysOf (M : Int → Option (List Int)) : List Int := ((List.range 1024).map Int.ofNat).filter fun i => (M i).isSome

theorem keysOf_nodup (M : Int → Option (List Int)) : (keysOf M).Nodup := by
  refine List.Pairwise.filter _ ?_
  rw [List.pairwise_map]
  exact (List.nodup_range (n := 1024)).imp (fun h e => h (by exact Int.ofNat.inj e))

theorem keysOf_rising (M : Int → Option (List Int)) : (keysOf M).Pairwise (· < ·) := by
  refine List.Pairwise.filter _ ?_
  rw [List.pairwise_map]
  exact (List.pairwise_lt_range (n := 1024)).imp (fun h => by simpa using h)

theorem keysOf_length (M : Int → Option (List Int)) : (keysOf M).length ≤ 1024 := by
  have := List.length_filter_le (fun i => (M i).isSome) ((List.range 1024).map Int.ofNat)
  simpa [keysOf] using this

theorem mem_keysOf {M : Int → Option (List Int)} (hM : ∀ i c, M i = some c → 0 ≤ i ∧ i < 1024) (i : Int) : i ∈ keysOf M ↔ (M i).isSome = true := by
  unfold keysOf
  rw [List.mem_filter]
  refine ⟨fun h => h.2, fun h => ⟨?_, h⟩⟩
  obtain ⟨c, hc⟩ := Option.isSome_iff_exists.1 h
  obtain ⟨h0, h1⟩ := hM i c hc
  exact List.mem_map.2 ⟨i.toNat, by simp; omega, by simp; omega⟩

theorem mem_keysOf_bounds {M : Int → Option (List Int)} {i : Int} (h : i ∈ keysOf M) : 0 ≤ i ∧ i < 1024 := by
  obtain ⟨h1, _⟩ := List.mem_filter.1 h
  obtain ⟨n, hn, rfl⟩ := List.mem_map.1 h1
  simp at hn ⊢
  omega

theorem keyed3 : Keyed Tryz.prog 3 := int_keyed Tryz.underlying3

theorem wf64 {i : Int} (h0 : -9223372036854775808 ≤ i) (h1 : i ≤ 9223372036854775807) : (Lit.int .i64 i).wf = true := by
  exact WalkArith.wf_i64 ⟨h0, h1⟩

theorem key3 {i : Int} (h0 : -9223372036854775808 ≤ i) (h1 : i ≤ 9223372036854775807) : keyOf Tryz.prog 3 (.int .i64 i) = some (.int .i64 i) := keyOf_int_mk Tryz.underlying3 (wf64 h0 h1)

theorem Tryz.infoBlock : (Tryz.prog.info? 136).map (fun i => (i.zero, i.size)) = some (some (.agg (bytesV zeroB)), 512) := by kernel_rfl

theorem zeroBlock (w : World) : (zeroValue 136).run Tryz.prog w = .ok (.agg (bytesV zeroB)) w := (zero_of_info Tryz.infoBlock).1 w

theorem MapAt.keys {w : World} {b : Nat} {M : Int → Option (List Int)} (h : MapAt w b M) : ∃ D : DataW Unit, w.ownsMap Tryz.prog 3 blkElem b (Maps.size D) D ∧ (keysOf M).Perm (intKeys D) ∧ Maps.size D ≤ 1024 := by
  obtain ⟨D, hown, hh, hM⟩ := h
  have hc : CollectedI D (fun _ => false) (keysOf M) := ⟨keysOf_nodup M, fun x => by rw [mem_keysOf (fun i c hc => ⟨(hM i c hc).1, (hM i c hc).2.1⟩), hh x]; simp⟩
  have hp := hc.perm hown keyed3 Tryz.underlying3 (fun _ => rfl)
  refine ⟨D, hown, hp, ?_⟩
  have hl := hp.length_eq
  obtain ⟨es, rfl⟩ := hown.isMap
  have : (intKeys (DataW.map es)).length = Maps.size (DataW.map es) := by simp [intKeys, Maps.size]
  have := keysOf_length M
  omega

theorem MapAt.bound {w : World} {b : Nat} {M : Int → Option (List Int)} (h : MapAt w b M) {i : Int} {c : List Int} (hc : M i = some c) : 0 ≤ i ∧ i < 1024 ∧ Blk c := by
  obtain ⟨D, hown, hh, hM⟩ := h
  exact ⟨(hM i c hc).1, (hM i c hc).2.1, (hM i c hc).2.2.1⟩

theorem MapAt.lt {w : World} {b : Nat} {M : Int → Option (List Int)} (h : MapAt w b M) : b < w.heap.size := by
  obtain ⟨D, hown, _⟩ := h
  exact hown.lt

/-- It is a map's block. -/
theorem MapAt.is {w : World} {b : Nat} {M : Int → Option (List Int)} (h : MapAt w b M) : ∃ es clock, w.heap[b]? = some (.map es clock) := by
  obtain ⟨D, ⟨es, clock, hb, _⟩, _⟩ := h
  exact ⟨es, clock, hb⟩

theorem MapAt.same {w w' : World} {b : Nat} {M : Int → Option (List Int)} (h : MapAt w b M) (hb : w'.heap[b]? = w.heap[b]?) : MapAt w' b M := by
  obtain ⟨D, ⟨es, clock, hbb, r⟩, r2⟩ := h
  exact ⟨D, ⟨es, clock, hb.trans hbb, r⟩, r2⟩

theorem MapAt.made (w : World) : MapAt (w.alloc (.map #[] 0)) w.heap.size (fun _ => none) :=
  ⟨.map [], World.ownsMap_made w _ _ _, fun i => rfl, fun i c h => by cases h⟩

/-- A clone holds what the map holds. -/
theorem MapAt.copied {w : World} {b : Nat} {M : Int → Option (List Int)} (h : MapAt w b M) {es : Array MapEntry} {clock : Nat} (hb : w.heap[b]? = some (.map es clock)) : MapAt (w.alloc (.map es clock)) w.heap.size M := by
  obtain ⟨D, ⟨es', clock', hbb, r⟩, r2⟩ := h
  rw [hb] at hbb
  cases hbb
  exact ⟨D, ⟨es, clock, heap_alloc_new w _, r⟩, r2⟩

theorem MapAt.read {w : World} {b : Nat} {M : Int → Option (List Int)} (h : MapAt w b M) {i : Int} (h0 : -9223372036854775808 ≤ i) (h1 : i ≤ 9223372036854775807) :
    (Instr.lookup 65 (.map (some b)) (.int .i64 i) false).run Tryz.prog w = .ok (.agg (bytesV ((M i).getD zeroB))) w := by
  obtain ⟨D, hown, hh, hM⟩ := h
  obtain ⟨v, ps, hrun, hv⟩ := hown.lookup keyed3 Tryz.underlying65 (zeroBlock w) (blkElem_mk blk_zero) (key3 h0 h1)
  obtain ⟨c, hc, rfl, hz⟩ := blkElem_inv hv
  rw [hrun]
  simp only [Prod.mk.injEq] at hz
  cases hm : M i with
  | none =>
    have : has D (.int .i64 i) = false := by rw [hh i, hm]; rfl
    rw [atKey_of_not_has this] at hz
    rw [← encB_inj hz.1]
    rfl
  | some x =>
    rw [(hM i x hm).2.2.2] at hz
    rw [← encB_inj hz.1]
    rfl

theorem MapAt.readOk {w : World} {b : Nat} {M : Int → Option (List Int)} (h : MapAt w b M) {i : Int} (h0 : -9223372036854775808 ≤ i) (h1 : i ≤ 9223372036854775807) :
    (Instr.lookup 65 (.map (some b)) (.int .i64 i) true).run Tryz.prog w = .ok (.tuple #[.agg (bytesV ((M i).getD zeroB)), .bool (M i).isSome]) w := by
  obtain ⟨D, hown, hh, hM⟩ := h
  obtain ⟨v, ps, hrun, hv⟩ := hown.look_ok keyed3 Tryz.underlying65 (zeroBlock w) (blkElem_mk blk_zero) (key3 h0 h1)
  obtain ⟨c, hc, rfl, hz⟩ := blkElem_inv hv
  rw [hrun, hh i]
  simp only [Prod.mk.injEq] at hz
  cases hm : M i with
  | none =>
    have : has D (.int .i64 i) = false := by rw [hh i, hm]; rfl
    rw [atKey_of_not_has this] at hz
    rw [← encB_inj hz.1]
    rfl
  | some x =>
    rw [(hM i x hm).2.2.2] at hz
    rw [← encB_inj hz.1]
    rfl

/-- One place of a function written. -/
def upd {α : Type} (M : Int → α) (i : Int) (x : α) : Int → α := fun j => if j = i then x else M j

theorem upd_same {α : Type} (M : Int → α) (i : Int) (x : α) : upd M i x i = x := by simp [upd]
theorem upd_other {α : Type} (M : Int → α) (i : Int) (x : α) {j : Int} (h : j ≠ i) : upd M i x j = M j := by simp [upd, h]

theorem ilit_ne {i j : Int} (h : j ≠ i) : (Lit.int .i64 j : Lit) ≠ .int .i64 i := by intro e; cases e; exact h rfl

theorem ownsMap_sized {w : World} {b n : Nat} {D : DataW Unit} (h : w.ownsMap Tryz.prog 3 blkElem b n D) : w.ownsMap Tryz.prog 3 blkElem b (Maps.size D) D := by
  obtain ⟨es, clock, hb, F, hs, rfl⟩ := h
  exact ⟨es, clock, hb, F, by simp [Maps.size, length_sorted], rfl⟩

theorem MapAt.write {w : World} {b : Nat} {M : Int → Option (List Int)} (h : MapAt w b M) {i : Int} (h0 : 0 ≤ i) (h1 : i < 1024) {c : List Int} (hc : Blk c) :
    ∃ w', (Instr.mapUpdate 65 (.map (some b)) (.int .i64 i) (.agg (bytesV c))).run Tryz.prog w = .ok () w' ∧ MapAt w' b (upd M i (some c)) ∧ w.grownBy w' (some b) ∧ w'.heap.size = w.heap.size := by
  have hsz : ∃ D : DataW Unit, w.ownsMap Tryz.prog 3 blkElem b (Maps.size D) D ∧ (∀ i, has D (.int .i64 i) = (M i).isSome) ∧ (∀ i c, M i = some c → 0 ≤ i ∧ i < 1024 ∧ Blk c ∧ ∀ z, D.atKey (.int .i64 i) z = encB c) ∧ Maps.size D ≤ 1024 := by
    obtain ⟨D, hown, hh, hM⟩ := h
    have hc : CollectedI D (fun _ => false) (keysOf M) := ⟨keysOf_nodup M, fun x => by rw [mem_keysOf (fun i c hc => ⟨(hM i c hc).1, (hM i c hc).2.1⟩), hh x]; simp⟩
    have hp := hc.perm hown keyed3 Tryz.underlying3 (fun _ => rfl)
    refine ⟨D, hown, hh, hM, ?_⟩
    have hl := hp.length_eq
    obtain ⟨es, rfl⟩ := hown.isMap
    have : (intKeys (DataW.map es)).length = Maps.size (DataW.map es) := by simp [intKeys, Maps.size]
    have := keysOf_length M
    omega
  obtain ⟨D, hown, hh, hM, hle⟩ := hsz
  have hmap := hown.isMap
  obtain ⟨w', hrun, hown', ht⟩ := hown.store keyed3 Tryz.underlying65 (by unfold maxLen; omega) (key3 (i := i) (by omega) (by omega)) (blkElem_mk hc)
  refine ⟨w', hrun, ⟨_, ownsMap_sized hown', fun j => ?_, fun j x hj => ?_⟩, ht.grown, ?_⟩
  · by_cases e : j = i
    · subst e; rw [upd_same, has_put_same hmap (by simp [WideAt.IsKeyLit])]; rfl
    · rw [upd_other _ _ _ e, has_put_other (ilit_ne e), hh j]
  · by_cases e : j = i
    · subst e
      rw [upd_same] at hj
      cases hj
      exact ⟨h0, h1, hc, fun z => atKey_put_same hmap (by simp [WideAt.IsKeyLit]) _ z⟩
    · rw [upd_other _ _ _ e] at hj
      obtain ⟨a1, a2, a3, a4⟩ := hM j x hj
      exact ⟨a1, a2, a3, fun z => by rw [atKey_put_other (ilit_ne e), a4]⟩
  · obtain ⟨es, clock, es', clock', hb, rfl⟩ := ht
    simp [ChangeMaps.setBlock]

theorem MapAt.drop {w : World} {b : Nat} {M : Int → Option (List Int)} (h : MapAt w b M) {i : Int} (h0 : 0 ≤ i) (h1 : i < 1024) (ty : TypeId) :
    ∃ w', (Builtin.delete_ #[65, 3] ty #[.map (some b), .int .i64 i]).run Tryz.prog w = .ok (.tuple #[]) w' ∧ MapAt w' b (upd M i none) ∧ w.grownBy w' (some b) ∧ w'.heap.size = w.heap.size := by
  obtain ⟨D, hown, hh, hM⟩ := h
  obtain ⟨w', hrun, hown', ht⟩ := hown.drop keyed3 Tryz.underlying65 (key3 (i := i) (by omega) (by omega)) ty
  refine ⟨w', hrun, ⟨_, ownsMap_sized hown', fun j => ?_, fun j x hj => ?_⟩, ht.grown, ?_⟩
  · by_cases e : j = i
    · subst e; rw [upd_same, has_del_same]; rfl
    · rw [upd_other _ _ _ e, has_del_other (ilit_ne e), hh j]
  · by_cases e : j = i
    · subst e
      rw [upd_same] at hj
      cases hj
    · rw [upd_other _ _ _ e] at hj
      obtain ⟨a1, a2, a3, a4⟩ := hM j x hj
      exact ⟨a1, a2, a3, fun z => by rw [atKey_del_other (ilit_ne e), a4]⟩
  · obtain ⟨es, clock, es', clock', hb, rfl⟩ := ht
    simp [ChangeMaps.setBlock]

/-- Two blocks are compared byte by byte. -/
theorem eqItems_bytes (w : World) (d : Nat) (a b : List Int) : ∀ is : List Nat, (∀ i ∈ is, i < a.length ∧ i < b.length) →
    (Op.eqItems (d + 1) 5 1 (bytesV a) (bytesV b) is).run Tryz.prog w = .ok (is.all fun i => a.getD i 0 == b.getD i 0) w
  | [], _ => by simp [Op.eqItems]
  | i :: is, h => by
    obtain ⟨ha, hb⟩ := h i (by simp)
    have pa : (part 5 (bytesV a) (i * 1)).run Tryz.prog w = .ok (.int .u8 (a.getD i 0)) w := run_part_plain w (by kernel_rfl) (by simp [bytesV, List.getElem?_eq_getElem ha])
    have pb : (part 5 (bytesV b) (i * 1)).run Tryz.prog w = .ok (.int .u8 (b.getD i 0)) w := run_part_plain w (by kernel_rfl) (by simp [bytesV, List.getElem?_eq_getElem hb])
    have he : (Op.equalIn (d + 1) 5 (.int .u8 (a.getD i 0)) (.int .u8 (b.getD i 0))).run Tryz.prog w = .ok (a.getD i 0 == b.getD i 0) w := run_equalIn_int w d 5 .u8 .u8 _ _ Tryz.underlying5
    have ih := eqItems_bytes w d a b is (fun j hj => h j (by simp [hj]))
    simp only [Op.eqItems, Sem.run_bind, pa, pb, he, Result.andThen_ok, List.all_cons]
    cases hq : (a.getD i 0 == b.getD i 0)
    · simp
    · simpa using ih

theorem eq_blocks (w : World) {a b : List Int} (ha : Blk a) (hb : Blk b) : (binOp .eql 136 (.agg (bytesV a)) (.agg (bytesV b))).run Tryz.prog w = .ok (.bool (decide (a = b))) w := by
  obtain ⟨i, hi⟩ : ∃ i, Tryz.prog.info? 5 = some i := by
    obtain ⟨i, hi, _⟩ := info_parts Tryz.info5
    exact ⟨i, hi⟩
  rw [run_eql_struct, run_equalIn_array w 9999 _ _ (n := 512) (e := 5) (by kernel_rfl) hi, show Tryz.prog.cellsOf 5 = 1 from by kernel_rfl, eqItems_bytes w 9998 a b (List.range 512) (fun i h => by have := List.mem_range.1 h; rw [ha.1, hb.1]; exact ⟨this, this⟩)]
  simp only [Result.andThen_ok]
  have : ((List.range 512).all fun i => a.getD i 0 == b.getD i 0) = decide (a = b) := by
    rw [Bool.eq_iff_iff, List.all_eq_true, decide_eq_true_iff]
    refine ⟨fun h => ?_, fun h i _ => by rw [h]; simp⟩
    apply List.ext_getElem
    · rw [ha.1, hb.1]
    · intro i h1 h2
      have := h i (by simp; rw [← ha.1]; exact h1)
      simpa [List.getElem?_eq_getElem h1, List.getElem?_eq_getElem h2] using this
  rw [this]

end Go.Proofs.YtckcdmkgmbicfaaGreat
