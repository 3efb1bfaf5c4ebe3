/- The contracts of the document's Seal and of bytes.Clone. -/
import Derived.Test.YtmpddbnggddmdaaSeal
import Derived.Deep.AppendSrc
namespace Go.Proofs.Ytmpddbnggddmdaa
open Go.RowKit
set_option linter.unusedVariables false

theorem wpList_append_run {w : World} {ops : Array Oper} {rest : List Oper} {o : Oper} {a : Act} {Q : Exit → Act → World → Prop} (hgd : o.guard = none) (s x : Operand)
    (ho : o.op = .call { callee := .builtin .append, args := #[s, x], argTypes := #[23, 23] }) (hty : o.type = 23) (v u : Value) (hs : a.eval s = v) (hx : a.eval x = u) (v' : Value) (w' : World)
    (hrun : (Builtin.append_ #[23, 23] 23 #[v, u]).run Try.prog w = .ok v' w') (h : wpList Try.prog ops Q rest (a.put o.dst v') w') : wpList Try.prog ops Q (o :: rest) a w := by
  refine wpList_plain hgd fun K hK => ?_
  unfold Oper.wp
  simp [execOp, ho, resolve, invoke, builtin, hs, hx, hty, hrun, Result.andThen]
  exact hK _ _ h
theorem low_four (S : Nat) (h : S < 4294967296) : lowRow S 4 = [(S : Int) % 256, (S : Int) / 256 % 256, (S : Int) / 65536 % 256, (S : Int) / 16777216] := by
  have e : lowRow S 4 = [((S / 2 ^ (8 * 0) % 256 : Nat) : Int), ((S / 2 ^ (8 * 1) % 256 : Nat) : Int), ((S / 2 ^ (8 * 2) % 256 : Nat) : Int), ((S / 2 ^ (8 * 3) % 256 : Nat) : Int)] := rfl
  rw [e]
  simp only [show (2 : Nat) ^ (8 * 0) = 1 from rfl, show (2 : Nat) ^ (8 * 1) = 256 from rfl, show (2 : Nat) ^ (8 * 2) = 65536 from rfl, show (2 : Nat) ^ (8 * 3) = 16777216 from rfl, List.cons.injEq, and_true]
  refine ⟨?_, ?_, ?_, ?_⟩ <;> omega

set_option maxHeartbeats 400000 in
theorem refSeal_any (w : World) (v : Value) (xs : List Int) (h : Rd w v xs) (hy : Byt xs) (hn : xs.length ≤ 140737488351232) : Calls Try.prog 25 #[v] w fun e w' => ∃ u, e = .returned u ∧ Own w' w.heap.size u (xs ++ sealB xs) ∧ Below w.heap.size w w' := by
  have hS := sumS_lt xs hy
  go_enter Try.func25, Try.ntmps25
  go_wp2_with fail
  refine (refSum_any _ _ _ h hy).mono ?_
  rintro e w1 ⟨rfl, rfl⟩
  have HX : Hid (sealB xs = lowRow (sumS xs) 4) := rfl
  generalize sumS xs = S at *
  have hle := Nat.le_refl w.heap.size
  go_wp2_with (at_builtin; refine wpList_append_rd rfl _ _ rfl w.heap.size _ [] rfl (Own.nil _ _) _ _ rfl h ?c1 ?c2 ?_)
  case c1 => simp; omega
  case c2 => exact hle
  intro v2 w2 ho2 hg2
  have hb2 : Below w.heap.size w w2 := below_grown (Below.refl _ _) (Nat.le_refl _) (Own.nil w w.heap.size) hg2
  have hs2 := hb2.size
  clear hg2
  obtain ⟨L, hL⟩ : ∃ L : List Int, L = [(S : Int) % 256, (S : Int) / 256 % 256, (S : Int) / 65536 % 256, (S : Int) / 16777216] := ⟨_, rfl⟩
  have HL : Hid (lowRow S 4 = L) := by rw [hL]; exact low_four S hS
  have hl4 : L.length = 4 := by rw [hL]; rfl
  have hLc : #[Value.int .u8 ((S : Int) % 256), Value.int .u8 ((S : Int) / 256 % 256), Value.int .u8 ((S : Int) / 65536 % 256), Value.int .u8 ((S : Int) / 16777216)].toList = L.map (Value.int .u8) := by rw [hL]; rfl
  have hb3 : Below w2.heap.size w2 (w2.alloc (.cells #[Value.int .u8 ((S : Int) % 256), Value.int .u8 ((S : Int) / 256 % 256), Value.int .u8 ((S : Int) / 65536 % 256), Value.int .u8 ((S : Int) / 16777216)] 5)) := (Below.refl _ _).alloc (Nat.le_refl _) _
  have hr3 : Rd (w2.alloc (.cells #[Value.int .u8 ((S : Int) % 256), Value.int .u8 ((S : Int) / 256 % 256), Value.int .u8 ((S : Int) / 65536 % 256), Value.int .u8 ((S : Int) / 16777216)] 5)) (.slice (some ⟨w2.heap.size, 0, none⟩) 4 4) L := Rd.laid hl4.symm (by decide) hLc
  have ho3 := ho2.below hb3
  have hb4 := hb2.trans (hb3.mono hs2)
  have hs4 := hb4.size
  clear hL hLc hb3
  go_wp2_with (at_builtin; refine wpList_append_rd rfl _ _ rfl w.heap.size _ _ rfl ho3 _ _ rfl hr3 ?c1 ?c2 ?_)
  case c1 => omega
  case c2 => exact hs4
  intro v5 w5 ho5 hg5
  have hb5 := below_grown hb4 hs4 ho3 hg5
  clear hg5 ho3 hr3
  go_wp2
  go_ret
  exact ⟨_, rfl, by rw [HX.out, HL.out]; exact ho5, hb5⟩

/-- 'append([]byte(nil or empty), u...)': what came is laid in a new row; the spare room is zeros. -/
theorem append_empty (w : World) (d : Option Addr) (hd : d = none ∨ ∃ g, d = some ⟨g, 0, none⟩ ∧ w.heap[g]? = some (.cells #[] 5 (0, 0))) (u : Value) (xs : List Int) (h : Rd w u xs) (hy : Byt xs) (hne : xs ≠ []) (hn : xs.length ≤ 140737488355328) :
    ∃ v' w', (Builtin.append_ #[23, 23] 23 #[.slice d 0 0, u]).run Try.prog w = .ok v' w' ∧ OwnI w' w.heap.size v' xs ∧ Below w.heap.size w w' := by
  obtain ⟨i, hi, hz0, hz1, hz2⟩ := info_parts Try.info5
  obtain ⟨a, cap, rfl, hcap, hm, hnn, hc⟩ := h
  obtain ⟨b, off, rfl, hbl, hc⟩ := hc hne
  have hp : 0 < xs.length := List.length_pos_iff.2 hne
  have hs := Src.ofSlice (P := Try.prog) w (size := i.size) Try.underlying23 ⟨b, off, none⟩ xs.length cap (xs.map (Value.int .u8)) (by rw [hz1]; simp) (fun j u hj => by
    have hj' : j < xs.length := by
      rcases Nat.lt_or_ge j xs.length with h | h
      · exact h
      · rw [List.getElem?_eq_none (by simpa using h)] at hj; cases hj
    have hadd : (⟨b, off, none⟩ : Addr).add j = ⟨b, off + j, none⟩ := by unfold Addr.add; split <;> simp_all
    rw [hadd, hc j hj', ← hj, List.getElem?_map, List.getD_eq_getElem?_getD, List.getElem?_eq_getElem hj']
    rfl) (ints_oneCell _ _)
  have hold : (Builtin.firstCells i.size 0 (.slice d 0 0)).run Try.prog w.drew = .ok ([] : List Value).toArray w.drew := by
    cases d with
    | none => simp [Builtin.firstCells]
    | some x => simpa using run_firstCells_some (P := Try.prog) w.drew i.size 0 x 0 0 [] (by simp) (fun j u hj => by simp at hj)
  have hr := run_append_grow_src (P := Try.prog) w 23 23 23 5 i (.int .u8 0) Try.underlying23 hi hz0 d 0 0 [] hold _ xs.length _ hs (by omega) (by omega) (by rw [hz2, Nat.zero_add]; exact growslice_fits hp (by omega))
  rw [Nat.zero_add] at hr
  obtain ⟨c, hge, hcl, hce⟩ : ∃ c, xs.length ≤ c ∧ c ≤ maxLen ∧ c = grownCap w xs.length 0 5 := ⟨_, grownCap_ge w xs.length 0 5, grownCap_le_maxLen w xs.length 0 5 (by unfold maxLen; omega), rfl⟩
  rw [← hce] at hr
  have hcells : (([] : List Value) ++ xs.map (Value.int .u8)).toArray ++ Builtin.zeroCells (Value.int .u8 0).cells (c - xs.length) = ((xs ++ List.replicate (c - xs.length) 0).map (Value.int .u8)).toArray := by
    apply Array.ext'
    have hz : (Builtin.zeroCells (Value.int .u8 0).cells (c - xs.length)).toList = List.replicate (c - xs.length) (Value.int .u8 0) := by
      apply List.ext_getElem
      · simp [Builtin.zeroCells, Value.cells]
      · intro k h1 h2
        simp [Builtin.zeroCells, Value.cells, Nat.mod_one]
    rw [Array.toList_append, hz]
    simp
  rw [hcells] at hr
  refine ⟨_, _, hr, .inr ⟨w.heap.size, xs ++ List.replicate (c - xs.length) 0, ?_, Nat.le_refl _, heap_alloc_new w.drew _, ?_, ?_, ?_, ?_⟩, (Below.refl _ w).drew.alloc (Nat.le_refl _) _⟩
  · rw [List.length_append, List.length_replicate, show xs.length + (c - xs.length) = c from by omega]
  · simp; omega
  · exact hy.append (fun x hx => by rw [List.eq_of_mem_replicate hx]; omega)
  · simp
  · exact List.take_left

set_option maxHeartbeats 400000 in
theorem cloneI_any (w : World) (a : Addr) (n cap : Nat) (xs : List Int) (h : Rd w (.slice (some a) n cap) xs) (hy : Byt xs) (hn : xs.length ≤ 140737488355328) : Calls Try.prog 28 #[.slice (some a) n cap] w fun e w' => ∃ u, e = .returned u ∧ OwnI w' w.heap.size u xs ∧ Below w.heap.size w w' := by
  have hnil : ∀ W, (binOp .eql 23 (.slice (some a) n cap) (.slice none 0 0)).run Try.prog W = .ok (.bool false) W := fun W => Lib.run_eql_slice_nil W 23 5 (some a) n cap 0 0 Try.underlying23
  have hb0 : Below w.heap.size w (w.alloc (.cells #[] 5)) := (Below.refl _ _).alloc (Nat.le_refl _) _
  by_cases hne : xs = []
  · have hl := rd_length h
    subst hne
    simp only [List.length_nil] at hl
    subst hl
    clear h
    have hap : (Builtin.append_ #[23, 23] 23 #[.slice (some ⟨w.heap.size, 0, none⟩) 0 0, .slice (some a) 0 cap]).run Try.prog (w.alloc (.cells #[] 5)) = .ok (.slice (some ⟨w.heap.size, 0, none⟩) 0 0) (w.alloc (.cells #[] 5)) := by
      obtain ⟨i, hi, hz0, hz1, hz2⟩ := info_parts Try.info5
      have := run_append_room (P := Try.prog) (w.alloc (.cells #[] 5)) 23 23 5 i Try.underlying23 hi w.heap.size 0 0 #[] (heap_alloc_new w _) a 0 cap [] (by simp) (fun j u hj => by simp at hj) (fun u hu => by cases hu) (by omega) (by simp)
      simp only [Nat.add_zero] at this
      rw [this]
      congr 1
      simp only [List.take_nil, List.drop_nil, List.append_nil]
      exact setRow_self _ _ #[] 5 (0, 0) (heap_alloc_new w _)
    go_enter Try.func28, Try.ntmps28
    go_wp2_with (at_builtin; refine wpList_append_run rfl _ _ rfl rfl _ _ rfl rfl _ _ hap ?_)
    go_ret
    exact ⟨_, rfl, .inr ⟨w.heap.size, [], rfl, Nat.le_refl _, heap_alloc_new w _, by simp, Byt.nil, Nat.le_refl _, rfl⟩, hb0⟩
  · obtain ⟨v', w', hap, ho, hb⟩ := append_empty (w.alloc (.cells #[] 5)) (some ⟨w.heap.size, 0, none⟩) (.inr ⟨_, rfl, heap_alloc_new w _⟩) _ xs (h.below hb0) hy hne hn
    have hz : w.heap.size ≤ (w.alloc (.cells #[] 5)).heap.size := hb0.size
    go_enter Try.func28, Try.ntmps28
    go_wp2_with (at_builtin; refine wpList_append_run rfl _ _ rfl rfl _ _ rfl rfl _ _ hap ?_)
    go_ret
    exact ⟨_, rfl, ho.mono hz, hb0.trans (hb.mono hz)⟩

theorem clone_any (w : World) (a : Addr) (n cap : Nat) (xs : List Int) (h : Rd w (.slice (some a) n cap) xs) (hy : Byt xs) (hn : xs.length ≤ 140737488355328) : Calls Try.prog 28 #[.slice (some a) n cap] w fun e w' => ∃ u, e = .returned u ∧ Own w' w.heap.size u xs ∧ Below w.heap.size w w' :=
  (cloneI_any w a n cap xs h hy hn).mono fun e w' ⟨u, h1, h2, h3⟩ => ⟨u, h1, h2.own, h3⟩
end Go.Proofs.Ytmpddbnggddmdaa
