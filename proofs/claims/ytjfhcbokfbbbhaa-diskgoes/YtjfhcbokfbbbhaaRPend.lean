/- The document's answer: Pending. -/
import Derived.Test.YtjfhcbokfbbbhaaRBar
namespace Go.Proofs.Ytjfhcbokfbbbhaa
open Go.RowKit Go.Maps
set_option linter.unusedVariables false

theorem Try.info3 : (Try.prog.info? 3).map (fun i => (i.zero, i.size, i.bytes)) = some (some (.int .i64 0), 1, 8) := by kernel_rfl

theorem keysN {s : St} (h : Good s) {n : Nat} (hn : (n : Int) = s.blocks) : keysOf s.pend = ((List.range n).filter fun j : Nat => (s.pend j).isSome).map Int.ofNat := by
  refine keysOf_eq ?_ (fun i hi => ?_) (fun i => ?_)
  · rw [List.pairwise_map]
    exact ((List.pairwise_lt_range (n := n)).filter _).imp (fun h => by simpa using h)
  · obtain ⟨m, hm, rfl⟩ := List.mem_map.1 hi
    have := List.mem_range.1 (List.mem_filter.1 hm).1
    have := h.b1
    simp
    omega
  · constructor
    · intro hi
      obtain ⟨m, hm, rfl⟩ := List.mem_map.1 hi
      exact (List.mem_filter.1 hm).2
    · intro hi
      obtain ⟨c, hc⟩ := Option.isSome_iff_exists.1 hi
      obtain ⟨b0, b1, _⟩ := h.pend i c hc
      refine List.mem_map.2 ⟨i.toNat, List.mem_filter.2 ⟨List.mem_range.2 (by omega), ?_⟩, by simp; omega⟩
      rw [show ((i.toNat : Nat) : Int) = i from by omega]
      exact hi

def upto (s : St) (i : Nat) : List Int := ((List.range i).filter fun j : Nat => (s.pend j).isSome).map Int.ofNat

theorem upto_succ (s : St) (i : Nat) : upto s (i + 1) = upto s i ++ (if (s.pend i).isSome then [(i : Int)] else []) := by
  unfold upto
  rw [List.range_succ, List.filter_append, List.map_append]
  cases h : (s.pend i).isSome <;> simp [h]

theorem upto_length (s : St) (i : Nat) : (upto s i).length ≤ i := by
  have := List.length_filter_le (fun j : Nat => (s.pend j).isSome) (List.range i)
  simpa [upto] using this

/-- 'append(v, x)' onto a row of the call's own, one value. -/
theorem wpList_push {w : World} {ops : Array Oper} {rest : List Oper} {o : Oper} {a : Act} {Q : Exit → Act → World → Prop} (hgd : o.guard = none) (s x : Operand) (t : TypeId)
    (ho : o.op = .call { callee := .builtin .append, args := #[s, x], argTypes := #[t, t] }) (base : Nat) (e : TypeId) (z : Value) (bytes : Nat) (ht : Try.prog.underlying t = some (.slice e))
    (hinf : (Try.prog.info? e).map (fun i => (i.zero, i.size, i.bytes)) = some (some z, 1, bytes)) (hz : z.cells.size = 1) (hby : bytes ≤ 16)
    (v : Value) (us : List Value) (hs : a.eval s = v) (hown : w.ownsRow base e 1 v us.length us) (g : Nat) (u : Value) (hx : a.eval x = .slice (some ⟨g, 0, none⟩) 1 1) (hc : w.cell? ⟨g, 0, none⟩ = some u) (h1 : u.oneCell' = true)
    (hl : us.length ≤ 100000) (hbase : base ≤ w.heap.size)
    (h : ∀ v' w', w'.ownsRow base e 1 v' (us ++ [u]).length (us ++ [u]) → w.grownBy w' v.ownBlock → wpList Try.prog ops Q rest (a.put o.dst v') w') : wpList Try.prog ops Q (o :: rest) a w := by
  obtain ⟨i, hi, hz0, hz1, hz2⟩ := info_parts hinf
  refine wpList_append_own w hgd s x t ho base e i z 1 bytes ht hi hz0 hz1 hz2 hz (by decide) v us.length us hs hown ⟨g, 0, none⟩ 1 1 [u] hx (by simp) (fun j q hj => ?_) (fun q hq => by simp at hq; subst hq; exact h1) (by unfold maxLen; omega) ?_ hbase (fun v' w' ho' hg _ => h v' w' (by simpa using ho') hg)
  · cases j with
    | zero =>
      simp at hj
      subst hj
      have : (⟨g, 0, none⟩ : Addr).add 0 = ⟨g, 0, none⟩ := by unfold Addr.add; simp
      rw [this]; exact hc
    | succ j => simp at hj
  · calc (us.length + 1) * bytes ≤ 100001 * 16 := Nat.mul_le_mul (by omega) hby
      _ ≤ 140737488355328 := by decide

set_option maxRecDepth 100000 in
set_option maxHeartbeats 8000000 in
theorem ref_Pending {w : World} {q gs gl : Nat} {s : St} (h : RefAt w q gs gl s) :
    Calls Try.prog 35 #[ptr q] w fun e w' => ∃ v, e = .returned v ∧ w'.ownsRow w.heap.size 3 1 v (keysOf s.pend).length ((keysOf s.pend).map encZ) ∧ Below w.heap.size w w' := by
  obtain ⟨nb, cs, cl, mk, a1, a2, a3, a4, a5, a6, a7, hrow⟩ := h.row
  obtain ⟨ys0, hy0, hys0⟩ := h.late
  have C := rcells hrow
  have c1 := C.c1
  unfold maxLen at a4 a5
  have hbn : nb ≤ 1024 := by have := h.good.b1; omega
  have hlt := h.lt
  have e0 := empty_toList
  have HK : Hid (keysOf s.pend = upto s nb) := keysN h.good a1
  have HP : Hid (∀ i c, s.pend i = some c → Blk c) := fun i c hc => (h.good.pend i c hc).2.2
  have H1 : Hid (∀ i : Nat, i < nb → ys0[i]? = some (.string (lateS (s.pend i)))) := fun i hi => hys0 i (by omega)
  have HY : Hid (w.heap[gl]? = some (.cells ys0 9 (0, 0))) := hy0
  obtain ⟨i3, hi3, hz0, hz1, hz2⟩ := info_parts Try.info3
  have HI : Hid (Try.prog.info? 3 = some i3 ∧ i3.zero = some (.int .i64 0) ∧ i3.size = 1 ∧ i3.bytes = 8) := ⟨hi3, hz0, hz1, hz2⟩
  unfold ptr
  clear hrow C hys0 hy0 h hi3 hz0 hz1 hz2 a1 a7
  go_enter Try.func35, Try.ntmps35
  go_wp2_with fail
  go_loopw [3, 11] (fun v t wr => ∃ (i : Nat), i ≤ nb ∧ t = .int .i64 i ∧ wr.ownsRow w.heap.size 3 1 v (upto s i).length ((upto s i).map encZ) ∧ Below w.heap.size w wr) (fun _ t _ => nb - (RowKit.intOf t).toNat)
  case atStart => exact ⟨0, Nat.zero_le _, rfl, World.ownsRow_nil _ _ _ _, Below.refl _ _⟩
  case round =>
    obtain ⟨i, hi, rfl, hown, hbr⟩ := hrel
    have hul := upto_length s i
    have hus := upto_succ s i
    by_cases hin : i < nb
    · have hyr : wr.heap[gl]? = some (.cells ys0 9 (0, 0)) := (hbr.block gl hlt.2.2).trans HY.out
      have hyc := strRow_cell hyr (H1.out i hin)
      have hsz := hbr.size
      cases hp : s.pend i with
      | none =>
        rw [hp] at hyc hus
        simp only [lateS] at hyc
        have HU : Hid (upto s (i + 1) = upto s i) := by unfold Hid; simpa using hus
        clear hp hus hyr
        go_wp2_with fail
        go_roundw
        case rel => exact ⟨i + 1, by omega, by go_num, by rw [HU.out]; exact hown, hbr⟩
        case measure => simp [RowKit.intOf]; omega
      | some c =>
        rw [hp] at hyc hus
        simp only [lateS] at hyc
        have hbc := HP.out i c hp
        have e1 := lateS_none (some c) (fun x hx => by cases hx; exact hbc)
        have e2 := lateS_ne hbc
        simp only [lateS, Option.isNone_some] at e1
        have e3 : (strOfNums c).toList.isEmpty = false := by
          cases hX : (strOfNums c).toList with
          | nil => exact absurd hX e2
          | cons a l => rfl
        have HU : Hid (upto s (i + 1) = upto s i ++ [(i : Int)]) := by unfold Hid; simpa using hus
        generalize strOfNums c = X at *
        generalize upto s i = us at *
        clear hp hus hyr hbc
        have hown' : (wr.alloc (.cells #[.int .i64 (i : Int)] 3)).ownsRow w.heap.size 3 1 u3 (us.map encZ).length (us.map encZ) := by
          rw [List.length_map]
          exact hown.alloc _
        have hcc : (wr.alloc (.cells #[.int .i64 (i : Int)] 3)).cell? ⟨wr.heap.size, 0, none⟩ = some (.int .i64 (i : Int)) := by
          rw [cell_of_row _ _ 0 _ _ (0, 0) (heap_alloc_new wr _)]; rfl
        have HO' : Hid _ := hown'
        have HC' : Hid _ := hcc
        clear hown' hcc
        go_wp2_with (refine wpList_push rfl _ _ 49 rfl w.heap.size 3 (.int .i64 0) 8 Try.underlying49 Try.info3 rfl (by decide) u3 (us.map encZ) rfl HO'.out wr.heap.size (.int .i64 (i : Int)) rfl HC'.out rfl (by rw [List.length_map]; omega) (by simp; omega) ?_; intro v' w' ho' hg')
        have hlt' := World.ownsRow.lt hown
        have hb' : Below w.heap.size w w' := (hbr.alloc hbr.size _).grown hg' (by simp; omega) (fun k hk => (hlt' k hk).1)
        have HO2 : Hid (w'.ownsRow w.heap.size 3 1 v' (us ++ [(i : Int)]).length ((us ++ [(i : Int)]).map encZ)) := by
          unfold Hid
          have e : (us ++ [(i : Int)]).map encZ = us.map encZ ++ [Value.int .i64 (i : Int)] := by simp [encZ]
          rw [e]
          have := ho'
          simpa using this
        clear ho' hg' hlt'
        go_wp2_with fail
        go_roundw
        case rel => exact ⟨i + 1, by omega, by go_num, by rw [HU.out]; exact HO2.out, hb'⟩
        case measure => simp [RowKit.intOf]; omega
    · obtain rfl : i = nb := by omega
      go_wp2_with fail
      go_ret
      exact ⟨_, rfl, by rw [HK.out]; exact hown, hbr⟩

end Go.Proofs.Ytjfhcbokfbbbhaa
