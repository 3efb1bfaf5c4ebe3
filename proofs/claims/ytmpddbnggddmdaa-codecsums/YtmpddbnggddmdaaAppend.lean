/- 'append(v, x...)' where v is a row of the call's own (or nil) and x any slice of bytes, as a law for the walk. -/
import Derived.Test.YtmpddbnggddmdaaTexts
import Derived.Laws.AppendOwnNone
namespace Go.Proofs.Ytmpddbnggddmdaa
open Go.RowKit
set_option linter.unusedVariables false

theorem wpList_append_rd {w : World} {ops : Array Oper} {rest : List Oper} {o : Oper} {a : Act} {Q : Exit → Act → World → Prop} (hgd : o.guard = none) (s x : Operand)
    (ho : o.op = .call { callee := .builtin .append, args := #[s, x], argTypes := #[23, 23] }) (base : Nat)
    (v : Value) (xs : List Int) (hs : a.eval s = v) (hown : Own w base v xs) (u : Value) (ys : List Int) (hx : a.eval x = u) (hrd : Rd w u ys)
    (hlen : xs.length + ys.length ≤ 140737488355328) (hbase : base ≤ w.heap.size)
    (h : ∀ v' w', Own w' base v' (xs ++ ys) → w.grownBy w' v.ownBlock → wpList Try.prog ops Q rest (a.put o.dst v') w') : wpList Try.prog ops Q (o :: rest) a w := by
  obtain ⟨i, hi, hz0, hz1, hz2⟩ := info_parts Try.info5
  obtain ⟨ad, cap, rfl, h1, h2, hnn, h3⟩ := hrd
  cases ad with
  | none =>
    obtain rfl := hnn rfl
    have hl : ys.length = 0 := by omega
    obtain rfl : ys = [] := List.eq_nil_of_length_eq_zero hl
    refine wpList_append_own_none hgd s x 23 ho base 5 i 1 Try.underlying23 hi v _ _ hs hown hx ?_
    exact h v w (by rw [List.append_nil]; exact hown) (World.grownBy.refl _ _)
  | some ad =>
    refine wpList_append_own w hgd s x 23 ho base 5 i (.int .u8 0) 1 1 Try.underlying23 hi hz0 hz1 hz2 rfl (by decide) v _ _ hs hown ad ys.length cap (ys.map (Value.int .u8)) hx (by simp) ?_ (ints_oneCell _ _) ?_ ?_ hbase ?_
    · intro j u hj
      have hj' : j < ys.length := by
        rcases Nat.lt_or_ge j ys.length with h | h
        · exact h
        · rw [List.getElem?_eq_none (by simpa using h)] at hj; cases hj
      obtain ⟨b, off, e, hlt, hc⟩ := h3 (by intro e; subst e; simp at hj')
      simp only [Option.some.injEq] at e
      subst e
      have hadd : (⟨b, off, none⟩ : Addr).add j = ⟨b, off + j, none⟩ := by unfold Addr.add; split <;> simp_all
      rw [hadd, hc j hj']
      rw [← hj]
      simp [List.getElem?_eq_getElem hj']
    · unfold maxLen; omega
    · omega
    · intro v' w' ho' hg _
      refine h v' w' ?_ hg
      unfold Own
      rw [List.length_append, List.map_append]
      exact ho'

/-- 'len(v)'. -/
theorem Rd.len {w : World} {v : Value} {xs : List Int} (h : Rd w v xs) (W : World) : (Builtin.len_ #[23] 3 #[v]).run Try.prog W = .ok (.int .i64 xs.length) W := by
  obtain ⟨a, cap, rfl, _⟩ := h
  simp [Builtin.len_, go_sem]

theorem strB_byt (s : ByteArray) : Byt (strB s) := by
  intro x hx
  simp only [strB, List.mem_map] at hx
  obtain ⟨c, _, rfl⟩ := hx
  have := c.toNat_lt
  omega
theorem strOfNums_strB (s : ByteArray) : strOfNums (strB s) = s := by
  obtain ⟨d⟩ := s
  have h : (strB ⟨d⟩).map (fun n => UInt8.ofNat n.toNat) = d.toList := by
    simp only [strB, List.map_map]
    rw [show ((fun n : Int => UInt8.ofNat n.toNat) ∘ fun c : UInt8 => (c.toNat : Int)) = id from funext fun c => by simp]
    exact List.map_id _
  unfold strOfNums
  rw [h]
theorem back_S (s : ByteArray) (ys : List Int) : readS ((s.size : Int) :: (strB s ++ ys)) = s := by
  have hl := strB_length s
  simp only [readS, Int.toNat_natCast]
  rw [if_neg (by simp; omega), List.take_append_of_le_length (by omega), List.take_of_length_le (by omega), strOfNums_strB]
theorem back_N (s : ByteArray) (ys : List Int) : readN ((s.size : Int) :: (strB s ++ ys)) = 1 + s.size := by
  have hl := strB_length s
  simp only [readN, Int.toNat_natCast]
  rw [if_neg (by simp; omega)]
theorem back_E (s : ByteArray) (ys : List Int) : readE ((s.size : Int) :: (strB s ++ ys)) = 0 := by
  have hl := strB_length s
  simp only [readE, Int.toNat_natCast]
  rw [if_neg (by simp; omega)]

/-- What a grown row of the call's own leaves of old memory. -/
theorem below_grown {B : Nat} {w0 w w' : World} {v : Value} {xs : List Int} (hb : Below B w0 w) (hB : B ≤ w.heap.size) (hown : Own w B v xs) (hg : w.grownBy w' v.ownBlock) : Below B w0 w' :=
  hb.grown hg hB (fun k hk => (World.ownsRow.lt hown k hk).1)
end Go.Proofs.Ytmpddbnggddmdaa
