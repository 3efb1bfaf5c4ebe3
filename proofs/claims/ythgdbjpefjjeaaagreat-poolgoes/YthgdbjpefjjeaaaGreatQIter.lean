/- slices.Values of pairs and of strings, keysOf: what a range over them goes through. -/
import Derived.Test.YthgdbjpefjjeaaaGreatQBase
import Derived.RangeFuncNested
import Derived.RangeFuncBound
import Derived.RangeFuncCalls
import Derived.RangeFuncLeaves
import Derived.Shelf.Abstract
import Derived.OwnWalkIn
import Derived.TacticsInMore
import Derived.LoopNIn
import Derived.LoopIn
namespace Go.Proofs.YthgdbjpefjjeaaaGreat
open Go.RowKit Go.Shelf
set_option linter.unusedVariables false
set_option linter.unusedSimpArgs false
set_option maxRecDepth 100000
attribute [local go_sem] Oper.semAt_some

set_option maxHeartbeats 2000000 in
theorem valuesS_stops (n : Nat) (hn : 1 ≤ n) (Bs : Nat) (a : Option Addr) (len cap : Nat) (ss : List ByteArray) (w : World) (n₀ : Nat) (hBs : Bs < w.heap.size) (hn₀ : n₀ ≤ w.heap.size)
    (hc : w.cell? ⟨Bs, 0, none⟩ = some (.slice a len cap)) (hm : cap ≤ maxLen) (hle : len ≤ cap) (hl : ss.length = len)
    (hI : 0 < len → ∃ b off, a = some ⟨b, off, none⟩ ∧ b < n₀ ∧ ∀ i s, ss[i]? = some s → w.cell? ⟨b, off + i, none⟩ = some (.string s)) :
    SeqStopsK Fence.wide n Tryz.prog 119 #[.pointer (some ⟨Bs, 0, none⟩)] (fun s : ByteArray => #[Value.string s]) (Below n₀) (fun ys => ys = ss) (fun pre => ∃ k, k ≤ ss.length ∧ pre = ss.take k) ss.length w := fun l J Jx W hW _ _ hY h0 => by
  unfold maxLen at hm
  have hc' := (hW.cell (p := ⟨Bs, 0, none⟩) hBs).trans hc
  refine callsIn_of_wp Tryz.func119 rfl trivial ?_ rfl
  simp only [Tryz.ntmps119, List.size_toArray, List.length_cons, List.length_nil, Nat.reduceAdd, Nat.reduceSub, Array.replicate_succ, Array.replicate_zero, List.push_toArray, List.append_toArray, List.nil_append, List.cons_append]
  gi_wp2
  gi_loopw [7] (fun i wr => ∃ k : Nat, k ≤ len ∧ i = .int .i64 k ∧ J (ss.take k) wr ∧ Below n₀ W wr)
    (fun i _ => len - (intOf i).toNat)
  case atStart => exact ⟨0, Nat.zero_le _, rfl, h0, Below.refl _ _⟩
  case round =>
    obtain ⟨k, hk, rfl, hJs, hnx⟩ := hrel
    by_cases hlt : k < len
    · obtain ⟨b, off, rfl, hb, hcs⟩ := hI (by omega)
      obtain ⟨s, hs⟩ := at_some hl hlt
      have hcx : wr.cell? ⟨b, off + k, none⟩ = some (.string s) := (hnx.cell (p := ⟨b, off + k, none⟩) hb).trans ((hW.cell (p := ⟨b, off + k, none⟩) (by show b < _; omega)).trans (hcs k s hs))
      have hT := take_next hs
      obtain ⟨fn, tmps, assign, body, hy, hR⟩ := hY _ s wr hJs (by rw [List.length_take]; omega)
      clear hcs hI
      gi_wp2
      refine hR.mono ?_
      rintro e W3 (⟨rfl, hJ3, hk3⟩ | ⟨rfl, hJx3⟩)
      · gi_wp2
        go_roundw
        case rel => exact ⟨k + 1, by omega, by simp, by rw [hT]; exact hJ3, hnx.trans hk3⟩
        case measure => simp [intOf]; omega
      · gi_wp2
        refine bodyPost_ret (results_none rfl _ _ _) rfl ?_
        exact ⟨⟨_, rfl⟩, .inr ⟨_, ⟨k + 1, by omega, hT.symm⟩, hJx3⟩⟩
    · obtain rfl : k = len := by omega
      rw [List.take_of_length_le (by omega)] at hJs
      gi_wp2
      go_end0
      exact ⟨⟨_, rfl⟩, .inl ⟨_, rfl, hJs⟩⟩

set_option maxHeartbeats 2000000 in
theorem valuesG_stops {α : Type} (val : α → ByteArray × ByteArray) (n : Nat) (hn : 1 ≤ n) (Bs : Nat) (a : Option Addr) (len cap : Nat) (ss : List α) (w : World) (n₀ : Nat) (hBs : Bs < w.heap.size) (hn₀ : n₀ ≤ w.heap.size)
    (hc : w.cell? ⟨Bs, 0, none⟩ = some (.slice a len cap)) (hm : cap ≤ maxLen) (hle : len ≤ cap) (hl : ss.length = len)
    (hI : 0 < len → ∃ b off, a = some ⟨b, off, none⟩ ∧ b < n₀ ∧ ∀ i p, ss[i]? = some p → w.cell? ⟨b, off + i * 2, none⟩ = some (.string (val p).1) ∧ w.cell? ⟨b, off + i * 2 + 1, none⟩ = some (.string (val p).2)) :
    SeqStopsK Fence.wide n Tryz.prog 106 #[.pointer (some ⟨Bs, 0, none⟩)] (fun p : α => #[kvV (val p)]) (Below n₀) (fun ys => ys = ss) (fun pre => ∃ k, k ≤ ss.length ∧ pre = ss.take k) ss.length w := fun l J Jx W hW hJ hJx hY h0 => by
  unfold maxLen at hm
  have hc' := (hW.cell (p := ⟨Bs, 0, none⟩) hBs).trans hc
  refine callsIn_of_wp Tryz.func106 rfl trivial ?_ rfl
  simp only [Tryz.ntmps106, List.size_toArray, List.length_cons, List.length_nil, Nat.reduceAdd, Nat.reduceSub, Array.replicate_succ, Array.replicate_zero, List.push_toArray, List.append_toArray, List.nil_append, List.cons_append]
  gi_wp2
  gi_loopw [4, 7] (fun p i wr => ∃ k : Nat, k ≤ len ∧ i = .int .i64 k ∧ J (ss.take k) wr ∧ Below n₀ W wr)
    (fun _ i _ => len - (intOf i).toNat)
  case atStart => exact ⟨0, Nat.zero_le _, rfl, h0, Below.refl _ _⟩
  case round =>
    obtain ⟨k, hk, rfl, hJs, hnx⟩ := hrel
    by_cases hlt : k < len
    · obtain ⟨b, off, rfl, hb, hcs⟩ := hI (by omega)
      obtain ⟨s, hs⟩ := at_some hl hlt
      have hcx0 : wr.cell? ⟨b, off + k * 2, none⟩ = some (.string (val s).1) := (hnx.cell (p := ⟨b, off + k * 2, none⟩) hb).trans ((hW.cell (p := ⟨b, off + k * 2, none⟩) (by show b < _; omega)).trans (hcs k s hs).1)
      have hcx1 : wr.cell? ⟨b, off + k * 2 + 1, none⟩ = some (.string (val s).2) := (hnx.cell (p := ⟨b, off + k * 2 + 1, none⟩) hb).trans ((hW.cell (p := ⟨b, off + k * 2 + 1, none⟩) (by show b < _; omega)).trans (hcs k s hs).2)
      have hT := take_next hs
      obtain ⟨fn, tmps, assign, body, hy, hR⟩ := hY _ s (wr.alloc (.cells #[.string (val s).1, .string (val s).2] 85)) (hJ _ _ _ Option.none hJs (World.grownBy_alloc wr _ Option.none) (fun r e => by cases e)) (by rw [List.length_take]; omega)
      unfold kvV at hy
      clear hcs hI
      gi_wp2
      refine hR.mono ?_
      rintro e W3 (⟨rfl, hJ3, hk3⟩ | ⟨rfl, hJx3⟩)
      · gi_wp2
        go_roundw
        case rel => exact ⟨k + 1, by omega, by simp, by rw [hT]; exact hJ3, hnx.trans (((Below.refl n₀ wr).alloc (Nat.le_trans hn₀ (Nat.le_trans hW.size hnx.size)) _).trans hk3)⟩
        case measure => simp [intOf]; omega
      · gi_wp2
        refine bodyPost_ret (results_none rfl _ _ _) rfl ?_
        exact ⟨⟨_, rfl⟩, .inr ⟨_, ⟨k + 1, by omega, hT.symm⟩, hJx3⟩⟩
    · obtain rfl : k = len := by omega
      rw [List.take_of_length_le (by omega)] at hJs
      gi_wp2
      go_end0
      exact ⟨⟨_, rfl⟩, .inl ⟨_, rfl, hJs⟩⟩

theorem valuesP_stops (n : Nat) (hn : 1 ≤ n) (Bs : Nat) (a : Option Addr) (len cap : Nat) (ss : List (ByteArray × ByteArray)) (w : World) (n₀ : Nat) (hBs : Bs < w.heap.size) (hn₀ : n₀ ≤ w.heap.size)
    (hc : w.cell? ⟨Bs, 0, none⟩ = some (.slice a len cap)) (hm : cap ≤ maxLen) (hle : len ≤ cap) (hl : ss.length = len)
    (hI : 0 < len → ∃ b off, a = some ⟨b, off, none⟩ ∧ b < n₀ ∧ ∀ i p, ss[i]? = some p → w.cell? ⟨b, off + i * 2, none⟩ = some (.string p.1) ∧ w.cell? ⟨b, off + i * 2 + 1, none⟩ = some (.string p.2)) :
    SeqStopsK Fence.wide n Tryz.prog 106 #[.pointer (some ⟨Bs, 0, none⟩)] (fun p : ByteArray × ByteArray => #[kvV p]) (Below n₀) (fun ys => ys = ss) (fun pre => ∃ k, k ≤ ss.length ∧ pre = ss.take k) ss.length w :=
  valuesG_stops (fun p => p) n hn Bs a len cap ss w n₀ hBs hn₀ hc hm hle hl hI

end Go.Proofs.YthgdbjpefjjeaaaGreat
