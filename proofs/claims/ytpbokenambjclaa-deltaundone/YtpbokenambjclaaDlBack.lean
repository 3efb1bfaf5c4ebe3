/- slices.Backward at what Puts found. -/
import Derived.Test.YtpbokenambjclaaDlUndo1
import Derived.Test.YtpbokenambjclaaDlAll
namespace Go.Proofs.Ytpbokenambjclaa
open Go.RowKit Go.Shelf Go.Maps
set_option linter.unusedVariables false
set_option linter.unusedSimpArgs false
set_option maxRecDepth 100000
attribute [local go_sem] Oper.semAt_some

/-- What a Put found, with its place in the row. -/
structure PuI where
  i : Nat
  x : Pu
  ok : PuOk x
def pu0 : Pu := ⟨pl0, cg0, false⟩
theorem pu0_ok : PuOk pu0 := ⟨pl0_ok, cg0_ok, fun e => by cases e⟩
theorem zeroPu (w : World) : (zeroValue 76).run Try.prog w = .ok (.agg (puC pu0)) w := by
  have h : (Try.prog.info? 76).map (fun i => (i.zero, i.size)) = some (some (.agg (puC pu0)), 51) := by kernel_rfl
  exact (zero_of_info h).1 w
theorem size_pu : (Try.prog.info? 76).map (·.size) = some 51 := by kernel_rfl
theorem puC_size {x : Pu} (h : PuOk x) : (puC x).size = 51 := by rw [show (puC x).size = (puL x).length from rfl]; exact puL_len h
theorem one_pu (x : Pu) : (puC x).all (·.oneCell') = true := Array.all_eq_true_iff_forall_mem.2 fun u hu => puL_one x u (by simpa [puC] using hu)
theorem getD_ok {xs : List Pu} (h : ∀ x ∈ xs, PuOk x) (i : Nat) : PuOk (xs.getD i pu0) := by
  rw [List.getD_eq_getElem?_getD]
  cases hq : xs[i]? with
  | none => exact pu0_ok
  | some x => exact h x (List.mem_of_getElem? hq)
def backE (xs : List Pu) (h : ∀ x ∈ xs, PuOk x) (j : Nat) : PuI := ⟨xs.length - 1 - j, xs.getD (xs.length - 1 - j) pu0, getD_ok h _⟩

/-- What a round leaves: all but one block that is elder. -/
structure KeepB (n₀ b : Nat) (W W' : World) : Prop where
  size : W.heap.size ≤ W'.heap.size
  block : ∀ k, k < n₀ → k ≠ b → W'.heap[k]? = W.heap[k]?
theorem KeepB.refl (n₀ b : Nat) (W : World) : KeepB n₀ b W W := ⟨Nat.le_refl _, fun _ _ _ => rfl⟩
theorem KeepB.t {n₀ b : Nat} {A B C : World} (h : KeepB n₀ b A B) (k : KeepB n₀ b B C) : KeepB n₀ b A C := ⟨Nat.le_trans h.size k.size, fun i h1 h2 => (k.block i h1 h2).trans (h.block i h1 h2)⟩
theorem KeepB.b {n₀ b : Nat} {w : World} (hn : n₀ ≤ w.heap.size) (W : World) (l : Nat) (o o' : Obj) (hl : w.heap.size ≤ l) (_ : W.heap[l]? = some o) (_ : o.isCells = false) (_ : o.isWalk = false) : KeepB n₀ b W (W.putObj l o') :=
  ⟨by simp, fun k hk _ => World.putObj_heap_other (by omega)⟩

theorem backward_any (w : World) (a : Option Addr) (n c : Nat) : Calls Try.prog 36 #[.slice a n c] w fun e w' => e = .returned (.func (.func 52) #[] #[.pointer (some ⟨w.heap.size, 0, none⟩)]) ∧ w' = w.alloc (.cells #[.slice a n c] 71) := by
  go_enter Try.func36, Try.ntmps36
  go_wp2
  go_ret
  exact ⟨rfl, rfl⟩

set_option maxHeartbeats 4000000 in
theorem back_stops (n : Nat) (hn : 1 ≤ n) (Bs b n₀ : Nat) (a : Option Addr) (cap : Nat) (xs : List Pu) (hx : ∀ x ∈ xs, PuOk x) (w : World) (hBs : Bs < n₀) (hBb : Bs ≠ b) (hn₀ : n₀ ≤ w.heap.size)
    (hc : w.cell? ⟨Bs, 0, none⟩ = some (.slice a xs.length cap)) (hm : cap ≤ maxLen) (hle : xs.length ≤ cap) (hl : xs.length ≤ 1000)
    (hI : 0 < xs.length → ∃ g off, a = some ⟨g, off, none⟩ ∧ g < n₀ ∧ g ≠ b ∧ ∀ i, i < xs.length → w.rangeAt g (off + i * 51) (puL (xs.getD i pu0))) :
    SeqStopsK Fence.wide n Try.prog 52 #[.pointer (some ⟨Bs, 0, none⟩)] (fun x : PuI => #[.int .i64 (x.i : Int), .agg (puC x.x)]) (KeepB n₀ b) (fun ys => ys = (List.range xs.length).map (backE xs hx)) (fun _ => True) xs.length w := fun l J Jx W hW _ _ hY h0 => by
  unfold maxLen at hm
  have hc' := (hW.cell (p := ⟨Bs, 0, none⟩) (by show Bs < _; omega)).trans hc
  obtain ⟨len, hlen⟩ : ∃ len, xs.length = len := ⟨_, rfl⟩
  have HLEN : Hid (xs.length = len) := hlen
  have HI : Hid (0 < len → ∃ g off, a = some ⟨g, off, none⟩ ∧ g < n₀ ∧ g ≠ b ∧ ∀ i, i < len → w.rangeAt g (off + i * 51) (puL (xs.getD i pu0))) := by rw [← hlen]; exact hI
  rw [hlen] at hc' hle hl
  have hwm : ∀ q : Int, -1 ≤ q → q ≤ 1000 → IntKind.i64.wrap (q - 1) = q - 1 := fun q h1 h2 => Go.IntWalk.i64_in _ (by omega)
  have hY' : ∀ pre x W1, J pre W1 → pre.length < len → YieldAt Fence.wide (n - 1) Try.prog l #[.int .i64 (x.i : Int), .agg (puC x.x)] W1 fun e W' =>
      (e = .returned (.bool true) ∧ J (pre ++ [x]) W' ∧ KeepB n₀ b W1 W') ∨ (e = .returned (.bool false) ∧ Jx (pre ++ [x]) W') := by rw [← hlen]; exact hY
  rw [hlen]
  clear hlen hI hY hc
  refine callsIn_of_wp Try.func52 rfl trivial ?_ rfl
  simp only [Try.ntmps52, List.size_toArray, List.length_cons, List.length_nil, Nat.reduceAdd, Nat.reduceSub, Array.replicate_succ, Array.replicate_zero, List.push_toArray, List.append_toArray, List.nil_append, List.cons_append]
  have hw0 : IntKind.i64.wrap ((len : Int) - 1) = (len : Int) - 1 := hwm _ (by omega) (by omega)
  gi_wp2
  gi_loopw [3] (fun t wr => ∃ (m : Nat) (q : Int), m ≤ len ∧ t = .int .i64 q ∧ Hid (q = (len : Int) - 1 - m) ∧ J ((List.range m).map (backE xs hx)) wr ∧ Hid (KeepB n₀ b W wr))
    (fun t _ => (intOf t + 1).toNat)
  case atStart => exact ⟨0, (len : Int) - 1, Nat.zero_le _, rfl, (show Hid _ by unfold Hid; omega), h0, KeepB.refl _ _ _⟩
  case round =>
    obtain ⟨m, q, hmle, rfl, HQ, hJs, HK⟩ := hrel
    have hqe := HQ.out
    by_cases hlt : m < len
    · obtain ⟨r, hr⟩ : ∃ r : Nat, q = (r : Int) := ⟨(len - 1 - m), by omega⟩
      subst hr
      have hrl : r < len := by omega
      have hre : r = len - 1 - m := by omega
      obtain ⟨g, off, rfl, hg, hgb, hat⟩ := HI.out (by omega)
      have hBsr := (World.cell?_of_block (a := ⟨Bs, 0, none⟩) (HK.out.block Bs hBs hBb)).trans hc'
      have hbe : backE xs hx m = ⟨r, xs.getD r pu0, getD_ok hx r⟩ := by
        have e : ∀ k, k = r → (⟨k, xs.getD k pu0, getD_ok hx k⟩ : PuI) = ⟨r, xs.getD r pu0, getD_ok hx r⟩ := by rintro _ rfl; rfl
        exact e _ (by rw [HLEN.out]; exact hre.symm)
      have hok := getD_ok hx r
      have hrg : wr.rangeAt g (off + r * 51) (puL (xs.getD r pu0)) := fun j u hu => (World.cell?_of_block (a := ⟨g, off + r * 51 + j, none⟩) (HK.out.block g hg hgb)).trans ((World.cell?_of_block (a := ⟨g, off + r * 51 + j, none⟩) (hW.block g (by omega))).trans (hat r hrl j u hu))
      have hld := run_loadAt_mid (P := Try.prog) wr g (off + r * 51) 76 _ _ hrg Try.underlying76 rfl (by rw [puL_len hok]; exact size_pu)
      obtain ⟨x, hxe⟩ : ∃ x, xs.getD r pu0 = x := ⟨_, rfl⟩
      rw [hxe] at hok hld
      have hbe' : backE xs hx m = ⟨r, x, hok⟩ := by rw [hbe]; subst hxe; rfl
      have HT : Hid ((List.range (m + 1)).map (backE xs hx) = (List.range m).map (backE xs hx) ++ [⟨r, x, hok⟩]) := by
        unfold Hid; rw [List.range_succ, List.map_append, List.map_cons, List.map_nil, hbe']
      obtain ⟨fn, tmps, assign, body, hyi, hRR⟩ := hY' _ ⟨r, x, hok⟩ wr hJs (by simp; omega)
      dsimp only at hyi
      have HLD : Hid ((Instr.loadAt 76 (.pointer (some ⟨g, off + r * 51, none⟩))).run Try.prog wr = .ok (.agg (puC x)) wr) := hld
      have hqI : (0 : Int) ≤ (r : Int) := by omega
      have hrI : (r : Int) < (len : Int) := by omega
      have hwr : IntKind.i64.wrap ((r : Int) - 1) = (r : Int) - 1 := hwm _ (by omega) (by omega)
      have HQ' : Hid ((r : Int) - 1 = (len : Int) - 1 - (m + 1 : Nat)) := by unfold Hid; push_cast; omega
      clear hat hrg hld hbe hbe' hxe hqe HQ hre
      gi_wp2_with (refine wpListIn_loadS rfl 76 _ rfl _ rfl _ HLD.out ?_)
      refine hRR.mono ?_
      rintro e W3 (⟨rfl, hJ3, hk3⟩ | ⟨rfl, hJx3⟩)
      · gi_wp2
        go_roundw
        case rel => exact ⟨m + 1, (r : Int) - 1, by omega, rfl, HQ', by rw [HT.out]; exact hJ3, HK.out.t hk3⟩
        case measure => (simp [intOf] <;> omega)
      · gi_wp2
        refine bodyPost_ret (results_none rfl _ _ _) rfl ?_
        exact ⟨⟨_, rfl⟩, .inr ⟨_, trivial, hJx3⟩⟩
    · obtain rfl : m = len := by omega
      have hqn : ¬ (0 : Int) ≤ q := by omega
      gi_wp2
      go_end0
      first | exact ⟨⟨_, rfl⟩, .inl ⟨_, rfl, hJs⟩⟩ | exact ⟨⟨_, rfl⟩, .inl hJs⟩

end Go.Proofs.Ytpbokenambjclaa
