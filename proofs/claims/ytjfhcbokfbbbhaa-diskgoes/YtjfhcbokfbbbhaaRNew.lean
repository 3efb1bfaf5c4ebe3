/- The document's answer: New. -/
import Derived.Test.YtjfhcbokfbbbhaaRPend
namespace Go.Proofs.Ytjfhcbokfbbbhaa
open Go.RowKit Go.Maps
set_option linter.unusedVariables false

theorem Try.info9 : (Try.prog.info? 9).map (fun i => (i.zero, i.size, i.bytes)) = some (some (.string ⟨#[]⟩), 1, 16) := by kernel_rfl

theorem ref_New_bad (w : World) (n : Int) (h : n < 1 ∨ 1024 < n) : Calls Try.prog 10 #[.int .i64 n] w fun e w' => e = .returned (.tuple #[.pointer none, .int .i64 1]) ∧ w' = w := by
  rcases h with h | h
  · go_enter Try.func10, Try.ntmps10
    go_wp2_with fail
    go_ret2
    exact ⟨rfl, rfl⟩
  · have h' : ¬ n < 1 := by omega
    go_enter Try.func10, Try.ntmps10
    go_wp2_with fail
    go_ret2
    exact ⟨rfl, rfl⟩

/-- Rows that hold other texts are other rows. -/
theorem rows_apart {w : World} {b1 b2 : Nat} {v1 v2 : Value} {n1 n2 : Nat} {x y : Value} (h1 : w.ownsRow b1 9 1 v1 n1 (List.replicate n1 x)) (h2 : w.ownsRow b2 9 1 v2 n2 (List.replicate n2 y)) (p1 : 0 < n1) (p2 : 0 < n2) (hxy : x ≠ y) : v1.ownBlock ≠ v2.ownBlock := by
  rcases h1.2 with ⟨rfl, hn⟩ | ⟨g1, c1, cur1, rfl, _, hg1, _, _, _, ht1⟩
  · omega
  · rcases h2.2 with ⟨rfl, hn⟩ | ⟨g2, c2, cur2, rfl, _, hg2, _, _, _, ht2⟩
    · omega
    · intro e
      simp only [Value.ownBlock, Option.some.injEq] at e
      subst e
      rw [hg1] at hg2
      have hc := (Obj.cells.inj (Option.some.inj hg2)).1
      subst hc
      have e1 := congrArg (fun l : List Value => l[0]?) ht1
      have e2 := congrArg (fun l : List Value => l[0]?) ht2
      simp only [List.getElem?_take, Nat.mul_one, p1, p2, if_true, List.getElem?_replicate] at e1 e2
      rw [e1] at e2
      exact hxy (by simpa using e2)

theorem row_not {w : World} {b1 : Nat} {v1 : Value} {n1 : Nat} {xs : List Value} (h1 : w.ownsRow b1 9 1 v1 n1 xs) {q : Nat} {cs : Array Value} {t : TypeId} {fr : Nat × Nat} (hq : w.heap[q]? = some (.cells cs t fr)) (ht : t ≠ 9) : v1.ownBlock ≠ some q := by
  rcases h1.2 with ⟨rfl, hn⟩ | ⟨g1, c1, cur1, rfl, _, hg1, _, _, _, ht1⟩
  · simp [Value.ownBlock]
  · intro e
    simp only [Value.ownBlock, Option.some.injEq] at e
    subst e
    rw [hg1] at hq
    exact ht (Obj.cells.inj (Option.some.inj hq)).2.1.symm

/-- 'append(v, x)', and what came of it is written out. -/
theorem wpList_push2 {w : World} {ops : Array Oper} {rest : List Oper} {o : Oper} {a : Act} {Q : Exit → Act → World → Prop} (hgd : o.guard = none) (s x : Operand)
    (ho : o.op = .call { callee := .builtin .append, args := #[s, x], argTypes := #[40, 40] }) (base : Nat)
    (v : Value) (n : Nat) (u : Value) (hs : a.eval s = v) (hown : w.ownsRow base 9 1 v n (List.replicate n u)) (g : Nat) (hx : a.eval x = .slice (some ⟨g, 0, none⟩) 1 1) (hc : w.cell? ⟨g, 0, none⟩ = some u) (h1 : u.oneCell' = true)
    (hl : n ≤ 100000) (hbase : base ≤ w.heap.size)
    (h : ∀ g' cap' w', w'.ownsRow base 9 1 (.slice (some ⟨g', 0, none⟩) (n + 1) cap') (n + 1) (List.replicate (n + 1) u) → w.grownBy w' v.ownBlock → wpList Try.prog ops Q rest (a.put o.dst (.slice (some ⟨g', 0, none⟩) (n + 1) cap')) w') : wpList Try.prog ops Q (o :: rest) a w := by
  refine wpList_push hgd s x 40 ho base 9 (.string ⟨#[]⟩) 16 Try.underlying40 Try.info9 rfl (by decide) v (List.replicate n u) hs (by rw [List.length_replicate]; exact hown) g u hx hc h1 (by rw [List.length_replicate]; exact hl) hbase (fun v' w' ho' hg' => ?_)
  have e : List.replicate n u ++ [u] = List.replicate (n + 1) u := by rw [List.replicate_succ']
  rw [e, List.length_replicate] at ho'
  rcases ho'.2 with ⟨rfl, hn⟩ | ⟨g', cap', cur, rfl, r⟩
  · omega
  · exact h g' cap' w' ho' hg'

def boxR (vS vL : Value) : Array Value := #[vS, vL, .int .i64 (-1), .string ⟨#[]⟩, .bool false, .int .i64 0]

theorem strs_of_row {w : World} {b1 : Nat} {v1 : Value} {n1 : Nat} {x : Value} (h1 : w.ownsRow b1 9 1 v1 n1 (List.replicate n1 x)) (p1 : 0 < n1) : ∃ g cap cur, v1 = .slice (some ⟨g, 0, none⟩) n1 cap ∧ n1 ≤ cap ∧ cap ≤ maxLen ∧ b1 ≤ g ∧ w.heap[g]? = some (.cells cur 9 (0, 0)) ∧ ∀ j, j < n1 → cur[j]? = some x := by
  rcases h1.2 with ⟨rfl, hn⟩ | ⟨g, cap, cur, rfl, hb, hg, h2, h3, _, ht⟩
  · omega
  · refine ⟨g, cap, cur, rfl, h2, h3, hb, hg, fun j hj => ?_⟩
    have e := congrArg (fun l : List Value => l[j]?) ht
    simp only [List.getElem?_take, Nat.mul_one, hj, if_true, List.getElem?_replicate] at e
    rw [← Array.getElem?_toList]
    exact e

theorem kept_set {w : World} {b1 : Nat} {v1 : Value} {n1 : Nat} {xs : List Value} (h1 : w.ownsRow b1 9 1 v1 n1 xs) {q : Nat} (hq : v1.ownBlock ≠ some q) (j : Nat) (u : Value) : (w.setCell ⟨q, j, none⟩ u).ownsRow b1 9 1 v1 n1 xs :=
  h1.kept (row := some q) ⟨rfl, rfl, rfl, by simp [World.setCell], fun k hk hn => Below.heap_setCell _ _ _ _ (fun e => hn (by rw [e]))⟩ (.inr hq)

set_option maxRecDepth 100000 in
set_option maxHeartbeats 16000000 in
theorem ref_New (w : World) (n : Int) (h0 : 1 ≤ n) (h1 : n ≤ 1024) : Calls Try.prog 10 #[.int .i64 n] w fun e w' =>
    ∃ q gs gl, e = .returned (.tuple #[ptr q, .int .i64 0]) ∧ RefAt w' q gs gl (freshSt n) ∧ Below w.heap.size w w' ∧ w.heap.size ≤ q ∧ w.heap.size ≤ gs ∧ w.heap.size ≤ gl := by
  obtain ⟨nb, rfl⟩ : ∃ nb : Nat, n = (nb : Int) := ⟨n.toNat, by omega⟩
  have h2 : ¬ (nb : Int) < 1 := by omega
  have h3 : ¬ (1024 : Int) < (nb : Int) := by omega
  obtain ⟨Z, hZ⟩ : ∃ Z, strOfNums zeroB = Z := ⟨_, rfl⟩
  have HZ : Hid (strOfNums zeroB = Z) := hZ
  have hZne : Hid (Value.string Z ≠ Value.string ⟨#[]⟩) := fun e => by
    have e' : Z = ⟨#[]⟩ := by simpa using e
    have := congrArg ByteArray.size e'
    rw [← hZ] at this
    have h5 : (strOfNums zeroB).data.toList.length = 512 := by rw [strOfNums_data, List.length_map]; exact blk_zero.1
    rw [Array.length_toList] at h5
    have h6 : (strOfNums zeroB).size = 512 := h5
    rw [h6] at this
    cases this
  have hcv : ∀ W : World, (convert 33 9 (.slice (some ⟨W.heap.size, 0, none⟩) 512 512)).run Try.prog (W.alloc (.cells (List.replicate 512 (Value.int .u8 0)).toArray 5)) = .ok (.string Z) (W.alloc (.cells (List.replicate 512 (Value.int .u8 0)).toArray 5)) := fun W => by
    rw [← hZ]
    exact (Rd.laid (w := W) (xs := zeroB) (fr := (0, 0)) (by simp [zeroB]) (by unfold maxLen; omega) (by simp only [zeroB, List.map_replicate])).conv
  obtain ⟨wA, hwA⟩ : ∃ wA, w.alloc (.cells (boxR (.slice none 0 0) (.slice none 0 0)) 42) = wA := ⟨_, rfl⟩
  have hmk : (Instr.makeSlice 33 (.int .i64 512) (.int .i64 512)).run Try.prog wA = .ok (.slice (some ⟨wA.heap.size, 0, none⟩) 512 512) (wA.alloc (.cells (List.replicate 512 (Value.int .u8 0)).toArray 5)) := make_bytes wA 512 512 (by rfl) (by omega)
  have hcA := hcv wA
  obtain ⟨wB, hwB⟩ : ∃ wB, wA.alloc (.cells (List.replicate 512 (Value.int .u8 0)).toArray 5) = wB := ⟨_, rfl⟩
  rw [hwB] at hmk hcA
  have hqA : wA.heap[w.heap.size]? = some (.cells (boxR (.slice none 0 0) (.slice none 0 0)) 42 (0, 0)) := by rw [← hwA]; exact heap_alloc_new w _
  have hsA : wA.heap.size = w.heap.size + 1 := by rw [← hwA]; simp
  have hqB : wB.heap[w.heap.size]? = some (.cells (boxR (.slice none 0 0) (.slice none 0 0)) 42 (0, 0)) := by rw [← hwB, Below.heap_alloc _ _ _ (by omega)]; exact hqA
  have hbB : Below w.heap.size w wB := by
    rw [← hwB, ← hwA]
    exact ((Below.refl _ w).alloc (Nat.le_refl _) _).alloc (by simp) _
  have hwA' : w.alloc (.cells #[.slice none 0 0, .slice none 0 0, .int .i64 (-1), .string ⟨#[]⟩, .bool false, .int .i64 0] 42) = wA := hwA
  clear hcv hZ hwA hwB hqA hsA
  go_enter Try.func10, Try.ntmps10
  go_wp2_with fail
  clear hmk hcA hwA'
  go_loopw [17] (fun t wr => ∃ (i : Nat) (vS vL : Value), i ≤ nb ∧ t = .int .i64 i ∧ wr.heap[w.heap.size]? = some (.cells (boxR vS vL) 42 (0, 0)) ∧ wr.ownsRow w.heap.size 9 1 vS i (List.replicate i (.string Z)) ∧ wr.ownsRow w.heap.size 9 1 vL i (List.replicate i (.string ⟨#[]⟩)) ∧ (i = 0 → vS = .slice none 0 0 ∧ vL = .slice none 0 0) ∧ Below w.heap.size w wr) (fun t _ => nb - (RowKit.intOf t).toNat)
  case atStart => exact ⟨0, _, _, Nat.zero_le _, rfl, hqB, World.ownsRow_nil _ _ _ _, World.ownsRow_nil _ _ _ _, fun _ => ⟨rfl, rfl⟩, hbB⟩
  case round =>
    obtain ⟨i, vS, vL, hi, rfl, hq, hoS, hoL, hz, hbr⟩ := hrel
    clear hqB hbB
    by_cases hin : i < nb
    · have hinI : (i : Int) < (nb : Int) := by omega
      have hsz := hbr.size
      have hql : w.heap.size < wr.heap.size := (Array.getElem?_eq_some_iff.1 hq).1
      have q0 : wr.cell? ⟨w.heap.size, 0, none⟩ = some vS := by rw [cell_of_row _ _ 0 _ _ (0, 0) hq]; rfl
      have HC1 : Hid ((wr.alloc (.cells #[.string Z] 9)).cell? ⟨wr.heap.size, 0, none⟩ = some (.string Z)) := by
        unfold Hid; rw [cell_of_row _ _ 0 _ _ (0, 0) (heap_alloc_new wr _)]; rfl
      have HO1 : Hid ((wr.alloc (.cells #[.string Z] 9)).ownsRow w.heap.size 9 1 vS i (List.replicate i (Value.string Z))) := hoS.alloc _
      have hq1 : (wr.alloc (.cells #[.string Z] 9)).heap[w.heap.size]? = some (.cells (boxR vS vL) 42 (0, 0)) := (Below.heap_alloc _ _ _ hql).trans hq
      have HQ1 : Hid _ := hq1
      have HN1 : Hid (vS.ownBlock ≠ some w.heap.size ∧ vL.ownBlock ≠ some w.heap.size) := ⟨row_not hoS hq (by decide), row_not hoL hq (by decide)⟩
      have HLS : Hid (vL.ownBlock = none ∨ vL.ownBlock ≠ vS.ownBlock) := by
        unfold Hid
        rcases Nat.eq_zero_or_pos i with e | e
        · left; rw [(hz e).2]; rfl
        · right; exact fun h => rows_apart hoS hoL e e hZne.out h.symm
      have HL1 : Hid ((wr.alloc (.cells #[.string Z] 9)).ownsRow w.heap.size 9 1 vL i (List.replicate i (Value.string ⟨#[]⟩))) := hoL.alloc _
      have hb1 : Below w.heap.size w (wr.alloc (.cells #[.string Z] 9)) := hbr.alloc hbr.size _
      have HB1 : Hid _ := hb1
      have HSlt : Hid (∀ k, vS.ownBlock = some k → w.heap.size ≤ k) := fun k hk => (World.ownsRow.lt hoS k hk).1
      have HLlt : Hid (∀ k, vL.ownBlock = some k → w.heap.size ≤ k) := fun k hk => (World.ownsRow.lt hoL k hk).1
      have HZ0 : Hid (i = 0 → vL = .slice none 0 0) := fun e => (hz e).2
      clear hq hoS hoL hz hbr hq1 hb1
      go_wp2_with (first
        | (refine wpList_push2 rfl _ _ rfl w.heap.size vS i (.string Z) rfl HO1.out wr.heap.size rfl HC1.out rfl (by omega) (by simp; omega) ?_
           intro g' cap' w' ho' hg'
           have hq' := (hg'.block w.heap.size (by simp; omega) (fun e => HN1.out.1 e.symm)).trans HQ1.out
           have k0 : w'.cell? ⟨w.heap.size, 0, none⟩ = some vS := by rw [cell_of_row _ _ 0 _ _ (0, 0) hq']; rfl
           have kf : w'.frozen? ⟨w.heap.size, 0, none⟩ = false := by simp [World.frozen?, hq']
           have hL' := HL1.out.kept hg' HLS.out
           have hb' := HB1.out.grown hg' (by simp; omega) HSlt.out
           obtain ⟨w3, hw3⟩ : ∃ w3, w'.setCell ⟨w.heap.size, 0, none⟩ (.slice (some ⟨g', 0, none⟩) (i + 1) cap') = w3 := ⟨_, rfl⟩
           have hq3 : w3.heap[w.heap.size]? = some (.cells (boxR (.slice (some ⟨g', 0, none⟩) (i + 1) cap') vL) 42 (0, 0)) := by rw [← hw3, heap_setCell_same _ _ _ _ _ _ hq']; simp [boxR]
           have hS3 : w3.ownsRow w.heap.size 9 1 (.slice (some ⟨g', 0, none⟩) (i + 1) cap') (i + 1) (List.replicate (i + 1) (.string Z)) := by rw [← hw3]; exact kept_set ho' (row_not ho' hq' (by decide)) _ _
           have hL3 : w3.ownsRow w.heap.size 9 1 vL i (List.replicate i (.string ⟨#[]⟩)) := by rw [← hw3]; exact kept_set hL' HN1.out.2 _ _
           have hb3 : Below w.heap.size w w3 := by rw [← hw3]; exact hb'.setCell (Nat.le_refl _) _
           have hs3 : w.heap.size < w3.heap.size := (Array.getElem?_eq_some_iff.1 hq3).1
           have q1 : w3.cell? ⟨w.heap.size, 1, none⟩ = some vL := by rw [cell_of_row _ _ 1 _ _ (0, 0) hq3]; rfl
           have HC2 : Hid ((w3.alloc (.cells #[.string ⟨#[]⟩] 9)).cell? ⟨w3.heap.size, 0, none⟩ = some (.string ⟨#[]⟩)) := (by unfold Hid; rw [cell_of_row _ _ 0 _ _ (0, 0) (heap_alloc_new w3 _)]; rfl)
           have HO2 : Hid ((w3.alloc (.cells #[.string ⟨#[]⟩] 9)).ownsRow w.heap.size 9 1 vL i (List.replicate i (Value.string ⟨#[]⟩))) := hL3.alloc _
           have HQ2 : Hid ((w3.alloc (.cells #[.string ⟨#[]⟩] 9)).heap[w.heap.size]? = _) := (Below.heap_alloc _ _ _ hs3).trans hq3
           have HS2 : Hid ((w3.alloc (.cells #[.string ⟨#[]⟩] 9)).ownsRow w.heap.size 9 1 (.slice (some ⟨g', 0, none⟩) (i + 1) cap') (i + 1) (List.replicate (i + 1) (.string Z))) := hS3.alloc _
           have HB2 : Hid (Below w.heap.size w (w3.alloc (.cells #[.string ⟨#[]⟩] 9))) := hb3.alloc hb3.size _
           have HSS : Hid ((Value.slice (some ⟨g', 0, none⟩) (i + 1) cap').ownBlock = none ∨ (Value.slice (some ⟨g', 0, none⟩) (i + 1) cap').ownBlock ≠ vL.ownBlock) := (by
             unfold Hid
             right
             rcases Nat.eq_zero_or_pos i with e | e
             · rw [HZ0.out e]; simp [Value.ownBlock]
             · exact rows_apart hS3 hL3 (by omega) e hZne.out)
           clear ho' hg' hq' hL' hb' hq3 hS3 hL3 hb3)
        | (refine wpList_push2 rfl _ _ rfl w.heap.size vL i (.string ⟨#[]⟩) rfl HO2.out w3.heap.size rfl HC2.out rfl (by omega) (by simp; omega) ?_
           intro g'' cap'' w'' ho'' hg''
           have hq'' := (hg''.block w.heap.size (by simp; omega) (fun e => HN1.out.2 e.symm)).trans HQ2.out
           have k1 : w''.cell? ⟨w.heap.size, 1, none⟩ = some vL := by rw [cell_of_row _ _ 1 _ _ (0, 0) hq'']; rfl
           have kg : w''.frozen? ⟨w.heap.size, 1, none⟩ = false := by simp [World.frozen?, hq'']
           have hS'' := HS2.out.kept hg'' HSS.out
           have hb'' := HB2.out.grown hg'' (by simp; omega) HLlt.out
           obtain ⟨w5, hw5⟩ : ∃ w5, w''.setCell ⟨w.heap.size, 1, none⟩ (.slice (some ⟨g'', 0, none⟩) (i + 1) cap'') = w5 := ⟨_, rfl⟩
           have HQ5 : Hid (w5.heap[w.heap.size]? = some (.cells (boxR (.slice (some ⟨g', 0, none⟩) (i + 1) cap') (.slice (some ⟨g'', 0, none⟩) (i + 1) cap'')) 42 (0, 0))) := (by unfold Hid; rw [← hw5, heap_setCell_same _ _ _ _ _ _ hq'']; simp [boxR])
           have HS5 : Hid (w5.ownsRow w.heap.size 9 1 (.slice (some ⟨g', 0, none⟩) (i + 1) cap') (i + 1) (List.replicate (i + 1) (.string Z))) := (by unfold Hid; rw [← hw5]; exact kept_set hS'' (row_not hS'' hq'' (by decide)) _ _)
           have HL5 : Hid (w5.ownsRow w.heap.size 9 1 (.slice (some ⟨g'', 0, none⟩) (i + 1) cap'') (i + 1) (List.replicate (i + 1) (.string ⟨#[]⟩))) := (by unfold Hid; rw [← hw5]; exact kept_set ho'' (row_not ho'' hq'' (by decide)) _ _)
           have HB5 : Hid (Below w.heap.size w w5) := (by unfold Hid; rw [← hw5]; exact hb''.setCell (Nat.le_refl _) _)
           clear ho'' hg'' hq'' hS'' hb''))
      go_roundw
      case rel => exact ⟨i + 1, _, _, by omega, by go_num, HQ5.out, HS5.out, HL5.out, fun e => by omega, HB5.out⟩
      case measure => simp [RowKit.intOf]; omega
    · obtain rfl : i = nb := by omega
      obtain ⟨gs, cs, xs, rfl, b1, b2, b3, b4, b5⟩ := strs_of_row hoS (by omega)
      obtain ⟨gl, cl, ys, rfl, d1, d2, d3, d4, d5⟩ := strs_of_row hoL (by omega)
      have hne := rows_apart hoS hoL (by omega) (by omega) hZne.out
      simp only [Value.ownBlock, ne_eq, Option.some.injEq] at hne
      have HF : Hid (RefAt wr w.heap.size gs gl (freshSt (i : Int))) := by
        refine ⟨⟨i, cs, cl, ⟨#[]⟩, rfl, b1, d1, b2, d2, Nat.zero_le _, (fun h => by cases h), ?_⟩, ⟨xs, b4, fun j hj => ?_⟩, ⟨ys, d4, fun j hj => ?_⟩, hne, good_fresh h0 h1⟩
        · rw [hq]; rfl
        · have hj' : j < i := by have : (j : Int) < (i : Int) := hj; omega
          rw [b5 j hj']
          show _ = some (Value.string (strOfNums zeroB))
          rw [HZ.out]
        · have hj' : j < i := by have : (j : Int) < (i : Int) := hj; omega
          rw [d5 j hj']
          rfl
      clear hoS hoL hz hq b4 b5 d4 d5
      go_wp2_with fail
      go_ret2
      exact ⟨_, gs, gl, rfl, HF.out, hbr, Nat.le_refl _, b3, d3⟩

end Go.Proofs.Ytjfhcbokfbbbhaa
