/- The contracts of the document's Add, and of the law's same. -/
import Derived.Test.YtmncjecbgakmfaaRtSetF
import Derived.Deep.AppendSrc
namespace Go.Proofs.Ytmncjecbgakmfaa
open Go.RowKit Go.Maps
set_option linter.unusedVariables false
set_option linter.unusedSimpArgs false
set_option maxRecDepth 100000

theorem cut3_run (w : World) (a : Option Addr) (n c : Nat) (hc : n ≤ c) : (Instr.sliceAt 32 (.slice a n c) none (some (.int .i64 n)) (some (.int .i64 n))).run Try.prog w = .ok (.slice a n n) w := by
  have u := Try.underlying32
  have h2 : (n : Int) ≤ (c : Int) := by omega
  go_simp

/-- One touch more behind a row that is full: a new row. -/
theorem run_append_tc (w : World) (a : Option Addr) (n c : Nat) (A : List Tc) (h : RdZ 5 tcE w (.slice a n c) A) (hlen : A.length ≤ 1000000) (g0 : Nat) (t : Tc) (hg0 : TcAt w g0 t) (ty : TypeId) :
    ∃ v W, (Builtin.append_ #[32, 32] ty #[.slice a n n, .slice (some ⟨g0, 0, none⟩) 1 1]).run Try.prog w = .ok v W ∧ W.ownsRow w.heap.size 24 5 v (A ++ [t]).length ((A ++ [t]).flatMap tcE) ∧ Below w.heap.size w W := by
  obtain ⟨i, hi, hz0, hz1, hz2⟩ := info_parts info_tc
  have hsrc := Src.ofSlice (P := Try.prog) w (size := i.size) (tx := 32) Try.underlying32 ⟨g0, 0, none⟩ 1 1 (tcE t) (by rw [hz1]; rfl) (fun j u hj => by
    have hadd : (⟨g0, 0, none⟩ : Addr).add j = ⟨g0, j, none⟩ := by unfold Addr.add; split <;> simp_all
    rw [hadd, cell_of_row w g0 j _ _ (0, 0) hg0.row, ← hj]
    exact List.getElem?_toArray) (tc_one t)
  obtain ⟨⟨a', c', e, _, _, h4⟩, hzz⟩ := h
  simp only [Value.slice.injEq] at e
  obtain ⟨rfl, rfl, rfl⟩ := e
  have hold : (Builtin.firstCells i.size A.length (.slice a A.length A.length)).run Try.prog w.drew = .ok (A.flatMap tcE).toArray w.drew := by
    rcases Nat.eq_zero_or_pos A.length with h0 | hp
    · obtain rfl : A = [] := List.eq_nil_of_length_eq_zero h0
      cases a with
      | none => simp [Builtin.firstCells]
      | some ad => simpa using run_firstCells_some (P := Try.prog) w.drew i.size 0 ad 0 0 [] (by simp) (fun j u hj => by simp at hj)
    · obtain ⟨b, off, rfl, hb, hcs⟩ := h4 (by intro e; subst e; simp at hp)
      refine run_firstCells_some (P := Try.prog) w.drew i.size A.length ⟨b, off, none⟩ A.length A.length _ (by rw [hz1, flat_len tc_len]) (fun j u hj => ?_)
      have hadd : (⟨b, off, none⟩ : Addr).add j = ⟨b, off + j, none⟩ := by unfold Addr.add; split <;> simp_all
      rw [hadd]
      have hjl := (List.getElem?_eq_some_iff.1 hj).1
      rw [flat_len tc_len] at hjl
      have hik : j / 5 < A.length := (Nat.div_lt_iff_lt_mul (by decide)).2 hjl
      have hx := List.getElem?_eq_getElem hik
      have hmk : j % 5 < (tcE A[j / 5]).length := by rw [tc_len]; exact Nat.mod_lt _ (by decide)
      have hu := List.getElem?_eq_getElem hmk
      have hfl := flat_at 5 tcE tc_len A (j / 5) _ (j % 5) _ hx hu
      rw [Nat.div_add_mod' j 5] at hfl
      rw [hfl] at hj
      cases hj
      have := hcs (j / 5) _ (j % 5) _ hx hu
      rw [Nat.add_assoc, Nat.div_add_mod' j 5] at this
      exact this
  have hr := run_append_grow_src (P := Try.prog) w 32 32 ty 24 i (.agg (tcC tc0)) Try.underlying32 hi hz0 a A.length A.length _ hold _ 1 _ hsrc (by omega) (by omega) (by rw [hz2]; exact growslice_fits (by omega) (by omega))
  obtain ⟨cp, hge, hcm, hce⟩ : ∃ cp, A.length + 1 ≤ cp ∧ cp ≤ maxLen ∧ cp = grownCap w (A.length + 1) A.length 24 := ⟨_, grownCap_ge w _ _ _, grownCap_le_maxLen w _ _ _ (by unfold maxLen; omega), rfl⟩
  rw [← hce] at hr
  have hzl : (Builtin.zeroCells (Value.agg (tcC tc0)).cells (cp - (A.length + 1))).size = (cp - (A.length + 1)) * 5 := by
    rw [show (Value.agg (tcC tc0)).cells = tcC tc0 from rfl, size_zeroCells]; rfl
  have hfl := flat_len tc_len A
  refine ⟨_, _, hr, ?_, (Below.refl _ w).drew.alloc (Nat.le_refl _) _⟩
  have hl1 : ((A ++ [t]).flatMap tcE) = A.flatMap tcE ++ tcE t := by simp
  have hln : (A ++ [t]).length = A.length + 1 := by simp
  rw [hl1, hln]
  refine ⟨by rw [List.length_append, hfl, tc_len]; omega, .inr ⟨w.heap.size, cp, _, rfl, Nat.le_refl _, heap_alloc_new w.drew _, hge, hcm, ?_, ?_⟩⟩
  · rw [Array.size_append, hzl, List.size_toArray, List.length_append, hfl, tc_len]
    have : cp = A.length + 1 + (cp - (A.length + 1)) := by omega
    rw [this, Nat.add_mul, Nat.add_mul, show A.length + 1 + (cp - (A.length + 1)) - (A.length + 1) = cp - (A.length + 1) by omega, Nat.one_mul]
  · rw [Array.toList_append]
    show ((A.flatMap tcE ++ tcE t) ++ _).take _ = A.flatMap tcE ++ tcE t
    rw [List.take_append_of_le_length (by rw [List.length_append, hfl, tc_len]; omega)]
    exact List.take_of_length_le (by rw [List.length_append, hfl, tc_len]; omega)

/-- A row that was, or a new one. -/
def NewOr (w w' : World) (u v : Value) : Prop := u.ownBlock = v.ownBlock ∨ ∀ g, u.ownBlock = some g → w.heap.size ≤ g ∧ g < w'.heap.size
/-- The document's Add, where the touch may be. -/
def raddL (L : List Tc) (t : Tc) : List Tc := if hasL L t = true then L else L ++ [t]

set_option maxHeartbeats 8000000 in
theorem radd_any (w : World) (a : Option Addr) (n c : Nat) (l : List Tc) (h : RdZ 5 tcE w (.slice a n c) l) (t : Tc) (hl : l.length ≤ 1000) : Calls Try.prog 16 #[.slice a n c, .agg (tcC t)] w fun e w' =>
    ∃ u, e = .returned u ∧ RdZ 5 tcE w' u (raddL l t) ∧ Below w.heap.size w w' ∧ NewOr w w' u (.slice a n c) := by
  obtain ⟨hln, hnc, hcm⟩ := h.len
  have hb1 := bel1 w (.cells (tcC t) 24)
  have ht1 := TcAt.laid w t
  obtain ⟨w1, hw1⟩ : ∃ w1, w.alloc (.cells (tcC t) 24) = w1 := ⟨_, rfl⟩
  rw [hw1] at hb1 ht1
  have HR1 : Hid (RdZ 5 tcE w1 (.slice a n c) l) := h.below hb1
  have HB1 : Hid (Below w.heap.size w w1) := hb1
  have HLN : Hid (l.length = n ∧ n ≤ c ∧ n ≤ 1000) := ⟨hln, hnc, by omega⟩
  unfold raddL
  obtain ⟨R, hR⟩ : ∃ R, (if hasL l t = true then l else l ++ [t]) = R := ⟨_, rfl⟩
  rw [hR]
  have HR : Hid (raddL l t = R) := hR
  have hn1 : n ≤ 1000 := by omega
  clear h hln hnc hcm hR hb1 hl
  go_enter Try.func16, Try.ntmps16
  go_wp2
  go_loopg [9] n (fun kx s9 wr => ∃ i : Nat, s9 = .int .i64 i ∧ i ≤ n ∧ n - i ≤ kx ∧ Hid (Below w1.heap.size w1 wr) ∧ Hid (∀ x ∈ l.take i, tcEq t x = false))
  case atStart => exact ⟨0, rfl, Nat.zero_le _, by omega, Below.refl _ _, by simp [Hid]⟩
  case round =>
    obtain ⟨i, rfl, hin, hkx, HW, HQ⟩ := hrel
    have hr := HR1.out.below HW.out
    have htr := ht1.below HW.out
    by_cases hlt : i < n
    · obtain ⟨x, hx⟩ : ∃ x, l[i]? = some x := ⟨_, List.getElem?_eq_getElem (by have := HLN.out; omega)⟩
      have HX : Hid (l[i]? = some x) := hx
      obtain ⟨b0, o0, rfl⟩ : ∃ b0 o0, a = some ⟨b0, o0, none⟩ := by
        obtain ⟨b, off, e, _⟩ := tc_cells hr hx
        exact ⟨b, off, e⟩
      have HLD : Hid _ := tc_load hr hx
      have hbl := bel1 wr (.cells #[.int .i64 x.kind, .int .u32 x.ino, .string x.name, .int .i64 x.lo, .int .i64 x.hi] 24)
      have hiI : (i : Int) < (n : Int) := by omega
      have hib : (i : Int) + 1 ≤ 9223372036854775807 := by omega
      obtain ⟨w5, hw5⟩ : ∃ w5, wr.alloc (.cells #[.int .i64 x.kind, .int .u32 x.ino, .string x.name, .int .i64 x.lo, .int .i64 x.hi] 24) = w5 := ⟨_, rfl⟩
      have ht5 : TcAt w5 wr.heap.size x := by rw [← hw5]; exact TcAt.laid wr x
      rw [hw5] at hbl
      have htt := htr.below hbl
      have HL5 : Hid _ := ht5.load
      have HT5 : Hid _ := htt.load
      have HW5 : Hid (Below w1.heap.size w1 w5) := thenB HW.out hbl
      have heq := fun W => eq_tc W x t
      have hcomm : tcEq x t = tcEq t x := by
        rw [Bool.eq_iff_iff, tcEq_iff, tcEq_iff]; exact eq_comm
      rw [hcomm] at heq
      clear hx hr htr hbl ht5 htt hcomm
      cases hq : tcEq t x with
      | true =>
        rw [hq] at heq
        go_wp2_with (first | (refine wpList_loadG rfl 24 _ rfl _ rfl _ HLD.out ?_) | (refine wpList_loadG rfl 24 _ rfl _ rfl _ HL5.out ?_) | (refine wpList_loadG rfl 24 _ rfl _ rfl _ HT5.out ?_))
        go_ret
        have hh : hasL l t = true := by
          unfold hasL
          exact List.any_eq_true.2 ⟨x, List.mem_of_getElem? HX.out, hq⟩
        refine ⟨_, rfl, ?_, HB1.out.trans (HW5.out.mono HB1.out.size), .inl rfl⟩
        rw [← HR.out, raddL, if_pos hh]
        exact HR1.out.below HW5.out
      | false =>
        rw [hq] at heq
        go_wp2_with (first | (refine wpList_loadG rfl 24 _ rfl _ rfl _ HLD.out ?_) | (refine wpList_loadG rfl 24 _ rfl _ rfl _ HL5.out ?_) | (refine wpList_loadG rfl 24 _ rfl _ rfl _ HT5.out ?_))
        go_roundg (n - (i + 1))
        case measure => omega
        case rel =>
          refine ⟨i + 1, by rw [show ((i : Int) + 1) = ((i + 1 : Nat) : Int) by omega], by omega, by omega, HW5.out, fun y hy => ?_⟩
          rw [take_next HX.out] at hy
          rcases List.mem_append.1 hy with hy | hy
          · exact HQ.out y hy
          · rw [List.mem_singleton] at hy; rw [hy]; exact hq
    · obtain rfl : n = i := by omega
      have hno : hasL l t = false := by
        unfold hasL
        rw [List.any_eq_false]
        intro y hy
        have := HQ.out y (by rw [List.take_of_length_le (by have := HLN.out; omega)]; exact hy)
        rw [this]; simp
      have HRR : Hid (R = l ++ [t]) := by unfold Hid; rw [← HR.out, raddL, if_neg (by rw [hno]; simp)]
      have hbs := slice_tc t
      have hcut := fun W => cut3_run W a n c HLN.out.2.1
      clear hkx hin hlt HQ hno HR
      have hS : ∀ W, Below wr.heap.size wr W → TcAt W w.heap.size t := fun W hW => htr.below hW
      go_wp2_with fail
      refine wp_region_noPanic ?_
      refine wp_region_held_drew (S := fun W => Below wr.heap.size wr W) (by kernel_rfl) (Below.refl _ _).drew (fun hHeld => ?_)
      refine wpAnyH_take (i := 0) (v := .slice a n c) rfl (by kernel_rfl) (by kernel_rfl) (by kernel_rfl) (fun _ _ _ h => h) (Or.inl ⟨by rfl, fun W hSw => by (try dsimp only at hSw); go_simp⟩) (by assumption) ?_
      try simp only [List.getElem_toArray, List.getElem_cons_zero, List.getElem_cons_succ, Act.put, List.setIfInBounds_toArray, List.set_cons_zero, List.set_cons_succ]
      refine wpAnyH_take (i := 1) (v := .slice a n c) rfl (by kernel_rfl) (by kernel_rfl) (by kernel_rfl) (fun _ _ _ h => h) (Or.inl ⟨by rfl, fun W hSw => by (try dsimp only at hSw); go_simp⟩) (by assumption) ?_
      try simp only [List.getElem_toArray, List.getElem_cons_zero, List.getElem_cons_succ, Act.put, List.setIfInBounds_toArray, List.set_cons_zero, List.set_cons_succ]
      refine wpAnyH_take (i := 2) (v := .int .i64 n) rfl (by kernel_rfl) (by kernel_rfl) (by kernel_rfl) (fun _ _ _ h => h) (Or.inl ⟨by rfl, fun W hSw => by (try dsimp only at hSw); go_simp⟩) (by assumption) ?_
      try simp only [List.getElem_toArray, List.getElem_cons_zero, List.getElem_cons_succ, Act.put, List.setIfInBounds_toArray, List.set_cons_zero, List.set_cons_succ]
      refine wpAnyH_take (i := 3) (v := .slice a n c) rfl (by kernel_rfl) (by kernel_rfl) (by kernel_rfl) (fun _ _ _ h => h) (Or.inl ⟨by rfl, fun W hSw => by (try dsimp only at hSw); go_simp⟩) (by assumption) ?_
      try simp only [List.getElem_toArray, List.getElem_cons_zero, List.getElem_cons_succ, Act.put, List.setIfInBounds_toArray, List.set_cons_zero, List.set_cons_succ]
      refine wpAnyH_take (i := 4) (v := .int .i64 n) rfl (by kernel_rfl) (by kernel_rfl) (by kernel_rfl) (fun _ _ _ h => h) (Or.inl ⟨by rfl, fun W hSw => by (try dsimp only at hSw); go_simp⟩) (by assumption) ?_
      try simp only [List.getElem_toArray, List.getElem_cons_zero, List.getElem_cons_succ, Act.put, List.setIfInBounds_toArray, List.set_cons_zero, List.set_cons_succ]
      refine wpAnyH_take (i := 5) (v := .slice a n n) rfl (by kernel_rfl) (by kernel_rfl) (by kernel_rfl) (fun _ _ _ h => h) (Or.inl ⟨by rfl, fun W hSw => by (try dsimp only at hSw); have hk := hcut W; go_simp⟩) (by assumption) ?_
      try simp only [List.getElem_toArray, List.getElem_cons_zero, List.getElem_cons_succ, Act.put, List.setIfInBounds_toArray, List.set_cons_zero, List.set_cons_succ]
      refine wpAnyH_take (i := 6) (v := .agg (tcC t)) rfl (by kernel_rfl) (by kernel_rfl) (by kernel_rfl) (fun _ _ _ h => h) (yields_load (by rfl) _ _ rfl _ rfl _ (fun W h => (hS W h).load)) (by assumption) ?_
      try simp only [List.getElem_toArray, List.getElem_cons_zero, List.getElem_cons_succ, Act.put, List.setIfInBounds_toArray, List.set_cons_zero, List.set_cons_succ]
      refine wpAnyH_ready (rs := [7]) (by kernel_rfl) (by simp) ?_
      refine AllReadyH.cons rfl (fun K hK => ?_) AllReadyH.nil
      rw [if_pos (by rfl)]
      refine wp_buildS 32 1 _ rfl #[(0, .agg (tcC t))] (by kernel_rfl) (hbs wr.drew) ?_
      have hb6 : Below wr.heap.size wr (wr.drew.alloc (.cells (tcC t) 24)) := (Below.refl _ wr).drew.alloc (Nat.le_refl _) _
      refine hK.out _ _ hb6 (fun hHeld2 => ?_)
      clear hK K
      try simp only [List.getElem_toArray, List.getElem_cons_zero, List.getElem_cons_succ, Act.put, List.setIfInBounds_toArray, List.set_cons_zero, List.set_cons_succ]
      have ht6 : TcAt (wr.drew.alloc (.cells (tcC t) 24)) wr.heap.size t := TcAt.laid wr.drew t
      obtain ⟨w6, hw6⟩ : ∃ w6, (wr.drew.alloc (.cells (tcC t) 24)) = w6 := ⟨_, rfl⟩
      rw [hw6] at hb6 ht6 hHeld2 ⊢
      have hr6 := hr.below hb6
      refine wpAnyH_ready (rs := [8]) (by kernel_rfl) (by simp) ?_
      refine AllReadyH.cons rfl (fun K hK => ?_) AllReadyH.nil
      rw [if_pos (by rfl)]
      obtain ⟨v7, w7, hrun, h7o, h7b⟩ := run_append_tc w6 a n c l hr6 (by have := HLN.out; omega) wr.heap.size t ht6 32
      refine wp_app _ _ 32 rfl _ _ rfl rfl hrun ?_
      refine hK.out _ _ (hb6.trans (h7b.mono hb6.size)) (fun hHeld4 => ?_)
      clear hK K
      try simp only [List.getElem_toArray, List.getElem_cons_zero, List.getElem_cons_succ, Act.put, List.setIfInBounds_toArray, List.set_cons_zero, List.set_cons_succ]
      refine wpAnyH_take (i := 9) (v := v7) rfl (by kernel_rfl) (by kernel_rfl) (by kernel_rfl) (fun _ _ _ h => h) (Or.inl ⟨by rfl, fun W hSw => by (try dsimp only at hSw); go_simp⟩) (by assumption) ?_
      try simp only [List.getElem_toArray, List.getElem_cons_zero, List.getElem_cons_succ, Act.put, List.setIfInBounds_toArray, List.set_cons_zero, List.set_cons_succ]
      refine wpAnyH_done (by kernel_rfl) ?_ _
      refine NoPanic.normal ?_
      go_wp2_with fail
      go_ret
      have hB6 : Below w.heap.size w w6 := (HB1.out.trans (HW.out.mono HB1.out.size)).trans (hb6.mono (by have := HB1.out.size; have := HW.out.size; omega))
      refine ⟨_, rfl, by rw [HRR.out]; exact rdZ_own tc_len h7o, hB6.trans (h7b.mono hB6.size), .inr fun g hg => ?_⟩
      have hq := own_row h7o hg
      obtain ⟨cs, e1⟩ := hq
      refine ⟨?_, (Array.getElem?_eq_some_iff.1 e1).1⟩
      obtain ⟨_, ⟨e, _⟩ | ⟨g', cap, cur, e, h3, _⟩⟩ := h7o
      · rw [e] at hg; cases hg
      · rw [e] at hg; cases hg
        have := hB6.size
        show w.heap.size ≤ g'
        omega

/-- What is left of a row of touches that is written over from the first one on. -/
def LeftT (w : World) (a : Option Addr) (n i : Nat) (L : List Tc) : Prop :=
  0 < n → ∃ g cs, a = some ⟨g, 0, none⟩ ∧ w.heap[g]? = some (.cells cs 24 (0, 0)) ∧ ∀ j x k u, i ≤ j → L[j]? = some x → (tcE x)[k]? = some u → cs[j * 5 + k]? = some u

set_option maxHeartbeats 8000000 in
theorem same_any {B : Nat} {w0 w : World} {p b : Nat} {L : List Tc} {G : List Nat} (h : SetF B w0 w p b L G) (a : Option Addr) (n c : Nat) (hr : RdZ 5 tcE w (.slice a n c) L) (hl : L.length ≤ 1000) : Calls Try.prog 18 #[ptr p, .slice a n c] w fun e w' => e = .returned (.bool true) ∧ Below w.heap.size w w' := by
  obtain ⟨hln, _, _⟩ := hr.len
  have hal := h.all (by omega)
  have hmk := fun W (hb : Below w.heap.size w W) => (h.below hb).mark
  rw [hln] at hal
  have hn1 : n ≤ 1000 := by omega
  have HR : Hid (RdZ 5 tcE w (.slice a n c) L) := hr
  have HLN : Hid (L.length = n) := hln
  unfold ptr at *
  clear h hr
  go_enter Try.func18, Try.ntmps18
  go_wp2_with fail
  refine hal.mono ?_
  rintro e w1 ⟨u, rfl, ho1, hb1⟩
  have hm1 := hmk w1 hb1
  rw [hln] at hm1
  have HO : Hid (LeftT w1 ((match u with | .slice a _ _ => a | _ => none)) n 0 L ∧ ∀ g, u.ownBlock = some g → w.heap.size ≤ g) := by
    obtain ⟨h1, ⟨rfl, h2⟩ | ⟨g, cap, cur, rfl, h3, h4, h5, h6, h7, h8⟩⟩ := ho1
    · exact ⟨fun hp => by omega, fun g hg => by cases hg⟩
    · refine ⟨fun _ => ⟨g, cur, rfl, h4, fun j x k u hj hx hu => ?_⟩, fun g' hg => by cases hg; exact h3⟩
      have e := flat_at 5 tcE tc_len L j x k u hx hu
      rw [← h8, List.getElem?_take] at e
      split at e
      · rw [← Array.getElem?_toList]; exact e
      · cases e
  obtain ⟨a1, c1, rfl⟩ := row_slice ho1
  dsimp only at HO
  have HB1 : Hid (Below w.heap.size w w1) := hb1
  clear ho1 hb1 hmk hal hln
  go_wp2_with fail
  refine hm1.mono ?_
  rintro e w2 ⟨rfl, rfl⟩
  go_wp2
  go_loopg [23] n (fun kx s23 wr => ∃ i : Nat, s23 = .int .i64 i ∧ i ≤ n ∧ n - i ≤ kx ∧ Hid (Below w.heap.size w wr) ∧ Hid (LeftT wr a1 n i L))
  case atStart => exact ⟨0, rfl, Nat.zero_le _, by omega, HB1.out, HO.out.1⟩
  case round =>
    obtain ⟨i, rfl, hin, hkx, HW, HT⟩ := hrel
    by_cases hlt : i < n
    · obtain ⟨x, hx⟩ : ∃ x, L[i]? = some x := ⟨_, List.getElem?_eq_getElem (by have := HLN.out; omega)⟩
      have HX : Hid (L[i]? = some x) := hx
      obtain ⟨b0, o0, rfl, d0, d1, d2, d3, d4⟩ := tc_cells (HR.out.below HW.out) hx
      obtain ⟨g, cs, rfl, hg, hcs⟩ := HT.out (by omega)
      have cell : ∀ k u, (tcE x)[k]? = some u → wr.cell? ⟨g, i * 5 + k, none⟩ = some u := fun k u hu => by
        rw [cell_of_row _ _ _ _ _ (0, 0) hg]; exact hcs i x k u (Nat.le_refl _) hx hu
      have f0 : wr.cell? ⟨g, i * 5, none⟩ = some (.int .i64 x.kind) := cell 0 _ rfl
      have f1 : wr.cell? ⟨g, i * 5 + 1, none⟩ = some (.int .u32 x.ino) := cell 1 _ rfl
      have f2 : wr.cell? ⟨g, i * 5 + 2, none⟩ = some (.string x.name) := cell 2 _ rfl
      have f3 : wr.cell? ⟨g, i * 5 + 3, none⟩ = some (.int .i64 x.lo) := cell 3 _ rfl
      have f4 : wr.cell? ⟨g, i * 5 + 4, none⟩ = some (.int .i64 x.hi) := cell 4 _ rfl
      have fz := frozen_of_row wr g (i * 5 + 1) _ _ hg
      have HG : Hid (wr.heap[g]? = some (.cells cs 24 (0, 0))) := hg
      have HC : Hid (∀ j x k u, i ≤ j → L[j]? = some x → (tcE x)[k]? = some u → cs[j * 5 + k]? = some u) := hcs
      have hgB : Hid (w.heap.size ≤ g) := HO.out.2 g rfl
      have heq := fun W => neq_tcs W x.kind x.ino x.lo x.hi x.kind x.ino x.lo x.hi x.name x.name
      rw [tcEq_self] at heq
      have hiI : (i : Int) < (n : Int) := by omega
      have hib : (i : Int) + 1 ≤ 9223372036854775807 := by omega
      clear hx cell hg hcs HT
      go_wp2
      go_quiet (fail)
      go_wp2
      go_roundg (n - (i + 1))
      case measure => omega
      case rel =>
        refine ⟨i + 1, by rw [show ((i : Int) + 1) = ((i + 1 : Nat) : Int) by omega], by omega, by omega, (HW.out.trans (belowQ _ _ _)).setCell hgB.out _, fun hp => ?_⟩
        refine ⟨g, _, rfl, heap_setCell_same (wr.drewN _) g _ _ _ _ HG.out, fun j y k v hj hy hv => ?_⟩
        have h1 := HC.out j y k v (by omega) hy hv
        have hk : k < 5 := by have := (List.getElem?_eq_some_iff.1 hv).1; rwa [tc_len] at this
        rw [Array.getElem?_setIfInBounds_ne (by omega)]
        exact h1
    · obtain rfl : n = i := by omega
      go_wp2
      go_ret
      exact ⟨rfl, HW.out⟩

end Go.Proofs.Ytmncjecbgakmfaa
