/- The contract of the history's Meets. -/
import Derived.Test.YtmncjecbgakmfaaRtMeets
namespace Go.Proofs.Ytmncjecbgakmfaa
open Go.RowKit
set_option linter.unusedVariables false
set_option linter.unusedSimpArgs false
set_option maxRecDepth 100000

/-- Those above a version stand behind those that are not. -/
theorem drop_beh : ∀ {K : List De}, (K.map De.ver).Pairwise (· < ·) → ∀ u, K.drop (behN K u) = K.filter (fun d => decide (u < d.ver))
  | [], _, u => rfl
  | d :: K, h, u => by
    rw [List.map_cons, List.pairwise_cons] at h
    by_cases hd : d.ver ≤ u
    · have e : behN (d :: K) u = behN K u + 1 := by
        unfold behN; rw [List.countP_cons_of_pos (by simpa using hd)]
      rw [e, List.drop_succ_cons, drop_beh h.2 u, List.filter_cons_of_neg (by simpa using hd)]
    · have hall : ∀ x ∈ K, u < x.ver := fun x hx => by
        have := h.1 x.ver (List.mem_map.2 ⟨x, hx, rfl⟩)
        omega
      have e : behN (d :: K) u = 0 := by
        unfold behN
        rw [List.countP_eq_zero]
        intro x hx
        rcases List.mem_cons.1 hx with rfl | hx
        · simpa using hd
        · have := hall x hx; simp; omega
      rw [e, List.drop_zero, List.filter_eq_self.2 (fun x hx => by
        rcases List.mem_cons.1 hx with rfl | hx
        · simp; omega
        · simpa using hall x hx)]
theorem beh_le (K : List De) (u : Int) : behN K u ≤ K.length := List.countP_le_length
/-- Whether some of what was read meets something that was written by a version above one. -/
def meetsV (V : List (Int × List Tc)) (since : Int) (rd : List Tc) : Bool := V.any (fun p => decide (since < p.1) && meetsD p.2 rd)
theorem meets_V {K : List De} (h : (K.map De.ver).Pairwise (· < ·)) (since : Int) (rd : List Tc) : (K.drop (behN K since)).any (fun d => meetsD d.l rd) = meetsV (K.map De.plain) since rd := by
  rw [drop_beh h since, List.any_filter, meetsV, List.any_map]
  rfl

theorem de_load {w : World} {a : Option Addr} {n cap : Nat} {l : List De} (h : RdZ 2 deE w (.slice a n cap) l) {i : Nat} {x : De} (hx : l[i]? = some x) :
    ∃ b off, a = some ⟨b, off, none⟩ ∧ (Instr.loadAt 69 (.pointer (some ⟨b, off + i * 2, none⟩))).run Try.prog w = .ok (.agg #[.int .u64 x.ver, x.v]) w := by
  obtain ⟨⟨a', c, e, h1, h2, h3⟩, _⟩ := h
  simp only [Value.slice.injEq] at e
  obtain ⟨rfl, rfl, rfl⟩ := e
  obtain ⟨b, off, rfl, hlt, hc⟩ := h3 (by intro e; subst e; simp at hx)
  have hr : w.rangeAt b (off + i * 2) (deE x) := fun j u hu => hc i x j u hx hu
  exact ⟨b, off, rfl, run_loadAt_mid (P := Try.prog) w b (off + i * 2) 69 _ _ hr Try.underlying69 rfl (by kernel_rfl)⟩

theorem add_none (b off j : Nat) : (⟨b, off, none⟩ : Addr).add j = ⟨b, off + j, none⟩ := by unfold Addr.add; split <;> simp_all
/-- 's[k:]' of a row of deeds. -/
theorem cut_from {a : Option Addr} {n c : Nat} {K : List De} {w : World} (h : RdZ 2 deE w (.slice a n c) K) {k : Nat} (hk : k ≤ n) :
    ∃ a' c', (∀ W, (Instr.sliceAt 65 (.slice a n c) (some (.int .i64 k)) none none).run Try.prog W = .ok (.slice a' (n - k) c') W) ∧ ∀ W, RdZ 2 deE W (.slice a n c) K → RdZ 2 deE W (.slice a' (n - k) c') (K.drop k) := by
  obtain ⟨hl, hnc, hcm⟩ := h.len
  unfold maxLen at hcm
  have hzero := h.2
  have u := Try.underlying65
  have h1 : (k : Int) ≤ (n : Int) := by omega
  have h2 : (n : Int) ≤ (c : Int) := by omega
  have h3 : (k : Int) ≤ (c : Int) := by omega
  have h0 : ¬ (k : Int) < 0 := by omega
  by_cases hc : c = k
  · have hn : n = k := by omega
    subst hc hn
    refine ⟨a, 0, fun W => ?_, fun W hW => ?_⟩
    · have e1 : n - n = 0 := by omega
      rw [e1]
      clear h hzero
      go_simp
    · have e1 : n - n = 0 := by omega
      rw [e1, List.drop_of_length_le (by omega)]
      exact ⟨⟨a, 0, rfl, Nat.le_refl _, by simp, fun h => absurd rfl h⟩, fun q hq => by simp only [Value.slice.injEq] at hq; exact hq.2.2.symm⟩
  · cases a with
    | none =>
      exfalso
      have hK : K = [] := by
        cases K with
        | nil => rfl
        | cons y r => obtain ⟨⟨a', c', e, _, _, h4⟩, _⟩ := h; simp only [Value.slice.injEq] at e; obtain ⟨b, off, e2, _⟩ := h4 (by simp); rw [← e.1] at e2; cases e2
      subst hK
      simp at hl
      subst hl
      have := hzero c rfl
      omega
    | some ad =>
      refine ⟨some (ad.add (k * 2)), c - k, fun W => ?_, fun W hW => ?_⟩
      · clear h hzero
        go_simp
      · obtain ⟨⟨a', c', e, _, _, h4⟩, _⟩ := hW
        simp only [Value.slice.injEq] at e
        obtain ⟨rfl, _, rfl⟩ := e
        have hdl : (K.drop k).length = n - k := by rw [List.length_drop]; omega
        refine ⟨⟨some (ad.add (k * 2)), c - k, by rw [hdl], by rw [hdl]; omega, by unfold maxLen; omega, fun hne => ?_⟩, fun q hq => by cases hq⟩
        obtain ⟨b, off, e, hlt, hcs⟩ := h4 (by intro e; subst e; simp at hne)
        cases e
        refine ⟨b, off + k * 2, by rw [add_none], hlt, fun i x j v hi hj => ?_⟩
        rw [List.getElem?_drop] at hi
        have := hcs (k + i) x j v hi hj
        rw [show off + k * 2 + i * 2 + j = off + (k + i) * 2 + j from by rw [Nat.add_mul]; omega]
        exact this

set_option maxHeartbeats 8000000 in
theorem meets_any {w : World} {p : Nat} {hv : Value} {K : List De} (h : HistAt w p hv K) (hK : K.length ≤ 1000) (since : Int) (a : Option Addr) (n c : Nat) (rd : List Tc) (hr : RdZ 5 tcE w (.slice a n c) rd) (hn : n ≤ 1000000) :
    Calls Try.prog 22 #[ptr p, .int .u64 since, .slice a n c] w fun e w' => e = .returned (.bool (meetsV (K.map De.plain) since rd)) ∧ Below w.heap.size w w' := by
  rw [← meets_V h.rise since rd]
  obtain ⟨ah, ch, rfl⟩ := own_shape h.own
  obtain ⟨nk, hnk⟩ : ∃ nk, K.length = nk := ⟨_, rfl⟩
  have hrd := h.rd
  rw [hnk] at hrd
  obtain ⟨k, hk⟩ : ∃ k, behN K since = k := ⟨_, rfl⟩
  have hkl : k ≤ nk := by rw [← hk, ← hnk]; exact beh_le K since
  obtain ⟨a', c', hcut, hrcut⟩ := cut_from hrd hkl
  have HH : Hid (HistAt w p (.slice ah K.length ch) K) := h
  have hq1 : ∀ W, Below w.heap.size w W → (Instr.loadAt 65 (.pointer (some ⟨p, 0, none⟩))).run Try.prog W = .ok (.slice ah nk ch) W := fun W hW => by
    have c := (HH.out.below hW).c0
    rw [hnk] at c
    have u := Try.underlying65
    go_simp
  have hbe : ∀ W, Below w.heap.size w W → Calls Try.prog 33 #[ptr p, .int .u64 since] W fun e w' => e = .returned (.int .i64 (k : Nat)) ∧ Below W.heap.size W w' := fun W hW => by
    have := behind_any (HH.out.below hW) since (by omega)
    rw [hk] at this
    exact this
  obtain ⟨m, hm⟩ : ∃ m, nk - k = m := ⟨_, rfl⟩
  rw [hm] at hcut hrcut
  have HRC : Hid (∀ W, RdZ 2 deE W (.slice ah nk ch) K → RdZ 2 deE W (.slice a' m c') (K.drop k)) := hrcut
  have HRR : Hid (RdZ 2 deE w (.slice ah nk ch) K) := hrd
  have HD : Hid ((K.drop k).length = m ∧ m ≤ 1000) := ⟨by rw [List.length_drop]; omega, by omega⟩
  have HR : Hid (RdZ 5 tcE w (.slice a n c) rd) := hr
  have HN : Hid (n ≤ 1000000) := hn
  have hm1 : m ≤ 1000 := by omega
  rw [hk]
  obtain ⟨F, hF⟩ : ∃ F, (K.drop k).any (fun d => meetsD d.l rd) = F := ⟨_, rfl⟩
  rw [hF]
  have HF : Hid ((K.drop k).any (fun d => meetsD d.l rd) = F) := hF
  unfold ptr at *
  clear h hrd hrcut hr hF hn hkl hk hnk hK hm
  go_enter Try.func22, Try.ntmps22
  go_wp2_with fail
  refine wp_region_noPanic ?_
  refine wp_region_held_drew (S := fun W => Below w.heap.size w W) (by kernel_rfl) (Below.refl _ _).drew (fun hHeld => ?_)
  refine wpAnyH_take (i := 0) (v := .pointer (some ⟨p, 0, none⟩)) rfl (by kernel_rfl) (by kernel_rfl) (by kernel_rfl) (fun _ _ _ h => h) (Or.inl ⟨by rfl, fun W hSw => by (try dsimp only at hSw); go_simp⟩) (by assumption) ?_
  try simp only [List.getElem_toArray, List.getElem_cons_zero, List.getElem_cons_succ, Act.put, List.setIfInBounds_toArray, List.set_cons_zero, List.set_cons_succ]
  refine wpAnyH_take (i := 1) (v := .pointer (some ⟨p, 0, none⟩)) rfl (by kernel_rfl) (by kernel_rfl) (by kernel_rfl) (fun _ _ _ h => h) (Or.inl ⟨by rfl, fun W hSw => by (try dsimp only at hSw); go_simp⟩) (by assumption) ?_
  try simp only [List.getElem_toArray, List.getElem_cons_zero, List.getElem_cons_succ, Act.put, List.setIfInBounds_toArray, List.set_cons_zero, List.set_cons_succ]
  refine wpAnyH_take (i := 2) (v := .pointer (some ⟨p, 0, none⟩)) rfl (by kernel_rfl) (by kernel_rfl) (by kernel_rfl) (fun _ _ _ h => h) (Or.inl ⟨by rfl, fun W hSw => by (try dsimp only at hSw); go_simp⟩) (by assumption) ?_
  try simp only [List.getElem_toArray, List.getElem_cons_zero, List.getElem_cons_succ, Act.put, List.setIfInBounds_toArray, List.set_cons_zero, List.set_cons_succ]
  refine wpAnyH_take (i := 3) (v := .slice ah nk ch) rfl (by kernel_rfl) (by kernel_rfl) (by kernel_rfl) (fun _ _ _ h => h) (yields_load (by rfl) _ _ rfl _ rfl _ hq1) (by assumption) ?_
  try simp only [List.getElem_toArray, List.getElem_cons_zero, List.getElem_cons_succ, Act.put, List.setIfInBounds_toArray, List.set_cons_zero, List.set_cons_succ]
  refine wpAnyH_take (i := 4) (v := .pointer (some ⟨p, 0, none⟩)) rfl (by kernel_rfl) (by kernel_rfl) (by kernel_rfl) (fun _ _ _ h => h) (Or.inl ⟨by rfl, fun W hSw => by (try dsimp only at hSw); go_simp⟩) (by assumption) ?_
  try simp only [List.getElem_toArray, List.getElem_cons_zero, List.getElem_cons_succ, Act.put, List.setIfInBounds_toArray, List.set_cons_zero, List.set_cons_succ]
  refine wpAnyH_take (i := 5) (v := .int .u64 since) rfl (by kernel_rfl) (by kernel_rfl) (by kernel_rfl) (fun _ _ _ h => h) (Or.inl ⟨by rfl, fun W hSw => by (try dsimp only at hSw); go_simp⟩) (by assumption) ?_
  try simp only [List.getElem_toArray, List.getElem_cons_zero, List.getElem_cons_succ, Act.put, List.setIfInBounds_toArray, List.set_cons_zero, List.set_cons_succ]
  refine wpAnyH_take (i := 9) (v := .int .i64 0) rfl (by kernel_rfl) (by kernel_rfl) (by kernel_rfl) (fun _ _ _ h => h) (Or.inl ⟨by rfl, fun W hSw => by (try dsimp only at hSw); go_simp⟩) (by assumption) ?_
  try simp only [List.getElem_toArray, List.getElem_cons_zero, List.getElem_cons_succ, Act.put, List.setIfInBounds_toArray, List.set_cons_zero, List.set_cons_succ]
  refine wpAnyH_ready (rs := [6]) (by kernel_rfl) (by simp) ?_
  refine AllReadyH.cons rfl (fun K hK => ?_) AllReadyH.nil
  go_simp
  go_wp2_with (go_at_call 33; refine (hbe w.drew (Below.refl _ _).drew).mono ?_; rintro e w1 ⟨rfl, hb1⟩)
  have hB1 : Below w.heap.size w w1 := (Below.refl _ w).drew.trans (hb1.mono (Nat.le_refl _))
  refine hK.out _ _ hB1 (fun hHeld2 => ?_)
  clear hK K
  refine wpAnyH_take (i := 7) (v := .slice a' m c') rfl (by kernel_rfl) (by kernel_rfl) (by kernel_rfl) (fun _ _ _ h => h) (Or.inl ⟨by rfl, fun W hSw => by (try dsimp only at hSw); have hk := hcut W; go_simp⟩) (by assumption) ?_
  try simp only [List.getElem_toArray, List.getElem_cons_zero, List.getElem_cons_succ, Act.put, List.setIfInBounds_toArray, List.set_cons_zero, List.set_cons_succ]
  refine wpAnyH_take (i := 8) (v := .int .i64 m) rfl (by kernel_rfl) (by kernel_rfl) (by kernel_rfl) (fun _ _ _ h => h) (Or.inl ⟨by rfl, fun W hSw => by (try dsimp only at hSw); go_simp⟩) (by assumption) ?_
  try simp only [List.getElem_toArray, List.getElem_cons_zero, List.getElem_cons_succ, Act.put, List.setIfInBounds_toArray, List.set_cons_zero, List.set_cons_succ]
  refine wpAnyH_done (by kernel_rfl) ?_ _
  refine NoPanic.normal ?_
  clear hHeld hHeld2 hb1 hcut hbe hq1
  have HB1 : Hid (Below w.heap.size w w1) := hB1
  clear hB1
  go_wp2
  go_loopg [18] m (fun kx s18 wr => ∃ i : Nat, s18 = .int .i64 i ∧ i ≤ m ∧ m - i ≤ kx ∧ Hid (Below w.heap.size w wr) ∧ Hid (∀ y ∈ (K.drop k).take i, meetsD y.l rd = false))
  case atStart => exact ⟨0, rfl, Nat.zero_le _, by omega, HB1.out, by simp [Hid]⟩
  case round =>
    obtain ⟨i, rfl, hin, hkx, HW, HQ⟩ := hrel
    by_cases hlt : i < m
    · obtain ⟨⟨ver, dv, dl⟩, hy⟩ : ∃ y, (K.drop k)[i]? = some y := ⟨_, List.getElem?_eq_getElem (by have := HD.out; omega)⟩
      have HY : Hid ((K.drop k)[i]? = some ⟨ver, dv, dl⟩) := hy
      have hok := HH.out.each _ (List.mem_of_mem_drop (List.mem_of_getElem? hy))
      obtain ⟨av, cv, e⟩ := row_slice hok.own
      dsimp only at e
      subst e
      obtain ⟨b0, o0, rfl, hld⟩ := de_load (HRC.out wr (HRR.out.below HW.out)) hy
      dsimp only at hld
      have HLD : Hid _ := hld
      have hiI : (i : Int) < (m : Int) := by omega
      have hib : (i : Int) + 1 ≤ 1001 := by omega
      obtain ⟨nv, hnv⟩ : ∃ nv, dl.length = nv := ⟨_, rfl⟩
      have hnv1 : nv ≤ 1000000 := by have := hok.few; dsimp only at this; omega
      have hdr : RdZ 5 tcE w (.slice av nv cv) dl := by have := rdZ_own tc_len hok.own; dsimp only at this; rw [hnv] at this; exact this
      have hbl := bel1 wr (.cells #[.int .u64 ver, .slice av nv cv] 69)
      obtain ⟨w5, hw5⟩ : ∃ w5, wr.alloc (.cells #[.int .u64 ver, .slice av nv cv] 69) = w5 := ⟨_, rfl⟩
      have hrow5 : w5.heap[wr.heap.size]? = some (.cells #[.int .u64 ver, .slice av nv cv] 69 (0, 0)) := by rw [← hw5]; exact heap_alloc_new wr _
      have hl5 : (Instr.loadAt 69 (.pointer (some ⟨wr.heap.size, 0, none⟩))).run Try.prog w5 = .ok (.agg #[.int .u64 ver, .slice av nv cv]) w5 := by
        have hl := run_loadVar_row (P := Try.prog) w5 wr.heap.size _ 69 #[.int .u64 ver, .slice av nv cv] _ _ hrow5 Try.underlying69 rfl (by kernel_rfl)
        simp only [Instr.loadAt, Instr.sureAddr, Sem.run_bind, Sem.run_pure, Result.andThen_ok, hl]
      have HL5 : Hid _ := hl5
      rw [hw5] at hbl
      rw [hnv] at HLD
      have HW5 : Hid (Below w.heap.size w w5) := HW.out.trans (hbl.mono HW.out.size)
      have hdm := dmeets_any ver av nv cv dl (hdr.below HW5.out) hnv1 a n c rd (HR.out.below HW5.out) HN.out
      clear hy hok hld hbl hrow5 hl5 hdr hnv
      cases hq : meetsD dl rd with
      | true =>
        rw [hq] at hdm
        go_wp2_with (first | (refine wpList_loadG rfl 69 _ rfl _ rfl _ HLD.out ?_) | (refine wpList_loadG rfl 69 _ rfl _ rfl _ HL5.out ?_))
        refine hdm.mono ?_
        rintro e w6 ⟨rfl, hb6⟩
        have HB6 : Hid (Below w.heap.size w w6) := HW5.out.trans (hb6.mono HW5.out.size)
        clear hb6 hdm
        go_wp2
        go_ret
        refine ⟨?_, HB6.out⟩
        rw [← HF.out, List.any_eq_true.2 ⟨_, List.mem_of_getElem? HY.out, hq⟩]
        rfl
      | false =>
        rw [hq] at hdm
        go_wp2_with (first | (refine wpList_loadG rfl 69 _ rfl _ rfl _ HLD.out ?_) | (refine wpList_loadG rfl 69 _ rfl _ rfl _ HL5.out ?_))
        refine hdm.mono ?_
        rintro e w6 ⟨rfl, hb6⟩
        have HB6 : Hid (Below w.heap.size w w6) := HW5.out.trans (hb6.mono HW5.out.size)
        clear hb6 hdm
        go_wp2
        go_roundg (m - (i + 1))
        case measure => omega
        case rel =>
          refine ⟨i + 1, by rw [show ((i : Int) + 1) = ((i + 1 : Nat) : Int) by omega], by omega, by omega, HB6.out, fun z hz => ?_⟩
          rw [take_next HY.out] at hz
          rcases List.mem_append.1 hz with hz | hz
          · exact HQ.out z hz
          · rw [List.mem_singleton] at hz; rw [hz]; exact hq
    · obtain rfl : m = i := by omega
      have hno : F = false := by
        rw [← HF.out]
        rw [List.any_eq_false]
        intro y hy
        have := HQ.out y (by rw [List.take_of_length_le (by have := HD.out; omega)]; exact hy)
        rw [this]; simp
      go_wp2
      go_ret
      exact ⟨by rw [hno]; rfl, HW.out⟩
theorem HistF.meets {B : Nat} {w0 w : World} {p : Nat} {V : List (Int × List Tc)} {G : List Nat} (h : HistF B w0 w p V G) (hV : V.length ≤ 1000) (since : Int) (a : Option Addr) (n c : Nat) (rd : List Tc) (hr : RdZ 5 tcE w (.slice a n c) rd) (hn : n ≤ 1000000) :
    Calls Try.prog 22 #[ptr p, .int .u64 since, .slice a n c] w fun e w' => e = .returned (.bool (meetsV V since rd)) ∧ Below w.heap.size w w' := by
  obtain ⟨hv, K, h1, h2, _⟩ := h
  rw [← h2] at hV ⊢
  rw [List.length_map] at hV
  exact meets_any h1 hV since a n c rd hr hn

end Go.Proofs.Ytmncjecbgakmfaa
