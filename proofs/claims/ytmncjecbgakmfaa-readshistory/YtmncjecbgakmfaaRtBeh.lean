/- The contracts of sort.Search (at behind's closure) and of behind. -/
import Derived.Test.YtmncjecbgakmfaaRtHist
namespace Go.Proofs.Ytmncjecbgakmfaa
open Go.RowKit
set_option linter.unusedVariables false
set_option linter.unusedSimpArgs false
set_option maxRecDepth 100000

theorem countP_cut {α : Type} (f : α → Bool) : ∀ (l : List α) (i : Nat), i ≤ l.length → (∀ t x, t < i → l[t]? = some x → f x = true) → (∀ t x, i ≤ t → l[t]? = some x → f x = false) → l.countP f = i
  | [], i, hi, _, _ => by simp at hi; simp [hi]
  | a :: r, 0, _, _, h2 => by
    rw [List.countP_eq_zero]
    intro x hx
    obtain ⟨t, ht, rfl⟩ := List.getElem_of_mem hx
    have := h2 t _ (Nat.zero_le _) (List.getElem?_eq_getElem ht)
    simp [this]
  | a :: r, i + 1, hi, h1, h2 => by
    have ha : f a = true := h1 0 a (Nat.succ_pos _) rfl
    rw [List.countP_cons_of_pos ha, countP_cut f r i (by simpa using hi) (fun t x ht hx => h1 (t + 1) x (by omega) (by simpa using hx)) (fun t x ht hx => h2 (t + 1) x (by omega) (by simpa using hx))]
theorem rise_at {K : List De} (h : (K.map De.ver).Pairwise (· < ·)) {i j : Nat} {x y : De} (hij : i < j) (hx : K[i]? = some x) (hy : K[j]? = some y) : x.ver < y.ver := by
  have h1 := (List.getElem?_eq_some_iff.1 hx).1
  have h2 := (List.getElem?_eq_some_iff.1 hy).1
  have := List.pairwise_iff_getElem.1 h i j (by simpa using h1) (by simpa using h2) hij
  rw [List.getElem_map, List.getElem_map, (List.getElem?_eq_some_iff.1 hx).2, (List.getElem?_eq_some_iff.1 hy).2] at this
  exact this

set_option maxHeartbeats 4000000 in
theorem search_any {w0 : World} {q1 q2 p : Nat} {a : Option Addr} {n c : Nat} {K : List De} (ver : Int) (hp : w0.cell? ⟨p, 0, none⟩ = some (.slice a n c)) (h1 : w0.cell? ⟨q1, 0, none⟩ = some (.pointer (some ⟨p, 0, none⟩))) (h2 : w0.cell? ⟨q2, 0, none⟩ = some (.int .u64 ver)) (hr : RdZ 2 deE w0 (.slice a n c) K) (hri : (K.map De.ver).Pairwise (· < ·)) (hsm : n ≤ 1000000) :
    Calls Try.prog 36 #[.int .i64 n, .func (.func 37) #[] #[.pointer (some ⟨q1, 0, none⟩), .pointer (some ⟨q2, 0, none⟩)]] w0 fun e w' => e = .returned (.int .i64 (behN K ver : Nat)) ∧ Below w0.heap.size w0 w' := by
  obtain ⟨hl, hnc, hcm⟩ := hr.len
  have HP : Hid (p < w0.heap.size ∧ q1 < w0.heap.size ∧ q2 < w0.heap.size) := ⟨World.block_lt_of_cell? _ _ hp, World.block_lt_of_cell? _ _ h1, World.block_lt_of_cell? _ _ h2⟩
  have HC : Hid (w0.cell? ⟨p, 0, none⟩ = some (.slice a n c) ∧ w0.cell? ⟨q1, 0, none⟩ = some (.pointer (some ⟨p, 0, none⟩)) ∧ w0.cell? ⟨q2, 0, none⟩ = some (.int .u64 ver)) := ⟨hp, h1, h2⟩
  have HR : Hid (RdZ 2 deE w0 (.slice a n c) K) := hr
  have HI : Hid ((K.map De.ver).Pairwise (· < ·)) := hri
  have HL : Hid (K.length = n) := hl
  obtain ⟨F, hF⟩ : ∃ F, behN K ver = F := ⟨_, rfl⟩
  rw [hF]
  have HF : Hid (behN K ver = F) := hF
  clear hp h1 h2 hr hri hl hnc hcm hF
  go_enter Try.func36, Try.ntmps36
  go_wp2
  go_loopg [5, 6] n (fun kx s5 s6 wr => ∃ lo hi : Nat, s5 = .int .i64 lo ∧ s6 = .int .i64 hi ∧ lo ≤ hi ∧ hi ≤ n ∧ hi - lo ≤ kx ∧ Hid (Below w0.heap.size w0 wr) ∧
    Hid ((∀ t x, t < lo → K[t]? = some x → decide (x.ver ≤ ver) = true) ∧ (∀ t x, hi ≤ t → K[t]? = some x → decide (x.ver ≤ ver) = false)))
  case atStart =>
    have I0 : Hid ((∀ t x, t < 0 → K[t]? = some x → decide (x.ver ≤ ver) = true) ∧ (∀ t x, n ≤ t → K[t]? = some x → decide (x.ver ≤ ver) = false)) :=
      ⟨fun t x ht _ => absurd ht (Nat.not_lt_zero _), fun t x ht hx => by have := (List.getElem?_eq_some_iff.1 hx).1; have := HL.out; omega⟩
    exact ⟨0, n, rfl, rfl, Nat.zero_le _, Nat.le_refl _, by omega, Below.refl _ _, I0⟩
  case round =>
    obtain ⟨lo, hi, rfl, rfl, hlh, hin, hg, HB, I⟩ := hrel
    by_cases hlt : lo < hi
    · obtain ⟨x, hx⟩ := at_some HL.out (show (lo + hi) / 2 < n by omega)
      have HX : Hid (K[(lo + hi) / 2]? = some x) := hx
      have hc := beh1_any (w := wr) ver ((HB.out.cell (p := ⟨p, 0, none⟩) HP.out.1).trans HC.out.1) ((HB.out.cell (p := ⟨q1, 0, none⟩) HP.out.2.1).trans HC.out.2.1) ((HB.out.cell (p := ⟨q2, 0, none⟩) HP.out.2.2).trans HC.out.2.2) (HR.out.below HB.out) hx
      have hmid : (lo + hi) / 2 < n := by omega
      clear hx
      cases hy : decide (ver < x.ver) with
      | false =>
        have hy' : x.ver ≤ ver := by simpa using hy
        rw [hy] at hc
        go_wp2_with fail
        refine hc.mono ?_
        rintro e w2 ⟨rfl, hb2⟩
        have HB2 : Hid (Below w0.heap.size w0 w2) := HB.out.trans (hb2.mono HB.out.size)
        clear hb2 hc
        go_wp2
        go_roundg (hi - ((lo + hi) / 2 + 1))
        case measure => omega
        case rel =>
          have I2 : Hid ((∀ t x, t < (lo + hi) / 2 + 1 → K[t]? = some x → decide (x.ver ≤ ver) = true) ∧ (∀ t x, hi ≤ t → K[t]? = some x → decide (x.ver ≤ ver) = false)) := ⟨fun t y ht hty => by
            rcases Nat.lt_or_eq_of_le (Nat.lt_succ_iff.1 ht) with hlt' | rfl
            · have := rise_at HI.out hlt' hty HX.out
              exact decide_eq_true (by omega)
            · rw [HX.out] at hty; cases hty; exact decide_eq_true hy', I.out.2⟩
          exact ⟨(lo + hi) / 2 + 1, hi, by rw [show ((lo : Int) + (hi : Int)) / 2 + 1 = (((lo + hi) / 2 + 1 : Nat) : Int) by omega], rfl, by omega, hin, Nat.le_refl _, HB2, I2⟩
      | true =>
        have hy' : ver < x.ver := by simpa using hy
        rw [hy] at hc
        go_wp2_with fail
        refine hc.mono ?_
        rintro e w2 ⟨rfl, hb2⟩
        have HB2 : Hid (Below w0.heap.size w0 w2) := HB.out.trans (hb2.mono HB.out.size)
        clear hb2 hc
        go_wp2
        go_roundg ((lo + hi) / 2 - lo)
        case measure => omega
        case rel =>
          have I2 : Hid ((∀ t x, t < lo → K[t]? = some x → decide (x.ver ≤ ver) = true) ∧ (∀ t x, (lo + hi) / 2 ≤ t → K[t]? = some x → decide (x.ver ≤ ver) = false)) := ⟨I.out.1, fun t y ht hty => by
            rcases Nat.lt_or_eq_of_le ht with hlt' | rfl
            · have := rise_at HI.out hlt' HX.out hty
              exact decide_eq_false (by omega)
            · rw [HX.out] at hty; cases hty; exact decide_eq_false (by omega)⟩
          exact ⟨lo, (lo + hi) / 2, rfl, by rw [show ((lo : Int) + (hi : Int)) / 2 = (((lo + hi) / 2 : Nat) : Int) by omega], by omega, by omega, Nat.le_refl _, HB2, I2⟩
    · obtain rfl : hi = lo := by omega
      have ecnt : F = hi := by
        rw [← HF.out]
        exact countP_cut _ K hi (by have := HL.out; omega) I.out.1 I.out.2
      go_wp2
      go_ret
      exact ⟨by rw [ecnt]; rfl, HB.out⟩

set_option maxHeartbeats 2000000 in
theorem behind_any {w : World} {p : Nat} {hv : Value} {K : List De} (h : HistAt w p hv K) (ver : Int) (hsm : K.length ≤ 1000000) : Calls Try.prog 33 #[ptr p, .int .u64 ver] w fun e w' => e = .returned (.int .i64 (behN K ver : Nat)) ∧ Below w.heap.size w w' := by
  obtain ⟨a, c, rfl⟩ := own_shape h.own
  have hb2 := bel2 w (.cells #[.pointer (some ⟨p, 0, none⟩)] 40) (.cells #[.int .u64 ver] 43)
  have h2 := h.below hb2
  have g1 : ((w.alloc (.cells #[.pointer (some ⟨p, 0, none⟩)] 40)).alloc (.cells #[.int .u64 ver] 43)).cell? ⟨w.heap.size, 0, none⟩ = some (.pointer (some ⟨p, 0, none⟩)) := by
    rw [cell_of_row _ _ _ _ _ (0, 0) ((bel1 _ _).block w.heap.size (by simp) |>.trans (heap_alloc_new w _))]; rfl
  have g2 : ((w.alloc (.cells #[.pointer (some ⟨p, 0, none⟩)] 40)).alloc (.cells #[.int .u64 ver] 43)).cell? ⟨w.heap.size + 1, 0, none⟩ = some (.int .u64 ver) := by
    have := heap_alloc_new (w.alloc (.cells #[.pointer (some ⟨p, 0, none⟩)] 40)) (.cells #[.int .u64 ver] 43)
    rw [World.size_alloc] at this
    rw [cell_of_row _ _ _ _ _ (0, 0) this]; rfl
  obtain ⟨w2, hw2⟩ : ∃ w2, (w.alloc (.cells #[.pointer (some ⟨p, 0, none⟩)] 40)).alloc (.cells #[.int .u64 ver] 43) = w2 := ⟨_, rfl⟩
  rw [hw2] at hb2 h2 g1 g2
  have c0 := h2.c0
  have hs := search_any ver c0 g1 g2 h2.rd h2.rise hsm
  have hmf : ∀ (fn : Fn) (first cap : Array Value) (w : World), (Instr.makeFunc fn first cap).run Try.prog w = .ok (.func fn first cap) w := fun _ _ _ _ => rfl
  unfold ptr
  clear h h2
  go_enter Try.func33, Try.ntmps33
  go_wp2_with fail
  refine hs.mono ?_
  rintro e w3 ⟨rfl, hb3⟩
  go_wp2
  go_ret
  exact ⟨rfl, thenB hb2 hb3⟩

end Go.Proofs.Ytmncjecbgakmfaa
