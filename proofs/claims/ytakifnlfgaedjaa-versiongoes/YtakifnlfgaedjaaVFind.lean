/- The contracts of cmp.Compare, slices.BinarySearchFunc at snapshots, version's find. -/
import Derived.Test.YtakifnlfgaedjaaVEld
namespace Go.Proofs.Ytakifnlfgaedjaa
open Go.RowKit
set_option linter.unusedVariables false
set_option linter.unusedSimpArgs false
set_option maxRecDepth 4000

/-- cmp.Compare. -/
def cmpZ (a b : Int) : Int := if a < b then -1 else if b < a then 1 else 0

theorem nanI_any (w : World) (x : Int) : Calls Try.prog 41 #[.int .i64 x] w fun e w' => e = .returned (.bool false) ∧ w = w' := by
  go_enter Try.func41, Try.ntmps41
  go_wp2
  go_ret
  exact ⟨rfl, rfl⟩
theorem cmpI_any (w : World) (a b : Int) : Calls Try.prog 37 #[.int .i64 a, .int .i64 b] w fun e w' => e = .returned (.int .i64 (cmpZ a b)) ∧ w = w' := by
  unfold cmpZ
  by_cases h1 : a < b
  · rw [if_pos h1]
    go_enter Try.func37, Try.ntmps37
    go_wp2_with (go_at_call 41; refine (nanI_any _ _).mono ?_; rintro e w1 ⟨rfl, rfl⟩)
    go_ret
    exact ⟨rfl, rfl⟩
  · rw [if_neg h1]
    by_cases h2 : b < a
    · rw [if_pos h2]
      go_enter Try.func37, Try.ntmps37
      go_wp2_with (go_at_call 41; refine (nanI_any _ _).mono ?_; rintro e w1 ⟨rfl, rfl⟩)
      go_ret
      exact ⟨rfl, rfl⟩
    · rw [if_neg h2]
      go_enter Try.func37, Try.ntmps37
      go_wp2_with (go_at_call 41; refine (nanI_any _ _).mono ?_; rintro e w1 ⟨rfl, rfl⟩)
      go_ret
      exact ⟨rfl, rfl⟩

set_option maxHeartbeats 400000 in
theorem find1_any (w : World) (id root ver chg t : Int) : Calls Try.prog 36 #[.agg #[.int .i64 id, .int .u32 root, .int .u64 ver, .int .i64 chg], .int .i64 t] w fun e w' => e = .returned (.int .i64 (cmpZ id t)) ∧ Below w.heap.size w w' := by
  generalize hz : cmpZ id t = z
  have cc : ∀ W, Calls Try.prog 37 #[.int .i64 id, .int .i64 t] W fun e w' => e = .returned (.int .i64 z) ∧ W = w' := fun W => by rw [← hz]; exact cmpI_any W id t
  clear hz
  go_enter Try.func36, Try.ntmps36
  go_wp2_with fail
  refine (cc _).mono ?_
  rintro e w1 ⟨rfl, rfl⟩
  go_wp2
  go_ret
  exact ⟨rfl, (Below.refl _ _).alloc (Nat.le_refl _) _⟩

/-- What is found. -/
def FindOut (K : List Sn) (id : Int) (e : Ending) : Prop :=
  (∃ (k : Nat) (x : Sn), K[k]? = some x ∧ (x.id : Int) = id ∧ e = .returned (.tuple #[.int .i64 k, .bool true])) ∨ ((∀ x ∈ K, ¬ (x.id : Int) = id) ∧ ∃ k : Int, e = .returned (.tuple #[.int .i64 k, .bool false]))

set_option maxHeartbeats 2000000 in
theorem search_any {B : Nat} {w : World} {a : Option Addr} {c : Nat} {K : List Sn} (h : w.ownsRow B 64 4 (.slice a K.length c) K.length (K.flatMap snC)) (hl : K.length ≤ 1000) (hr : K.Pairwise (fun a b => a.id < b.id)) (id : Int) :
    Calls Try.prog 35 #[.slice a K.length c, .int .i64 id, .func (Fn.func 36) #[] #[]] w fun e w' => FindOut K id e ∧ Below w.heap.size w w' := by
  have H : Hid _ := h
  have HR : Hid _ := hr
  clear h hr
  go_enter Try.func35, Try.ntmps35
  go_wp2
  go_loopw [9, 10] (fun s9 s10 wr => ∃ lo hi : Nat, s9 = .int .i64 lo ∧ s10 = .int .i64 hi ∧ lo ≤ hi ∧ hi ≤ K.length ∧ Hid (∀ (i : Nat) (x : Sn), K[i]? = some x → i < lo → (x.id : Int) < id) ∧ Hid (∀ (i : Nat) (x : Sn), K[i]? = some x → hi ≤ i → id ≤ x.id) ∧ Below w.heap.size w wr) (fun s9 s10 _ => (intOf s10).toNat - (intOf s9).toNat)
  case atStart => exact ⟨0, K.length, rfl, rfl, Nat.zero_le _, Nat.le_refl _, fun i x _ hi => absurd hi (Nat.not_lt_zero _), fun i x hx hi => by have := (List.getElem?_eq_some_iff.1 hx).1; omega, Below.refl _ _⟩
  case round =>
    obtain ⟨lo, hi, rfl, rfl, hlh, hhn, HL, HH, hbr⟩ := hrel
    by_cases hlt : lo < hi
    · have hltI : (lo : Int) < hi := by omega
      obtain ⟨m, hm1, hm2, hm3⟩ : ∃ m : Nat, ((lo : Int) + hi) / 2 = (m : Int) ∧ lo ≤ m ∧ m < hi := ⟨(lo + hi) / 2, by omega, by omega, by omega⟩
      obtain ⟨g, cap, hv, hcl, hcm, _, hgl, hcell⟩ := own_sns (own_below H.out hbr) (by omega)
      simp only [Value.slice.injEq, true_and] at hv
      obtain ⟨rfl, rfl⟩ := hv
      unfold maxLen at hcm
      obtain ⟨x, hx⟩ : ∃ x, K[m]? = some x := ⟨_, List.getElem?_eq_getElem (by omega)⟩
      have HX : Hid (K[m]? = some x) := hx
      obtain ⟨xi, ⟨xr, xv, xc⟩⟩ := x
      have d0 : wr.cell? ⟨g, m * 4, none⟩ = some (.int .i64 xi) := hcell m _ hx 0 _ rfl
      have d1 : wr.cell? ⟨g, m * 4 + 1, none⟩ = some (.int .u32 xr) := hcell m _ hx 1 _ rfl
      have d2 : wr.cell? ⟨g, m * 4 + 2, none⟩ = some (.int .u64 xv) := hcell m _ hx 2 _ rfl
      have d3 : wr.cell? ⟨g, m * 4 + 3, none⟩ = some (.int .i64 xc) := hcell m _ hx 3 _ rfl
      have hmI : (m : Int) < K.length := by omega
      have cf := find1_any wr xi xr xv xc id
      clear hcell hx
      have HZ : Hid (cmpZ xi id < 0 ↔ (xi : Int) < id) := by unfold Hid cmpZ; split <;> (try split) <;> omega
      generalize cmpZ xi id = z at *
      have rise : ∀ (i j : Nat) (x y : Sn), K[i]? = some x → K[j]? = some y → i < j → x.id < y.id := fun i j x y hx hy hij => by
        obtain ⟨h1, e1⟩ := List.getElem?_eq_some_iff.1 hx
        obtain ⟨h2, e2⟩ := List.getElem?_eq_some_iff.1 hy
        have := List.pairwise_iff_getElem.1 HR.out i j h1 h2 hij
        rw [e1, e2] at this
        exact this
      have RI : Hid _ := rise
      clear rise
      by_cases hz : z < 0
      · have hx1 : (xi : Int) < id := HZ.out.1 hz
        go_wp2_with fail
        refine cf.mono ?_
        rintro e1 w1 ⟨rfl, hb1⟩
        clear cf d0 d1 d2 d3
        go_wp2
        go_roundw
        case rel =>
          refine ⟨m + 1, hi, by go_num, rfl, by omega, hhn, fun i y hy hi' => ?_, HH, hbr.trans (hb1.mono hbr.size)⟩
          by_cases e : i = m
          · subst e; rw [HX.out] at hy; cases hy; exact hx1
          · have := RI.out i m y _ hy HX.out (by omega)
            dsimp only at this
            omega
        case measure => simp [intOf]; omega
      · have hx1 : id ≤ (xi : Int) := by have := HZ.out; omega
        go_wp2_with fail
        refine cf.mono ?_
        rintro e1 w1 ⟨rfl, hb1⟩
        clear cf d0 d1 d2 d3
        go_wp2
        go_roundw
        case rel =>
          refine ⟨lo, m, rfl, by go_num, by omega, by omega, HL, fun i y hy hi' => ?_, hbr.trans (hb1.mono hbr.size)⟩
          by_cases e : i = m
          · subst e; rw [HX.out] at hy; cases hy; exact hx1
          · have := RI.out m i _ y HX.out hy (by omega)
            dsimp only at this
            omega
        case measure => simp [intOf]; omega
    · obtain rfl : lo = hi := by omega
      have hltI : ¬ (lo : Int) < lo := by omega
      by_cases hk : lo < K.length
      · have hkI : (lo : Int) < K.length := by omega
        obtain ⟨g, cap, hv, hcl, hcm, _, hgl, hcell⟩ := own_sns (own_below H.out hbr) (by omega)
        simp only [Value.slice.injEq, true_and] at hv
        obtain ⟨rfl, rfl⟩ := hv
        unfold maxLen at hcm
        obtain ⟨x, hx⟩ : ∃ x, K[lo]? = some x := ⟨_, List.getElem?_eq_getElem (by omega)⟩
        have HX : Hid (K[lo]? = some x) := hx
        obtain ⟨xi, ⟨xr, xv, xc⟩⟩ := x
        have d0 : wr.cell? ⟨g, lo * 4, none⟩ = some (.int .i64 xi) := hcell lo _ hx 0 _ rfl
        have d1 : wr.cell? ⟨g, lo * 4 + 1, none⟩ = some (.int .u32 xr) := hcell lo _ hx 1 _ rfl
        have d2 : wr.cell? ⟨g, lo * 4 + 2, none⟩ = some (.int .u64 xv) := hcell lo _ hx 2 _ rfl
        have d3 : wr.cell? ⟨g, lo * 4 + 3, none⟩ = some (.int .i64 xc) := hcell lo _ hx 3 _ rfl
        have cf := find1_any wr xi xr xv xc id
        clear hcell hx
        have HZ : Hid (cmpZ xi id = 0 ↔ (xi : Int) = id) := by unfold Hid cmpZ; split <;> (try split) <;> omega
        generalize cmpZ xi id = z at *
        by_cases hz : z = 0
        · have hx1 : (xi : Int) = id := HZ.out.1 hz
          have HF : Hid (FindOut K id (.returned (.tuple #[.int .i64 lo, .bool true]))) := .inl ⟨lo, _, HX.out, hx1, rfl⟩
          subst hz
          clear hx1
          go_wp2_with fail
          refine cf.mono ?_
          rintro e1 w1 ⟨rfl, hb1⟩
          clear cf d0 d1 d2 d3
          go_wp2
          go_ret2
          exact ⟨HF.out, hbr.trans (hb1.mono hbr.size)⟩
        · have hx1 : ¬ (xi : Int) = id := fun e => hz (HZ.out.2 e)
          have HF : Hid (FindOut K id (.returned (.tuple #[.int .i64 lo, .bool false]))) := .inr ⟨fun y hy e => by
            obtain ⟨i, hi⟩ := List.mem_iff_getElem?.1 hy
            rcases Nat.lt_trichotomy i lo with q | q | q
            · have := HL.out i y hi q; omega
            · subst q; rw [HX.out] at hi; cases hi; exact hx1 e
            · have h1 := HH.out lo _ HX.out (Nat.le_refl _)
              obtain ⟨h2, e2⟩ := List.getElem?_eq_some_iff.1 HX.out
              obtain ⟨h3, e3⟩ := List.getElem?_eq_some_iff.1 hi
              have := List.pairwise_iff_getElem.1 HR.out lo i h2 h3 q
              rw [e2, e3] at this
              dsimp only at this h1
              omega, _, rfl⟩
          have hzb : (z == 0) = false := by simpa using hz
          clear hx1
          go_wp2_with fail
          refine cf.mono ?_
          rintro e1 w1 ⟨rfl, hb1⟩
          clear cf d0 d1 d2 d3
          go_wp2
          go_ret2
          exact ⟨by simpa [hzb] using HF.out, hbr.trans (hb1.mono hbr.size)⟩
      · have hkI : ¬ (lo : Int) < K.length := by omega
        have HF : Hid (FindOut K id (.returned (.tuple #[.int .i64 lo, .bool false]))) := .inr ⟨fun y hy e => by
          obtain ⟨i, hi⟩ := List.mem_iff_getElem?.1 hy
          have h3 := (List.getElem?_eq_some_iff.1 hi).1
          have := HL.out i y hi (by omega)
          omega, _, rfl⟩
        go_wp2
        go_ret2
        exact ⟨HF.out, hbr⟩

set_option maxHeartbeats 1000000 in
theorem find_any {B : Nat} {w : World} {p : Nat} {v : Value} {s : Rg} (h : RgAt B w p v s) (hk : RgOk s) (id : Int) : Calls Try.prog 25 #[ptrR p, .int .i64 id] w fun e w' => FindOut s.opn id e ∧ Below w.heap.size w w' := by
  obtain ⟨a, c, rfl⟩ := own_shape h.own
  have c5 : w.cell? ⟨p, 5, none⟩ = some (.slice a s.opn.length c) := h.cell 5 _ rfl
  have cs := search_any h.own (by have := hk.len; have := hk.most; omega) hk.rise id
  unfold ptrR
  clear h
  go_enter Try.func25, Try.ntmps25
  go_wp2_with fail
  refine cs.mono ?_
  rintro e1 w1 ⟨hf, hb⟩
  clear cs c5
  rcases hf with ⟨k, x, h1, h2, rfl⟩ | ⟨h1, k, rfl⟩
  · have HF : Hid (FindOut s.opn id (.returned (.tuple #[.int .i64 k, .bool true]))) := .inl ⟨k, x, h1, h2, rfl⟩
    clear h1 h2
    go_wp2
    go_ret2
    exact ⟨HF.out, hb⟩
  · have HF : Hid (FindOut s.opn id (.returned (.tuple #[.int .i64 k, .bool false]))) := .inr ⟨h1, k, rfl⟩
    clear h1
    go_wp2
    go_ret2
    exact ⟨HF.out, hb⟩

end Go.Proofs.Ytakifnlfgaedjaa
