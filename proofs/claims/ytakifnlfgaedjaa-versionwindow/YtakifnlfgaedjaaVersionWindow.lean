/- Proved: VersionWindow holds of every input: Window grows by what Next changes, and falls at Settle alone; no condition. -/
import Derived.Test.YtakifnlfgaedjaaVLive
import Derived.Test.YtakifnlfgaedjaaVOps
import Derived.Deep.RegionHeld3
import Derived.BigQuiet
import Derived.Deep.QuietTactic
import Derived.WalkSmall
import Derived.ProofKit
import Derived.OpenShut
import Derived.ShutString
import Derived.ChangeOld
import Derived.Below
import Derived.Carry
namespace Go.Proofs.Ytakifnlfgaedjaa.versionWindow
open Go.ChangeShapes Go.WideShapes Go.ChangeAt Go.RowKit
open Go.ChangeMaps (open_string shut_string)
set_option linter.unusedVariables false
set_option linter.unusedSimpArgs false

theorem own : ownKnob Try.prog.godebug = none := by kernel_rfl
theorem laidOut : laidOutB Try.prog = true := by kernel_rfl

/-- What the window's numbers are: all that was changed, from the base on; each at most so many. -/
structure WinOk (k : Nat) (s : Rg) : Prop where
  ok : RgOk s
  most : s.last ≤ k
  base : 0 ≤ s.base
  lo : ∀ x ∈ s.opn, s.base ≤ x.t.chg ∧ x.t.chg ≤ s.t.chg
  tr : s.base ≤ s.t.chg ∧ s.t.chg ≤ 100000 * k
  vers : ∀ x ∈ s.opn, x.t.ver ≤ s.t.ver ∧ (x.t.ver = s.t.ver → x.t.chg = s.t.chg)
  v0 : 0 ≤ s.t.ver ∧ s.t.ver ≤ k
  ord : s.opn.Pairwise (fun a b => a.t.chg ≤ b.t.chg)

theorem WinOk.win {k : Nat} {s : Rg} (h : WinOk k s) (hk : k ≤ 150) : winR s = s.t.chg - s.base := by
  have := h.base
  have := h.tr
  unfold winR wrap64
  omega
theorem WinOk.eld {k : Nat} {s : Rg} (h : WinOk k s) : s.base ≤ (eldT s).chg ∧ (eldT s).chg ≤ s.t.chg ∧ ((eldT s).ver = s.t.ver → (eldT s).chg = s.t.chg) := by
  unfold eldT
  have ht := h.tr
  cases hl : s.opn with
  | nil => exact ⟨ht.1, Int.le_refl _, fun _ => rfl⟩
  | cons x r =>
    have := h.lo x (by rw [hl]; exact List.mem_cons_self)
    have h2 := h.vers x (by rw [hl]; exact List.mem_cons_self)
    exact ⟨this.1, this.2, h2.2⟩
theorem win_open {k : Nat} {s : Rg} (h : WinOk k s) (hk : k ≤ 150) : WinOk (k + 1) (openR s) := by
  refine ⟨open_ok h.ok (by have := h.most; omega), by show s.last + 1 ≤ k + 1; have := h.most; omega, h.base, fun x hx => ?_, ⟨h.tr.1, by show s.t.chg ≤ _; have := h.tr; omega⟩, fun x hx => ?_, ⟨h.v0.1, by show s.t.ver ≤ _; have := h.v0; omega⟩, ?_⟩
  · have hx : x ∈ s.opn ++ [(⟨s.last + 1, s.t⟩ : Sn)] := hx
    rcases List.mem_append.1 hx with hx | hx
    · exact h.lo x hx
    · simp only [List.mem_singleton] at hx
      subst hx
      exact ⟨h.tr.1, Int.le_refl _⟩
  · have hx : x ∈ s.opn ++ [(⟨s.last + 1, s.t⟩ : Sn)] := hx
    rcases List.mem_append.1 hx with hx | hx
    · exact h.vers x hx
    · simp only [List.mem_singleton] at hx
      subst hx
      exact ⟨Int.le_refl _, fun _ => rfl⟩
  · show (s.opn ++ [(⟨s.last + 1, s.t⟩ : Sn)]).Pairwise (fun a b => a.t.chg ≤ b.t.chg)
    rw [List.pairwise_append]
    refine ⟨h.ord, List.pairwise_singleton _ _, fun x hx y hy => ?_⟩
    simp only [List.mem_singleton] at hy
    subst hy
    exact (h.lo x hx).2
theorem win_mono {k : Nat} {s : Rg} (h : WinOk k s) : WinOk (k + 1) s :=
  ⟨h.ok, by have := h.most; omega, h.base, h.lo, ⟨h.tr.1, by have := h.tr; omega⟩, h.vers, ⟨h.v0.1, by have := h.v0; omega⟩, h.ord⟩
theorem win_close {k : Nat} {s : Rg} (h : WinOk k s) (id : Int) : WinOk (k + 1) (closeR s id) :=
  ⟨close_ok h.ok id, by show s.last ≤ k + 1; have := h.most; omega, h.base, fun x hx => h.lo x (List.mem_filter.1 hx).1, ⟨h.tr.1, by show s.t.chg ≤ _; have := h.tr; omega⟩, fun x hx => h.vers x (List.mem_filter.1 hx).1, ⟨h.v0.1, by show s.t.ver ≤ _; have := h.v0; omega⟩, h.ord.filter _⟩
theorem plN_most {n : Int} (h : ¬ plN n < 0) : plN n < 100000 ∧ 0 ≤ plN n := by
  unfold plN at *
  split
  · rename_i q; rw [if_pos q] at h; omega
  · omega
theorem win_next {k : Nat} {s : Rg} (h : WinOk k s) (hk : k ≤ 150) (root n : Int) (hn : ¬ n < 0) (hn2 : n < 100000) : WinOk (k + 1) (nextR s root n) ∧ (nextR s root n).t.chg = s.t.chg + n ∧ (nextR s root n).base = s.base := by
  have ht := h.tr
  have hb := h.base
  have hv := h.v0
  have e : nextR s root n = ⟨⟨root, s.t.ver + 1, s.t.chg + n⟩, s.base, s.last, s.opn⟩ := by
    unfold nextR
    rw [if_neg hn]
    have e1 : (s.t.ver + 1) % 18446744073709551616 = s.t.ver + 1 := by omega
    have e2 : wrap64 (s.t.chg + n) = s.t.chg + n := by unfold wrap64; omega
    rw [e1, e2]
  rw [e]
  refine ⟨⟨⟨h.ok.rise, h.ok.ids, h.ok.most⟩, by show s.last ≤ k + 1; have := h.most; omega, hb, fun x hx => ?_, ⟨by show s.base ≤ s.t.chg + n; omega, by show s.t.chg + n ≤ _; omega⟩, fun x hx => ?_, ⟨by show 0 ≤ s.t.ver + 1; omega, by show s.t.ver + 1 ≤ _; omega⟩, h.ord⟩, rfl, rfl⟩
  · have := h.lo x hx
    show s.base ≤ x.t.chg ∧ x.t.chg ≤ s.t.chg + n
    omega
  · have := h.vers x hx
    show x.t.ver ≤ s.t.ver + 1 ∧ (x.t.ver = s.t.ver + 1 → x.t.chg = s.t.chg + n)
    omega
theorem win_settle {k : Nat} {s : Rg} (h : WinOk k s) : WinOk (k + 1) (settleR s) := by
  have he := h.eld
  have hb := h.base
  have ht := h.tr
  refine ⟨settle_ok h.ok, by show s.last ≤ k + 1; have := h.most; omega, by show 0 ≤ (eldT s).chg; omega, fun x hx => ⟨?_, (h.lo x hx).2⟩, ⟨he.2.1, by show s.t.chg ≤ _; omega⟩, h.vers, ⟨h.v0.1, by show s.t.ver ≤ _; have := h.v0; omega⟩, h.ord⟩
  show (eldT s).chg ≤ x.t.chg
  have hx : x ∈ s.opn := hx
  have ho := h.ord
  unfold eldT
  cases hl : s.opn with
  | nil => rw [hl] at hx; cases hx
  | cons y r =>
    rw [hl] at hx ho
    obtain ⟨h1, _⟩ := List.pairwise_cons.1 ho
    rcases List.mem_cons.1 hx with e | e
    · rw [e]; exact Int.le_refl _
    · exact h1 x e

set_option maxRecDepth 100000 in
set_option maxHeartbeats 4000000 in
theorem walk (a : Option Addr) (len cap : Nat) (os : List VopV) (w : World) (ho : VopsAt w a len cap os) :
    Calls Try.prog 5 #[.slice a len cap] w fun e w' => e = .returned (.bool true) ∧ Below w.heap.size w w' := by
  have hlc := ho.2.1
  have hcm := ho.2.2.1
  unfold maxLen at hcm
  have HO : Hid (VopsAt w a len cap os) := ho
  clear ho
  have cl := live_any w
  go_enter Try.func5, Try.ntmps5
  go_wp2_with fail
  refine cl.mono ?_
  rintro e w1 ⟨rfl, hb1⟩
  clear cl
  have cn := new_in w w1 w.heap.size hb1 hb1.size 1 0
  unfold ptrR at cn
  go_wp2_with fail
  refine cn.mono ?_
  rintro e w2 ⟨p, rfl, h2, _⟩
  clear cn hb1
  by_cases hmany : 150 < len
  · have hmI : (150 : Int) < len := by omega
    have hB := h2.bel
    clear h2
    go_wp2
    go_ret
    exact ⟨rfl, hB⟩
  have hmI : ¬ (150 : Int) < len := by omega
  have hl150 : len ≤ 150 := by omega
  clear hmany
  have H2 : Hid (RgIn w.heap.size w w2 p (newR 1 0)) := h2
  clear h2
  go_wp2_with fail
  go_loopw [7, 8, 27] (fun _ _ t wr => ∃ (k : Nat) (s : Rg), k ≤ len ∧ t = .int .i64 k ∧ Hid (WinOk k s) ∧ Hid (RgIn w.heap.size w wr p s)) (fun _ _ t _ => len - (intOf t).toNat)
  case atStart => exact ⟨0, newR 1 0, Nat.zero_le _, rfl, ⟨new_ok _ _, Nat.le_refl _, Int.le_refl _, (fun x hx => by cases hx), ⟨Int.le_refl _, by decide⟩, (fun x hx => by cases hx), ⟨Int.le_refl _, by decide⟩, List.Pairwise.nil⟩, H2⟩
  case round =>
    clear H2
    obtain ⟨k, s, hk, rfl, HK, HR⟩ := hrel
    by_cases hlt : k < len
    · have hltI : (k : Int) < len := by omega
      obtain ⟨b, off, o, rfl, hoo, hoa⟩ := vop_at HO.out HR.out.bel k hlt
      have c0 := hoa.c0
      have c1 := hoa.c1
      have c2 := hoa.c2
      clear hoa hoo
      obtain ⟨f0, f1, f2⟩ := o
      dsimp only at *
      obtain ⟨wp, hwp⟩ : ∃ wp, wr.alloc (.cells #[.int .i64 f0, .int .i64 f1, .int .u32 f2] 31) = wp := ⟨_, rfl⟩
      have hbq : Below wr.heap.size wr wp := by rw [← hwp]; exact (Below.refl _ wr).alloc (Nat.le_refl _) _
      have hrow : wp.heap[wr.heap.size]? = some (.cells #[.int .i64 f0, .int .i64 f1, .int .u32 f2] 31 (0, 0)) := by rw [← hwp]; exact heap_alloc_new wr _
      have cw := window_in (HR.out.below hbq)
      unfold ptrR at cw
      rw [HK.out.win (by omega)] at cw
      have HROW0 : Hid _ := hrow
      clear hrow hbq HR
      go_wp2_with fail
      refine cw.mono ?_
      rintro e wq ⟨rfl, hq, hbw⟩
      have HQ : Hid (RgIn w.heap.size w wq p s) := hq
      have hrow : wq.heap[wr.heap.size]? = some (.cells #[.int .i64 f0, .int .i64 f1, .int .u32 f2] 31 (0, 0)) := (hbw.block _ (Array.getElem?_eq_some_iff.1 HROW0.out).1).trans HROW0.out
      have HROW : Hid (wq.heap[wr.heap.size]? = some (.cells #[.int .i64 f0, .int .i64 f1, .int .u32 f2] 31 (0, 0))) := hrow
      have q0 : wq.cell? ⟨wr.heap.size, 0, none⟩ = some (.int .i64 f0) := by rw [cell_of_row _ _ 0 _ _ (0, 0) hrow]; rfl
      have q1 : wq.cell? ⟨wr.heap.size, 1, none⟩ = some (.int .i64 f1) := by rw [cell_of_row _ _ 1 _ _ (0, 0) hrow]; rfl
      have htr := HK.out.tr
      have hba := HK.out.base
      obtain ⟨WA, hWA⟩ : ∃ WA, s.t.chg - s.base = WA := ⟨_, rfl⟩
      rw [hWA]
      have HWA : Hid (s.t.chg - s.base = WA) := hWA
      have hWA0 : 0 ≤ WA ∧ WA ≤ 100000 * 150 := by omega
      have hw0 : IntKind.i64.wrap (WA + 0) = WA := by rw [Int.add_zero]; exact Go.IntWalk.i64_in _ (by omega)
      clear hrow cw hwp c0 c1 c2 hWA hq hbw htr hba HROW0
      by_cases hf00 : f0 = 0
      · subst hf00
        have co := open_in HQ.out HK.out.ok
        unfold ptrR at co
        have HW2 : Hid (WinOk (k + 1) (openR s)) := win_open HK.out (by omega)
        clear q1
        go_wp2_with fail
        refine co.mono ?_
        rintro e w5 ⟨rfl, h5, _⟩
        clear co q0
        have H5 : Hid (RgIn w.heap.size w w5 p (openR s)) := h5
        clear h5
        have cw2 := window_in H5.out
        unfold ptrR at cw2
        rw [(HW2.out).win (by omega)] at cw2
        rw [show (openR s).t.chg - (openR s).base = WA from HWA.out] at cw2
        go_wp2_with fail
        refine cw2.mono ?_
        rintro e w8 ⟨rfl, h8, _⟩
        clear cw2
        have H8 : Hid (RgIn w.heap.size w w8 p (openR s)) := h8
        clear h8
        go_wp2_with fail
        go_roundw
        case rel => exact ⟨k + 1, openR s, by omega, by go_num, HW2, H8⟩
        case measure => simp [intOf]; omega
      · by_cases hf01 : f0 = 1
        · subst hf01
          have co := close_in HQ.out HK.out.ok f1
          unfold ptrR at co
          have HW2 : Hid (WinOk (k + 1) (closeR s f1)) := win_close HK.out f1
          go_wp2_with fail
          refine co.mono ?_
          rintro e w5 ⟨rfl, h5, _⟩
          clear co q0 q1
          have H5 : Hid (RgIn w.heap.size w w5 p (closeR s f1)) := h5
          clear h5
          have cw2 := window_in H5.out
          unfold ptrR at cw2
          rw [(HW2.out).win (by omega)] at cw2
          rw [show (closeR s f1).t.chg - (closeR s f1).base = WA from HWA.out] at cw2
          go_wp2_with fail
          refine cw2.mono ?_
          rintro e w8 ⟨rfl, h8, _⟩
          clear cw2
          have H8 : Hid (RgIn w.heap.size w w8 p (closeR s f1)) := h8
          clear h8
          go_wp2_with fail
          go_roundw
          case rel => exact ⟨k + 1, closeR s f1, by omega, by go_num, HW2, H8⟩
          case measure => simp [intOf]; omega
        · by_cases hf02 : f0 = 2
          · subst hf02
            have cn := next_in (HQ.out.drewN 1) f2 (plN f1)
            unfold ptrR at cn
            have HK2 : Hid True := trivial
            have hS0 : ∀ W : World, W.heap[wr.heap.size]? = some (.cells #[.int .i64 2, .int .i64 f1, .int .u32 f2] 31 (0, 0)) → W.cell? ⟨wr.heap.size, 1, none⟩ = some (.int .i64 f1) := fun W hW => by rw [cell_of_row _ _ 1 _ _ (0, 0) hW]; rfl
            have hS1 : ∀ W : World, W.heap[wr.heap.size]? = some (.cells #[.int .i64 2, .int .i64 f1, .int .u32 f2] 31 (0, 0)) → W.cell? ⟨wr.heap.size, 2, none⟩ = some (.int .u32 f2) := fun W hW => by rw [cell_of_row _ _ 2 _ _ (0, 0) hW]; rfl
            go_wp2_with fail
            refine wp_region_noPanic ?_
            refine wp_region_held_drew (S := fun W : World => W.heap[wr.heap.size]? = some (.cells #[.int .i64 2, .int .i64 f1, .int .u32 f2] 31 (0, 0))) (by kernel_rfl) HROW.out (fun hHeld => ?_)
            refine wpAnyH_take (i := 0) (v := .pointer (some ⟨p, 0, none⟩)) rfl (by kernel_rfl) (by kernel_rfl) (by kernel_rfl) (fun _ _ _ h => h) (Or.inl ⟨by rfl, fun W hSw => by (try dsimp only at hSw); go_simp⟩) (by assumption) ?_
            simp only [List.getElem_toArray, List.getElem_cons_zero, List.getElem_cons_succ, Act.put, List.setIfInBounds_toArray, List.set_cons_zero, List.set_cons_succ]
            refine wpAnyH_take (i := 1) (v := .pointer (some ⟨wr.heap.size, 2, none⟩)) rfl (by kernel_rfl) (by kernel_rfl) (by kernel_rfl) (fun _ _ _ h => h) (Or.inl ⟨by rfl, fun W hSw => by (try dsimp only at hSw); go_simp⟩) (by assumption) ?_
            simp only [List.getElem_toArray, List.getElem_cons_zero, List.getElem_cons_succ, Act.put, List.setIfInBounds_toArray, List.set_cons_zero, List.set_cons_succ]
            refine wpAnyH_take (i := 2) (v := .int .u32 f2) rfl (by kernel_rfl) (by kernel_rfl) (by kernel_rfl) (fun _ _ _ h => h) (Or.inl ⟨by rfl, fun W hSw => by (try dsimp only at hSw); go_simp⟩) (by assumption) ?_
            simp only [List.getElem_toArray, List.getElem_cons_zero, List.getElem_cons_succ, Act.put, List.setIfInBounds_toArray, List.set_cons_zero, List.set_cons_succ]
            refine wpAnyH_take (i := 3) (v := .pointer (some ⟨wr.heap.size, 1, none⟩)) rfl (by kernel_rfl) (by kernel_rfl) (by kernel_rfl) (fun _ _ _ h => h) (Or.inl ⟨by rfl, fun W hSw => by (try dsimp only at hSw); go_simp⟩) (by assumption) ?_
            simp only [List.getElem_toArray, List.getElem_cons_zero, List.getElem_cons_succ, Act.put, List.setIfInBounds_toArray, List.set_cons_zero, List.set_cons_succ]
            refine wpAnyH_take (i := 4) (v := .int .i64 f1) rfl (by kernel_rfl) (by kernel_rfl) (by kernel_rfl) (fun _ _ _ h => h) (Or.inl ⟨by rfl, fun W hSw => by (try dsimp only at hSw); go_simp⟩) (by assumption) ?_
            simp only [List.getElem_toArray, List.getElem_cons_zero, List.getElem_cons_succ, Act.put, List.setIfInBounds_toArray, List.set_cons_zero, List.set_cons_succ]
            refine wpAnyH_ready (rs := [5]) (by kernel_rfl) (by simp) ?_
            refine AllReadyH.cons rfl (fun K hK => ?_) AllReadyH.nil
            go_simp
            go_wp2_with (go_at_call 15; refine (places_any _ _).mono ?_; rintro e5 w5 ⟨rfl, rfl⟩)
            refine hK.out _ _ (by assumption) (fun hHeld2 => ?_)
            clear hK K
            try simp only [List.getElem_toArray, List.getElem_cons_zero, List.getElem_cons_succ, Act.put, List.setIfInBounds_toArray, List.set_cons_zero, List.set_cons_succ]
            refine wpAnyH_ready (rs := [6]) (by kernel_rfl) (by simp) ?_
            refine AllReadyH.cons rfl (fun K hK => ?_) AllReadyH.nil
            go_simp
            go_wp2_with (go_at_call 14; refine cn.mono ?_; rintro e6 w6 ⟨rfl, h6, k6⟩)
            refine hK.out _ _ (k6 _ _ HROW.out (fun cs fr => ⟨by simp, by simp⟩)) (fun hHeld3 => ?_)
            clear hK K
            try simp only [List.getElem_toArray, List.getElem_cons_zero, List.getElem_cons_succ, Act.put, List.setIfInBounds_toArray, List.set_cons_zero, List.set_cons_succ]
            refine wpAnyH_take (i := 7) (v := .bool (nextE (plN f1) == 0)) rfl (by kernel_rfl) (by kernel_rfl) (by kernel_rfl) (fun _ _ _ h => h) (Or.inl ⟨by rfl, fun W hSw => by (try dsimp only at hSw); go_simp⟩) (by assumption) ?_
            simp only [List.getElem_toArray, List.getElem_cons_zero, List.getElem_cons_succ, Act.put, List.setIfInBounds_toArray, List.set_cons_zero, List.set_cons_succ]
            refine wpAnyH_done (by kernel_rfl) ?_ _
            refine NoPanic.normal ?_
            have H6 : Hid (RgIn w.heap.size w w6 p (nextR s f2 (plN f1))) := h6
            have x62 : w6.cell? ⟨wr.heap.size, 2, none⟩ = some (.int .u32 f2) := hS1 w6 hHeld3
            have x61 : w6.cell? ⟨wr.heap.size, 1, none⟩ = some (.int .i64 f1) := hS0 w6 hHeld3
            have cpl := places_any w6 f1
            clear h6 cn hS0 hS1 hHeld hHeld2 hHeld3 q0 q1 x62
            obtain ⟨N, hN⟩ : ∃ N, plN f1 = N := ⟨_, rfl⟩
            rw [hN] at H6 cpl ⊢
            have hpm := fun (q : ¬ N < 0) => plN_most (n := f1) (by rw [hN]; exact q)
            rw [hN] at hpm
            by_cases hneg : N < 0
            · have hE : (nextE N == 0) = false := by unfold nextE; rw [if_pos hneg]; rfl
              have hRR : nextR s f2 N = s := by unfold nextR; rw [if_pos hneg]
              rw [hE]
              rw [hRR] at H6
              have HW2 : Hid (WinOk (k + 1) s) := win_mono HK.out
              clear hE hRR hneg hN cpl x61 hpm
              have cw2 := window_in H6.out
              unfold ptrR at cw2
              rw [(HW2.out).win (by omega)] at cw2
              rw [show s.t.chg - s.base = WA from HWA.out] at cw2
              go_wp2_with fail
              refine cw2.mono ?_
              rintro e w8 ⟨rfl, h8, _⟩
              clear cw2
              have H8 : Hid (RgIn w.heap.size w w8 p (s)) := h8
              clear h8
              go_wp2_with fail
              go_roundw
              case rel => exact ⟨k + 1, s, by omega, by go_num, HW2, H8⟩
              case measure => simp [intOf]; omega
            · have hE : (nextE N == 0) = true := by unfold nextE; rw [if_neg hneg]; rfl
              have hw2 := win_next HK.out (by omega) f2 N hneg (hpm hneg).1
              have hN0 := hpm hneg
              have HW2 : Hid (WinOk (k + 1) (nextR s f2 N)) := hw2.1
              have hwN : IntKind.i64.wrap (WA + N) = WA + N := Go.IntWalk.i64_in _ (by omega)
              have HWN : Hid ((nextR s f2 N).t.chg - (nextR s f2 N).base = WA + N) := by
                unfold Hid
                rw [hw2.2.1, hw2.2.2, ← HWA.out]
                omega
              rw [hE]
              clear hE hneg hN hw2 hpm
              go_wp2_with fail
              refine cpl.mono ?_
              rintro e w7 ⟨rfl, rfl⟩
              clear cpl x61
              have cw2 := window_in H6.out
              unfold ptrR at cw2
              rw [(HW2.out).win (by omega)] at cw2
              rw [HWN.out] at cw2
              go_wp2_with fail
              refine cw2.mono ?_
              rintro e w8 ⟨rfl, h8, _⟩
              clear cw2
              have H8 : Hid (RgIn w.heap.size w w8 p (nextR s f2 N)) := h8
              clear h8
              go_wp2_with fail
              go_roundw
              case rel => exact ⟨k + 1, nextR s f2 N, by omega, by go_num, HW2, H8⟩
              case measure => simp [intOf]; omega
          · by_cases hf03 : f0 = 3
            · subst hf03
              have co := settle_in HQ.out HK.out.ok
              unfold ptrR at co
              have HW2 : Hid (WinOk (k + 1) (settleR s)) := win_settle HK.out
              have hel := HK.out.eld
              clear q1
              go_wp2_with fail
              refine co.mono ?_
              rintro e w5 ⟨rfl, h5, _⟩
              clear co q0
              have ct := trunk_in h5
              unfold ptrR at ct
              clear h5
              go_wp2_with fail
              refine ct.mono ?_
              rintro e w6 ⟨rfl, h6, _⟩
              clear ct
              have cw1 := window_in h6
              unfold ptrR at cw1
              rw [HW2.out.win (by omega)] at cw1
              obtain ⟨WB, hWB⟩ : ∃ WB, (settleR s).t.chg - (settleR s).base = WB := ⟨_, rfl⟩
              rw [hWB] at cw1
              have hWB1 : WB = s.t.chg - (eldT s).chg := hWB.symm
              have hWle : ¬ WA < WB := by have := HWA.out; omega
              have hWle2 : WB ≤ WA := by omega
              have HEQ : Hid ((eldT s).ver = s.t.ver → WB = 0) := fun q => by have := hel.2.2 q; omega
              clear h6 hWB1
              go_wp2_with fail
              refine cw1.mono ?_
              rintro e w7 ⟨rfl, h7, _⟩
              clear cw1
              have chz := horizon_in h7 HW2.out.ok
              unfold ptrR at chz
              rw [show (eldT (settleR s)).ver = (eldT s).ver from rfl] at chz
              clear h7
              go_wp2_with fail
              refine chz.mono ?_
              rintro e w8 ⟨rfl, h8, _⟩
              clear chz
              have H8 : Hid (RgIn w.heap.size w w8 p (settleR s)) := h8
              by_cases hver : s.t.ver = (eldT s).ver
              · have hW0 : WB = 0 := HEQ.out hver.symm
                have cw3 := window_in h8
                unfold ptrR at cw3
                rw [HW2.out.win (by omega), hWB, hW0] at cw3
                have hvb : ((settleR s).t.ver == (eldT s).ver) = true := by show (s.t.ver == (eldT s).ver) = true; simpa using hver
                have hvd : (settleR s).t.ver = (eldT s).ver := hver
                clear h8 hWB hW0
                go_wp2_with fail
                refine cw3.mono ?_
                rintro e w9 ⟨rfl, h9, _⟩
                clear cw3
                have H9 : Hid (RgIn w.heap.size w w9 p (settleR s)) := h9
                clear h9
                go_wp2_with fail
                go_roundw
                case rel => exact ⟨k + 1, settleR s, by omega, by go_num, HW2, H9⟩
                case measure => simp [intOf]; omega
              · have hvb : ((settleR s).t.ver == (eldT s).ver) = false := by show (s.t.ver == (eldT s).ver) = false; simpa using hver
                have hvd : ¬ (settleR s).t.ver = (eldT s).ver := hver
                clear h8 hWB
                go_wp2_with fail
                go_roundw
                case rel => exact ⟨k + 1, settleR s, by omega, by go_num, HW2, H8⟩
                case measure => simp [intOf]; omega
            · have HW2 : Hid (WinOk (k + 1) s) := win_mono HK.out
              clear q1
              have cw2 := window_in HQ.out
              unfold ptrR at cw2
              rw [(HW2.out).win (by omega)] at cw2
              rw [show s.t.chg - s.base = WA from HWA.out] at cw2
              go_wp2_with fail
              refine cw2.mono ?_
              rintro e w8 ⟨rfl, h8, _⟩
              clear cw2
              have H8 : Hid (RgIn w.heap.size w w8 p (s)) := h8
              clear h8
              go_wp2_with fail
              go_roundw
              case rel => exact ⟨k + 1, s, by omega, by go_num, HW2, H8⟩
              case measure => simp [intOf]; omega
    · obtain rfl : k = len := by omega
      have hltI : ¬ (k : Int) < k := by omega
      have hB := HR.out.bel
      clear HR
      go_wp2
      go_ret
      exact ⟨rfl, hB⟩

/-! ### The row -/
set_option maxRecDepth 100000 in
theorem lifted (os : Os) (started : os.Started) (H : Type) (enc : TypeId × Value → H) :
    ReturnsInHanded {} Try.checked os 5 .any (Rows.versionWindowSpec.pre6 enc Try.prog Try.f5 Rows.versionWindowRow.domain false) (Rows.versionWindowSpec.post enc Try.prog Try.f5 false true false false) := by
  refine returnsInHanded_of_change (C := Try.checked) own started (by kernel_rfl) Try.func5
    (ChangeSpec.witness6 (enc := enc) (C := Try.checked) false ⟨#[], #[.slice none 0 0], []⟩ 8 (by kernel_rfl) (by kernel_rfl) (by kernel_rfl) (by kernel_rfl)) ?_
  intro W base args ds gs before hval0 hW hcnd _
  have hval : ∀ (j : Nat) t v, Try.f5.params[j]? = some t → args[j]? = some v → Value.okWide Try.prog W .any base t v := hval0
  have hW' := hW
  obtain ⟨p, q, hA0, hV, rfl, hfz, hnd⟩ := hW
  have hA : DataW.TrodAll enc Try.prog W 0 (fun _ => true) true Try.f5.params.toList args.toList ds p := hA0
  rw [Try.params5] at hA hval
  obtain ⟨v0, vs0, d0, ds0, p0, q0, hargs, rfl, rfl, h0, r0⟩ := trodAll_cons hA
  obtain ⟨rfl, rfl, rfl⟩ := trodAll_nil r0
  obtain rfl : args = #[v0] := by cases args; simp_all
  obtain ⟨rfl, rfl⟩ := trodVars_none hV
  obtain ⟨a0, len0, cap0, rfl⟩ := okWide_slice Try.underlying24 (hval 0 24 v0 rfl rfl)
  have k0 := h0
  have lt0 : ∀ x ∈ p0, x.block < W.heap.size := by obtain ⟨m, hm⟩ := k0; exact DataW.trod_lt m _ _ _ hm
  obtain ⟨o0, w0⟩ : ∃ os, VopsAt W a0 len0 cap0 os := by
    obtain ⟨fuel, hf⟩ := h0
    exact vopsAt_of hf
  clear hA0 hval0
  refine (walk a0 len0 cap0 o0 W w0).mono fun e W' ⟨he, bel⟩ => ?_
  subst he
  exact ⟨_, rfl, _, _, _, [], _, [], hW', trodAll_mk1 (shut_bool Try.underlying4 _), (trodAll_cons_mk (Below.trod laidOut (by kernel_rfl) (of_decide_eq_true (by kernel_rfl)) k0 bel lt0) trodAll_mk0), rfl, bel.frame _, fun h => by cases h⟩

theorem over : Rows.versionWindowRow.holds Try.pinned (OpenSpec.ofChange Rows.versionWindowSpec) :=
  OpenClaim.holds_of_wide 5 Try.f5 rfl rfl rfl rfl rfl rfl rfl ⟨rfl, rfl, rfl, rfl, rfl⟩ rfl rfl rfl rfl rfl (by kernel_rfl) Try.func5 (by kernel_rfl)
    (of_decide_eq_true (by kernel_rfl)) (by unfold Func.isWrapper; first | (rw [if_pos (by decide +kernel)]; kernel_rfl) | (rw [if_neg (by decide +kernel)]; exact ⟨rfl, rfl⟩))
    (fun os started H enc _ => lifted os started H enc)

end Go.Proofs.Ytakifnlfgaedjaa.versionWindow

namespace Go.Proofs.Ytakifnlfgaedjaa
/-- The statement. -/
theorem versionWindow_proved : Rows.VersionWindowSaid := versionWindow.over
#print axioms versionWindow_proved
end Go.Proofs.Ytakifnlfgaedjaa
