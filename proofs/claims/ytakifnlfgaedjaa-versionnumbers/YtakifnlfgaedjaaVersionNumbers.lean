/- Proved: VersionNumbers holds of every input: versions and snapshots are counted one by one; no condition. -/
import Derived.Test.YtakifnlfgaedjaaVLive
import Derived.Test.YtakifnlfgaedjaaVOps
import Derived.Deep.RegionHeld3
import Derived.BigQuiet
import Derived.Deep.QuietTactic
import Derived.WalkSmall
import Derived.ProofKit
import Derived.OpenShut
import Derived.ShutString
import Derived.ChangeOld
import Derived.Below
import Derived.Carry
namespace Go.Proofs.Ytakifnlfgaedjaa.versionNumbers
open Go.ChangeShapes Go.WideShapes Go.ChangeAt Go.RowKit
open Go.ChangeMaps (open_string shut_string)
set_option linter.unusedVariables false
set_option linter.unusedSimpArgs false

theorem own : ownKnob Try.prog.godebug = none := by kernel_rfl
theorem laidOut : laidOutB Try.prog = true := by kernel_rfl

set_option maxRecDepth 100000 in
set_option maxHeartbeats 4000000 in
theorem walk (first : Int) (a : Option Addr) (len cap : Nat) (os : List VopV) (w : World) (hf : (Lit.int .u64 first).wf = true) (ho : VopsAt w a len cap os) :
    Calls Try.prog 6 #[.int .u64 first, .slice a len cap] w fun e w' => e = .returned (.bool true) ∧ Below w.heap.size w w' := by
  obtain ⟨hf0, hf1⟩ := bounds_u64 hf
  clear hf
  have hlc := ho.2.1
  have hcm := ho.2.2.1
  unfold maxLen at hcm
  have HO : Hid (VopsAt w a len cap os) := ho
  clear ho
  have cl := live_any w
  go_enter Try.func6, Try.ntmps6
  go_wp2_with fail
  refine cl.mono ?_
  rintro e w1 ⟨rfl, hb1⟩
  clear cl
  have cn := new_in w w1 w.heap.size hb1 hb1.size 7 first
  unfold ptrR at cn
  go_wp2_with fail
  refine cn.mono ?_
  rintro e w2 ⟨p, rfl, h2, _⟩
  clear cn hb1
  by_cases hmany : 150 < len
  · have hmI : (150 : Int) < len := by omega
    have hB := h2.bel
    clear h2
    go_wp2
    go_ret
    exact ⟨rfl, hB⟩
  have hmI : ¬ (150 : Int) < len := by omega
  have hl150 : len ≤ 150 := by omega
  clear hmany
  have H2 : Hid (RgIn w.heap.size w w2 p (newR 7 first)) := h2
  clear h2
  go_wp2_with fail
  go_loopw [7, 8, 9, 34] (fun s7 s8 s9 t wr => ∃ (k : Nat) (n root : Int) (s : Rg), k ≤ len ∧ t = .int .i64 k ∧ s7 = .int .u64 n ∧ s8 = .int .i64 s.last ∧ s9 = .int .u32 root ∧ s.last ≤ k ∧ s.t.root = root ∧ Hid (s.t.ver = (first + n) % 18446744073709551616 ∧ 0 ≤ n ∧ n < 18446744073709551616) ∧ Hid (RgOk s) ∧ Hid (RgIn w.heap.size w wr p s)) (fun _ _ _ t _ => len - (intOf t).toNat)
  case atStart => exact ⟨0, 0, 7, newR 7 first, Nat.zero_le _, rfl, rfl, rfl, rfl, Nat.le_refl _, rfl, ⟨by show first = _; omega, by omega, by omega⟩, new_ok _ _, H2⟩
  case round =>
    clear H2
    obtain ⟨k, n, root, s, hk, rfl, rfl, rfl, rfl, hls, hroot, HV, HK, HR⟩ := hrel
    have HRT : Hid (s.t.root = root) := hroot
    clear hroot
    by_cases hlt : k < len
    · have hltI : (k : Int) < len := by omega
      obtain ⟨b, off, o, rfl, hoo, hoa⟩ := vop_at HO.out HR.out.bel k hlt
      have c0 := hoa.c0
      have c1 := hoa.c1
      have c2 := hoa.c2
      have a2 := hoo.a2
      clear hoa hoo
      obtain ⟨f0, f1, f2⟩ := o
      dsimp only at *
      obtain ⟨wq, hwq⟩ : ∃ wq, wr.alloc (.cells #[.int .i64 f0, .int .i64 f1, .int .u32 f2] 31) = wq := ⟨_, rfl⟩
      have hbq : Below wr.heap.size wr wq := by rw [← hwq]; exact (Below.refl _ wr).alloc (Nat.le_refl _) _
      have hrow : wq.heap[wr.heap.size]? = some (.cells #[.int .i64 f0, .int .i64 f1, .int .u32 f2] 31 (0, 0)) := by rw [← hwq]; exact heap_alloc_new wr _
      have HQ : Hid (RgIn w.heap.size w wq p s) := HR.out.below hbq
      have HROW : Hid _ := hrow
      have q0 : wq.cell? ⟨wr.heap.size, 0, none⟩ = some (.int .i64 f0) := by rw [cell_of_row _ _ 0 _ _ (0, 0) hrow]; rfl
      clear hrow hbq HR
      by_cases hf00 : f0 = 0
      · subst hf00
        have co := open_in HQ.out HK.out
        unfold ptrR at co
        rw [HRT.out] at co
        have hv := HV.out
        obtain ⟨V, hV⟩ : ∃ V, s.t.ver = V := ⟨_, rfl⟩
        rw [hV] at co hv
        have HVV : Hid (s.t.ver = V) := hV
        have HFV : Hid (V = (first + n) % 18446744073709551616) := hv.1
        have hwV : IntKind.u64.wrap (first + n) = V := by rw [IntKind.wrap_u64]; exact hv.1.symm
        have hl1 : ((s.last + 1 : Nat) : Int) = (s.last : Int) + 1 := by omega
        rw [hl1] at co
        have HK2 : Hid (RgOk (openR s)) := open_ok HK.out (by omega)
        clear hV hv
        go_wp2_with fail
        refine co.mono ?_
        rintro e w5 ⟨rfl, h5, _⟩
        clear co q0 c0 c1 c2 hwq
        have H5 : Hid (RgIn w.heap.size w w5 p (openR s)) := h5
        have ct := trunk_in h5
        unfold ptrR at ct
        rw [show (openR s).t.root = root from HRT.out, show (openR s).t.ver = V from HVV.out] at ct
        clear h5
        go_wp2_with fail
        refine ct.mono ?_
        rintro e w6 ⟨rfl, h6, _⟩
        clear ct
        have H6 : Hid (RgIn w.heap.size w w6 p (openR s)) := h6
        clear h6
        go_wp2_with fail
        go_roundw
        case rel => exact ⟨k + 1, n, root, openR s, by omega, by go_num, rfl, by show Value.int .i64 ((s.last : Int) + 1) = Value.int .i64 ((s.last + 1 : Nat) : Int); rw [hl1], rfl, by show s.last + 1 ≤ k + 1; omega, HRT.out, ⟨by show s.t.ver = _; rw [HVV.out]; exact HFV.out, HV.out.2⟩, HK2, H6⟩
        case measure => simp [intOf]; omega
      · by_cases hf02 : f0 = 2
        · subst hf02
          have cn := next_in (HQ.out.drewN 1) f2 (plN f1)
          unfold ptrR at cn
          have HK2 : Hid (RgOk (nextR s f2 (plN f1))) := next_ok HK.out _ _
          have hS0 : ∀ W : World, W.heap[wr.heap.size]? = some (.cells #[.int .i64 2, .int .i64 f1, .int .u32 f2] 31 (0, 0)) → W.cell? ⟨wr.heap.size, 1, none⟩ = some (.int .i64 f1) := fun W hW => by rw [cell_of_row _ _ 1 _ _ (0, 0) hW]; rfl
          have hS1 : ∀ W : World, W.heap[wr.heap.size]? = some (.cells #[.int .i64 2, .int .i64 f1, .int .u32 f2] 31 (0, 0)) → W.cell? ⟨wr.heap.size, 2, none⟩ = some (.int .u32 f2) := fun W hW => by rw [cell_of_row _ _ 2 _ _ (0, 0) hW]; rfl
          go_wp2_with fail
          refine wp_region_noPanic ?_
          refine wp_region_held_drew (S := fun W : World => W.heap[wr.heap.size]? = some (.cells #[.int .i64 2, .int .i64 f1, .int .u32 f2] 31 (0, 0))) (by kernel_rfl) HROW.out (fun hHeld => ?_)
          refine wpAnyH_take (i := 0) (v := .pointer (some ⟨p, 0, none⟩)) rfl (by kernel_rfl) (by kernel_rfl) (by kernel_rfl) (fun _ _ _ h => h) (Or.inl ⟨by rfl, fun W hSw => by (try dsimp only at hSw); go_simp⟩) (by assumption) ?_
          simp only [List.getElem_toArray, List.getElem_cons_zero, List.getElem_cons_succ, Act.put, List.setIfInBounds_toArray, List.set_cons_zero, List.set_cons_succ]
          refine wpAnyH_take (i := 1) (v := .pointer (some ⟨wr.heap.size, 2, none⟩)) rfl (by kernel_rfl) (by kernel_rfl) (by kernel_rfl) (fun _ _ _ h => h) (Or.inl ⟨by rfl, fun W hSw => by (try dsimp only at hSw); go_simp⟩) (by assumption) ?_
          simp only [List.getElem_toArray, List.getElem_cons_zero, List.getElem_cons_succ, Act.put, List.setIfInBounds_toArray, List.set_cons_zero, List.set_cons_succ]
          refine wpAnyH_take (i := 2) (v := .int .u32 f2) rfl (by kernel_rfl) (by kernel_rfl) (by kernel_rfl) (fun _ _ _ h => h) (Or.inl ⟨by rfl, fun W hSw => by (try dsimp only at hSw); go_simp⟩) (by assumption) ?_
          simp only [List.getElem_toArray, List.getElem_cons_zero, List.getElem_cons_succ, Act.put, List.setIfInBounds_toArray, List.set_cons_zero, List.set_cons_succ]
          refine wpAnyH_take (i := 3) (v := .pointer (some ⟨wr.heap.size, 1, none⟩)) rfl (by kernel_rfl) (by kernel_rfl) (by kernel_rfl) (fun _ _ _ h => h) (Or.inl ⟨by rfl, fun W hSw => by (try dsimp only at hSw); go_simp⟩) (by assumption) ?_
          simp only [List.getElem_toArray, List.getElem_cons_zero, List.getElem_cons_succ, Act.put, List.setIfInBounds_toArray, List.set_cons_zero, List.set_cons_succ]
          refine wpAnyH_take (i := 4) (v := .int .i64 f1) rfl (by kernel_rfl) (by kernel_rfl) (by kernel_rfl) (fun _ _ _ h => h) (Or.inl ⟨by rfl, fun W hSw => by (try dsimp only at hSw); go_simp⟩) (by assumption) ?_
          simp only [List.getElem_toArray, List.getElem_cons_zero, List.getElem_cons_succ, Act.put, List.setIfInBounds_toArray, List.set_cons_zero, List.set_cons_succ]
          refine wpAnyH_ready (rs := [5]) (by kernel_rfl) (by simp) ?_
          refine AllReadyH.cons rfl (fun K hK => ?_) AllReadyH.nil
          go_simp
          go_wp2_with (go_at_call 15; refine (places_any _ _).mono ?_; rintro e5 w5 ⟨rfl, rfl⟩)
          refine hK.out _ _ (by assumption) (fun hHeld2 => ?_)
          clear hK K
          try simp only [List.getElem_toArray, List.getElem_cons_zero, List.getElem_cons_succ, Act.put, List.setIfInBounds_toArray, List.set_cons_zero, List.set_cons_succ]
          refine wpAnyH_ready (rs := [6]) (by kernel_rfl) (by simp) ?_
          refine AllReadyH.cons rfl (fun K hK => ?_) AllReadyH.nil
          go_simp
          go_wp2_with (go_at_call 14; refine cn.mono ?_; rintro e6 w6 ⟨rfl, h6, k6⟩)
          refine hK.out _ _ (k6 _ _ HROW.out (fun cs fr => ⟨by simp, by simp⟩)) (fun hHeld3 => ?_)
          clear hK K
          try simp only [List.getElem_toArray, List.getElem_cons_zero, List.getElem_cons_succ, Act.put, List.setIfInBounds_toArray, List.set_cons_zero, List.set_cons_succ]
          refine wpAnyH_take (i := 7) (v := .bool (nextE (plN f1) == 0)) rfl (by kernel_rfl) (by kernel_rfl) (by kernel_rfl) (fun _ _ _ h => h) (Or.inl ⟨by rfl, fun W hSw => by (try dsimp only at hSw); go_simp⟩) (by assumption) ?_
          simp only [List.getElem_toArray, List.getElem_cons_zero, List.getElem_cons_succ, Act.put, List.setIfInBounds_toArray, List.set_cons_zero, List.set_cons_succ]
          refine wpAnyH_done (by kernel_rfl) ?_ _
          refine NoPanic.normal ?_
          have H6 : Hid (RgIn w.heap.size w w6 p (nextR s f2 (plN f1))) := h6
          have x62 : w6.cell? ⟨wr.heap.size, 2, none⟩ = some (.int .u32 f2) := hS1 w6 hHeld3
          clear h6 cn hS0 hS1 hHeld hHeld2 hHeld3 c0 c1 c2 hwq q0
          obtain ⟨N, hN⟩ : ∃ N, plN f1 = N := ⟨_, rfl⟩
          rw [hN] at H6 HK2 ⊢
          by_cases hneg : N < 0
          · have hE : (nextE N == 0) = false := by unfold nextE; rw [if_pos hneg]; rfl
            have hRR : nextR s f2 N = s := by unfold nextR; rw [if_pos hneg]
            rw [hE]
            rw [hRR] at H6
            have ct := trunk_in H6.out
            unfold ptrR at ct
            rw [HRT.out] at ct
            obtain ⟨V, hV⟩ : ∃ V, s.t.ver = V := ⟨_, rfl⟩
            rw [hV] at ct
            have hwV : IntKind.u64.wrap (first + n) = V := by rw [IntKind.wrap_u64, ← hV]; exact HV.out.1.symm
            clear hV hE hRR hneg hN HK2
            go_wp2_with fail
            refine ct.mono ?_
            rintro e w7 ⟨rfl, h7, _⟩
            clear ct x62
            have H7 : Hid (RgIn w.heap.size w w7 p s) := h7
            clear h7
            go_wp2_with fail
            go_roundw
            case rel => exact ⟨k + 1, n, root, s, by omega, by go_num, rfl, rfl, rfl, by omega, HRT.out, HV, HK, H7⟩
            case measure => simp [intOf]; omega
          · have hE : (nextE N == 0) = true := by unfold nextE; rw [if_neg hneg]; rfl
            have hRR : nextR s f2 N = ⟨⟨f2, (s.t.ver + 1) % 18446744073709551616, wrap64 (s.t.chg + N)⟩, s.base, s.last, s.opn⟩ := by unfold nextR; rw [if_neg hneg]
            rw [hE]
            rw [hRR] at H6 HK2
            have ct := trunk_in H6.out
            unfold ptrR at ct
            dsimp only at ct
            obtain ⟨V, hV⟩ : ∃ V, (s.t.ver + 1) % 18446744073709551616 = V := ⟨_, rfl⟩
            rw [hV] at ct H6 HK2
            obtain ⟨n1, hn1⟩ : ∃ n1, (n + 1) % 18446744073709551616 = n1 := ⟨_, rfl⟩
            have hwn : IntKind.u64.wrap (n + 1) = n1 := by rw [IntKind.wrap_u64]; exact hn1
            have hFV : V = (first + n1) % 18446744073709551616 ∧ 0 ≤ n1 ∧ n1 < 18446744073709551616 := by
              have := HV.out
              omega
            have hwV : IntKind.u64.wrap (first + n1) = V := by rw [IntKind.wrap_u64]; exact hFV.1.symm
            have HFV : Hid (V = (first + n1) % 18446744073709551616 ∧ 0 ≤ n1 ∧ n1 < 18446744073709551616) := hFV
            clear hV hn1 hFV hE hRR hneg hN
            go_wp2_with fail
            refine ct.mono ?_
            rintro e w7 ⟨rfl, h7, _⟩
            clear ct x62
            have H7 : Hid (RgIn w.heap.size w w7 p ⟨⟨f2, V, wrap64 (s.t.chg + N)⟩, s.base, s.last, s.opn⟩) := h7
            clear h7
            go_wp2_with fail
            go_roundw
            case rel => exact ⟨k + 1, n1, f2, ⟨⟨f2, V, wrap64 (s.t.chg + N)⟩, s.base, s.last, s.opn⟩, by omega, by go_num, rfl, rfl, rfl, by show s.last ≤ k + 1; omega, rfl, HFV, HK2, H7⟩
            case measure => simp [intOf]; omega
        · have ct := trunk_in HQ.out
          unfold ptrR at ct
          rw [HRT.out] at ct
          obtain ⟨V, hV⟩ : ∃ V, s.t.ver = V := ⟨_, rfl⟩
          rw [hV] at ct
          have hwV : IntKind.u64.wrap (first + n) = V := by rw [IntKind.wrap_u64, ← hV]; exact HV.out.1.symm
          clear hV
          go_wp2_with fail
          refine ct.mono ?_
          rintro e w7 ⟨rfl, h7, _⟩
          clear ct q0 c0 c1 c2 hwq
          have H7 : Hid (RgIn w.heap.size w w7 p s) := h7
          clear h7
          go_wp2_with fail
          go_roundw
          case rel => exact ⟨k + 1, n, root, s, by omega, by go_num, rfl, rfl, rfl, by omega, HRT.out, HV, HK, H7⟩
          case measure => simp [intOf]; omega
    · obtain rfl : k = len := by omega
      have hltI : ¬ (k : Int) < k := by omega
      have hB := HR.out.bel
      clear HR
      go_wp2
      go_ret
      exact ⟨rfl, hB⟩

/-! ### The row -/
set_option maxRecDepth 100000 in
theorem lifted (os : Os) (started : os.Started) (H : Type) (enc : TypeId × Value → H) :
    ReturnsInHanded {} Try.checked os 6 .any (Rows.versionNumbersSpec.pre6 enc Try.prog Try.f6 Rows.versionNumbersRow.domain false) (Rows.versionNumbersSpec.post enc Try.prog Try.f6 false true false false) := by
  refine returnsInHanded_of_change (C := Try.checked) own started (by kernel_rfl) Try.func6
    (ChangeSpec.witness6 (enc := enc) (C := Try.checked) false ⟨#[], #[.int .u64 0, .slice none 0 0], []⟩ 8 (by kernel_rfl) (by kernel_rfl) (by kernel_rfl) (by kernel_rfl)) ?_
  intro W base args ds gs before hval0 hW hcnd _
  have hval : ∀ (j : Nat) t v, Try.f6.params[j]? = some t → args[j]? = some v → Value.okWide Try.prog W .any base t v := hval0
  have hW' := hW
  obtain ⟨p, q, hA0, hV, rfl, hfz, hnd⟩ := hW
  have hA : DataW.TrodAll enc Try.prog W 0 (fun _ => true) true Try.f6.params.toList args.toList ds p := hA0
  rw [Try.params6] at hA hval
  obtain ⟨v0, vs0, d0, ds0, p0, q0, hargs, rfl, rfl, h0, r0⟩ := trodAll_cons hA
  obtain ⟨v1, vs1, d1, ds1, p1, q1, rfl, rfl, rfl, h1, r1⟩ := trodAll_cons r0
  obtain ⟨rfl, rfl, rfl⟩ := trodAll_nil r1
  obtain rfl : args = #[v0, v1] := by cases args; simp_all
  obtain ⟨rfl, rfl⟩ := trodVars_none hV
  obtain ⟨a0, rfl, rfl, rfl, w0⟩ := open_int Try.underlying23 (hval 0 23 v0 rfl rfl) h0
  obtain ⟨a1, len1, cap1, rfl⟩ := okWide_slice Try.underlying24 (hval 1 24 v1 rfl rfl)
  have k1 := h1
  have lt1 : ∀ x ∈ p1, x.block < W.heap.size := by obtain ⟨m, hm⟩ := k1; exact DataW.trod_lt m _ _ _ hm
  obtain ⟨o1, w1⟩ : ∃ os, VopsAt W a1 len1 cap1 os := by
    obtain ⟨fuel, hf⟩ := h1
    exact vopsAt_of hf
  clear hA0 hval0
  refine (walk a0 a1 len1 cap1 o1 W w0 w1).mono fun e W' ⟨he, bel⟩ => ?_
  subst he
  exact ⟨_, rfl, _, _, _, [], _, [], hW', trodAll_mk1 (shut_bool Try.underlying4 _), (trodAll_cons_mk (shut_int Try.underlying23 w0) (trodAll_cons_mk (Below.trod laidOut (by kernel_rfl) (of_decide_eq_true (by kernel_rfl)) k1 bel lt1) trodAll_mk0)), rfl, bel.frame _, fun h => by cases h⟩

theorem over : Rows.versionNumbersRow.holds Try.pinned (OpenSpec.ofChange Rows.versionNumbersSpec) :=
  OpenClaim.holds_of_wide 6 Try.f6 rfl rfl rfl rfl rfl rfl rfl ⟨rfl, rfl, rfl, rfl, rfl⟩ rfl rfl rfl rfl rfl (by kernel_rfl) Try.func6 (by kernel_rfl)
    (of_decide_eq_true (by kernel_rfl)) (by unfold Func.isWrapper; first | (rw [if_pos (by decide +kernel)]; kernel_rfl) | (rw [if_neg (by decide +kernel)]; exact ⟨rfl, rfl⟩))
    (fun os started H enc _ => lifted os started H enc)

end Go.Proofs.Ytakifnlfgaedjaa.versionNumbers

namespace Go.Proofs.Ytakifnlfgaedjaa
/-- The statement. -/
theorem versionNumbers_proved : Rows.VersionNumbersSaid := versionNumbers.over
#print axioms versionNumbers_proved
end Go.Proofs.Ytakifnlfgaedjaa
