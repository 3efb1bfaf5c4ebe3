/- Proved: FreeRuns, for every input, with no condition: it answers true, and the slice reads as it did. -/
import Derived.Test.YtljfdmjlilahjaaFMath
import Derived.Test.YtljfdmjlilahjaaFLive
import Derived.Test.YtljfdmjlilahjaaFArg
import Derived.Deep.RegionHeld3
import Derived.BigQuiet
import Derived.Deep.QuietTactic
import Derived.WalkSmall
import Derived.ProofKit
import Derived.OpenShut
import Derived.ShutString
import Derived.ChangeOld
import Derived.Below
import Derived.Carry
namespace Go.Proofs.Ytljfdmjlilahjaa.freeRuns
open Go.ChangeShapes Go.WideShapes Go.ChangeAt Go.RowKit
open Go.ChangeMaps (open_string shut_string)
set_option linter.unusedVariables false

theorem own : ownKnob Try.prog.godebug = none := by kernel_rfl
theorem laidOut : laidOutB Try.prog = true := by kernel_rfl

set_option maxRecDepth 100000 in
set_option maxHeartbeats 8000000 in
theorem walk (lo to_ : Int) (v : Value) (l : List Int) (n : Int) (w : World) (hlo : (Lit.int .i64 lo).wf = true) (hto : (Lit.int .i64 to_).wf = true) (hr : RdI w v l) (hok : IntsOk l) (hn : (Lit.int .i64 n).wf = true) :
    Calls Try.prog 6 #[.int .i64 lo, .int .i64 to_, v, .int .i64 n] w fun e w' => e = .returned (.bool true) ∧ Below w.heap.size w w' := by
  obtain ⟨hn0, hn1⟩ := bounds_i64 hn
  clear hn hlo hto hok
  go_enter Try.func6, Try.ntmps6
  go_wp2_with fail
  refine (live_any w).mono ?_
  rintro e w1 ⟨rfl, hb1⟩
  have hr1 := hr.below hb1
  by_cases harg : lo < 0 ∨ to_ ≤ lo ∨ 1024 < to_
  · go_wp2_with fail
    refine (new_arg w1 lo to_ v harg).mono ?_
    rintro e w2 ⟨rfl, rfl⟩
    clear harg
    go_wp2
    go_ret
    exact ⟨rfl, hb1⟩
  obtain ⟨L, rfl⟩ : ∃ L : Nat, (L : Int) = lo := ⟨lo.toNat, by omega⟩
  obtain ⟨c, hc, hc1⟩ : ∃ c : Nat, to_ = (L : Int) + c ∧ 1 ≤ c ∧ L + c ≤ 1024 := ⟨(to_ - L).toNat, by omega, by omega, by omega⟩
  subst hc
  clear harg
  go_wp2_with fail
  refine (new_ok w1 L c hc1.1 hc1.2 v l hr1).mono ?_
  rintro e w2 hno
  unfold NewOut at hno
  obtain ⟨hb2, hcase⟩ := hno
  have hB2 := hb1.trans (hb2.mono hb1.size)
  have hs1 := hb1.size
  clear hr hr1 hb1 hb2
  rcases hcase with ⟨_, rfl⟩ | ⟨_, _, rfl⟩ | ⟨_, ks, p, h, hk, rfl, H, hok, hp, hh⟩
  · go_wp2
    go_ret
    exact ⟨rfl, hB2⟩
  · go_wp2
    go_ret
    exact ⟨rfl, hB2⟩
  clear hk hp
  have hmost : L + ks.length ≤ 1024 := hok.most
  have hs2 := hB2.size
  have hh2 : h < w2.heap.size := by obtain ⟨_, _, _, _, _, _, q, _⟩ := FrAt.opened H; exact q
  unfold ptr
  have cc := freeL_any H hok
  unfold ptr at cc
  go_wp2_with fail
  refine cc.mono ?_
  clear cc
  rintro e w3 ⟨u, rfl, ho3, hb3⟩
  have H3 : PAt w3 p h ⟨L, ks⟩ := FrAt.below H hb3
  have hB3 := hB2.trans (hb3.mono hB2.size)
  have hl := listed ⟨L, ks⟩ 1
  obtain ⟨B, hB⟩ : ∃ B, blocksL ⟨L, ks⟩ 1 = B := ⟨_, rfl⟩
  rw [hB] at ho3 hl
  have hlen : B.length ≤ 1024 := by rw [← hB]; have := upto_len ⟨L, ks⟩ 1 ks.length; have := hok.most; unfold blocksL; dsimp only at *; omega
  clear H hB2 hb3
  by_cases hn1' : n < 1
  · have cc := takeRun_arg (w := w3) (p := p) n hn1'
    unfold ptr at cc
    go_wp2_with fail
    refine cc.mono ?_
    rintro e w4 ⟨rfl, rfl⟩
    clear cc hl ho3 H3 hok
    go_wp2
    go_ret
    exact ⟨rfl, hB3⟩
  obtain ⟨N, rfl⟩ : ∃ N : Nat, (N : Int) = n := ⟨n.toNat, by omega⟩
  have hN : 1 ≤ N := by omega
  have cc := takeRun_ok H3 hok N hN (by omega)
  unfold ptr at cc
  go_wp2_with fail
  refine cc.mono ?_
  clear cc
  rintro e w4 ⟨r, rfl, hF, H4, hS⟩
  have hB4 : Below w.heap.size w w4 := hS.belowOf hB3 hB3.size (by simp; omega)
  have hct := run_count (s := ⟨L, ks⟩) hF
  rw [hB] at hct
  have hok4 : FrOk (runF ⟨L, ks⟩ N r) := run_ok hok N r
  have hfl := freeL_any H4 hok4
  obtain ⟨B', hB'⟩ : ∃ B', blocksL (runF ⟨L, ks⟩ N r) 1 = B' := ⟨_, rfl⟩
  have hF1 : ∀ W, Below w4.heap.size w4 W → Calls Try.prog 20 #[.pointer (some ⟨p, 0, none⟩)] W fun e w' => ∃ a c, e = .returned (.slice a B'.length c) ∧ Below W.heap.size W w' := fun W hW => by
    have := freeL_any (FrAt.below H4 hW) hok4
    unfold ptr at this
    refine this.mono ?_
    rintro e w' ⟨u, rfl, h1, h2⟩
    obtain ⟨a, c, rfl⟩ := rowI_slice h1
    rw [hB'] at *
    exact ⟨a, c, rfl, h2⟩
  rw [hB'] at hct
  clear hfl hB' hok4 H4 H3 hok
  obtain ⟨a, cp, rfl⟩ := rowI_slice ho3
  have cells : ∀ i, i < B.length → ∃ g, a = some ⟨g, 0, none⟩ ∧ g < w4.heap.size ∧ ∀ i, i < B.length → w4.cell? ⟨g, i, none⟩ = some (.int .i64 (B.getD i 0)) := fun i hi => by
    obtain ⟨g, cp', e1, h1, h2, h3⟩ := natC_at ho3 (by omega)
    simp only [Value.slice.injEq] at e1
    obtain ⟨rfl, _, rfl⟩ := e1
    refine ⟨g, rfl, Nat.lt_of_lt_of_le h2 hS.size, fun i hi => ?_⟩
    rw [World.cell?_of_block (w := w3) (a := ⟨g, i, none⟩) (hS.block g h2 (by simp; omega))]
    exact h3 i _ (by rw [List.getElem?_eq_getElem hi, List.getD_eq_getElem?_getD, List.getElem?_eq_getElem hi]; rfl)
  have hcp : cp ≤ 9223372036854775807 ∧ B.length ≤ cp := by
    rcases ho3.2 with ⟨e, h0⟩ | ⟨q, cap, cur, e, _, _, h1, h2, _⟩
    · simp only [Value.slice.injEq] at e; obtain ⟨_, e2, rfl⟩ := e; exact ⟨by omega, by omega⟩
    · simp only [Value.slice.injEq] at e
      obtain ⟨_, _, rfl⟩ := e
      unfold maxLen at h2
      exact ⟨by omega, h1⟩
  have hbb : ∀ i, i < B.length → B.getD i 0 ≤ 1024 ∧ L ≤ B.getD i 0 := fun i hi => by
    have := hl.lo i hi
    have := hmost
    dsimp only at *
    omega
  have HL : Hid (Listed ⟨L, ks⟩ 1 (fun j => B.getD j 0) B.length) := hl
  have HF : Hid (IsFirst ks N r) := hF
  clear hl hF ho3 hS hB3
  obtain ⟨b, hb⟩ : ∃ b : Nat → Nat, ∀ j, B.getD j 0 = b j := ⟨_, fun _ => rfl⟩
  have HL' : Hid (Listed ⟨L, ks⟩ 1 b B.length) := by
    have := HL.out
    simp only [hb] at this
    exact this
  simp only [hb] at cells hbb
  clear HL hb hB
  generalize hm : B.length = m at *
  generalize B'.length = m' at *
  have hNI : ¬ (N : Int) < 1 := by omega
  go_wp2_with fail
  go_loopw [15, 16, 49] (fun x q t wr => ∃ k : Nat, k ≤ m ∧ t = .int .i64 k ∧ Below w4.heap.size w4 wr ∧ ((x = .int .i64 (-1) ∧ Hid (∀ j, j < k → ¬ good b m N j)) ∨ ∃ k0, k0 < m ∧ x = .int .i64 (b k0) ∧ Hid (good b m N k0) ∧ Hid (∀ j, j < k0 → ¬ good b m N j))) (fun _ _ t _ => m - (intOf t).toNat)
  case atStart => exact ⟨0, Nat.zero_le _, rfl, Below.refl _ _, .inl ⟨rfl, fun j hj => by omega⟩⟩
  case round =>
    obtain ⟨k, hk, rfl, HB, hx⟩ := hrel
    have hB5 : Below w.heap.size w wr := hB4.trans (HB.mono hB4.size)
    by_cases hlt : k < m
    · have hltI : (k : Int) < m := by omega
      obtain ⟨g, rfl, hg, hcell⟩ := cells k hlt
      have xk := (HB.cell (p := ⟨g, k, none⟩) hg).trans (hcell k hlt)
      have bk := hbb k hlt
      rcases hx with ⟨rfl, HN⟩ | ⟨k0, hk0, rfl, HG, HN⟩
      · by_cases hin : k + N ≤ m
        · have d1 : decide ((N : Int) ≤ (m : Int) - k) = true := decide_eq_true (by omega)
          have xn := (HB.cell (p := ⟨g, k + N - 1, none⟩) hg).trans (hcell (k + N - 1) (by omega))
          have hidx : (k : Int) + N - 1 = ((k + N - 1 : Nat) : Int) := by omega
          have bn := hbb (k + N - 1) (by omega)
          have hil : k + N - 1 < m := by omega
          clear cells hcell hbb
          by_cases hg' : b (k + N - 1) = b k + N - 1
          · have HG : Hid (good b m N k) := ⟨hin, hg'⟩
            have d2 : decide (((b (k + N - 1) : Nat) : Int) = (b k : Int) + N - 1) = true := decide_eq_true (by omega)
            have d2' : (((b (k + N - 1) : Nat) : Int) == (b k : Int) + N - 1) = true := beq_iff_eq.2 (by omega)
            clear hg'
            generalize hbn : b (k + N - 1) = y at *
            generalize hbk : b k = z at *
            clear hbn
            generalize hki : k + N - 1 = kn at *
            go_wp2_with fail
            go_quiet (fail)
            go_wp2_with fail
            go_roundw
            case rel => exact ⟨k + 1, by omega, by go_num, HB.trans (belowQ _ _ _), .inr ⟨k, hlt, by rw [hbk], HG, HN⟩⟩
            case measure => simp [intOf]; omega
          · have HG : Hid (∀ j, j < k + 1 → ¬ good b m N j) := fun j hj hgj => by
              rcases Nat.lt_or_ge j k with q | q
              · exact HN.out j q hgj
              · have : j = k := by omega
                subst this
                exact hg' hgj.2
            have d2 : decide (((b (k + N - 1) : Nat) : Int) = (b k : Int) + N - 1) = false := decide_eq_false (by omega)
            have d2' : (((b (k + N - 1) : Nat) : Int) == (b k : Int) + N - 1) = false := by simp; omega
            clear hg' HN
            generalize hbn : b (k + N - 1) = y at *
            generalize hbk : b k = z at *
            clear hbn
            generalize hki : k + N - 1 = kn at *
            go_wp2_with fail
            go_quiet (fail)
            go_wp2_with fail
            go_roundw
            case rel => exact ⟨k + 1, by omega, by go_num, HB.trans (belowQ _ _ _), .inl ⟨rfl, HG⟩⟩
            case measure => simp [intOf]; omega
        · have HG : Hid (∀ j, j < k + 1 → ¬ good b m N j) := fun j hj hgj => by
            rcases Nat.lt_or_ge j k with q | q
            · exact HN.out j q hgj
            · have := hgj.1
              omega
          have d1 : decide ((N : Int) ≤ (m : Int) - k) = false := decide_eq_false (by omega)
          clear cells hcell hbb HN xk
          go_wp2_with fail
          go_quiet (fail)
          go_wp2_with fail
          go_roundw
          case rel => exact ⟨k + 1, by omega, by go_num, HB.trans (belowQ _ _ _), .inl ⟨rfl, HG⟩⟩
          case measure => simp [intOf]; omega
      · have d1 : decide (((b k0 : Nat) : Int) < 0) = false := decide_eq_false (by omega)
        clear cells hcell hbb xk bk
        generalize hbk : b k0 = z at *
        go_wp2_with fail
        go_quiet (fail)
        go_wp2_with fail
        go_roundw
        case rel => exact ⟨k + 1, by omega, by go_num, HB.trans (belowQ _ _ _), .inr ⟨k0, hk0, by rw [hbk], HG, HN⟩⟩
        case measure => simp [intOf]; omega
    · obtain rfl : k = m := by omega
      have hfw := hF1 wr HB
      clear cells hF1
      rcases hx with ⟨rfl, HN⟩ | ⟨k0, hk0, rfl, HG, HN⟩
      · have e := first_unique HF.out (first_none HL'.out hN (fun j hj => HN.out j hj))
        subst e
        have hct0 : m' + 0 = k := hct
        have hct' : (m' : Int) = k := by omega
        clear HF HL' HN hct hct0
        unfold runV runE
        go_wp2_with fail
        refine hfw.mono ?_
        rintro e w6 ⟨a6, c6, rfl, hb6⟩
        clear hfw
        go_wp2
        go_ret
        exact ⟨rfl, hB5.trans (hb6.mono hB5.size)⟩
      · have e := first_unique HF.out (first_some HL'.out hN HG.out (fun j hj => HN.out j hj))
        subst e
        have hk2 := hbb k0 hk0
        have hct0 : m' + N = k := hct
        have hct' : (m' : Int) = (k : Int) - N := by omega
        have hv : runV ⟨L, ks⟩ (some (b k0 - L)) = (b k0 : Int) := by unfold runV; dsimp only; omega
        have hv2 : runE (some (b k0 - (Fr.mk L ks).lo)) = 0 := rfl
        have hv' : runV ⟨L, ks⟩ (some (b k0 - (Fr.mk L ks).lo)) = (b k0 : Int) := hv
        rw [hv', hv2]
        have hkN := HG.out.1
        clear HF HL' HN HG hct hct0 hv hv' hv2 hbb
        generalize b k0 = z at *
        go_wp2_with fail
        refine hfw.mono ?_
        rintro e w6 ⟨a6, c6, rfl, hb6⟩
        clear hfw
        go_wp2
        go_ret
        exact ⟨rfl, hB5.trans (hb6.mono hB5.size)⟩

/-! ### The row -/
set_option maxRecDepth 100000 in
theorem lifted (os : Os) (started : os.Started) (H : Type) (enc : TypeId × Value → H) :
    ReturnsInHanded {} Try.checked os 6 .any (Rows.freeRunsSpec.pre6 enc Try.prog Try.f6 Rows.freeRunsRow.domain false) (Rows.freeRunsSpec.post enc Try.prog Try.f6 false true false false) := by
  refine returnsInHanded_of_change (C := Try.checked) own started (by kernel_rfl) Try.func6
    (ChangeSpec.witness6 (enc := enc) (C := Try.checked) false ⟨#[], #[.int .i64 0, .int .i64 0, .slice none 0 0, .int .i64 0], []⟩ 8 (by kernel_rfl) (by kernel_rfl) (by kernel_rfl) (by kernel_rfl)) ?_
  intro W base args ds gs before hval0 hW hcnd _
  have hval : ∀ (j : Nat) t v, Try.f6.params[j]? = some t → args[j]? = some v → Value.okWide Try.prog W .any base t v := hval0
  have hW' := hW
  obtain ⟨p, q, hA0, hV, rfl, hfz, hnd⟩ := hW
  have hA : DataW.TrodAll enc Try.prog W 0 (fun _ => true) true Try.f6.params.toList args.toList ds p := hA0
  rw [Try.params6] at hA hval
  obtain ⟨v0, vs0, d0, ds0, p0, q0, hargs, rfl, rfl, h0, r0⟩ := trodAll_cons hA
  obtain ⟨v1, vs1, d1, ds1, p1, q1, rfl, rfl, rfl, h1, r1⟩ := trodAll_cons r0
  obtain ⟨v2, vs2, d2, ds2, p2, q2, rfl, rfl, rfl, h2, r2⟩ := trodAll_cons r1
  obtain ⟨v3, vs3, d3, ds3, p3, q3, rfl, rfl, rfl, h3, r3⟩ := trodAll_cons r2
  obtain ⟨rfl, rfl, rfl⟩ := trodAll_nil r3
  obtain rfl : args = #[v0, v1, v2, v3] := by cases args; simp_all
  obtain ⟨rfl, rfl⟩ := trodVars_none hV
  obtain ⟨a0, rfl, rfl, rfl, w0⟩ := open_int Try.underlying3 (hval 0 3 v0 rfl rfl) h0
  obtain ⟨a1, rfl, rfl, rfl, w1⟩ := open_int Try.underlying3 (hval 1 3 v1 rfl rfl) h1
  obtain ⟨a2, len2, cap2, rfl⟩ := okWide_slice Try.underlying22 (hval 2 22 v2 rfl rfl)
  have k2 := h2
  have lt2 : ∀ x ∈ p2, x.block < W.heap.size := by obtain ⟨m, hm⟩ := k2; exact DataW.trod_lt m _ _ _ hm
  obtain ⟨z2, wk2, w2⟩ : ∃ l, IntsOk l ∧ RdI W (.slice a2 len2 cap2) l := by
    obtain ⟨fuel, hf⟩ := h2
    exact ints_of hf
  obtain ⟨a3, rfl, rfl, rfl, w3⟩ := open_int Try.underlying3 (hval 3 3 v3 rfl rfl) h3
  clear hA0 hval0
  refine (walk a0 a1 (.slice a2 len2 cap2) z2 a3 W w0 w1 w2 wk2 w3).mono fun e W' ⟨he, bel⟩ => ?_
  subst he
  exact ⟨_, rfl, _, _, _, [], _, [], hW', trodAll_mk1 (shut_bool Try.underlying4 _), (trodAll_cons_mk (shut_int Try.underlying3 w0) (trodAll_cons_mk (shut_int Try.underlying3 w1) (trodAll_cons_mk (Below.trod laidOut (by kernel_rfl) (of_decide_eq_true (by kernel_rfl)) k2 bel lt2) (trodAll_cons_mk (shut_int Try.underlying3 w3) trodAll_mk0)))), rfl, bel.frame _, fun h => by cases h⟩

theorem over : Rows.freeRunsRow.holds Try.pinned (OpenSpec.ofChange Rows.freeRunsSpec) :=
  OpenClaim.holds_of_wide 6 Try.f6 rfl rfl rfl rfl rfl rfl rfl ⟨rfl, rfl, rfl, rfl, rfl⟩ rfl rfl rfl rfl rfl (by kernel_rfl) Try.func6 (by kernel_rfl)
    (of_decide_eq_true (by kernel_rfl)) (by unfold Func.isWrapper; first | (rw [if_pos (by decide +kernel)]; kernel_rfl) | (rw [if_neg (by decide +kernel)]; exact ⟨rfl, rfl⟩))
    (fun os started H enc _ => lifted os started H enc)

end Go.Proofs.Ytljfdmjlilahjaa.freeRuns

namespace Go.Proofs.Ytljfdmjlilahjaa
/-- The statement. -/
theorem freeRuns_proved : Rows.FreeRunsSaid := freeRuns.over
#print axioms freeRuns_proved
end Go.Proofs.Ytljfdmjlilahjaa
