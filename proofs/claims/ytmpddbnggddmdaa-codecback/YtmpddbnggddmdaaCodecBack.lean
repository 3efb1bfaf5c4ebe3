/- Proved: the Go law CodecBack (a number's bytes, with whatever bytes behind them, are read as that number) returns true for every number, every width and every byte slice, and the arguments read afterwards as before; no condition beside the form's own. -/
import Derived.Test.YtmpddbnggddmdaaNumbers
import Derived.WalkKit
import Derived.ProofKit
import Derived.OpenShut
import Derived.ShutString
import Derived.ChangeOld
import Derived.Below
import Derived.SizedLaws
namespace Go.Proofs.Ytmpddbnggddmdaa.codecBack
open Go.ChangeShapes Go.WideShapes Go.ChangeAt Go.RowKit
open Go.ChangeMaps (open_string shut_string)
set_option linter.unusedVariables false

theorem own : ownKnob Try.prog.godebug = none := by kernel_rfl
theorem laidOut : laidOutB Try.prog = true := by kernel_rfl

/-! ### The walk -/
theorem walk (a0 : Int) (a1 : Int) (a2 : Option Addr) (len2 cap2 : Nat) (z2 : List Int) (w : World) (w0 : (Lit.int .u64 a0).wf = true) (w1 : (Lit.int .i64 a1).wf = true) (w2 : IsRow .u8 w a2 len2 cap2 z2) (r2 : cap2 ≤ 140737488351232) :
    Calls Try.prog 6 #[.int .u64 a0, .int .i64 a1, .slice a2 len2 cap2] w fun e w' => e = .returned (.bool true) ∧ Below w.heap.size w w' := by
  obtain ⟨g0, g1⟩ := bounds_u64 w0
  have hr1 : Rd w (.slice a2 len2 cap2) (z2.take len2) := rd_row w2
  have hy1 : Byt (z2.take len2) := byt_row w2
  have hlen : (z2.take len2).length = len2 := rd_length hr1
  obtain ⟨xs, hxs⟩ : ∃ xs, xs = z2.take len2 := ⟨_, rfl⟩
  rw [← hxs] at hr1 hy1 hlen
  have hlc : xs.length ≤ 140737488351232 := by have := row_le w2; omega
  clear w2 hxs r2 hlen w0 w1
  generalize Value.slice a2 len2 cap2 = v at *
  by_cases hE : fixE a0 a1 = 0
  · have hL : fixL a0 a1 = fixB a0.toNat a1.toNat := by unfold fixL; rw [if_pos hE]
    have hk : 1 ≤ a1 ∧ a1 ≤ 8 := fixE_width hE
    have hfit : a0.toNat < 256 ^ a1.toNat := fixE_fits g0 hE
    have hl8 : (fixB a0.toNat a1.toNat).length = a1.toNat := fixB_length _ _
    go_enter Try.func6, Try.ntmps6
    go_wp2_with fail
    refine (numbers_any _).mono ?_
    rintro e w2 ⟨rfl, hb2⟩
    go_wp2_with fail
    refine (fixed_any _ _ _ g0 (by omega)).mono ?_
    rintro e w3 ⟨v3, rfl, ho3, hb3⟩
    rw [hE]
    rw [hL] at ho3
    have hb := hb2.trans (hb3.mono hb2.size)
    have hr3 := hr1.below hb
    have hbw : w.heap.size ≤ w3.heap.size := hb.size
    have hb23 : w2.heap.size ≤ w3.heap.size := hb3.size
    have hb02 : w.heap.size ≤ w2.heap.size := hb2.size
    have HN := back_num xs hk hfit
    generalize hB : fixB a0.toNat a1.toNat = B at *
    have hyB : Byt (B ++ xs) := Byt.append (by rw [← hB]; exact fixB_byt _ _) hy1
    clear hr1 hb2 hb3 hE hL hB
    go_wp2_with (at_builtin; refine wpList_append_rd rfl _ _ rfl w2.heap.size _ _ rfl ho3 _ _ rfl hr3 ?c1 ?c2 ?_)
    case c1 => omega
    case c2 => exact hb23
    intro v4 w4 ho4 hg4
    have hb4 := below_grown hb hbw (ho3.mono hb02) hg4
    clear hg4 ho3 hr3 hb
    go_wp2_with fail
    refine (number_any _ _ _ _ ho4.rd hyB).mono ?_
    rintro e w5 ⟨rfl, rfl⟩
    rw [HN.out.1, HN.out.2, Int.toNat_of_nonneg g0]
    go_wp2
    go_ret
    exact ⟨by simp, hb4⟩
  · have hE' : (fixE a0 a1 != 0) = true := bne_iff_ne.2 hE
    go_enter Try.func6, Try.ntmps6
    go_wp2_with fail
    refine (numbers_any _).mono ?_
    rintro e w2 ⟨rfl, hb2⟩
    go_wp2_with fail
    refine (fixed_any _ _ _ g0 (by omega)).mono ?_
    rintro e w3 ⟨v3, rfl, ho3, hb3⟩
    have hb := hb2.trans (hb3.mono hb2.size)
    clear hr1 hb2 hb3 ho3 hE
    go_wp2
    go_ret
    exact ⟨rfl, hb⟩

/-! ### The row -/
set_option maxRecDepth 100000 in
theorem lifted (os : Os) (started : os.Started) (H : Type) (enc : TypeId × Value → H) :
    ReturnsInHanded {} Try.checked os 6 .any (Rows.codecBackSpec.pre6 enc Try.prog Try.f6 Rows.codecBackRow.domain false) (Rows.codecBackSpec.post enc Try.prog Try.f6 false true false false) := by
  refine returnsInHanded_of_change_sized (C := Try.checked) own started (by kernel_rfl) Try.func6
    (ChangeSpec.witness6 (enc := enc) (C := Try.checked) false ⟨#[], #[.int .u64 0, .int .i64 0, .slice none 0 0], []⟩ 8 (by kernel_rfl) (by kernel_rfl) (by kernel_rfl) (by kernel_rfl)) ?_
  intro W base args ds gs before hval0 hW hcnd hsz0 _
  have hval : ∀ (j : Nat) t v, Try.f6.params[j]? = some t → args[j]? = some v → Value.okWide Try.prog W .any base t v := hval0
  have hsz : (DataW.weightsEach Try.prog (Try.f6.params.toList ++ Rows.codecBackSpec.plain.varTypes Try.prog) (ds ++ gs)).all (· ≤ reachBytes) = true := hsz0
  clear hsz0
  have hW' := hW
  obtain ⟨p, q, hA0, hV, rfl, hfz, hnd⟩ := hW
  have hA : DataW.TrodAll enc Try.prog W 0 (fun _ => true) true Try.f6.params.toList args.toList ds p := hA0
  rw [Try.params6] at hA hval hsz
  obtain ⟨v0, vs0, d0, ds0, p0, q0, hargs, rfl, rfl, h0, r0⟩ := trodAll_cons hA
  obtain ⟨v1, vs1, d1, ds1, p1, q1, rfl, rfl, rfl, h1, r1⟩ := trodAll_cons r0
  obtain ⟨v2, vs2, d2, ds2, p2, q2, rfl, rfl, rfl, h2, r2⟩ := trodAll_cons r1
  obtain ⟨rfl, rfl, rfl⟩ := trodAll_nil r2
  obtain rfl : args = #[v0, v1, v2] := by cases args; simp_all
  obtain ⟨rfl, rfl⟩ := trodVars_none hV
  obtain ⟨a0, rfl, rfl, rfl, w0⟩ := open_int Try.underlying22 (hval 0 22 v0 rfl rfl) h0
  obtain ⟨a1, rfl, rfl, rfl, w1⟩ := open_int Try.underlying3 (hval 1 3 v1 rfl rfl) h1
  obtain ⟨a2, len2, cap2, rfl⟩ := okWide_slice Try.underlying23 (hval 2 23 v2 rfl rfl)
  have k2 := h2
  have lt2 : ∀ x ∈ p2, x.block < W.heap.size := by obtain ⟨m, hm⟩ := k2; exact DataW.trod_lt m _ _ _ hm
  obtain ⟨z2, w2, r2⟩ : ∃ zs, IsRow .u8 W a2 len2 cap2 zs ∧ cap2 ≤ 140737488351232 := by
    obtain ⟨fuel, hf⟩ := h2
    rcases open_ints Try.underlying23 Try.underlying5 (by kernel_rfl) hf with ⟨hcs, _⟩ | ⟨x, l, c, zs, hcs, _, hl, hm, hz, hx, hcell, hwz⟩
    · simp [Value.cells] at hcs
      obtain ⟨rfl, rfl, rfl⟩ := hcs
      exact ⟨[], .inl ⟨rfl, rfl, rfl, rfl⟩, by decide⟩
    · simp [Value.cells] at hcs
      obtain ⟨rfl, rfl, rfl⟩ := hcs
      have hd := (Prod.mk.injEq _ _ _ _ ▸ hx).1
      have hz' : zs.length = cap2 := by simpa using hz
      have hw := sized_slice hsz (j := 2) (t := 23) (e := 5) rfl (congrArg some hd) Try.underlying23
      rw [show Try.prog.bytesOf 5 = 1 from by kernel_rfl] at hw
      simp only [lits, List.length_map, List.length_take, List.length_drop, reachBytes] at hw
      exact ⟨zs, .inr ⟨_, rfl, hl, hm, hz', hcell, hwz⟩, by omega⟩
  clear hA0 hval0
  refine (walk a0 a1 a2 len2 cap2 z2 W w0 w1 w2 r2).mono fun e W' ⟨he, bel⟩ => ?_
  subst he
  exact ⟨_, rfl, _, _, _, [], _, [], hW', trodAll_mk1 (shut_bool Try.underlying4 _), (trodAll_cons_mk (shut_int Try.underlying22 w0) (trodAll_cons_mk (shut_int Try.underlying3 w1) (trodAll_cons_mk (Below.trod laidOut (by kernel_rfl) (of_decide_eq_true (by kernel_rfl)) k2 bel lt2) trodAll_mk0))), rfl, bel.frame _, fun h => by cases h⟩

theorem over : Rows.codecBackRow.holds Try.pinned (OpenSpec.ofChange Rows.codecBackSpec) :=
  OpenClaim.holds_of_wide 6 Try.f6 rfl rfl rfl rfl rfl rfl rfl ⟨rfl, rfl, rfl, rfl, rfl⟩ rfl rfl rfl rfl rfl (by kernel_rfl) Try.func6 (by kernel_rfl)
    (of_decide_eq_true (by kernel_rfl)) (by unfold Func.isWrapper; first | (rw [if_pos (by decide +kernel)]; kernel_rfl) | (rw [if_neg (by decide +kernel)]; exact ⟨rfl, rfl⟩))
    (fun os started H enc _ => lifted os started H enc)

end Go.Proofs.Ytmpddbnggddmdaa.codecBack

namespace Go.Proofs.Ytmpddbnggddmdaa
/-- The statement. -/
theorem codecBack_proved : Rows.CodecBackSaid := codecBack.over
#print axioms codecBack_proved
end Go.Proofs.Ytmpddbnggddmdaa
