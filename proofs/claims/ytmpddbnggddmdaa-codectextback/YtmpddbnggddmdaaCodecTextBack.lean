/- Proved: the Go law CodecTextBack (a text's bytes, with whatever bytes behind them, are read as that text) returns true for every text and every byte slice, and both read afterwards as before; no condition beside the form's own. -/
import Derived.Test.YtmpddbnggddmdaaAppend
import Derived.WalkKit
import Derived.ProofKit
import Derived.OpenShut
import Derived.ShutString
import Derived.ChangeOld
import Derived.Below
import Derived.SizedLaws
namespace Go.Proofs.Ytmpddbnggddmdaa.codecTextBack
open Go.ChangeShapes Go.WideShapes Go.ChangeAt Go.RowKit
open Go.ChangeMaps (open_string shut_string)
set_option linter.unusedVariables false

theorem own : ownKnob Try.prog.godebug = none := by kernel_rfl
theorem laidOut : laidOutB Try.prog = true := by kernel_rfl

/-! ### The walk -/
theorem walk (a0 : ByteArray) (a1 : Option Addr) (len1 cap1 : Nat) (z1 : List Int) (w : World) (w0 : a0.size ≤ maxLen) (w1 : IsRow .u8 w a1 len1 cap1 z1) (r1 : cap1 ≤ 140737488351232) :
    Calls Try.prog 7 #[.string a0, .slice a1 len1 cap1] w fun e w' => e = .returned (.bool true) ∧ Below w.heap.size w w' := by
  have hr1 : Rd w (.slice a1 len1 cap1) (z1.take len1) := rd_row w1
  have hy1 : Byt (z1.take len1) := byt_row w1
  have hlen : (z1.take len1).length = len1 := rd_length hr1
  obtain ⟨xs, hxs⟩ : ∃ xs, xs = z1.take len1 := ⟨_, rfl⟩
  rw [← hxs] at hr1 hy1 hlen
  have hlc : xs.length ≤ 140737488351232 := by have := row_le w1; omega
  clear w1 hxs r1 hlen
  generalize Value.slice a1 len1 cap1 = v at *
  obtain ⟨i, hi, hz0, hz1, hz2⟩ := info_parts Try.info5
  by_cases hs : 255 < a0.size
  · have e1 : textE a0 = 2 := if_pos hs
    go_enter Try.func7, Try.ntmps7
    go_wp2_with fail
    refine (texts_any _).mono ?_
    rintro e w2 ⟨rfl, hb2⟩
    go_wp2_with fail
    refine (text_any _ _ w0).mono ?_
    rintro e w3 ⟨v3, rfl, ho3, hb3⟩
    rw [e1]
    clear e1 ho3 hr1
    go_wp2
    go_ret
    exact ⟨rfl, hb2.trans (hb3.mono hb2.size)⟩
  · have e1 : textE a0 = 0 := if_neg hs
    have e2 : textB a0 = (a0.size : Int) :: strB a0 := if_neg hs
    have hs' : a0.size ≤ 255 := by omega
    go_enter Try.func7, Try.ntmps7
    go_wp2_with fail
    refine (texts_any _).mono ?_
    rintro e w2 ⟨rfl, hb2⟩
    go_wp2_with fail
    refine (text_any _ _ w0).mono ?_
    rintro e w3 ⟨v3, rfl, ho3, hb3⟩
    rw [e1]
    rw [e2] at ho3
    clear e1 e2
    have hb := hb2.trans (hb3.mono hb2.size)
    have hr3 := hr1.below hb
    have hl3 := ho3.rd.len
    have hn3 : (((a0.size : Int) :: strB a0).length : Int) = 1 + a0.size := by rw [List.length_cons, strB_length]; omega
    rw [hn3] at hl3
    have hbw : w.heap.size ≤ w3.heap.size := hb.size
    have hb23 : w2.heap.size ≤ w3.heap.size := hb3.size
    have hb02 : w.heap.size ≤ w2.heap.size := hb2.size
    clear hr1 hb2 hb3 hn3
    go_wp2_with (at_builtin; refine wpList_append_rd rfl _ _ rfl w2.heap.size _ _ rfl ho3 _ _ rfl hr3 ?c1 ?c2 ?_)
    case c1 => rw [List.length_cons, strB_length]; omega
    case c2 => exact hb23
    intro v4 w4 ho4 hg4
    have hb4 := below_grown hb hbw (ho3.mono hb02) hg4
    have hy4 : Byt ((a0.size : Int) :: (strB a0 ++ xs)) := Byt.append (xs := (a0.size : Int) :: strB a0) (fun x hx => by
      rcases List.mem_cons.1 hx with rfl | hx
      · omega
      · exact strB_byt a0 x hx) hy1
    clear hg4 ho3 hr3 hb
    go_wp2_with fail
    refine (readText_any _ _ _ ho4.rd hy4).mono ?_
    rintro e w5 ⟨rfl, rfl⟩
    rw [back_S, back_N, back_E]
    go_wp2
    go_ret
    exact ⟨by simp, hb4⟩

/-! ### The row -/
set_option maxRecDepth 100000 in
theorem lifted (os : Os) (started : os.Started) (H : Type) (enc : TypeId × Value → H) :
    ReturnsInHanded {} Try.checked os 7 .any (Rows.codecTextBackSpec.pre6 enc Try.prog Try.f7 Rows.codecTextBackRow.domain false) (Rows.codecTextBackSpec.post enc Try.prog Try.f7 false true false false) := by
  refine returnsInHanded_of_change_sized (C := Try.checked) own started (by kernel_rfl) Try.func7
    (ChangeSpec.witness6 (enc := enc) (C := Try.checked) false ⟨#[], #[.string ByteArray.empty, .slice none 0 0], []⟩ 8 (by kernel_rfl) (by kernel_rfl) (by kernel_rfl) (by kernel_rfl)) ?_
  intro W base args ds gs before hval0 hW hcnd hsz0 _
  have hval : ∀ (j : Nat) t v, Try.f7.params[j]? = some t → args[j]? = some v → Value.okWide Try.prog W .any base t v := hval0
  have hsz : (DataW.weightsEach Try.prog (Try.f7.params.toList ++ Rows.codecTextBackSpec.plain.varTypes Try.prog) (ds ++ gs)).all (· ≤ reachBytes) = true := hsz0
  clear hsz0
  have hW' := hW
  obtain ⟨p, q, hA0, hV, rfl, hfz, hnd⟩ := hW
  have hA : DataW.TrodAll enc Try.prog W 0 (fun _ => true) true Try.f7.params.toList args.toList ds p := hA0
  rw [Try.params7] at hA hval hsz
  obtain ⟨v0, vs0, d0, ds0, p0, q0, hargs, rfl, rfl, h0, r0⟩ := trodAll_cons hA
  obtain ⟨v1, vs1, d1, ds1, p1, q1, rfl, rfl, rfl, h1, r1⟩ := trodAll_cons r0
  obtain ⟨rfl, rfl, rfl⟩ := trodAll_nil r1
  obtain rfl : args = #[v0, v1] := by cases args; simp_all
  obtain ⟨rfl, rfl⟩ := trodVars_none hV
  obtain ⟨a0, rfl, rfl, rfl, w0⟩ := open_string Try.underlying9 (hval 0 9 v0 rfl rfl) h0
  obtain ⟨a1, len1, cap1, rfl⟩ := okWide_slice Try.underlying23 (hval 1 23 v1 rfl rfl)
  have k1 := h1
  have lt1 : ∀ x ∈ p1, x.block < W.heap.size := by obtain ⟨m, hm⟩ := k1; exact DataW.trod_lt m _ _ _ hm
  obtain ⟨z1, w1, r1⟩ : ∃ zs, IsRow .u8 W a1 len1 cap1 zs ∧ cap1 ≤ 140737488351232 := by
    obtain ⟨fuel, hf⟩ := h1
    rcases open_ints Try.underlying23 Try.underlying5 (by kernel_rfl) hf with ⟨hcs, _⟩ | ⟨x, l, c, zs, hcs, _, hl, hm, hz, hx, hcell, hwz⟩
    · simp [Value.cells] at hcs
      obtain ⟨rfl, rfl, rfl⟩ := hcs
      exact ⟨[], .inl ⟨rfl, rfl, rfl, rfl⟩, by decide⟩
    · simp [Value.cells] at hcs
      obtain ⟨rfl, rfl, rfl⟩ := hcs
      have hd := (Prod.mk.injEq _ _ _ _ ▸ hx).1
      have hz' : zs.length = cap1 := by simpa using hz
      have hw := sized_slice hsz (j := 1) (t := 23) (e := 5) rfl (congrArg some hd) Try.underlying23
      rw [show Try.prog.bytesOf 5 = 1 from by kernel_rfl] at hw
      simp only [lits, List.length_map, List.length_take, List.length_drop, reachBytes] at hw
      exact ⟨zs, .inr ⟨_, rfl, hl, hm, hz', hcell, hwz⟩, by omega⟩
  clear hA0 hval0
  refine (walk a0 a1 len1 cap1 z1 W w0 w1 r1).mono fun e W' ⟨he, bel⟩ => ?_
  subst he
  exact ⟨_, rfl, _, _, _, [], _, [], hW', trodAll_mk1 (shut_bool Try.underlying4 _), (trodAll_cons_mk (shut_string Try.underlying9 w0) (trodAll_cons_mk (Below.trod laidOut (by kernel_rfl) (of_decide_eq_true (by kernel_rfl)) k1 bel lt1) trodAll_mk0)), rfl, bel.frame _, fun h => by cases h⟩

theorem over : Rows.codecTextBackRow.holds Try.pinned (OpenSpec.ofChange Rows.codecTextBackSpec) :=
  OpenClaim.holds_of_wide 7 Try.f7 rfl rfl rfl rfl rfl rfl rfl ⟨rfl, rfl, rfl, rfl, rfl⟩ rfl rfl rfl rfl rfl (by kernel_rfl) Try.func7 (by kernel_rfl)
    (of_decide_eq_true (by kernel_rfl)) (by unfold Func.isWrapper; first | (rw [if_pos (by decide +kernel)]; kernel_rfl) | (rw [if_neg (by decide +kernel)]; exact ⟨rfl, rfl⟩))
    (fun os started H enc _ => lifted os started H enc)

end Go.Proofs.Ytmpddbnggddmdaa.codecTextBack

namespace Go.Proofs.Ytmpddbnggddmdaa
/-- The statement. -/
theorem codecTextBack_proved : Rows.CodecTextBackSaid := codecTextBack.over
#print axioms codecTextBack_proved
end Go.Proofs.Ytmpddbnggddmdaa
