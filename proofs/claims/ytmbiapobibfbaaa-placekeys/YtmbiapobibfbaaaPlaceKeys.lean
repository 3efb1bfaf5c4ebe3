/- Proved: PlaceKeys, for every place and every two strings, with no condition: it answers true. -/
import Derived.Test.YtmbiapobibfbaaaPLive
import Derived.Test.YtmbiapobibfbaaaRRead
import Derived.Test.YtmbiapobibfbaaaPArg
import Derived.Deep.RegionHeld3
import Derived.BigQuiet
import Derived.Deep.QuietTactic
import Derived.WalkSmall
import Derived.ProofKit
import Derived.OpenShut
import Derived.ShutString
import Derived.ChangeOld
import Derived.Below
import Derived.Carry
namespace Go.Proofs.Ytmbiapobibfbaaa.placeKeys
open Go.ChangeShapes Go.WideShapes Go.ChangeAt Go.RowKit
open Go.ChangeMaps (open_string shut_string)
set_option linter.unusedVariables false

theorem own : ownKnob Try.prog.godebug = none := by kernel_rfl
theorem laidOut : laidOutB Try.prog = true := by kernel_rfl

set_option maxRecDepth 100000 in
set_option maxHeartbeats 16000000 in
theorem walk (p : Pl) (key name : ByteArray) (w : World) (hp : PlOk p) (hk : key.size ≤ maxLen) (hn : name.size ≤ maxLen) : Calls Try.prog 3 #[plV p, .string key, .string name] w fun e w' => e = .returned (.bool true) ∧ Below w.heap.size w w' := by
  obtain ⟨w1, hw1⟩ : ∃ w1, w1 = w.alloc (.cells #[.int .u32 p.ino, .int .i64 p.part, .string p.name, .int .u32 p.chunk] 24) := ⟨_, rfl⟩
  have hb1 : Below w.heap.size w w1 := by rw [hw1]; exact (Below.refl _ _).alloc (Nat.le_refl _) _
  have ha1 : PlAt w1 w.heap.size p := by rw [hw1]; exact PlAt.laid w p
  have kya : ∀ W, Calls Try.prog 10 #[.agg #[.int .u32 p.ino, .int .i64 p.part, .string p.name, .int .u32 p.chunk]] W fun e w' => e = .returned (.tuple #[.string (keyS p), .int .i64 (plE p)]) ∧ Below W.heap.size W w' := fun W => key_any W p hp
  have kyb : ∀ W, Calls Try.prog 11 #[.agg #[.int .u32 p.ino, .int .i64 p.part, .string p.name, .int .u32 p.chunk]] W fun e w' => e = .returned (.tuple #[.string (keyS p), .int .i64 (plE p)]) ∧ Below W.heap.size W w' := fun W => refKey_any W p hp
  have cka : ∀ W, Calls Try.prog 14 #[.agg #[.int .u32 p.ino, .int .i64 p.part, .string p.name, .int .u32 p.chunk]] W fun e w' => e = .returned (.int .i64 (plE p)) ∧ Below W.heap.size W w' := fun W => check_any W p hp
  have ckb : ∀ W, Calls Try.prog 15 #[.agg #[.int .u32 p.ino, .int .i64 p.part, .string p.name, .int .u32 p.chunk]] W fun e w' => e = .returned (.int .i64 (plE p)) ∧ Below W.heap.size W w' := fun W => refCheck_any W p hp
  obtain ⟨r, hr⟩ : ∃ r, r = rdP key := ⟨_, rfl⟩
  have rda : ∀ W, Calls Try.prog 12 #[.string key] W fun e w' => e = .returned (.tuple #[.agg #[.int .u32 r.ino, .int .i64 r.part, .string r.name, .int .u32 r.chunk], .int .i64 (rdE key)]) ∧ Below W.heap.size W w' := fun W => by
    have := read_any W key hk
    rw [← hr] at this
    exact this
  have rdb : ∀ W, Calls Try.prog 13 #[.string key] W fun e w' => e = .returned (.tuple #[.agg #[.int .u32 r.ino, .int .i64 r.part, .string r.name, .int .u32 r.chunk], .int .i64 (rdE key)]) ∧ Below W.heap.size W w' := fun W => by
    have := refRead_any W key hk
    rw [← hr] at this
    exact this
  have cna : ∀ W, Calls Try.prog 16 #[.string name] W fun e w' => e = .returned (.int .i64 (nameE name)) ∧ W = w' := fun W => checkName_any W name hn
  have cnb : ∀ W, Calls Try.prog 17 #[.string name] W fun e w' => e = .returned (.int .i64 (nameE name)) ∧ W = w' := fun W => refName_any W name hn
  have heq : ∀ W, (binOp .eql 24 (.agg #[.int .u32 r.ino, .int .i64 r.part, .string r.name, .int .u32 r.chunk]) (.agg #[.int .u32 r.ino, .int .i64 r.part, .string r.name, .int .u32 r.chunk])).run Try.prog W = .ok (.bool true) W := fun W => by
    rw [eq_places, (plEq_iff (a := ⟨r.ino, r.part, r.name, r.chunk⟩) (b := ⟨r.ino, r.part, r.name, r.chunk⟩)).2 rfl]
  clear hp hk hn hr
  generalize keyS p = ks at *
  generalize plE p = pe at *
  generalize rdE key = re at *
  generalize nameE name = ne at *
  unfold plV
  go_enter Try.func3, Try.ntmps3
  go_wp2_with fail
  rw [← hw1]
  clear hw1
  refine (live_any _).mono ?_
  rintro e w2 ⟨rfl, hb2⟩
  have ha2 := ha1.below hb2
  have p0 := ha2.c0
  have p1 := ha2.c1
  have p2 := ha2.c2
  have p3 := ha2.c3
  go_wp2_with fail
  refine (kya _).mono ?_
  rintro e w3 ⟨rfl, hb3⟩
  clear p0 p1 p2 p3
  have ha3 := ha2.below hb3
  have p0 := ha3.c0
  have p1 := ha3.c1
  have p2 := ha3.c2
  have p3 := ha3.c3
  go_wp2_with fail
  refine (kyb _).mono ?_
  rintro e w4 ⟨rfl, hb4⟩
  clear p0 p1 p2 p3
  have ha4 := ha3.below hb4
  go_wp2_with fail
  refine (rda _).mono ?_
  rintro e w5 ⟨rfl, hb5⟩
  have ha5 := ha4.below hb5
  obtain ⟨w6, hw6⟩ : ∃ w6, w6 = w5.alloc (.cells #[.int .u32 r.ino, .int .i64 r.part, .string r.name, .int .u32 r.chunk] 24) := ⟨_, rfl⟩
  have hb6 : Below w5.heap.size w5 w6 := by rw [hw6]; exact (Below.refl _ _).alloc (Nat.le_refl _) _
  have hr6 : PlAt w6 w5.heap.size r := by rw [hw6]; exact PlAt.laid w5 r
  have ha6 := ha5.below hb6
  go_wp2_with fail
  rw [← hw6]
  clear hw6
  refine (rdb _).mono ?_
  rintro e w7 ⟨rfl, hb7⟩
  have ha7 := ha6.below hb7
  have hr7 := hr6.below hb7
  obtain ⟨w8, hw8⟩ : ∃ w8, w8 = w7.alloc (.cells #[.int .u32 r.ino, .int .i64 r.part, .string r.name, .int .u32 r.chunk] 24) := ⟨_, rfl⟩
  have hb8 : Below w7.heap.size w7 w8 := by rw [hw8]; exact (Below.refl _ _).alloc (Nat.le_refl _) _
  have hs8 : PlAt w8 w7.heap.size r := by rw [hw8]; exact PlAt.laid w7 r
  have ha8 := ha7.below hb8
  have hr8 := hr7.below hb8
  have hb08 : Below w.heap.size w w8 := thenB hb1 (thenB hb2 (thenB hb3 (thenB hb4 (thenB hb5 (thenB hb6 (thenB hb7 hb8))))))
  have q0 : ∀ W, Below w8.heap.size w8 W → W.cell? ⟨w.heap.size, 0, none⟩ = some (.int .u32 p.ino) := fun W hW => (ha8.below hW).c0
  have q1 : ∀ W, Below w8.heap.size w8 W → W.cell? ⟨w.heap.size, 1, none⟩ = some (.int .i64 p.part) := fun W hW => (ha8.below hW).c1
  have q2 : ∀ W, Below w8.heap.size w8 W → W.cell? ⟨w.heap.size, 2, none⟩ = some (.string p.name) := fun W hW => (ha8.below hW).c2
  have q3 : ∀ W, Below w8.heap.size w8 W → W.cell? ⟨w.heap.size, 3, none⟩ = some (.int .u32 p.chunk) := fun W hW => (ha8.below hW).c3
  have r0 : ∀ W, Below w8.heap.size w8 W → W.cell? ⟨w5.heap.size, 0, none⟩ = some (.int .u32 r.ino) := fun W hW => (hr8.below hW).c0
  have r1 : ∀ W, Below w8.heap.size w8 W → W.cell? ⟨w5.heap.size, 1, none⟩ = some (.int .i64 r.part) := fun W hW => (hr8.below hW).c1
  have r2 : ∀ W, Below w8.heap.size w8 W → W.cell? ⟨w5.heap.size, 2, none⟩ = some (.string r.name) := fun W hW => (hr8.below hW).c2
  have r3 : ∀ W, Below w8.heap.size w8 W → W.cell? ⟨w5.heap.size, 3, none⟩ = some (.int .u32 r.chunk) := fun W hW => (hr8.below hW).c3
  have t0 : ∀ W, Below w8.heap.size w8 W → W.cell? ⟨w7.heap.size, 0, none⟩ = some (.int .u32 r.ino) := fun W hW => (hs8.below hW).c0
  have t1 : ∀ W, Below w8.heap.size w8 W → W.cell? ⟨w7.heap.size, 1, none⟩ = some (.int .i64 r.part) := fun W hW => (hs8.below hW).c1
  have t2 : ∀ W, Below w8.heap.size w8 W → W.cell? ⟨w7.heap.size, 2, none⟩ = some (.string r.name) := fun W hW => (hs8.below hW).c2
  have t3 : ∀ W, Below w8.heap.size w8 W → W.cell? ⟨w7.heap.size, 3, none⟩ = some (.int .u32 r.chunk) := fun W hW => (hs8.below hW).c3
  clear ha1 ha2 ha3 ha4 ha5 ha6 ha7 ha8 hr6 hr7 hr8 hs8 hb1 hb2 hb3 hb4 hb5 hb6 hb7 hb8
  go_wp2_with fail
  rw [← hw8]
  clear hw8
  refine wp_region_noPanic ?_
  go_region_held (fun W => Below w8.heap.size w8 W) (first | assumption | exact (Below.refl _ _).drew | exact keep2 (by assumption) (by assumption))
    (first
      | (go_at_call 14; refine (cka _).mono ?_; rintro e wa ⟨rfl, hba⟩)
      | (go_at_call 15; refine (ckb _).mono ?_; rintro e wb ⟨rfl, hbb⟩)
      | (go_at_call 16; refine (cna _).mono ?_; rintro e wc ⟨rfl, rfl⟩)
      | (go_at_call 17; refine (cnb _).mono ?_; rintro e wd ⟨rfl, rfl⟩))
  refine NoPanic.normal ?_
  have hlast : Below w8.heap.size w8 wb := by assumption
  clear q0 q1 q2 q3 r0 r1 r2 r3 t0 t1 t2 t3 cka ckb cna cnb heq kya kyb rda rdb
  go_wp2
  go_ret
  exact ⟨rfl, thenB hb08 hlast⟩

/-! ### The row -/
set_option maxRecDepth 100000 in
theorem lifted (os : Os) (started : os.Started) (H : Type) (enc : TypeId × Value → H) :
    ReturnsInHanded {} Try.checked os 3 .any (Rows.placeKeysSpec.pre6 enc Try.prog Try.f3 Rows.placeKeysRow.domain false) (Rows.placeKeysSpec.post enc Try.prog Try.f3 false true false false) := by
  refine returnsInHanded_of_change (C := Try.checked) own started (by kernel_rfl) Try.func3
    (ChangeSpec.witness6 (enc := enc) (C := Try.checked) false ⟨#[], #[.agg #[.int .u32 0, .int .i64 0, .string ByteArray.empty, .int .u32 0], .string ByteArray.empty, .string ByteArray.empty], []⟩ 8 (by kernel_rfl) (by kernel_rfl) (by kernel_rfl) (by kernel_rfl)) ?_
  intro W base args ds gs before hval0 hW hcnd _
  have hval : ∀ (j : Nat) t v, Try.f3.params[j]? = some t → args[j]? = some v → Value.okWide Try.prog W .any base t v := hval0
  have hW' := hW
  obtain ⟨p, q, hA0, hV, rfl, hfz, hnd⟩ := hW
  have hA : DataW.TrodAll enc Try.prog W 0 (fun _ => true) true Try.f3.params.toList args.toList ds p := hA0
  rw [Try.params3] at hA hval
  obtain ⟨v0, vs0, d0, ds0, p0, q0, hargs, rfl, rfl, h0, r0⟩ := trodAll_cons hA
  obtain ⟨v1, vs1, d1, ds1, p1, q1, rfl, rfl, rfl, h1, r1⟩ := trodAll_cons r0
  obtain ⟨v2, vs2, d2, ds2, p2, q2, rfl, rfl, rfl, h2, r2⟩ := trodAll_cons r1
  obtain ⟨rfl, rfl, rfl⟩ := trodAll_nil r2
  obtain rfl : args = #[v0, v1, v2] := by cases args; simp_all
  obtain ⟨rfl, rfl⟩ := trodVars_none hV
  obtain ⟨cs0, rfl, sz0⟩ := okWide_struct Try.underlying24 (hval 0 24 v0 rfl rfl)
  have k0 := h0
  have lt0 : ∀ x ∈ p0, x.block < W.heap.size := by obtain ⟨m, hm⟩ := k0; exact DataW.trod_lt m _ _ _ hm
  obtain ⟨a0, w0, rfl⟩ : ∃ q : Pl, PlOk q ∧ cs0 = plCells q := by
    obtain ⟨fuel, hf⟩ := h0
    exact place_of sz0 hf
  obtain ⟨a1, rfl, rfl, rfl, w1⟩ := open_string Try.underlying9 (hval 1 9 v1 rfl rfl) h1
  obtain ⟨a2, rfl, rfl, rfl, w2⟩ := open_string Try.underlying9 (hval 2 9 v2 rfl rfl) h2
  clear hA0 hval0
  refine (walk a0 a1 a2 W w0 w1 w2).mono fun e W' ⟨he, bel⟩ => ?_
  subst he
  exact ⟨_, rfl, _, _, _, [], _, [], hW', trodAll_mk1 (shut_bool Try.underlying4 _), (trodAll_cons_mk (Below.trod laidOut (by kernel_rfl) (of_decide_eq_true (by kernel_rfl)) k0 bel lt0) (trodAll_cons_mk (shut_string Try.underlying9 w1) (trodAll_cons_mk (shut_string Try.underlying9 w2) trodAll_mk0))), rfl, bel.frame _, fun h => by cases h⟩

theorem over : Rows.placeKeysRow.holds Try.pinned (OpenSpec.ofChange Rows.placeKeysSpec) :=
  OpenClaim.holds_of_wide 3 Try.f3 rfl rfl rfl rfl rfl rfl rfl ⟨rfl, rfl, rfl, rfl, rfl⟩ rfl rfl rfl rfl rfl (by kernel_rfl) Try.func3 (by kernel_rfl)
    (of_decide_eq_true (by kernel_rfl)) (by unfold Func.isWrapper; first | (rw [if_pos (by decide +kernel)]; kernel_rfl) | (rw [if_neg (by decide +kernel)]; exact ⟨rfl, rfl⟩))
    (fun os started H enc _ => lifted os started H enc)

end Go.Proofs.Ytmbiapobibfbaaa.placeKeys

namespace Go.Proofs.Ytmbiapobibfbaaa
/-- The statement. -/
theorem placeKeys_proved : Rows.PlaceKeysSaid := placeKeys.over
#print axioms placeKeys_proved
end Go.Proofs.Ytmbiapobibfbaaa
