/- Proved: armoirelaw13.DeltaJoins in full: for every two changes Check and Join tell what the document says. -/
import Derived.Test.YtpbokenambjclaaCgRef2
import Derived.Test.YtpbokenambjclaaDOps
import Derived.Deep.RegionHeld3
import Derived.BigQuiet
import Derived.Deep.QuietTactic
import Derived.WalkSmall
import Derived.ProofKit
import Derived.OpenShut
import Derived.ShutString
import Derived.ChangeOld
import Derived.Below
import Derived.Carry
namespace Go.Proofs.Ytpbokenambjclaa.deltaJoins
open Go.ChangeShapes Go.WideShapes Go.ChangeAt Go.RowKit
open Go.ChangeMaps (open_string shut_string)
set_option linter.unusedVariables false
set_option linter.unusedSimpArgs false

theorem own : ownKnob Try.prog.godebug = none := by kernel_rfl
theorem laidOut : laidOutB Try.prog = true := by kernel_rfl

/-- Four changes in their variables. -/
structure FourS (w W : World) (a b x y : Cg) (g h : Nat) : Prop where
  a : CgAt W w.heap.size a
  b : CgAt W (w.heap.size + 1) b
  x : CgAt W g x
  y : CgAt W h y
  bel : Below w.heap.size w W
theorem FourS.below {w W W' : World} {a b x y : Cg} {g h : Nat} (k : FourS w W a b x y g h) (hb : Below W.heap.size W W') : FourS w W' a b x y g h := ⟨k.a.below hb, k.b.below hb, k.x.below hb, k.y.below hb, k.bel.trans (hb.mono k.bel.size)⟩

set_option maxHeartbeats 4000000 in
set_option maxRecDepth 100000 in
theorem walk (a b : Cg) (w : World) (ha : CgOk a) (hb : CgOk b) : Calls Try.prog 3 #[.agg (cgC a), .agg (cgC b)] w fun e w' => e = .returned (.bool true) ∧ Below w.heap.size w w' := by
  have HA : Hid (a.pt.bytes.length = 32) := ha.pt.ch.1
  have HB : Hid (b.pt.bytes.length = 32) := hb.pt.ch.1
  have HX : Hid ((joinX a b).1.pt.bytes.length = 32) := (joinX_ok ha hb).pt.ch.1
  have hz := zeroCg
  have al : ∀ (A : World) (o : Obj), Below A.heap.size A (A.alloc o) := fun A o => (Below.refl _ A).alloc (Nat.le_refl _) o
  have ha1 := (CgAt.laid w a).below (al _ (.cells (cgC b) 31))
  have hb1 := CgAt.laid (w.alloc (.cells (cgC a) 31)) b
  rw [World.size_alloc] at hb1
  have hB1 : Below w.heap.size w ((w.alloc (.cells (cgC a) 31)).alloc (.cells (cgC b) 31)) := ((Below.refl _ w).alloc (Nat.le_refl _) _).alloc (by simp) _
  obtain ⟨w1, hw1⟩ : ∃ w1, (w.alloc (.cells (cgC a) 31)).alloc (.cells (cgC b) 31) = w1 := ⟨_, rfl⟩
  rw [hw1] at ha1 hb1 hB1
  go_enter Try.func3, Try.ntmps3
  go_wp2_with fail
  refine (live_any w1).mono ?_
  rintro e w2 ⟨rfl, hb2⟩
  have ha2 := ha1.below hb2
  have hbb2 := hb1.below hb2
  have hB2 := thenB hB1 hb2
  have hla2 : Hid _ := ha2.load HA.out
  have hlb2 : Hid _ := hbb2.load HB.out
  go_wp2_with (first
    | (refine wpList_loadG rfl 31 _ rfl _ rfl _ hla2.out ?_)
    | (refine wpList_loadG rfl 31 _ rfl _ rfl _ hlb2.out ?_))
  refine (djoin_any _ a b ha hb).mono ?_
  rintro e w3 ⟨rfl, hb3⟩
  have ha3 := ha2.below hb3
  have hbb3 := hbb2.below hb3
  have hB3 := thenB hB2 hb3
  have hn3 := CgAt.laid w3 cg0
  have hb4 := alloc_row (A := w3) (.cells (cgC cg0) 31) (cgC (joinX a b).1)
  have hx4 := hn3.setRow (joinX a b).1
  obtain ⟨w4, hw4⟩ : ∃ w4, (w3.alloc (.cells (cgC cg0) 31)).setRow w3.heap.size (cgC (joinX a b).1) = w4 := ⟨_, rfl⟩
  rw [hw4] at hb4 hx4
  have ha4 := ha3.below hb4
  have hbb4 := hbb3.below hb4
  have hB4 := thenB hB3 hb4
  have hla4 : Hid _ := ha4.load HA.out
  have hlb4 : Hid _ := hbb4.load HB.out
  go_wp2_with (first
    | (refine wpList_storeG rfl _ _ rfl w3.heap.size (joinX a b).1 cg0 rfl rfl HX.out len0 hn3 ?_; rw [hw4])
    | (refine wpList_loadG rfl 31 _ rfl _ rfl _ hla4.out ?_)
    | (refine wpList_loadG rfl 31 _ rfl _ rfl _ hlb4.out ?_))
  refine (rj_any _ a b ha hb).mono ?_
  rintro e w5 ⟨rfl, hb5⟩
  have ha5 := ha4.below hb5
  have hbb5 := hbb4.below hb5
  have hx5 := hx4.below hb5
  have hB5 := thenB hB4 hb5
  have hn5 := CgAt.laid w5 cg0
  have hb6 := alloc_row (A := w5) (.cells (cgC cg0) 31) (cgC (joinX a b).1)
  have hy6 := hn5.setRow (joinX a b).1
  obtain ⟨w6, hw6⟩ : ∃ w6, (w5.alloc (.cells (cgC cg0) 31)).setRow w5.heap.size (cgC (joinX a b).1) = w6 := ⟨_, rfl⟩
  rw [hw6] at hb6 hy6
  have hS : FourS w w6 a b (joinX a b).1 (joinX a b).1 w3.heap.size w5.heap.size := ⟨ha5.below hb6, hbb5.below hb6, hx5.below hb6, hy6, thenB hB5 hb6⟩
  have heq := fun W => eq_cgs W (x := (joinX a b).1) (y := (joinX a b).1) HX.out HX.out
  rw [cgEq_self] at heq
  obtain ⟨er, her⟩ : ∃ er, (joinX a b).2 = er := ⟨_, rfl⟩
  rw [her]
  clear her
  obtain ⟨ec, hec⟩ : ∃ ec, ckE a = ec := ⟨_, rfl⟩
  have k1 := fun W => dcheck_any W a ha
  have k2 := fun W => rck_any W a ha
  rw [hec] at k1 k2
  clear hec
  go_wp2_with (refine wpList_storeG rfl _ _ rfl w5.heap.size (joinX a b).1 cg0 rfl rfl HX.out len0 hn5 ?_; rw [hw6])
  refine wp_region_noPanic ?_
  refine wp_region_held_drew (S := fun W => FourS w W a b (joinX a b).1 (joinX a b).1 w3.heap.size w5.heap.size) (by kernel_rfl) ⟨hS.a.drew, hS.b.drew, hS.x.drew, hS.y.drew, hS.bel.drew⟩ (fun hHeld => ?_)
  refine wpAnyH_take (i := 0) (v := .bool true) rfl (by kernel_rfl) (by kernel_rfl) (by kernel_rfl) (fun _ _ _ h => h) (Or.inl ⟨by rfl, fun W hSw => by (try dsimp only at hSw); go_simp⟩) (by assumption) ?_
  try simp only [List.getElem_toArray, List.getElem_cons_zero, List.getElem_cons_succ, Act.put, List.setIfInBounds_toArray, List.set_cons_zero, List.set_cons_succ]
  refine wpAnyH_take (i := 1) (v := .bool true) rfl (by kernel_rfl) (by kernel_rfl) (by kernel_rfl) (fun _ _ _ h => h) (Or.inl ⟨by rfl, fun W hSw => by (try dsimp only at hSw); go_simp⟩) (by assumption) ?_
  try simp only [List.getElem_toArray, List.getElem_cons_zero, List.getElem_cons_succ, Act.put, List.setIfInBounds_toArray, List.set_cons_zero, List.set_cons_succ]
  refine wpAnyH_take (i := 2) (v := .agg (cgC a)) rfl (by kernel_rfl) (by kernel_rfl) (by kernel_rfl) (fun _ _ _ h => h) (yields_load (by rfl) _ _ rfl _ rfl _ (fun W h => h.a.load HA.out)) (by assumption) ?_
  try simp only [List.getElem_toArray, List.getElem_cons_zero, List.getElem_cons_succ, Act.put, List.setIfInBounds_toArray, List.set_cons_zero, List.set_cons_succ]
  refine wpAnyH_take (i := 4) (v := .agg (cgC a)) rfl (by kernel_rfl) (by kernel_rfl) (by kernel_rfl) (fun _ _ _ h => h) (yields_load (by rfl) _ _ rfl _ rfl _ (fun W h => h.a.load HA.out)) (by assumption) ?_
  try simp only [List.getElem_toArray, List.getElem_cons_zero, List.getElem_cons_succ, Act.put, List.setIfInBounds_toArray, List.set_cons_zero, List.set_cons_succ]
  refine wpAnyH_ready (rs := [3]) (by kernel_rfl) (by simp) ?_
  refine AllReadyH.cons rfl (fun K hK => ?_) AllReadyH.nil
  go_simp
  go_wp2_with (go_at_call 11; refine (k1 _).mono ?_; rintro e w7 ⟨rfl, hb_w7⟩)
  refine hK.out _ _ (hHeld.below hb_w7) (fun hHeld2 => ?_)
  clear hK K
  refine wpAnyH_ready (rs := [5]) (by kernel_rfl) (by simp) ?_
  refine AllReadyH.cons rfl (fun K hK => ?_) AllReadyH.nil
  go_simp
  go_wp2_with (go_at_call 12; refine (k2 _).mono ?_; rintro e w8 ⟨rfl, hb_w8⟩)
  refine hK.out _ _ (hHeld2.below hb_w8) (fun hHeld3 => ?_)
  clear hK K
  refine wpAnyH_take (i := 6) (v := .bool true) rfl (by kernel_rfl) (by kernel_rfl) (by kernel_rfl) (fun _ _ _ h => h) (Or.inl ⟨by rfl, fun W hSw => by (try dsimp only at hSw); go_simp⟩) (by assumption) ?_
  try simp only [List.getElem_toArray, List.getElem_cons_zero, List.getElem_cons_succ, Act.put, List.setIfInBounds_toArray, List.set_cons_zero, List.set_cons_succ]
  refine wpAnyH_take (i := 7) (v := .bool true) rfl (by kernel_rfl) (by kernel_rfl) (by kernel_rfl) (fun _ _ _ h => h) (Or.inl ⟨by rfl, fun W hSw => by (try dsimp only at hSw); go_simp⟩) (by assumption) ?_
  try simp only [List.getElem_toArray, List.getElem_cons_zero, List.getElem_cons_succ, Act.put, List.setIfInBounds_toArray, List.set_cons_zero, List.set_cons_succ]
  refine wpAnyH_take (i := 8) (v := .bool true) rfl (by kernel_rfl) (by kernel_rfl) (by kernel_rfl) (fun _ _ _ h => h) (Or.inl ⟨by rfl, fun W hSw => by (try dsimp only at hSw); go_simp⟩) (by assumption) ?_
  try simp only [List.getElem_toArray, List.getElem_cons_zero, List.getElem_cons_succ, Act.put, List.setIfInBounds_toArray, List.set_cons_zero, List.set_cons_succ]
  refine wpAnyH_take (i := 9) (v := .agg (cgC (joinX a b).1)) rfl (by kernel_rfl) (by kernel_rfl) (by kernel_rfl) (fun _ _ _ h => h) (yields_load (by rfl) _ _ rfl _ rfl _ (fun W h => h.x.load HX.out)) (by assumption) ?_
  try simp only [List.getElem_toArray, List.getElem_cons_zero, List.getElem_cons_succ, Act.put, List.setIfInBounds_toArray, List.set_cons_zero, List.set_cons_succ]
  refine wpAnyH_take (i := 10) (v := .agg (cgC (joinX a b).1)) rfl (by kernel_rfl) (by kernel_rfl) (by kernel_rfl) (fun _ _ _ h => h) (yields_load (by rfl) _ _ rfl _ rfl _ (fun W h => h.y.load HX.out)) (by assumption) ?_
  try simp only [List.getElem_toArray, List.getElem_cons_zero, List.getElem_cons_succ, Act.put, List.setIfInBounds_toArray, List.set_cons_zero, List.set_cons_succ]
  refine wpAnyH_take (i := 11) (v := .bool true) rfl (by kernel_rfl) (by kernel_rfl) (by kernel_rfl) (fun _ _ _ h => h) (Or.inl ⟨by rfl, fun W hSw => by (try dsimp only at hSw); go_simp⟩) (by assumption) ?_
  try simp only [List.getElem_toArray, List.getElem_cons_zero, List.getElem_cons_succ, Act.put, List.setIfInBounds_toArray, List.set_cons_zero, List.set_cons_succ]
  refine wpAnyH_take (i := 12) (v := .bool true) rfl (by kernel_rfl) (by kernel_rfl) (by kernel_rfl) (fun _ _ _ h => h) (Or.inl ⟨by rfl, fun W hSw => by (try dsimp only at hSw); go_simp⟩) (by assumption) ?_
  try simp only [List.getElem_toArray, List.getElem_cons_zero, List.getElem_cons_succ, Act.put, List.setIfInBounds_toArray, List.set_cons_zero, List.set_cons_succ]
  refine wpAnyH_take (i := 13) (v := .bool true) rfl (by kernel_rfl) (by kernel_rfl) (by kernel_rfl) (fun _ _ _ h => h) (Or.inl ⟨by rfl, fun W hSw => by (try dsimp only at hSw); go_simp⟩) (by assumption) ?_
  try simp only [List.getElem_toArray, List.getElem_cons_zero, List.getElem_cons_succ, Act.put, List.setIfInBounds_toArray, List.set_cons_zero, List.set_cons_succ]
  refine wpAnyH_take (i := 14) (v := .int .i64 er) rfl (by kernel_rfl) (by kernel_rfl) (by kernel_rfl) (fun _ _ _ h => h) (Or.inl ⟨by rfl, fun W hSw => by (try dsimp only at hSw); go_simp⟩) (by assumption) ?_
  try simp only [List.getElem_toArray, List.getElem_cons_zero, List.getElem_cons_succ, Act.put, List.setIfInBounds_toArray, List.set_cons_zero, List.set_cons_succ]
  refine wpAnyH_take (i := 15) (v := .int .i64 er) rfl (by kernel_rfl) (by kernel_rfl) (by kernel_rfl) (fun _ _ _ h => h) (Or.inl ⟨by rfl, fun W hSw => by (try dsimp only at hSw); go_simp⟩) (by assumption) ?_
  try simp only [List.getElem_toArray, List.getElem_cons_zero, List.getElem_cons_succ, Act.put, List.setIfInBounds_toArray, List.set_cons_zero, List.set_cons_succ]
  refine wpAnyH_take (i := 16) (v := .bool true) rfl (by kernel_rfl) (by kernel_rfl) (by kernel_rfl) (fun _ _ _ h => h) (Or.inl ⟨by rfl, fun W hSw => by (try dsimp only at hSw); go_simp⟩) (by assumption) ?_
  try simp only [List.getElem_toArray, List.getElem_cons_zero, List.getElem_cons_succ, Act.put, List.setIfInBounds_toArray, List.set_cons_zero, List.set_cons_succ]
  refine wpAnyH_take (i := 17) (v := .bool true) rfl (by kernel_rfl) (by kernel_rfl) (by kernel_rfl) (fun _ _ _ h => h) (Or.inl ⟨by rfl, fun W hSw => by (try dsimp only at hSw); go_simp⟩) (by assumption) ?_
  try simp only [List.getElem_toArray, List.getElem_cons_zero, List.getElem_cons_succ, Act.put, List.setIfInBounds_toArray, List.set_cons_zero, List.set_cons_succ]
  refine wpAnyH_take (i := 18) (v := .bool true) rfl (by kernel_rfl) (by kernel_rfl) (by kernel_rfl) (fun _ _ _ h => h) (Or.inl ⟨by rfl, fun W hSw => by (try dsimp only at hSw); go_simp⟩) (by assumption) ?_
  try simp only [List.getElem_toArray, List.getElem_cons_zero, List.getElem_cons_succ, Act.put, List.setIfInBounds_toArray, List.set_cons_zero, List.set_cons_succ]
  refine wpAnyH_done (by kernel_rfl) ?_ _
  refine NoPanic.normal ?_
  go_wp2
  go_ret
  exact ⟨rfl, hHeld3.bel⟩

/-! ### The row -/
set_option maxRecDepth 100000 in
theorem lifted (os : Os) (started : os.Started) (H : Type) (enc : TypeId × Value → H) :
    ReturnsInHanded {} Try.checked os 3 .any (Rows.deltaJoinsSpec.pre6 enc Try.prog Try.f3 Rows.deltaJoinsRow.domain false) (Rows.deltaJoinsSpec.post enc Try.prog Try.f3 false true false false) := by
  refine returnsInHanded_of_change (C := Try.checked) own started (by kernel_rfl) Try.func3
    (ChangeSpec.witness6 (enc := enc) (C := Try.checked) false ⟨#[], #[.agg (cgC cg0), .agg (cgC cg0)], []⟩ 8 (by kernel_rfl) (by kernel_rfl) (by kernel_rfl) (by kernel_rfl)) ?_
  intro W base args ds gs before hval0 hW hcnd _
  have hval : ∀ (j : Nat) t v, Try.f3.params[j]? = some t → args[j]? = some v → Value.okWide Try.prog W .any base t v := hval0
  have hW' := hW
  obtain ⟨p, q, hA0, hV, rfl, hfz, hnd⟩ := hW
  have hA : DataW.TrodAll enc Try.prog W 0 (fun _ => true) true Try.f3.params.toList args.toList ds p := hA0
  rw [Try.params3] at hA hval
  obtain ⟨v0, vs0, d0, ds0, p0, q0, hargs, rfl, rfl, h0, r0⟩ := trodAll_cons hA
  obtain ⟨v1, vs1, d1, ds1, p1, q1, rfl, rfl, rfl, h1, r1⟩ := trodAll_cons r0
  obtain ⟨rfl, rfl, rfl⟩ := trodAll_nil r1
  obtain rfl : args = #[v0, v1] := by cases args; simp_all
  obtain ⟨rfl, rfl⟩ := trodVars_none hV
  obtain ⟨cs0, rfl, sz0⟩ := okWide_struct Try.underlying31 (hval 0 31 v0 rfl rfl)
  have k0 := h0
  have lt0 : ∀ x ∈ p0, x.block < W.heap.size := by obtain ⟨m, hm⟩ := k0; exact DataW.trod_lt m _ _ _ hm
  obtain ⟨a0, w0, rfl⟩ : ∃ q : Cg, CgOk q ∧ cs0 = cgC q := by
    obtain ⟨fuel, hf⟩ := h0
    exact cg_of sz0 hf
  obtain ⟨cs1, rfl, sz1⟩ := okWide_struct Try.underlying31 (hval 1 31 v1 rfl rfl)
  have k1 := h1
  have lt1 : ∀ x ∈ p1, x.block < W.heap.size := by obtain ⟨m, hm⟩ := k1; exact DataW.trod_lt m _ _ _ hm
  obtain ⟨a1, w1, rfl⟩ : ∃ q : Cg, CgOk q ∧ cs1 = cgC q := by
    obtain ⟨fuel, hf⟩ := h1
    exact cg_of sz1 hf
  clear hA0 hval0
  refine (walk a0 a1 W w0 w1).mono fun e W' ⟨he, bel⟩ => ?_
  subst he
  exact ⟨_, rfl, _, _, _, [], _, [], hW', trodAll_mk1 (shut_bool Try.underlying4 _), (trodAll_cons_mk (Below.trod laidOut (by kernel_rfl) (of_decide_eq_true (by kernel_rfl)) k0 bel lt0) (trodAll_cons_mk (Below.trod laidOut (by kernel_rfl) (of_decide_eq_true (by kernel_rfl)) k1 bel lt1) trodAll_mk0)), rfl, bel.frame _, fun h => by cases h⟩

theorem over : Rows.deltaJoinsRow.holds Try.pinned (OpenSpec.ofChange Rows.deltaJoinsSpec) :=
  OpenClaim.holds_of_wide 3 Try.f3 rfl rfl rfl rfl rfl rfl rfl ⟨rfl, rfl, rfl, rfl, rfl⟩ rfl rfl rfl rfl rfl (by kernel_rfl) Try.func3 (by kernel_rfl)
    (of_decide_eq_true (by kernel_rfl)) (by unfold Func.isWrapper; first | (rw [if_pos (by decide +kernel)]; kernel_rfl) | (rw [if_neg (by decide +kernel)]; exact ⟨rfl, rfl⟩))
    (fun os started H enc _ => lifted os started H enc)

end Go.Proofs.Ytpbokenambjclaa.deltaJoins

namespace Go.Proofs.Ytpbokenambjclaa
/-- The statement. -/
theorem deltaJoins_proved : Rows.DeltaJoinsSaid := deltaJoins.over
#print axioms deltaJoins_proved
end Go.Proofs.Ytpbokenambjclaa
