/- VwPut, VwErr: in one text. -/
import Derived.Test.YtjlglnhmkheidaaGreatVwGet
import Derived.Test.YtjlglnhmkheidaaGreatV5
namespace Go.Proofs.YtjlglnhmkheidaaGreat
open Go.RowKit
set_option linter.unusedVariables false
set_option linter.unusedSimpArgs false
set_option maxRecDepth 4000

open Go.RowKit Go.Maps
set_option maxRecDepth 100000

theorem notD {B : Nat} {w0 w : World} {p b : Nat} {s : Dl} (hd : DlN B w0 w p b s) {k : Nat} {cs : Array Value} {T : TypeId} {fr : Nat × Nat} (h : w.heap[k]? = some (.cells cs T fr)) (h1 : T ≠ 130) (h2 : T ≠ 147) : ¬ isD b w k := by
  obtain ⟨u, e1, _⟩ := hd.d
  obtain ⟨e0, cl, hm⟩ := e1.mp.isMap
  rintro (e | ⟨cs', fr', e⟩ | ⟨cs', fr', e⟩)
  · rw [e, hm] at h; cases h
  · rw [e] at h; simp only [Option.some.injEq, Obj.cells.injEq] at h; exact h1 h.2.1.symm
  · rw [e] at h; simp only [Option.some.injEq, Obj.cells.injEq] at h; exact h2 h.2.1.symm
theorem KeepD.row {B : Nat} {w0 w w' : World} {p b : Nat} {s : Dl} (k : KeepD b w w') (hd : DlN B w0 w p b s) {i : Nat} {cs : Array Value} {T : TypeId} {fr : Nat × Nat} (h : w.heap[i]? = some (.cells cs T fr)) (h1 : T ≠ 130) (h2 : T ≠ 147) : w'.heap[i]? = some (.cells cs T fr) :=
  (k.block i (Array.getElem?_eq_some_iff.1 h).1 (notD hd h h1 h2)).trans h
theorem VwAt.keepD {B : Nat} {w0 w w' : World} {p b v g p' : Nat} {s : Dl} (h : VwAt w v g p') (hd : DlN B w0 w p b s) (k : KeepD b w w') : VwAt w' v g p' := ⟨k.row hd h.row (by decide) (by decide)⟩
theorem CgAt.keepD {B : Nat} {w0 w w' : World} {p b g : Nat} {s : Dl} {c : Cg} (h : CgAt w g c) (hd : DlN B w0 w p b s) (k : KeepD b w w') : CgAt w' g c := ⟨k.row hd h.row (by decide) (by decide)⟩
theorem ItAt.keepD {B : Nat} {w0 w w' : World} {p b g : Nat} {s : Dl} {x : It} (h : ItAt 45 w g x) (hd : DlN B w0 w p b s) (k : KeepD b w w') : ItAt 45 w' g x := ⟨k.row hd h.row (by decide) (by decide)⟩
theorem PlAt.keepD {B : Nat} {w0 w w' : World} {p b g : Nat} {s : Dl} {x : Pl} (h : PlAt w g x) (hd : DlN B w0 w p b s) (k : KeepD b w w') : PlAt w' g x := ⟨k.row hd h.row (by decide) (by decide)⟩

set_option maxHeartbeats 4000000 in
theorem vput_any {B : Nat} {w0 w : World} {v g p b : Nat} {s : Dl} (hv : VwAt w v g p) (hd : DlN B w0 w p b s) (c : Cg) (hc : CgOk c) (hL : s.L.length ≤ 1000) (hP : s.pus.length ≤ 1000) : Calls Tryz.prog 31 #[.pointer (some ⟨v, 0, none⟩), .agg (cgC c)] w fun e w' =>
    e = .returned (.int .i64 (putX s c).2) ∧ DlN B w0 w' p b (putS s c) ∧ KeepD b w w' := by
  have HC : Hid (c.pt.bytes.length = 32) := hc.pt.ch.1
  have hc1 := CgAt.laid w c
  have hb1 : Below w.heap.size w (w.alloc (.cells (cgC c) 56)) := (Below.refl _ w).alloc (Nat.le_refl _) _
  obtain ⟨w1, hw1⟩ : ∃ w1, w.alloc (.cells (cgC c) 56) = w1 := ⟨_, rfl⟩
  rw [hw1] at hc1 hb1
  have hv1 := hv.below hb1
  have hd1 := hd.below hb1
  have hd1' : DlN B w0 w1.drew p b s := hd1.below (Below.refl _ _).drew
  have lC : ∀ W, (VwAt W v g p ∧ CgAt W w.heap.size c) → (Instr.loadAt 56 (.pointer (some ⟨w.heap.size, 0, none⟩))).run Tryz.prog W = .ok (.agg (cgC c)) W := fun W h => h.2.load HC.out
  have q1 : ∀ W, (VwAt W v g p ∧ CgAt W w.heap.size c) → W.cell? ⟨v, 1, none⟩ = some (.pointer (some ⟨p, 0, none⟩)) := fun W h => h.1.c1
  have cp := hd1'.put c hc hL hP
  go_enter Tryz.func31, Tryz.ntmps31
  go_wp2_with fail
  refine wp_region_noPanic ?_
  refine wp_region_held_drew (S := fun W => VwAt W v g p ∧ CgAt W w.heap.size c) (by kernel_rfl) ⟨⟨hv1.row⟩, hc1.drew⟩ (fun hHeld => ?_)
  refine wpAnyH_take (i := 0) (v := .pointer (some ⟨v, 0, none⟩)) rfl (by kernel_rfl) (by kernel_rfl) (by kernel_rfl) (fun _ _ _ h => h) (Or.inl ⟨by rfl, fun W hSw => by (try dsimp only at hSw); go_simp⟩) (by assumption) ?_
  try simp only [List.getElem_toArray, List.getElem_cons_zero, List.getElem_cons_succ, Act.put, List.setIfInBounds_toArray, List.set_cons_zero, List.set_cons_succ]
  refine wpAnyH_take (i := 1) (v := .pointer (some ⟨v, 0, none⟩)) rfl (by kernel_rfl) (by kernel_rfl) (by kernel_rfl) (fun _ _ _ h => h) (Or.inl ⟨by rfl, fun W hSw => by (try dsimp only at hSw); go_simp⟩) (by assumption) ?_
  try simp only [List.getElem_toArray, List.getElem_cons_zero, List.getElem_cons_succ, Act.put, List.setIfInBounds_toArray, List.set_cons_zero, List.set_cons_succ]
  refine wpAnyH_take (i := 2) (v := .pointer (some ⟨v, 1, none⟩)) rfl (by kernel_rfl) (by kernel_rfl) (by kernel_rfl) (fun _ _ _ h => h) (Or.inl ⟨by rfl, fun W hSw => by (try dsimp only at hSw); go_simp⟩) (by assumption) ?_
  try simp only [List.getElem_toArray, List.getElem_cons_zero, List.getElem_cons_succ, Act.put, List.setIfInBounds_toArray, List.set_cons_zero, List.set_cons_succ]
  refine wpAnyH_take (i := 3) (v := .pointer (some ⟨p, 0, none⟩)) rfl (by kernel_rfl) (by kernel_rfl) (by kernel_rfl) (fun _ _ _ h => h) (Or.inl ⟨by rfl, fun W hSw => by (try dsimp only at hSw); (have z := q1 W hSw; go_simp)⟩) (by assumption) ?_
  try simp only [List.getElem_toArray, List.getElem_cons_zero, List.getElem_cons_succ, Act.put, List.setIfInBounds_toArray, List.set_cons_zero, List.set_cons_succ]
  refine wpAnyH_take (i := 4) (v := .agg (cgC c)) rfl (by kernel_rfl) (by kernel_rfl) (by kernel_rfl) (fun _ _ _ h => h) (yields_load (by rfl) _ _ rfl _ rfl _ lC) (by assumption) ?_
  try simp only [List.getElem_toArray, List.getElem_cons_zero, List.getElem_cons_succ, Act.put, List.setIfInBounds_toArray, List.set_cons_zero, List.set_cons_succ]
  refine wpAnyH_ready (rs := [5]) (by kernel_rfl) (by simp) ?_
  refine AllReadyH.cons rfl (fun K hK => ?_) AllReadyH.nil
  go_simp
  go_wp2_with (go_at_call 30; refine cp.mono ?_; rintro e w5 ⟨rfl, hd5, hk5⟩)
  refine hK.out _ _ ⟨hHeld.1.keepD hd1' hk5, hHeld.2.keepD hd1' hk5⟩ (fun hHeld2 => ?_)
  clear hK K cp
  try simp only [List.getElem_toArray, List.getElem_cons_zero, List.getElem_cons_succ, Act.put, List.setIfInBounds_toArray, List.set_cons_zero, List.set_cons_succ]
  refine wpAnyH_take (i := 6) (v := .int .i64 (putX s c).2) rfl (by kernel_rfl) (by kernel_rfl) (by kernel_rfl) (fun _ _ _ h => h) (Or.inl ⟨by rfl, fun W hSw => by (try dsimp only at hSw); go_simp⟩) (by assumption) ?_
  try simp only [List.getElem_toArray, List.getElem_cons_zero, List.getElem_cons_succ, Act.put, List.setIfInBounds_toArray, List.set_cons_zero, List.set_cons_succ]
  refine wpAnyH_done (by kernel_rfl) ?_ _
  refine NoPanic.normal ?_
  have HD : Hid (DlN B w0 w5 p b (putS s c)) := hd5
  have HK : Hid (KeepD b w w5) := (KeepD.of_below (b := b) hb1).drew.trans hk5
  clear lC q1 hHeld hHeld2 hd5 hk5
  go_wp2
  go_ret
  exact ⟨rfl, HD.out, HK.out⟩

theorem some_any (w : World) (f : Nat) (lb : Array Value) : Calls Tryz.prog 16 #[.func (.func f) #[] lb] w fun e w' => e = .returned (.func (.func f) #[] lb) ∧ w' = w := by
  have he : ∀ W : World, (binOp .eql 59 (.func (.func f) #[] lb) .nilFunc).run Tryz.prog W = .ok (.bool false) W := fun W => by
    have u := Tryz.underlying59
    first | rfl | kernel_rfl | (simp [binOp, u]; done)
  go_enter Tryz.func16, Tryz.ntmps16
  go_wp2
  go_ret
  exact ⟨rfl, rfl⟩

open Go.RowKit Go.Shelf
set_option maxRecDepth 100000
attribute [local go_sem] Oper.semAt_some

def erE (e : Int) (_ : Unit) : Array Value := #[.string ⟨#[]⟩, .int .i64 e]

set_option maxHeartbeats 2000000 in
theorem nerr_own (xv : List Nat) (n : Nat) (B1 : Nat) (er : Int) (n₀ : Nat) (w : World) (hB1 : B1 < w.heap.size) (hc1 : w.cell? ⟨B1, 0, none⟩ = some (.int .i64 er)) (M : Nat) (hM : 1 ≤ M) :
    SeqOwn n Tryz.prog 42 #[.pointer (some ⟨B1, 0, none⟩)] (erE er) (TV xv) n₀ (fun ys => ys = [()]) (fun pre => pre = [()]) M w := fun L J Jx W n₁ hW hn₁ hJ hJx hJt hJxt hY h0 => by
  have d1 := (hW.cell (p := ⟨B1, 0, none⟩) (by show B1 < _; omega)).trans hc1
  obtain ⟨fn, tmps, assign, body, hy, hR⟩ := hY [] () W (fun s e => by cases e; exact Nat.zero_le _) h0 (by simp; omega)
  unfold erE at hy
  refine callsIn_of_wp_marks Tryz.func42 rfl trivial ?_ rfl
  simp only [Tryz.ntmps42, List.size_toArray, List.length_cons, List.length_nil, Nat.reduceAdd, Nat.reduceSub, Array.replicate_succ, Array.replicate_zero, List.push_toArray, List.append_toArray, List.nil_append, List.cons_append]
  gi_wp2
  refine ⟨(fun h => by cases h), (round_wide hR).mono ?_⟩
  rintro e W3 (⟨rfl, hJ3, hk3⟩ | ⟨rfl, hJx3, hk3⟩)
  · gi_wp2
    exact ⟨_, results_none rfl _ _ _, ⟨_, rfl⟩, .inl ⟨_, rfl, hJ3⟩⟩
  · gi_wp2
    exact ⟨_, results_none rfl _ _ _, ⟨_, rfl⟩, .inr ⟨_, rfl, hJx3⟩⟩

set_option maxHeartbeats 2000000 in
theorem vnames_zero (w : World) (v : Nat) : Calls Tryz.prog 17 #[.pointer (some ⟨v, 0, none⟩), .int .u32 0] w fun e w' =>
    ∃ B1, e = .returned (.func (.func 42) #[] #[.pointer (some ⟨B1, 0, none⟩)]) ∧ w'.cell? ⟨B1, 0, none⟩ = some (.int .i64 30) ∧ B1 < w'.heap.size ∧ Below w.heap.size w w' := by
  have hsp : spE 0 2 = 30 := by kernel_rfl
  have cs := span_any w 0 2 (by omega) (by omega) (by decide) (by decide)
  rw [hsp] at cs
  go_enter Tryz.func17, Tryz.ntmps17
  go_wp2_with fail
  refine cs.mono ?_
  rintro e w1 ⟨rfl, hb1⟩
  clear cs
  have hbE : Below w1.heap.size w1 (w1.alloc (.cells #[.int .i64 30] 46)) := (Below.refl _ w1).alloc (Nat.le_refl _) _
  have hb2 := thenB hb1 hbE
  have hx := (Boxed.new w1 46 (.int .i64 30)).cell
  go_wp2
  go_ret
  exact ⟨_, rfl, hx, by simp, hb2⟩

end Go.Proofs.YtjlglnhmkheidaaGreat
