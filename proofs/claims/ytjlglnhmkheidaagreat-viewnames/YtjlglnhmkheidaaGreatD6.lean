/- DlAll2, DlN, DlRow: in one text. -/
import Derived.Test.YtjlglnhmkheidaaGreatDlAll
import Derived.Test.YtjlglnhmkheidaaGreatDlPut2
import Derived.Test.YtjlglnhmkheidaaGreatD5
namespace Go.Proofs.YtjlglnhmkheidaaGreat
open Go.RowKit
set_option linter.unusedVariables false
set_option linter.unusedSimpArgs false
set_option maxRecDepth 4000

open Go.Proofs
open Go.RowKit Go.Sort Go.Shelf Go.Maps
set_option maxRecDepth 100000

theorem sorted_is {L : List Cg} (hL : LOk L) {ps : List CgK} (hp : (ps.map CgK.c).Perm L) (hs : ps.Pairwise fun x y => ¬ cmpP y.1.pl x.1.pl = -1) : ps.map CgK.c = L := by
  have hnd : (ps.map CgK.c).Nodup := hp.nodup_iff.2 (rise_nodup hL.rise)
  refine rise_ext ?_ hL.rise fun x => hp.mem_iff
  have h1 : (ps.map CgK.c).Pairwise fun x y => ¬ cmpP y.pl x.pl = -1 := List.pairwise_map.2 hs
  refine List.Pairwise.imp_of_mem (fun {x y} hx hy h => ?_) (h1.and hnd)
  refine cmp_other h.1 fun e => h.2 ?_
  exact rise_one hL.rise (hp.mem_iff.1 hx) (hp.mem_iff.1 hy) e.symm

set_option maxHeartbeats 1000000 in
theorem collect_any (g : Nat) (lb : Array Value) (eg : ∀ args w, (callFunc g args).run Tryz.prog w = .ok (.enter g args) w) (L : List Cg) (N : Nat) (hN : N ≤ 1000) (w : World)
    (hseq : SeqStopsK Fence.wide 2 Tryz.prog g lb (fun x : CgK => #[.agg (cgC x.1)]) KeepsWalks (fun ys => (ys.map (·.1)).Perm L) (fun _ => True) N w) :
    Calls Tryz.prog 86 #[.func (.func g) #[] lb] w fun e w' => ∃ (v : Value) (ps : List CgK), e = .returned v ∧ (ps.map CgK.c).Perm L ∧ w'.ownsRow w.heap.size 56 46 v ps.length (ps.flatMap ckL) ∧ Below w.heap.size w w' := by
  have h := appendSeq_any g lb eg L N hN w hseq
  go_enter Tryz.func86, Tryz.ntmps86
  go_wp2_with fail
  refine h.mono ?_
  rintro e w5 ⟨v5, ps, rfl, hp, ho5, hb5⟩
  go_wp2
  go_ret
  exact ⟨_, ps, rfl, hp, ho5, hb5⟩

set_option maxHeartbeats 1000000 in
theorem sortedFunc_any (g : Nat) (lb : Array Value) (eg : ∀ args w, (callFunc g args).run Tryz.prog w = .ok (.enter g args) w) (L : List Cg) (hL : LOk L) (hN : L.length ≤ 1000) (w : World)
    (hseq : SeqStopsK Fence.wide 2 Tryz.prog g lb (fun x : CgK => #[.agg (cgC x.1)]) KeepsWalks (fun ys => (ys.map (·.1)).Perm L) (fun _ => True) L.length w) :
    Calls Tryz.prog 51 #[.func (.func g) #[] lb, .func (.func 53) #[] #[]] w fun e w' => ∃ v, e = .returned v ∧ w'.ownsRow w.heap.size 56 46 v L.length (L.flatMap cgL) ∧ Below w.heap.size w w' := by
  have h := collect_any g lb eg L L.length hN w hseq
  go_enter Tryz.func51, Tryz.ntmps51
  go_wp2_with fail
  refine h.mono ?_
  rintro e w5 ⟨v5, ps, rfl, hp, ho5, hb5⟩
  have hlen : Hid (ps.length = L.length) := by unfold Hid; have := hp.length_eq; simpa using this
  obtain ⟨a5, c5, rfl⟩ := own_shape ho5
  have hs := sortG_any ho5 (by rw [hlen.out]; omega)
  have HO5 : Hid _ := ho5
  have HP : Hid _ := hp
  have hlo : ∀ k, (Value.slice a5 ps.length c5).ownBlock = some k → w.heap.size ≤ k := fun k hk => (World.ownsRow.lt ho5 k hk).1
  clear ho5 hp h hseq
  go_wp2_with fail
  refine hs.mono ?_
  rintro e w6 ⟨rfl, L', hp', hs', ho6, hg6⟩
  have he := sorted_is hL ((hp'.map CgK.c).trans HP.out) hs'
  have hb6 : Below w.heap.size w w6 := hb5.trans ⟨hg6.os, hg6.tape, hg6.output, hg6.size, fun k hk => hg6.block k (Nat.lt_of_lt_of_le hk hb5.size) (fun e => by have := hlo k e.symm; omega)⟩
  clear hs
  have ho7 : w6.ownsRow w.heap.size 56 46 (.slice a5 ps.length c5) L.length (L.flatMap cgL) := by
    have e1 : L'.length = L.length := by rw [hp'.length_eq, hlen.out]
    have e2 : L'.flatMap ckL = L.flatMap cgL := by rw [← he, List.flatMap_map]; rfl
    rw [e1, e2] at ho6
    exact ho6
  have HO7 : Hid _ := ho7
  have HB6 : Hid _ := hb6
  clear ho7 ho6 he hg6 hb6 hp' hs'
  go_wp2
  go_ret
  exact ⟨_, rfl, HO7.out, HB6.out⟩

set_option maxHeartbeats 1000000 in
theorem dall_any {w : World} {p b : Nat} {v : Value} {s : Dl} (h : DlAt w p b v s) (hN : s.L.length ≤ 1000) : Calls Tryz.prog 21 #[.pointer (some ⟨p, 0, none⟩)] w fun e w' =>
    ∃ u, e = .returned u ∧ w'.ownsRow w.heap.size 56 46 u s.L.length (s.L.flatMap cgL) ∧ Below w.heap.size w w' := by
  have c1 := h.c1
  have al : ∀ (A : World) (o : Obj), Below A.heap.size A (A.alloc o) := fun A o => (Below.refl _ A).alloc (Nat.le_refl _) o
  have hb1 := al w (.cells #[.map (some b)] 127)
  have hc1 : (w.alloc (.cells #[.map (some b)] 127)).cell? ⟨w.heap.size, 0, none⟩ = some (.map (some b)) := by
    rw [cell_of_row _ _ _ _ _ (0, 0) (heap_alloc_new w _)]; rfl
  have hm1 := h.mp.keep (hb1.block b h.mp.lt)
  have hlt1 : w.heap.size < (w.alloc (.cells #[.map (some b)] 127)).heap.size := by simp
  have hv := values_any w b
  obtain ⟨w1, hw1⟩ : ∃ w1, w.alloc (.cells #[.map (some b)] 127) = w1 := ⟨_, rfl⟩
  rw [hw1] at hb1 hc1 hm1 hlt1 hv
  have eg : ∀ args w, (callFunc 88 args).run Tryz.prog w = .ok (.enter 88 args) w := enters_of Tryz.func88 (by kernel_rfl) rfl
  have hs := sortedFunc_any _ #[.pointer (some ⟨w.heap.size, 0, none⟩)] eg s.L h.ok.L hN w1 (values_stops 2 (by decide) w.heap.size b s.L h.ok.L w1 hlt1 hc1 hm1)
  clear hw1
  go_enter Tryz.func21, Tryz.ntmps21
  go_wp2_with fail
  refine hv.mono ?_
  rintro e w2 ⟨rfl, rfl⟩
  go_wp2_with fail
  refine hs.mono ?_
  rintro e w3 ⟨u, rfl, ho3, hb3⟩
  go_wp2
  go_ret
  refine ⟨_, rfl, ?_, thenB hb1 hb3⟩
  obtain ⟨h1, h2 | ⟨g, cap, cur, h2, h3, h4⟩⟩ := ho3
  · exact ⟨h1, .inl h2⟩
  · exact ⟨h1, .inr ⟨g, cap, cur, h2, by omega, h4⟩⟩

open Go.RowKit Go.Maps
set_option maxRecDepth 100000

/-- A delta all of whose blocks lie at B or behind. -/
structure DlN (B : Nat) (w0 w : World) (p b : Nat) (s : Dl) : Prop where
  bel : Below B w0 w
  le : B ≤ w.heap.size
  d : ∃ v, DlAt w p b v s ∧ ∀ k, v.ownBlock = some k → B ≤ k
  p : B ≤ p
  b : B ≤ b
theorem DlN.below {B : Nat} {w0 w w' : World} {p b : Nat} {s : Dl} (h : DlN B w0 w p b s) (hb : Below w.heap.size w w') : DlN B w0 w' p b s := by
  obtain ⟨v, h1, h2⟩ := h.d
  exact ⟨h.bel.trans (hb.mono h.le), Nat.le_trans h.le hb.size, ⟨v, h1.below hb, h2⟩, h.p, h.b⟩
theorem DlN.put {B : Nat} {w0 w : World} {p b : Nat} {s : Dl} (h : DlN B w0 w p b s) (c : Cg) (hc : CgOk c) (hL : s.L.length ≤ 1000) (hP : s.pus.length ≤ 1000) : Calls Tryz.prog 30 #[.pointer (some ⟨p, 0, none⟩), .agg (cgC c)] w fun e w' =>
    e = .returned (.int .i64 (putX s c).2) ∧ DlN B w0 w' p b (putS s c) ∧ KeepD b w w' := by
  obtain ⟨v, h1, h2⟩ := h.d
  refine (dput_any h1 c hc hL hP).mono ?_
  rintro e w' ⟨rfl, v', h3, h4⟩
  obtain ⟨h5, h6⟩ := h4.below h.p h.b h2 h.le
  exact ⟨rfl, ⟨h.bel.trans h5, Nat.le_trans h.le h4.size, ⟨v', h3, h6⟩, h.p, h.b⟩, h4.keepD h1⟩
theorem DlN.get {B : Nat} {w0 w : World} {p b : Nat} {s : Dl} (h : DlN B w0 w p b s) (q : Pl) (hq : PlOk q) : Calls Tryz.prog 34 #[.pointer (some ⟨p, 0, none⟩), plV q] w fun e w' =>
    e = .returned (.tuple #[.agg (cgC (wasX s q)), .bool (isX s q)]) ∧ Below w.heap.size w w' := by
  obtain ⟨v, h1, h2⟩ := h.d
  exact dget_any h1 q hq
theorem DlN.count {B : Nat} {w0 w : World} {p b : Nat} {s : Dl} (h : DlN B w0 w p b s) : Calls Tryz.prog 95 #[.pointer (some ⟨p, 0, none⟩)] w fun e w' => e = .returned (.int .i64 s.L.length) ∧ w' = w := by
  obtain ⟨v, h1, h2⟩ := h.d
  exact dcount_r h1
theorem DlN.new (w : World) (m : Int) (hm : m ≤ 9223372036854775807) : Calls Tryz.prog 23 #[.int .i64 m] w fun e w' => ∃ p b, e = .returned (.pointer (some ⟨p, 0, none⟩)) ∧ DlN w.heap.size w w' p b (newS m) ∧ (∀ k, k < w.heap.size → k ≠ b) := by
  refine (dnew_any w m hm).mono ?_
  rintro e w' ⟨rfl, h1, h2⟩
  exact ⟨_, _, rfl, ⟨h2, h2.size, ⟨_, h1, fun k hk => by cases hk⟩, by omega, by omega⟩, fun k hk => by omega⟩

open Go.RowKit Go.Maps
set_option maxRecDepth 100000

theorem DlN.all {B : Nat} {w0 w : World} {p b : Nat} {s : Dl} (h : DlN B w0 w p b s) (hN : s.L.length ≤ 1000) : Calls Tryz.prog 21 #[.pointer (some ⟨p, 0, none⟩)] w fun e w' =>
    ∃ u, e = .returned u ∧ w'.ownsRow w.heap.size 56 46 u s.L.length (s.L.flatMap cgL) ∧ Below w.heap.size w w' := by
  obtain ⟨v, h1, h2⟩ := h.d
  exact dall_any h1 hN

end Go.Proofs.YtjlglnhmkheidaaGreat
