/- The law's Store, gone through from a key on. -/
import Derived.Test.YtjlglnhmkheidaaGreatVwStore
import Derived.Test.YtjlglnhmkheidaaGreatV3
import Derived.Deep.RegionHeld3
namespace Go.Proofs.YtjlglnhmkheidaaGreat
open Go.RowKit Go.Shelf
set_option linter.unusedVariables false
set_option linter.unusedSimpArgs false
set_option maxRecDepth 100000
attribute [local go_sem] Oper.semAt_some

def kvE (p : ByteArray × ByteArray) : Array Value := #[.agg #[.string p.1, .string p.2], .int .i64 0]
theorem drop_next {α : Type} {l : List α} {i j : Nat} {p : α} (h : l[i + j]? = some p) : (l.drop i).take (j + 1) = (l.drop i).take j ++ [p] := by
  rw [List.take_add_one, List.getElem?_drop, h]; rfl

theorem grown_below {W W' : World} (h : Below W.heap.size W W') : W.grownBy W' none := ⟨h.os, h.tape, h.output, h.size, fun k hk _ => h.block k hk⟩

theorem SoAt.belX {xs : List Nat} {w w' : World} {g : Nat} {a : Option Addr} {n cap : Nat} {l : List (ByteArray × ByteArray)} (h : SoAt w g a n cap l) (hb : BelX xs w.heap.size w w') (hg : g ∉ xs) (ha : ∀ ad, 0 < n → a = some ad → ad.block ∉ xs) : SoAt w' g a n cap l := by
  obtain ⟨h0, h1, h2, h3, h4⟩ := h
  refine ⟨(hb.block g (Array.getElem?_eq_some_iff.1 h0).1 hg).trans h0, h1, h2, h3, fun hp => ?_⟩
  obtain ⟨b, off, e, hb', hc⟩ := h4 hp
  have hx := ha _ hp e
  exact ⟨b, off, e, Nat.lt_of_lt_of_le hb' hb.size, fun i p hi => ⟨(hb.cell (p := ⟨b, off + i * 2, none⟩) hb' hx).trans (hc i p hi).1, (hb.cell (p := ⟨b, off + i * 2 + 1, none⟩) hb' hx).trans (hc i p hi).2⟩⟩

set_option maxHeartbeats 4000000 in
theorem from_stops (xv : List Nat) (n : Nat) (B1 B2 g : Nat) (k : ByteArray) (a : Option Addr) (len cap : Nat) (l : List (ByteArray × ByteArray)) (w : World) (hB1 : B1 < w.heap.size) (hB2 : B2 < w.heap.size)
    (hc1 : w.cell? ⟨B1, 0, none⟩ = some (.pointer (some ⟨g, 0, none⟩))) (hc2 : w.cell? ⟨B2, 0, none⟩ = some (.string k)) (hS : SoAt w g a len cap l) (hx1 : B1 ∉ xv) (hxg : g ∉ xv) (hxa : ∀ ad, 0 < len → a = some ad → ad.block ∉ xv) :
    SeqStopsK Fence.wide n Tryz.prog 194 #[.pointer (some ⟨B1, 0, none⟩), .pointer (some ⟨B2, 0, none⟩)] kvE (BelX xv w.heap.size) (fun ys => ys = l.drop (fdN l k)) (fun pre => ∃ j, pre = (l.drop (fdN l k)).take j) l.length w := fun L J Jx W hW hJ hJx hY h0 => by
  have q1 : ∀ X, Below W.heap.size W X → X.cell? ⟨B1, 0, none⟩ = some (.pointer (some ⟨g, 0, none⟩)) := fun X hX => ((hW.trans (hX.mono hW.size)).cell (p := ⟨B1, 0, none⟩) hB1).trans hc1
  have q2 : ∀ X, Below W.heap.size W X → X.cell? ⟨B2, 0, none⟩ = some (.string k) := fun X hX => ((hW.trans (hX.mono hW.size)).cell (p := ⟨B2, 0, none⟩) hB2).trans hc2
  have hSW := hS.below hW
  have q3 : ∀ X, Below W.heap.size W X → X.cell? ⟨g, 0, none⟩ = some (.slice a len cap) := fun X hX => (hSW.below hX).c0
  have ci := find_any W.drew a len cap l (hSW.below (Below.refl _ W).drew).at_ k
  have hle := fdN_le l k
  obtain ⟨hl, hnc, hcm, hI⟩ := hS.at_
  unfold maxLen at hcm
  obtain ⟨i, hi⟩ : ∃ i, fdN l k = i := ⟨_, rfl⟩
  rw [hi] at ci hle
  rw [hi]
  clear hi
  have HSW : Hid (SoAt W g a len cap l) := hSW
  have HW : Hid (Below w.heap.size w W) := hW
  refine callsIn_of_wp Tryz.func194 rfl trivial ?_ rfl
  simp only [Tryz.ntmps194, List.size_toArray, List.length_cons, List.length_nil, Nat.reduceAdd, Nat.reduceSub, Array.replicate_succ, Array.replicate_zero, List.push_toArray, List.append_toArray, List.nil_append, List.cons_append]
  gi_wp2
  refine wpIn_wide.2 ?_
  refine wp_region_noPanic ?_
  refine wp_region_held_drew (S := fun X => Below W.heap.size W X) (by kernel_rfl) (Below.refl _ _).drew (fun hHeld => ?_)
  refine wpAnyH_take (i := 0) (v := .pointer (some ⟨g, 0, none⟩)) rfl (by kernel_rfl) (by kernel_rfl) (by kernel_rfl) (fun _ _ _ h => h) (Or.inl ⟨by rfl, fun W hSw => by (try dsimp only at hSw); (have z := q1 W hSw; go_simp)⟩) (by assumption) ?_
  try simp only [List.getElem_toArray, List.getElem_cons_zero, List.getElem_cons_succ, Act.put, List.setIfInBounds_toArray, List.set_cons_zero, List.set_cons_succ]
  refine wpAnyH_take (i := 1) (v := .pointer (some ⟨g, 0, none⟩)) rfl (by kernel_rfl) (by kernel_rfl) (by kernel_rfl) (fun _ _ _ h => h) (Or.inl ⟨by rfl, fun W hSw => by (try dsimp only at hSw); go_simp⟩) (by assumption) ?_
  try simp only [List.getElem_toArray, List.getElem_cons_zero, List.getElem_cons_succ, Act.put, List.setIfInBounds_toArray, List.set_cons_zero, List.set_cons_succ]
  refine wpAnyH_take (i := 2) (v := .pointer (some ⟨g, 0, none⟩)) rfl (by kernel_rfl) (by kernel_rfl) (by kernel_rfl) (fun _ _ _ h => h) (Or.inl ⟨by rfl, fun W hSw => by (try dsimp only at hSw); go_simp⟩) (by assumption) ?_
  try simp only [List.getElem_toArray, List.getElem_cons_zero, List.getElem_cons_succ, Act.put, List.setIfInBounds_toArray, List.set_cons_zero, List.set_cons_succ]
  refine wpAnyH_take (i := 3) (v := .slice a len cap) rfl (by kernel_rfl) (by kernel_rfl) (by kernel_rfl) (fun _ _ _ h => h) (Or.inl ⟨by rfl, fun W hSw => by (try dsimp only at hSw); (have z := q3 W hSw; go_simp)⟩) (by assumption) ?_
  try simp only [List.getElem_toArray, List.getElem_cons_zero, List.getElem_cons_succ, Act.put, List.setIfInBounds_toArray, List.set_cons_zero, List.set_cons_succ]
  refine wpAnyH_take (i := 4) (v := .string k) rfl (by kernel_rfl) (by kernel_rfl) (by kernel_rfl) (fun _ _ _ h => h) (Or.inl ⟨by rfl, fun W hSw => by (try dsimp only at hSw); (have z := q2 W hSw; go_simp)⟩) (by assumption) ?_
  try simp only [List.getElem_toArray, List.getElem_cons_zero, List.getElem_cons_succ, Act.put, List.setIfInBounds_toArray, List.set_cons_zero, List.set_cons_succ]
  refine wpAnyH_ready (rs := [5]) (by kernel_rfl) (by simp) ?_
  refine AllReadyH.cons rfl (fun K hK => ?_) AllReadyH.nil
  go_simp
  go_wp2_with (go_at_call 27; refine ci.mono ?_; rintro e w5 ⟨rfl, hb5⟩)
  refine hK.out _ _ (thenB (by assumption) hb5) (fun hHeld2 => ?_)
  clear hK K ci
  try simp only [List.getElem_toArray, List.getElem_cons_zero, List.getElem_cons_succ, Act.put, List.setIfInBounds_toArray, List.set_cons_zero, List.set_cons_succ]
  refine wpAnyH_take (i := 6) (v := .tuple #[.int .i64 i, .bool (fdB l k)]) rfl (by kernel_rfl) (by kernel_rfl) (by kernel_rfl) (fun _ _ _ h => h) (Or.inl ⟨by rfl, fun W hSw => by (try dsimp only at hSw); go_simp⟩) (by assumption) ?_
  try simp only [List.getElem_toArray, List.getElem_cons_zero, List.getElem_cons_succ, Act.put, List.setIfInBounds_toArray, List.set_cons_zero, List.set_cons_succ]
  refine wpAnyH_take (i := 7) (v := .int .i64 i) rfl (by kernel_rfl) (by kernel_rfl) (by kernel_rfl) (fun _ _ _ h => h) (Or.inl ⟨by rfl, fun W hSw => by (try dsimp only at hSw); go_simp⟩) (by assumption) ?_
  try simp only [List.getElem_toArray, List.getElem_cons_zero, List.getElem_cons_succ, Act.put, List.setIfInBounds_toArray, List.set_cons_zero, List.set_cons_succ]
  refine wpAnyH_take (i := 8) (v := .bool (fdB l k)) rfl (by kernel_rfl) (by kernel_rfl) (by kernel_rfl) (fun _ _ _ h => h) (Or.inl ⟨by rfl, fun W hSw => by (try dsimp only at hSw); go_simp⟩) (by assumption) ?_
  try simp only [List.getElem_toArray, List.getElem_cons_zero, List.getElem_cons_succ, Act.put, List.setIfInBounds_toArray, List.set_cons_zero, List.set_cons_succ]
  refine wpAnyH_take (i := 9) (v := .int .i64 i) rfl (by kernel_rfl) (by kernel_rfl) (by kernel_rfl) (fun _ _ _ h => h) (Or.inl ⟨by rfl, fun W hSw => by (try dsimp only at hSw); go_simp⟩) (by assumption) ?_
  try simp only [List.getElem_toArray, List.getElem_cons_zero, List.getElem_cons_succ, Act.put, List.setIfInBounds_toArray, List.set_cons_zero, List.set_cons_succ]
  refine wpAnyH_take (i := 10) (v := .bool (fdB l k)) rfl (by kernel_rfl) (by kernel_rfl) (by kernel_rfl) (fun _ _ _ h => h) (Or.inl ⟨by rfl, fun W hSw => by (try dsimp only at hSw); go_simp⟩) (by assumption) ?_
  try simp only [List.getElem_toArray, List.getElem_cons_zero, List.getElem_cons_succ, Act.put, List.setIfInBounds_toArray, List.set_cons_zero, List.set_cons_succ]
  refine wpAnyH_done (by kernel_rfl) ?_ _
  refine NoPanic.normal ?_
  have c1 := q1 w5 hHeld2
  have c3 := q3 w5 hHeld2
  have HJ5 : Hid (J [] w5) := hJ _ _ _ Option.none h0 (grown_below hHeld2) (fun r e => by cases e)
  have HB5 : Hid (Below W.heap.size W w5) := hHeld2
  clear hHeld hHeld2
  have hiI : (i : Int) ≤ len := by omega
  have hncI : (len : Int) ≤ cap := by omega
  by_cases hem : i = len
  · have hcut : l.drop i = [] := List.drop_eq_nil_of_le (by omega)
    subst hem
    by_cases hq : i = cap
    · subst hq
      gi_wp2
      gi_loopw [7, 24] (fun _ t wr => t = .int .i64 0 ∧ wr = w5) (fun _ _ _ => 0)
      case atStart => exact ⟨rfl, rfl⟩
      case round =>
        obtain ⟨rfl, rfl⟩ := hrel
        gi_wp2
        go_end0
        exact ⟨⟨_, rfl⟩, .inl ⟨_, hcut.symm, HJ5.out⟩⟩
    · have hqI : ¬ (cap : Int) = i := by omega
      gi_wp2
      gi_loopw [7, 24] (fun _ t wr => t = .int .i64 0 ∧ wr = w5) (fun _ _ _ => 0)
      case atStart => exact ⟨rfl, rfl⟩
      case round =>
        obtain ⟨rfl, rfl⟩ := hrel
        gi_wp2
        go_end0
        exact ⟨⟨_, rfl⟩, .inl ⟨_, hcut.symm, HJ5.out⟩⟩
  · have him : i < len := by omega
    obtain ⟨b, off, rfl, hb, hcs⟩ := hI (by omega)
    have hqI : ¬ cap = i := by omega
    gi_wp2
    gi_loopw [7, 24] (fun _ t wr => ∃ j : Nat, j ≤ len - i ∧ t = .int .i64 j ∧ J ((l.drop i).take j) wr ∧ BelX xv w.heap.size W wr) (fun _ t _ => (len - i) - (intOf t).toNat)
    case atStart => exact ⟨0, Nat.zero_le _, rfl, by rw [List.take_zero]; exact HJ5.out, BelX.of (HB5.out.mono HW.out.size)⟩
    case round =>
      obtain ⟨j, hj, rfl, hJs, hnx⟩ := hrel
      by_cases hlt : j < len - i
      · have hltI : (j : Int) < ((len - i : Nat) : Int) := by omega
        have hbw : BelX xv w.heap.size w wr := (BelX.of HW.out).trans hnx
        have hbx := hxa _ (by omega) rfl
        obtain ⟨p, hp⟩ : ∃ p, l[i + j]? = some p := ⟨_, List.getElem?_eq_getElem (by omega)⟩
        obtain ⟨x0, x1⟩ := hcs (i + j) p hp
        have hcx0 : wr.cell? ⟨b, off + i * 2 + j * 2, none⟩ = some (.string p.1) := by
          rw [show off + i * 2 + j * 2 = off + (i + j) * 2 by omega]; exact (hbw.cell (p := ⟨b, off + (i + j) * 2, none⟩) hb hbx).trans x0
        have hcx1 : wr.cell? ⟨b, off + i * 2 + j * 2 + 1, none⟩ = some (.string p.2) := by
          rw [show off + i * 2 + j * 2 + 1 = off + (i + j) * 2 + 1 by omega]; exact (hbw.cell (p := ⟨b, off + (i + j) * 2 + 1, none⟩) hb hbx).trans x1
        have hT := drop_next hp
        have hba : Below wr.heap.size wr (wr.alloc (.cells #[.string p.1, .string p.2] 90)) := (Below.refl _ wr).alloc (Nat.le_refl _) _
        have d1 : (wr.alloc (.cells #[.string p.1, .string p.2] 90)).cell? ⟨B1, 0, none⟩ = some (.pointer (some ⟨g, 0, none⟩)) := ((hbw.trans (BelX.of (hba.mono hbw.size))).cell (p := ⟨B1, 0, none⟩) hB1 hx1).trans hc1
        have cf := fails_any ((hS.belX hbw hxg hxa).below hba)
        obtain ⟨fn, tmps, assign, body, hy, hR⟩ := hY _ p (wr.alloc (.cells #[.string p.1, .string p.2] 90)) (hJ _ _ _ Option.none hJs (World.grownBy_alloc wr _ Option.none) (fun r e => by cases e)) (by rw [List.length_take, List.length_drop]; omega)
        unfold kvE at hy
        clear hcs hI q1 q2 q3
        gi_wp2
        refine ⟨trivial, (fun h => by cases h), ?_⟩
        refine (callsIn_wide.2 cf).mono ?_
        rintro e w7 ⟨rfl, rfl⟩
        clear cf
        gi_wp2
        refine ⟨(fun h => by cases h), hR.mono ?_⟩
        rintro e W3 (⟨rfl, hJ3, hk3⟩ | ⟨rfl, hJx3⟩)
        · gi_wp2
          go_roundw
          case rel => exact ⟨j + 1, by omega, by simp, by rw [hT]; exact hJ3, hnx.trans ((BelX.of (hba.mono hbw.size)).trans hk3)⟩
          case measure => simp [intOf]; omega
        · gi_wp2
          refine bodyPost_ret (results_none rfl _ _ _) rfl ?_
          exact ⟨⟨_, rfl⟩, .inr ⟨_, ⟨j + 1, hT.symm⟩, hJx3⟩⟩
      · obtain rfl : j = len - i := by omega
        rw [List.take_of_length_le (by rw [List.length_drop]; omega)] at hJs
        have hltI : ¬ ((len - i : Nat) : Int) < ((len - i : Nat) : Int) := by omega
        gi_wp2
        go_end0
        first | exact ⟨⟨_, rfl⟩, .inl hJs⟩ | exact ⟨⟨_, rfl⟩, .inl ⟨_, rfl, hJs⟩⟩

end Go.Proofs.YtjlglnhmkheidaaGreat
