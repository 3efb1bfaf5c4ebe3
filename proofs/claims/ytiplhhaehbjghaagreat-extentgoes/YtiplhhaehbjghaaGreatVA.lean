/- VwRis, PArg, VwArg: in one text. -/
import Derived.Test.YtiplhhaehbjghaaGreatV7
import Derived.Test.YtiplhhaehbjghaaGreatP3
import Derived.Test.YtiplhhaehbjghaaGreatP1
import Derived.Lib.SmallJoins
import Derived.Deep.Slices
namespace Go.Proofs.YtiplhhaehbjghaaGreat
open Go.RowKit
set_option linter.unusedVariables false
set_option maxHeartbeats 32000000
set_option maxRecDepth 100000
set_option linter.unusedSimpArgs false
def Adj (l : List (ByteArray × ByteArray)) (n : Nat) : Prop := ∀ j p q, j + 1 < n → l[j]? = some p → l[j + 1]? = some q → ltS p.1 q.1 = true
theorem ltS_trans {a b c : ByteArray} (h1 : ltS a b = true) (h2 : ltS b c = true) : ltS a c = true := by
 have e1 : cmpS a b = -1 := by unfold cmpS; exact if_pos h1
 have e2 : cmpS b c = -1 := by unfold cmpS; exact if_pos h2
 have e3 : cmpS a c = -1 := by
  rw [cmpS_cmpL] at e1 e2 ⊢
  exact cmpL_trans _ _ _ e1 e2
 unfold cmpS at e3
 split at e3
 ·assumption
 ·split at e3 <;> cases e3
def RisK (l : List (ByteArray × ByteArray)) : Prop := l.Pairwise fun p q => ltS p.1 q.1 = true
theorem risK_of {l : List (ByteArray × ByteArray)} (h : Adj l l.length) : RisK l := by
 refine List.pairwise_iff_getElem.2 fun i j hi hj hij => ?_
 obtain ⟨d, rfl⟩ : ∃ d, j = i + 1 + d := ⟨j - i - 1, by omega⟩
 clear hij
 induction d with
 | zero => exact h i _ _ hj (List.getElem?_eq_getElem hi) (List.getElem?_eq_getElem hj)
 | succ d ih => exact ltS_trans (ih (by omega)) (h (i + 1 + d) _ _ (by omega) (List.getElem?_eq_getElem (by omega)) (List.getElem?_eq_getElem hj))
structure RisV (l : List (ByteArray × ByteArray)) (v : Value) : Prop where
 has : ∃ b, v = .bool b ∧ (b = true → RisK l ∧ l.length ≤ 300)
theorem rising_any (w : World) (a : Option Addr) (n cap : Nat) (l : List (ByteArray × ByteArray)) (h : RdK w a n cap l) : Calls Tryz.prog 10 #[.slice a n cap] w fun e w' =>
  ∃ v, e = .returned v ∧ RisV l v ∧ Below w.heap.size w w' := by
 obtain ⟨hl, hnc, hcm, hI⟩ := h
 unfold maxLen at hcm
 have HL : Hid (l.length = n) := hl
 go_enter Tryz.func10, Tryz.ntmps10
 go_wp2_with fail
 go_loopw [3, 6] (fun _ t wr => ∃ (i : Nat), i ≤ n ∧ t = .int .i64 i ∧ Hid (Adj l i) ∧ Hid (Below w.heap.size w wr)) (fun _ t _ => n - (intOf t).toNat)
 case atStart => exact ⟨0, Nat.zero_le _, rfl, fun j p q hj => absurd hj (Nat.not_lt_zero _), Below.refl _ _⟩
 case round =>
  obtain ⟨i, hi, rfl, HLO, HB⟩ := hrel
  by_cases hlt : i < n
  ·have hltI : (i : Int) < n := by omega
   by_cases h0 : i = 0
   ·subst h0
    have hg : ¬ ((0 : Nat) : Int) > 0 := by omega
    go_wp2_with fail
    go_quiet (fail)
    have HBQ : Hid (Below w.heap.size w (wr.drewN nq)) := thenB HB.out (belowQ _ _ _)
    go_wp2_with fail
    go_roundw
    case rel => exact ⟨1, by omega, by go_num, fun j p q hj => by omega, HBQ⟩
    case measure => simp [intOf]; omega
   ·obtain ⟨k, rfl⟩ : ∃ k, i = k + 1 := ⟨i - 1, by omega⟩
    obtain ⟨b, off, rfl, hb, hcs⟩ := hI (by omega)
    obtain ⟨p, hp⟩ : ∃ p, l[k]? = some p := ⟨_, List.getElem?_eq_getElem (by omega)⟩
    obtain ⟨q, hq⟩ : ∃ q, l[k + 1]? = some q := ⟨_, List.getElem?_eq_getElem (by omega)⟩
    have x0 : ∀ m, (wr.drewN m).cell? ⟨b, off + k * 2, none⟩ = some (.string p.1) := fun m => (HB.out.cell (p := ⟨b, off + k * 2, none⟩) hb).trans (hcs k p hp).1
    have y0 : ∀ m, (wr.drewN m).cell? ⟨b, off + (k + 1) * 2, none⟩ = some (.string q.1) := fun m => (HB.out.cell (p := ⟨b, off + (k + 1) * 2, none⟩) hb).trans (hcs (k + 1) q hq).1
    have HP : Hid (l[k]? = some p) := hp
    have HQ : Hid (l[k + 1]? = some q) := hq
    have hg : ((k + 1 : Nat) : Int) > 0 := by omega
    have hk : ((k + 1 : Nat) : Int) - 1 = (k : Int) := by omega
    clear hI hcs hp hq h0
    cases hls : Op.bytesLess p.1.toList q.1.toList
    ·go_wp2_with fail
     go_quiet (fail)
     have HBQ : Hid (Below w.heap.size w (wr.drewN nq)) := thenB HB.out (belowQ _ _ _)
     go_wp2
     go_ret
     exact ⟨_, rfl, ⟨false, rfl, fun h => by cases h⟩, HBQ.out⟩
    ·have HL2 : Hid (Adj l (k + 1 + 1)) := fun j p' q' hj hp' hq' => by
      by_cases e : j = k
      ·rw [e, HP.out] at hp'; rw [e, HQ.out] at hq'; cases hp'; cases hq'; exact hls
      ·exact HLO.out j p' q' (by omega) hp' hq'
     go_wp2_with fail
     go_quiet (fail)
     have HBQ : Hid (Below w.heap.size w (wr.drewN nq)) := thenB HB.out (belowQ _ _ _)
     go_wp2_with fail
     go_roundw
     case rel => exact ⟨k + 1 + 1, by omega, by go_num, HL2, HBQ⟩
     case measure => simp [intOf]; omega
  ·obtain rfl : i = n := by omega
   have hltI : ¬ (i : Int) < i := by omega
   go_wp2
   go_ret
   exact ⟨_, rfl, ⟨_, rfl, fun hb => ⟨risK_of (by rw [HL.out]; exact HLO.out), by have := HL.out; simp at hb; omega⟩⟩, HB.out⟩
def KvsOk (l : List (ByteArray × ByteArray)) : Prop := ∀ p ∈ l, p.1.size ≤ maxLen ∧ p.2.size ≤ maxLen
theorem kvs_of {H : Type} {enc : TypeId × Value → H} {W : World} {base : Nat} {held : Bool} {fuel : Nat} {a : Option Addr} {len cap : Nat} {x : DataW H × List MemPlace}
  (h : DataW.trod enc Tryz.prog W base (fun _ => true) held fuel 22 [.slice a len cap] = some x) : ∃ l, RdK W a len cap l ∧ KvsOk l := by
 rcases Deep.open_slice Tryz.underlying22 h with ⟨hcs, _⟩ | ⟨a', l, c, m, n, D, Pl, hcs, hb, hl, hm, hmm, _, hx⟩
 ·simp at hcs
  obtain ⟨rfl, rfl, rfl⟩ := hcs
  exact ⟨[], ⟨rfl, Nat.le_refl _, Nat.zero_le _, fun h => by omega⟩, fun p hp => by cases hp⟩
 ·simp at hcs
  obtain ⟨rfl, rfl, rfl⟩ := hcs
  have each : ∀ i, i < len → ∃ o : ByteArray × ByteArray, (o.1.size ≤ maxLen ∧ o.2.size ≤ maxLen) ∧ W.cell? (a'.add (i * 2)) = some (.string o.1) ∧ W.cell? (a'.add (i * 2 + 1)) = some (.string o.2) := by
   intro i hi
   obtain ⟨cs', h1, h2⟩ := hx i (by rw [hmm]; simp; omega)
   rw [show Tryz.prog.cellsOf 83 = 2 from by kernel_rfl] at h1
   obtain ⟨_, hlen, hcell⟩ := World.cells?_some h1
   obtain ⟨xs, k, hk, hxy, _, hxl, hf⟩ := DataW.trod_struct Tryz.underlying83 h2
   have hxl : xs.length = 2 := hxl
   clear hxy hk h1 h2
   match xs, hxl, cs', hlen with
   | [y0, y1], _, [v0, v1], _ =>
    have g0 : DataW.trod enc Tryz.prog W base (fun _ => true) held k 9 (([v0, v1].drop 0).take (Tryz.prog.cellsOf 9)) = some y0 := hf 0 _ rfl
    have g1 : DataW.trod enc Tryz.prog W base (fun _ => true) held k 9 (([v0, v1].drop 1).take (Tryz.prog.cellsOf 9)) = some y1 := hf 1 _ rfl
    rw [show Tryz.prog.cellsOf 9 = 1 from by kernel_rfl] at g0 g1
    simp only [List.drop_zero, List.drop_succ_cons, List.take_succ_cons, List.take_zero] at g0 g1
    obtain ⟨z0, e0, _, w0⟩ := DataW.trod_string Tryz.underlying9 g0
    obtain ⟨z1, e1, _, w1⟩ := DataW.trod_string Tryz.underlying9 g1
    simp only [List.cons.injEq, and_true] at e0 e1
    have q0 := hcell 0 (by omega)
    have q1 := hcell 1 (by omega)
    rw [Deep.add_add] at q0 q1
    rw [e0, e1] at q0 q1
    exact ⟨(z0, z1), ⟨w0, w1⟩, q0, q1⟩
  have hin : Inhabited (ByteArray × ByteArray) := ⟨(⟨#[]⟩, ⟨#[]⟩)⟩
  obtain ⟨f, hf⟩ := Deep.choose_lt each
  refine ⟨(List.range len).map f, ⟨by simp, hl, hm, fun hp => ?_⟩, fun p hp => ?_⟩
  rotate_left
  ·obtain ⟨i, hi, rfl⟩ := List.mem_map.1 hp
   exact (hf i (List.mem_range.1 hi)).1
  obtain ⟨b, off, spot⟩ := a'
  have q0 := (hf 0 hp).2.1
  have hspot : spot = none := by simpa [Addr.add] using World.cell?_spot q0
  subst hspot
  have hadd : ∀ j, (⟨b, off, none⟩ : Addr).add j = ⟨b, off + j, none⟩ := fun j => by unfold Addr.add; split <;> simp_all
  rw [hadd] at q0
  refine ⟨b, off, rfl, World.block_lt_of_cell? _ _ q0, fun i u hu => ?_⟩
  have hi : i < len := by
   have := (List.getElem?_eq_some_iff.1 hu).1
   simpa using this
  rw [List.getElem?_map, List.getElem?_range hi] at hu
  simp only [Option.map_some, Option.some.injEq] at hu
  subst hu
  have q := (hf i hi).2
  rw [hadd, hadd, ← Nat.add_assoc] at q
  exact q
end Go.Proofs.YtiplhhaehbjghaaGreat
