/- VwStore, VwNames: in one text. -/
import Derived.Test.YtiplhhaehbjghaaGreatM1
import Derived.Test.YtiplhhaehbjghaaGreatM3
import Derived.BigQuiet
import Derived.Deep.QuietTactic
import Derived.Test.YtiplhhaehbjghaaGreatD4
import Derived.Test.YtiplhhaehbjghaaGreatP3
import Derived.Handy
namespace Go.Proofs.YtiplhhaehbjghaaGreat
open Go.RowKit
set_option linter.unusedVariables false
set_option maxHeartbeats 32000000
set_option maxRecDepth 100000
set_option linter.unusedSimpArgs false
def RdK (w : World) (a : Option Addr) (n cap : Nat) (l : List (ByteArray × ByteArray)) : Prop :=
 l.length = n ∧ n ≤ cap ∧ cap ≤ maxLen ∧ (0 < n → ∃ b off, a = some ⟨b, off, none⟩ ∧ b < w.heap.size ∧ ∀ i p, l[i]? = some p → w.cell? ⟨b, off + i * 2, none⟩ = some (.string p.1) ∧ w.cell? ⟨b, off + i * 2 + 1, none⟩ = some (.string p.2))
theorem RdK.below {w w' : World} {a : Option Addr} {n cap : Nat} {l : List (ByteArray × ByteArray)} (h : RdK w a n cap l) (hb : Below w.heap.size w w') : RdK w' a n cap l := by
 obtain ⟨h1, h2, h3, h4⟩ := h
 refine ⟨h1, h2, h3, fun hp => ?_⟩
 obtain ⟨b, off, e, hb', hc⟩ := h4 hp
 exact ⟨b, off, e, Nat.lt_of_lt_of_le hb' hb.size, fun i p hi => ⟨(hb.cell (p := ⟨b, off + i * 2, none⟩) hb').trans (hc i p hi).1, (hb.cell (p := ⟨b, off + i * 2 + 1, none⟩) hb').trans (hc i p hi).2⟩⟩
def ltS (a b : ByteArray) : Bool := Op.bytesLess a.toList b.toList
def fdN (l : List (ByteArray × ByteArray)) (k : ByteArray) : Nat := (l.takeWhile fun p => ltS p.1 k).length
def fdB (l : List (ByteArray × ByteArray)) (k : ByteArray) : Bool := match l[fdN l k]? with | some p => p.1.toList == k.toList | none => false
theorem fdN_le (l : List (ByteArray × ByteArray)) (k : ByteArray) : fdN l k ≤ l.length := by
 unfold fdN
 exact (List.takeWhile_sublist _).length_le
theorem fdN_at {k : ByteArray} : ∀ {l : List (ByteArray × ByteArray)} {i : Nat}, i ≤ l.length → (∀ j p, j < i → l[j]? = some p → ltS p.1 k = true) → (∀ p, l[i]? = some p → ltS p.1 k = false) → fdN l k = i
 | [], i, hi, _, _ => by simp at hi; subst hi; rfl
 | x :: l, 0, _, _, h2 => by
  have := h2 x rfl
  simp [fdN, this]
 | x :: l, i + 1, hi, h1, h2 => by
  have h0 := h1 0 x (by omega) rfl
  have ih := fdN_at (k := k) (l := l) (i := i) (by simpa using hi) (fun j p hj hp => h1 (j + 1) p (by omega) (by simpa using hp)) (fun p hp => h2 p (by simpa using hp))
  unfold fdN at ih ⊢
  simp [h0, ih]
structure SoAt (w : World) (g : Nat) (a : Option Addr) (n cap : Nat) (l : List (ByteArray × ByteArray)) : Prop where
 row : w.heap[g]? = some (.cells #[.slice a n cap, .int .i64 (-1)] 77 (0, 0))
 at_ : RdK w a n cap l
theorem SoAt.lt {w : World} {g : Nat} {a : Option Addr} {n cap : Nat} {l : List (ByteArray × ByteArray)} (h : SoAt w g a n cap l) : g < w.heap.size := (Array.getElem?_eq_some_iff.1 h.row).1
theorem SoAt.below {w w' : World} {g : Nat} {a : Option Addr} {n cap : Nat} {l : List (ByteArray × ByteArray)} (h : SoAt w g a n cap l) (hb : Below w.heap.size w w') : SoAt w' g a n cap l := ⟨(hb.block g h.lt).trans h.row, h.at_.below hb⟩
theorem SoAt.c0 {w : World} {g : Nat} {a : Option Addr} {n cap : Nat} {l : List (ByteArray × ByteArray)} (h : SoAt w g a n cap l) : w.cell? ⟨g, 0, none⟩ = some (.slice a n cap) := by rw [cell_of_row _ _ _ _ _ (0, 0) h.row]; rfl
theorem SoAt.c1 {w : World} {g : Nat} {a : Option Addr} {n cap : Nat} {l : List (ByteArray × ByteArray)} (h : SoAt w g a n cap l) : w.cell? ⟨g, 1, none⟩ = some (.int .i64 (-1)) := by rw [cell_of_row _ _ _ _ _ (0, 0) h.row]; rfl
theorem fails_any {w : World} {g : Nat} {a : Option Addr} {n cap : Nat} {l : List (ByteArray × ByteArray)} (h : SoAt w g a n cap l) : Calls Tryz.prog 301 #[.pointer (some ⟨g, 0, none⟩)] w fun e w' => e = .returned (.bool false) ∧ w' = w := by
 have c1 := h.c1
 clear h
 go_enter Tryz.func301, Tryz.ntmps301
 go_wp2
 go_ret
 exact ⟨rfl, rfl⟩
theorem find_any (w : World) (a : Option Addr) (n cap : Nat) (l : List (ByteArray × ByteArray)) (h : RdK w a n cap l) (k : ByteArray) : Calls Tryz.prog 224 #[.slice a n cap, .string k] w fun e w' =>
  e = .returned (.tuple #[.int .i64 (fdN l k), .bool (fdB l k)]) ∧ Below w.heap.size w w' := by
 obtain ⟨hl, hnc, hcm, hI⟩ := h
 unfold maxLen at hcm
 go_enter Tryz.func224, Tryz.ntmps224
 go_wp2_with fail
 go_loopw [6, 7, 10] (fun _ _ t wr => ∃ (i : Nat), i ≤ n ∧ t = .int .i64 i ∧ Hid (∀ j p, j < i → l[j]? = some p → ltS p.1 k = true) ∧ Hid (Below w.heap.size w wr)) (fun _ _ t _ => n - (intOf t).toNat)
 case atStart => exact ⟨0, Nat.zero_le _, rfl, fun j p hj => absurd hj (Nat.not_lt_zero _), Below.refl _ _⟩
 case round =>
  obtain ⟨i, hi, rfl, HLO, HB⟩ := hrel
  by_cases hlt : i < n
  ·have hltI : (i : Int) < n := by omega
   obtain ⟨b, off, rfl, hb, hcs⟩ := hI (by omega)
   obtain ⟨p, hp⟩ : ∃ p, l[i]? = some p := ⟨_, List.getElem?_eq_getElem (by omega)⟩
   obtain ⟨x0, x1⟩ := hcs i p hp
   have hcx0 : wr.cell? ⟨b, off + i * 2, none⟩ = some (.string p.1) := (HB.out.cell (p := ⟨b, off + i * 2, none⟩) hb).trans x0
   have hcx1 : wr.cell? ⟨b, off + i * 2 + 1, none⟩ = some (.string p.2) := (HB.out.cell (p := ⟨b, off + i * 2 + 1, none⟩) hb).trans x1
   have HP : Hid (l[i]? = some p) := hp
   have HB2 : Hid (Below w.heap.size w (wr.alloc (.cells #[.string p.1, .string p.2] 83))) := HB.out.alloc HB.out.size _
   clear hI hcs x0 x1 hp
   cases hls : Op.bytesLess p.1.toList k.toList
   ·have HF : Hid (fdN l k = i) := fdN_at (by omega) HLO.out (fun q hq => by rw [HP.out] at hq; cases hq; exact hls)
    have HE : Hid (fdB l k = (p.1.toList == k.toList)) := by unfold Hid fdB; rw [HF.out, HP.out]
    go_wp2_with fail
    have d0 : ∀ q, ((wr.alloc (.cells #[.string p.1, .string p.2] 83)).drewN q).cell? ⟨wr.heap.size, 0, none⟩ = some (.string p.1) := fun q => by
     rw [show ((wr.alloc (.cells #[.string p.1, .string p.2] 83)).drewN q).cell? ⟨wr.heap.size, 0, none⟩ = (wr.alloc (.cells #[.string p.1, .string p.2] 83)).cell? ⟨wr.heap.size, 0, none⟩ from rfl, cell_of_row _ _ _ _ _ (0, 0) (heap_alloc_new wr _)]; rfl
    go_quiet (fail)
    have HB3 : Hid (Below w.heap.size w ((wr.alloc (.cells #[.string p.1, .string p.2] 83)).drewN nq)) := thenB HB2.out (belowQ _ _ _)
    go_wp2
    go_ret2
    exact ⟨by rw [HF.out, HE.out]; rfl, HB3.out⟩
   ·have HL2 : Hid (∀ j q, j < i + 1 → l[j]? = some q → ltS q.1 k = true) := fun j q hj hq => by
     by_cases e : j = i
     ·rw [e, HP.out] at hq; cases hq; exact hls
     ·exact HLO.out j q (by omega) hq
    go_wp2_with fail
    go_roundw
    case rel => exact ⟨i + 1, by omega, by go_num, HL2, HB2⟩
    case measure => simp [intOf]; omega
  ·obtain rfl : i = n := by omega
   have hltI : ¬ (i : Int) < i := by omega
   have HF : Hid (fdN l k = i) := fdN_at (by omega) HLO.out (fun q hq => by rw [List.getElem?_eq_none (by omega)] at hq; cases hq)
   have HE : Hid (fdB l k = false) := by unfold Hid fdB; rw [HF.out, List.getElem?_eq_none (by omega)]
   go_wp2
   go_ret2
   exact ⟨by rw [HF.out, HE.out]; rfl, HB.out⟩
def valS (l : List (ByteArray × ByteArray)) (k : ByteArray) : ByteArray := if fdB l k then ((l.getD (fdN l k) (⟨#[]⟩, ⟨#[]⟩)).2) else ⟨#[]⟩
theorem fdB_lt {l : List (ByteArray × ByteArray)} {k : ByteArray} (h : fdB l k = true) : ∃ p, l[fdN l k]? = some p ∧ p.1.toList = k.toList := by
 unfold fdB at h
 cases hp : l[fdN l k]? with
 | none => rw [hp] at h; cases h
 | some p => rw [hp] at h; exact ⟨p, rfl, by simpa using h⟩
theorem sget_any {w : World} {g : Nat} {a : Option Addr} {n cap : Nat} {l : List (ByteArray × ByteArray)} (h : SoAt w g a n cap l) (k : ByteArray) : Calls Tryz.prog 300 #[.pointer (some ⟨g, 0, none⟩), .string k] w fun e w' =>
  e = .returned (.tuple #[.string (valS l k), .bool (fdB l k), .int .i64 0]) ∧ Below w.heap.size w w' := by
 have cf := fails_any h
 have ci := find_any w a n cap l h.at_ k
 have c0 := h.c0
 have HS : Hid (SoAt w g a n cap l) := h
 have hle := fdN_le l k
 have hl := h.at_.1
 clear h
 go_enter Tryz.func300, Tryz.ntmps300
 go_wp2_with fail
 refine cf.mono ?_
 rintro e w1 ⟨rfl, rfl⟩
 clear cf
 go_wp2_with fail
 refine ci.mono ?_
 rintro e w2 ⟨rfl, hb2⟩
 clear ci
 have hS2 := HS.out.below hb2
 have d0 := hS2.c0
 cases hB : fdB l k
 ·have HV : Hid (valS l k = ⟨#[]⟩) := by unfold Hid valS; rw [hB]; rfl
  go_wp2
  go_ret3
  exact ⟨by rw [HV.out, hB]; rfl, hb2⟩
 ·obtain ⟨p, hp, _⟩ := fdB_lt hB
  have hlt := (List.getElem?_eq_some_iff.1 hp).1
  have HV : Hid (valS l k = p.2) := by unfold Hid valS; rw [hB, if_pos rfl, List.getD_eq_getElem?_getD, hp]; rfl
  obtain ⟨_, hnc, hcm, hI⟩ := hS2.at_
  obtain ⟨b, off, rfl, hb, hcs⟩ := hI (by omega)
  obtain ⟨_, x1⟩ := hcs _ p hp
  obtain ⟨i, hi⟩ : ∃ i, fdN l k = i := ⟨_, rfl⟩
  rw [hi] at x1 hlt
  rw [hi]
  have hltI : (i : Int) < n := by omega
  unfold maxLen at hcm
  clear hI hcs hp hi
  go_wp2
  go_ret3
  exact ⟨by rw [HV.out, hB]; rfl, hb2⟩
def baV (g : Nat) : Value := .iface 49 (.pointer (some ⟨g, 0, none⟩))
structure VwAt (w : World) (v g p : Nat) : Prop where
 row : w.heap[v]? = some (.cells #[baV g, .pointer (some ⟨p, 0, none⟩)] 164 (0, 0))
theorem VwAt.lt {w : World} {v g p : Nat} (h : VwAt w v g p) : v < w.heap.size := (Array.getElem?_eq_some_iff.1 h.row).1
theorem VwAt.below {w w' : World} {v g p : Nat} (h : VwAt w v g p) (hb : Below w.heap.size w w') : VwAt w' v g p := ⟨(hb.block v h.lt).trans h.row⟩
theorem VwAt.c0 {w : World} {v g p : Nat} (h : VwAt w v g p) : w.cell? ⟨v, 0, none⟩ = some (baV g) := by rw [cell_of_row _ _ _ _ _ (0, 0) h.row]; rfl
theorem VwAt.c1 {w : World} {v g p : Nat} (h : VwAt w v g p) : w.cell? ⟨v, 1, none⟩ = some (.pointer (some ⟨p, 0, none⟩)) := by rw [cell_of_row _ _ _ _ _ (0, 0) h.row]; rfl
theorem vnew_any (w : World) (g p : Nat) : Calls Tryz.prog 36 #[baV g, .pointer (some ⟨p, 0, none⟩)] w fun e w' => e = .returned (.pointer (some ⟨w.heap.size, 0, none⟩)) ∧ VwAt w' w.heap.size g p ∧ Below w.heap.size w w' := by
 have hx : VwAt (w.alloc (.cells #[baV g, .pointer (some ⟨p, 0, none⟩)] 164)) w.heap.size g p := ⟨heap_alloc_new w _⟩
 have hb : Below w.heap.size w (w.alloc (.cells #[baV g, .pointer (some ⟨p, 0, none⟩)] 164)) := (Below.refl _ w).alloc (Nat.le_refl _) _
 unfold baV at hx hb ⊢
 go_enter Tryz.func36, Tryz.ntmps36
 go_wp2
 go_ret
 exact ⟨rfl, hx, hb⟩
end Go.Proofs.YtiplhhaehbjghaaGreat
