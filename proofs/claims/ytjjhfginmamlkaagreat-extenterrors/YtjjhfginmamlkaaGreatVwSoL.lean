/- The law's Store that may fail: pairs, and how often it may be asked yet; the contracts of fails, Get. -/
import Derived.Test.YtjjhfginmamlkaaGreatV7
namespace Go.Proofs.YtjjhfginmamlkaaGreat
open Go.RowKit
set_option linter.unusedVariables false
set_option linter.unusedSimpArgs false
set_option maxRecDepth 100000

/-- How often a store may be asked behind one more call. -/
def decL (f : Int) : Int := if f ≤ 0 then f else f - 1
/-- Where a store lies that may be asked so often yet (below 0: always). -/
structure SoL (w : World) (g : Nat) (a : Option Addr) (n cap : Nat) (l : List (ByteArray × ByteArray)) (f : Int) : Prop where
  row : w.heap[g]? = some (.cells #[.slice a n cap, .int .i64 f] 65 (0, 0))
  at_ : RdK w a n cap l
  hi : f ≤ 9223372036854775807
theorem SoL.lt {w : World} {g : Nat} {a : Option Addr} {n cap : Nat} {l : List (ByteArray × ByteArray)} {f : Int} (h : SoL w g a n cap l f) : g < w.heap.size := (Array.getElem?_eq_some_iff.1 h.row).1
theorem SoL.below {w w' : World} {g : Nat} {a : Option Addr} {n cap : Nat} {l : List (ByteArray × ByteArray)} {f : Int} (h : SoL w g a n cap l f) (hb : Below w.heap.size w w') : SoL w' g a n cap l f := ⟨(hb.block g h.lt).trans h.row, h.at_.below hb, h.hi⟩
theorem SoL.c0 {w : World} {g : Nat} {a : Option Addr} {n cap : Nat} {l : List (ByteArray × ByteArray)} {f : Int} (h : SoL w g a n cap l f) : w.cell? ⟨g, 0, none⟩ = some (.slice a n cap) := by rw [cell_of_row _ _ _ _ _ (0, 0) h.row]; rfl
theorem SoL.c1 {w : World} {g : Nat} {a : Option Addr} {n cap : Nat} {l : List (ByteArray × ByteArray)} {f : Int} (h : SoL w g a n cap l f) : w.cell? ⟨g, 1, none⟩ = some (.int .i64 f) := by rw [cell_of_row _ _ _ _ _ (0, 0) h.row]; rfl
theorem SoL.f1 {w : World} {g : Nat} {a : Option Addr} {n cap : Nat} {l : List (ByteArray × ByteArray)} {f : Int} (h : SoL w g a n cap l f) : w.frozen? ⟨g, 1, none⟩ = false := by simp [World.frozen?, h.row]
/-- The pairs lie elsewhere. -/
theorem SoL.apart {w : World} {g : Nat} {a : Option Addr} {n cap : Nat} {l : List (ByteArray × ByteArray)} {f : Int} (h : SoL w g a n cap l f) : ∀ q, 0 < n → a = some q → q.block ≠ g := by
  intro q hp e
  obtain ⟨h1, h2, h3, h4⟩ := h.at_
  obtain ⟨b, off, e', hb, hc⟩ := h4 hp
  rw [e] at e'
  cases e'
  intro eg
  dsimp only at eg
  subst eg
  obtain ⟨p, hp'⟩ : ∃ p, l[0]? = some p := ⟨_, List.getElem?_eq_getElem (by omega)⟩
  have := (hc 0 p hp').1
  rw [cell_of_row _ _ _ _ _ (0, 0) h.row] at this
  rcases hk : off + 0 * 2 with _ | _ | k
  · rw [hk] at this; simp at this
  · rw [hk] at this; simp at this
  · rw [hk] at this; simp at this
theorem RdK.keepG {w w' : World} {a : Option Addr} {n cap : Nat} {l : List (ByteArray × ByteArray)} (h : RdK w a n cap l) (hs : w.heap.size ≤ w'.heap.size) (hk : ∀ q, 0 < n → a = some q → q.block < w.heap.size → w'.heap[q.block]? = w.heap[q.block]?) : RdK w' a n cap l := by
  obtain ⟨h1, h2, h3, h4⟩ := h
  refine ⟨h1, h2, h3, fun hp => ?_⟩
  obtain ⟨b, off, e, hb', hc⟩ := h4 hp
  have hb := hk _ hp e hb'
  refine ⟨b, off, e, Nat.lt_of_lt_of_le hb' hs, fun i p hi => ?_⟩
  obtain ⟨c1, c2⟩ := hc i p hi
  have cc : ∀ j, w'.cell? ⟨b, j, none⟩ = w.cell? ⟨b, j, none⟩ := fun j => by simp [World.cell?, hb]
  exact ⟨(cc _).trans c1, (cc _).trans c2⟩
theorem SoL.turn {w : World} {g : Nat} {a : Option Addr} {n cap : Nat} {l : List (ByteArray × ByteArray)} {f : Int} (h : SoL w g a n cap l f) (f' : Int) (hf : f' ≤ 9223372036854775807) : SoL (w.setCell ⟨g, 1, none⟩ (.int .i64 f')) g a n cap l f' :=
  ⟨heap_setCell_same w g 1 _ _ (.int .i64 f') h.row, h.at_.keepG (by simp [World.setCell]) (fun q hp e hl => heap_setCell_other w ⟨g, 1, none⟩ q.block _ (h.apart q hp e)), hf⟩

set_option maxHeartbeats 1000000 in
theorem fails_l {w : World} {g : Nat} {a : Option Addr} {n cap : Nat} {l : List (ByteArray × ByteArray)} {f : Int} (h : SoL w g a n cap l f) : Calls Tryz.prog 198 #[.pointer (some ⟨g, 0, none⟩)] w fun e w' =>
    e = .returned (.bool (decide (f = 0))) ∧ Sole [g] w w' ∧ SoL w' g a n cap l (decL f) := by
  have c1 := h.c1
  have f1 := h.f1
  have hh := h.hi
  by_cases h0 : f = 0
  · subst h0
    have HR : Hid (SoL w g a n cap l (decL 0)) := h
    clear h
    go_enter Tryz.func198, Tryz.ntmps198
    go_wp2
    go_ret
    exact ⟨rfl, Sole.of_below (Below.refl _ _) _, HR.out⟩
  · have h0b : (f == 0) = false := by simpa using h0
    have hd : decide (f = 0) = false := by simpa using h0
    rw [hd]
    by_cases hp : 0 < f
    · have e : decL f = f - 1 := by unfold decL; rw [if_neg (by omega)]
      rw [e]
      have HR : Hid (SoL (w.setCell ⟨g, 1, none⟩ (.int .i64 (f - 1))) g a n cap l (f - 1)) := h.turn _ (by omega)
      have HS : Hid (Sole [g] w (w.setCell ⟨g, 1, none⟩ (.int .i64 (f - 1)))) := Sole.setCell w _ (by simp)
      clear h e h0 hd
      go_enter Tryz.func198, Tryz.ntmps198
      go_wp2
      go_ret
      exact ⟨rfl, HS.out, HR.out⟩
    · have e : decL f = f := by unfold decL; rw [if_pos (by omega)]
      rw [e]
      have HR : Hid (SoL w g a n cap l f) := h
      clear h e h0 hd
      go_enter Tryz.func198, Tryz.ntmps198
      go_wp2
      go_ret
      exact ⟨rfl, Sole.of_below (Below.refl _ _) _, HR.out⟩

/-- What a store tells. -/
def gtR (l : List (ByteArray × ByteArray)) (f : Int) (k : ByteArray) : ByteArray × Bool × Int := if f = 0 then (⟨#[]⟩, false, 70) else (valS l k, fdB l k, 0)

set_option maxHeartbeats 2000000 in
theorem sget_l {w : World} {g : Nat} {a : Option Addr} {n cap : Nat} {l : List (ByteArray × ByteArray)} {f : Int} (h : SoL w g a n cap l f) (k : ByteArray) : Calls Tryz.prog 197 #[.pointer (some ⟨g, 0, none⟩), .string k] w fun e w' =>
    e = .returned (.tuple #[.string (gtR l f k).1, .bool (gtR l f k).2.1, .int .i64 (gtR l f k).2.2]) ∧ Sole [g] w w' ∧ SoL w' g a n cap l (decL f) := by
  have cf := fails_l h
  have hle := fdN_le l k
  have hl := h.at_.1
  have HR : Hid (gtR l f k = if f = 0 then (⟨#[]⟩, false, 70) else (valS l k, fdB l k, 0)) := rfl
  generalize gtR l f k = R at *
  clear h
  go_enter Tryz.func197, Tryz.ntmps197
  go_wp2_with fail
  refine cf.mono ?_
  rintro e w1 ⟨rfl, hs1, hS1⟩
  clear cf
  have HS1 : Hid (SoL w1 g a n cap l (decL f)) := hS1
  have HL1 : Hid (Sole [g] w w1) := hs1
  clear hs1
  by_cases h0 : f = 0
  · have hd : decide (f = 0) = true := by simpa using h0
    rw [hd]
    have HE : Hid (R = (⟨#[]⟩, false, 70)) := by unfold Hid; rw [HR.out, if_pos h0]
    clear HR hS1 h0 hd
    go_wp2
    go_ret3
    exact ⟨by rw [HE.out]; first | done | rfl, HL1.out, HS1.out⟩
  have hd : decide (f = 0) = false := by simpa using h0
  rw [hd]
  have HE : Hid (R = (valS l k, fdB l k, 0)) := by unfold Hid; rw [HR.out, if_neg h0]
  have c0 := hS1.c0
  have ci := find_any w1 a n cap l hS1.at_ k
  clear HR hS1 h0 hd
  go_wp2_with fail
  refine ci.mono ?_
  rintro e w2 ⟨rfl, hb2⟩
  clear ci
  have hS2 := HS1.out.below hb2
  have d0 := hS2.c0
  have HS2 : Hid (SoL w2 g a n cap l (decL f)) := hS2
  have HL2 : Hid (Sole [g] w w2) := HL1.out.trans (Sole.of_below hb2 _)
  clear hb2
  cases hB : fdB l k
  · have HV : Hid (R = (⟨#[]⟩, false, 0)) := by unfold Hid; rw [HE.out]; unfold valS; rw [hB]; rfl
    clear hS2
    go_wp2
    go_ret3
    exact ⟨by rw [HV.out]; first | done | rfl, HL2.out, HS2.out⟩
  · obtain ⟨p, hp, _⟩ := fdB_lt hB
    have hlt := (List.getElem?_eq_some_iff.1 hp).1
    have HV : Hid (R = (p.2, true, 0)) := by unfold Hid; rw [HE.out]; unfold valS; rw [hB, if_pos rfl, List.getD_eq_getElem?_getD, hp]; rfl
    obtain ⟨_, hnc, hcm, hI⟩ := hS2.at_
    obtain ⟨b, off, rfl, hb, hcs⟩ := hI (by omega)
    obtain ⟨_, x1⟩ := hcs _ p hp
    obtain ⟨i, hi⟩ : ∃ i, fdN l k = i := ⟨_, rfl⟩
    rw [hi] at x1 hlt
    rw [hi]
    have hltI : (i : Int) < n := by omega
    unfold maxLen at hcm
    clear hI hcs hp hi hS2
    go_wp2
    go_ret3
    exact ⟨by rw [HV.out]; first | done | rfl, HL2.out, HS2.out⟩

end Go.Proofs.YtjjhfginmamlkaaGreat
