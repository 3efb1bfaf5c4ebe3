/- cutPower, Cut, cutIfDue, Barrier. -/
import Derived.Test.YtckcdmkgmbicfaaGreatDSettle
import Derived.BigQuiet
import Derived.Deep.QuietTactic
namespace Go.Proofs.YtckcdmkgmbicfaaGreat
open Go.RowKit Go.Maps
set_option linter.unusedVariables false

/-- A slice of ints that the call made. -/
theorem ints_shape {w : World} {base : Nat} {v : Value} {ks : List Int} (h : w.ownsRow base 3 1 v ks.length (ks.map encZ)) :
    ∃ a cap, v = .slice a ks.length cap ∧ ks.length ≤ cap ∧ cap ≤ maxLen ∧ (0 < ks.length → ∃ g, a = some ⟨g, 0, none⟩ ∧ base ≤ g ∧ g < w.heap.size ∧ ∀ k, k < ks.length → w.cell? ⟨g, k, none⟩ = some (.int .i64 (ks.getD k 0))) := by
  rcases h.2 with ⟨rfl, hn⟩ | ⟨g, cap, cur, rfl, hb, hg, hn, hm, hs, ht⟩
  · exact ⟨none, 0, by rw [hn], by omega, by simp, fun h => by omega⟩
  · refine ⟨_, cap, rfl, hn, hm, fun _ => ⟨g, rfl, hb, (Array.getElem?_eq_some_iff.1 hg).1, fun i hi => ?_⟩⟩
    rw [cell_of_row w g i cur 3 (0, 0) hg]
    have e := congrArg (fun l : List Value => l[i]?) ht
    simp only [List.getElem?_take, Nat.mul_one, hi, if_true, List.getElem?_map] at e
    rw [← Array.getElem?_toList, e]
    simp [List.getElem?_eq_getElem hi, encZ]

/-- The first 'k' of the blocks 'ks' are settled. -/
def settleN (f : Nat → Bool) (s : St) (ks : List Int) : Nat → St
  | 0 => s
  | k + 1 => settleSt (settleN f s ks k) (ks.getD k 0) (f k)

theorem settleN_blocks (f : Nat → Bool) (s : St) (ks : List Int) : ∀ k, (settleN f s ks k).blocks = s.blocks
  | 0 => rfl
  | k + 1 => by
    have := settleN_blocks f s ks k
    unfold settleN settleSt safeSt
    split <;> exact this

/-- What survives: the mask has such a byte, and that is odd. -/
def surv (mask : ByteArray) (k : Nat) : Bool := decide (k < mask.size) && decide ((strB mask).getD k 0 % 2 = 1)

/-- The power is cut, with a mask. -/
def cutSt (s : St) (mask : ByteArray) : St := { settleN (surv mask) s (keysOf s.pend) (keysOf s.pend).length with off := true, armed := false, left := 0, mask := ⟨#[]⟩ }

theorem keys_in {s : St} (h : Good s) (k : Nat) (hk : k < (keysOf s.pend).length) : 0 ≤ (keysOf s.pend).getD k 0 ∧ (keysOf s.pend).getD k 0 < s.blocks := by
  have hm : (keysOf s.pend).getD k 0 ∈ keysOf s.pend := by
    rw [List.getD_eq_getElem?_getD, List.getElem?_eq_getElem hk]; exact List.getElem_mem hk
  obtain ⟨c, hc⟩ := Option.isSome_iff_exists.1 ((mem_keysOf (fun i c hc => ⟨(h.pend i c hc).1, by have := (h.pend i c hc).2.1; have := h.b1; omega⟩) _).1 hm)
  exact ⟨(h.pend _ c hc).1, (h.pend _ c hc).2.1⟩

set_option maxHeartbeats 4000000 in
theorem disk_cutPower {w : World} {p bs bp : Nat} {s : St} (h : DiskAt w p bs bp s) (mask : ByteArray) (hmask : mask.size ≤ maxLen) :
    Calls Tryz.prog 29 #[ptr p, .string mask] w fun e w' => e = .returned (.tuple #[]) ∧ DiskAt w' p bs bp (cutSt s mask) ∧ Sole [p, bs, bp] w w' := by
  unfold maxLen at hmask
  have hp := disk_Pending h
  unfold ptr at hp
  unfold ptr
  go_enter Tryz.func29, Tryz.ntmps29
  go_wp2_with fail
  refine hp.mono ?_
  rintro e w1 ⟨v, rfl, hrow, hb1⟩
  obtain ⟨a, cap, rfl, hcap, hcm, hcells⟩ := ints_shape hrow
  have hkl := keysOf_length s.pend
  have hki := keys_in h.good
  have h1 := h.below hb1
  have HF : Hid (∀ s', cutSt s mask = s' ↔ { settleN (surv mask) s (keysOf s.pend) (keysOf s.pend).length with off := true, armed := false, left := 0, mask := ⟨#[]⟩ } = s') := fun s' => Iff.rfl
  have hrow := trivial
  obtain ⟨ks, hks⟩ : ∃ ks, keysOf s.pend = ks := ⟨_, rfl⟩
  rw [hks] at hcells hkl hcap hki HF ⊢
  go_wp2_with fail
  have hlt := h.lt
  have hsz := hb1.size
  clear hp hks hrow
  go_loopw [9] (fun t wr => ∃ k : Nat, k ≤ ks.length ∧ t = .int .i64 k ∧ DiskAt wr p bs bp (settleN (surv mask) s ks k) ∧ Sole [bs, bp] w1 wr) (fun t _ => ks.length - (intOf t).toNat)
  case atStart => exact ⟨0, Nat.zero_le _, rfl, h1, Sole.refl _ _⟩
  case round =>
    obtain ⟨k, hk, rfl, hd, hS⟩ := hrel
    by_cases hkk : k < ks.length
    · obtain ⟨g, rfl, hg0, hg1, hcs⟩ := hcells (by omega)
      have hkb := hki k hkk
      obtain ⟨x, hx⟩ : ∃ x, ks.getD k 0 = x := ⟨_, rfl⟩
      have hcell : wr.cell? ⟨g, k, none⟩ = some (.int .i64 x) := by
        rw [← hx, ← hcs k hkk]
        exact World.cell?_of_block (hS.block g hg1 (by simp; omega))
      rw [hx] at hkb
      have HX : Hid (ks.getD k 0 = x) := hx
      have hx1 : x < (settleN (surv mask) s ks k).blocks := by rw [settleN_blocks]; exact hkb.2
      clear hcells hki hcs hx
      by_cases hm : k < mask.size
      · have hmI : (k : Int) < (mask.size : Int) := by omega
        have HV : Hid (((mask[k].toNat : Int) % 2 == 1) = surv mask k) := by
          unfold Hid surv
          simp only [hm, decide_true, Bool.true_and]
          have : (strB mask).getD k 0 = (mask[k].toNat : Int) := by
            rw [List.getD_eq_getElem?_getD]
            simp [strB, hm]
            rfl
          rw [this]
          rfl
        go_wp2_with fail
        refine (disk_settle hd x hkb.1 hx1 _).mono ?_
        rintro e w2 ⟨rfl, hd2, hS2⟩
        rw [HV.out] at hd2
        go_wp2_with fail
        go_roundw
        case rel => exact ⟨k + 1, by omega, by go_num, by rw [settleN, HX.out]; exact hd2, hS.trans hS2⟩
        case measure => simp [intOf]; omega
      · have hmI : ¬ (k : Int) < (mask.size : Int) := by omega
        have HV : Hid (surv mask k = false) := by
          unfold Hid surv
          simp [hm]
        go_wp2_with fail
        refine (disk_settle hd x hkb.1 hx1 _).mono ?_
        rintro e w2 ⟨rfl, hd2, hS2⟩
        go_wp2_with fail
        go_roundw
        case rel => exact ⟨k + 1, by omega, by go_num, by rw [settleN, HX.out, HV.out]; exact hd2, hS.trans hS2⟩
        case measure => simp [intOf]; omega
    · obtain rfl : k = ks.length := by omega
      have c3 := hd.c3
      have c4 := hd.c4
      have c5 := hd.c5
      have c6 := hd.c6
      have f3 := hd.fr 3
      have f4 := hd.fr 4
      have f5 := hd.fr 5
      have f6 := hd.fr 6
      have hd3 := hd.put 3 (.bool true) (s' := { settleN (surv mask) s ks ks.length with off := true }) (by simp [cellsOf]) rfl rfl ⟨hd.good.b0, hd.good.b1, hd.good.safe, hd.good.pend, hd.good.l0, hd.good.l1, hd.good.w0, hd.good.w1, hd.good.mz⟩
      have hd4 := hd3.arming false 0 ⟨#[]⟩ (by decide) (by decide) (Nat.zero_le _)
      have HD := (show Hid (DiskAt _ p bs bp _) from hd4)
      clear hcells hki hd3 hd4
      go_wp2_with fail
      go_end0
      refine ⟨rfl, HD.out.as ((HF.out _).2 rfl), ((Sole.of_below hb1 _).trans (hS.mono (by simp))).trans (((Sole.setCell wr (a := ⟨p, 3, none⟩) _ (by simp))).trans ((sole_arming _ p _ _ _).mono (by simp)))⟩

theorem disk_Cut_on {w : World} {p bs bp : Nat} {s : St} (h : DiskAt w p bs bp s) (mask : ByteArray) (hmask : mask.size ≤ maxLen) (ho : s.off = false) :
    Calls Tryz.prog 10 #[ptr p, .string mask] w fun e w' => e = .returned (.tuple #[]) ∧ DiskAt w' p bs bp (cutSt s mask) ∧ Sole [p, bs, bp] w w' := by
  have c3 := h.c3
  rw [ho] at c3
  have hc := disk_cutPower h mask hmask
  unfold ptr at hc ⊢
  obtain ⟨s', hs'⟩ : ∃ s', cutSt s mask = s' := ⟨_, rfl⟩
  rw [hs'] at hc ⊢
  clear ho hs'
  go_enter Tryz.func10, Tryz.ntmps10
  go_wp2_with fail
  refine hc.mono ?_
  rintro e w1 ⟨rfl, hd, hS⟩
  go_wp2_with fail
  go_end0
  exact ⟨rfl, hd, hS⟩

theorem disk_Cut_off {w : World} {p bs bp : Nat} {s : St} (h : DiskAt w p bs bp s) (mask : ByteArray) (ho : s.off = true) :
    Calls Tryz.prog 10 #[ptr p, .string mask] w fun e w' => e = .returned (.tuple #[]) ∧ w' = w := by
  have c3 := h.c3
  rw [ho] at c3
  unfold ptr
  clear ho
  go_enter Tryz.func10, Tryz.ntmps10
  go_wp2_with fail
  go_end0
  exact ⟨rfl, rfl⟩

/-- Is a cut due? -/
def due (s : St) : Bool := s.armed && decide (s.left ≤ 0)

theorem disk_cutIfDue_no {w : World} {p bs bp : Nat} {s : St} (h : DiskAt w p bs bp s) (hd : due s = false) :
    Calls Tryz.prog 57 #[ptr p] w fun e w' => e = .returned (.bool false) ∧ w' = w := by
  have c4 := h.c4
  have c5 := h.c5
  unfold ptr
  cases ha : s.armed
  · rw [ha] at c4
    clear ha hd
    go_enter Tryz.func57, Tryz.ntmps57
    go_wp2_with fail
    go_ret
    exact ⟨rfl, rfl⟩
  · rw [ha] at c4
    have hl : 0 < s.left := by simp [due, ha] at hd; exact hd
    clear ha hd
    go_enter Tryz.func57, Tryz.ntmps57
    go_wp2_with fail
    go_ret
    exact ⟨rfl, rfl⟩

theorem disk_cutIfDue_yes {w : World} {p bs bp : Nat} {s : St} (h : DiskAt w p bs bp s) (hd : due s = true) :
    Calls Tryz.prog 57 #[ptr p] w fun e w' => e = .returned (.bool true) ∧ DiskAt w' p bs bp (cutSt s s.mask) ∧ Sole [p, bs, bp] w w' := by
  have c4 := h.c4
  have c5 := h.c5
  have c6 := h.c6
  have hc := disk_cutPower h s.mask h.good.mz
  unfold ptr at hc ⊢
  obtain ⟨s', hs'⟩ : ∃ s', cutSt s s.mask = s' := ⟨_, rfl⟩
  rw [hs'] at hc ⊢
  have ha : s.armed = true := by simp [due] at hd; exact hd.1
  have hl : ¬ 0 < s.left := by simp [due] at hd; omega
  rw [ha] at c4
  clear ha hd hs'
  go_enter Tryz.func57, Tryz.ntmps57
  go_wp2_with fail
  refine hc.mono ?_
  rintro e w1 ⟨rfl, hd, hS⟩
  go_wp2_with fail
  go_ret
  exact ⟨rfl, hd, hS⟩

end Go.Proofs.YtckcdmkgmbicfaaGreat
