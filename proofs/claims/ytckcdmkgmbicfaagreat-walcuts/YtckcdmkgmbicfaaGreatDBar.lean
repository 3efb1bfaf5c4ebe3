/- Barrier. -/
import Derived.Test.YtckcdmkgmbicfaaGreatDCut
namespace Go.Proofs.YtckcdmkgmbicfaaGreat
open Go.RowKit Go.Maps
set_option linter.unusedVariables false

/-- All that is pending is safe. -/
def allSafe (s : St) : St := settleN (fun _ => true) s (keysOf s.pend) (keysOf s.pend).length

/-- What Barrier tells, and what the disk is then. -/
def barOut (s : St) : Int × St := if s.off then (20, s) else if due s then (20, cutSt s s.mask) else (0, allSafe s)

set_option maxHeartbeats 4000000 in
theorem disk_Barrier_ok {w : World} {p bs bp : Nat} {s : St} (h : DiskAt w p bs bp s) (ho : s.off = false) (hd : due s = false) :
    Calls Tryz.prog 32 #[ptr p] w fun e w' => e = .returned (.int .i64 0) ∧ DiskAt w' p bs bp (allSafe s) ∧ Sole [p, bs, bp] w w' := by
  have hp := disk_Pending h
  have c3 := h.c3
  rw [ho] at c3
  have hcd := disk_cutIfDue_no h hd
  clear ho hd
  unfold ptr at hp hcd ⊢
  go_enter Tryz.func32, Tryz.ntmps32
  go_wp2_with fail
  refine hcd.mono ?_
  rintro e w0 ⟨rfl, rfl⟩
  go_wp2_with fail
  refine hp.mono ?_
  rintro e w1 ⟨v, rfl, hrow, hb1⟩
  obtain ⟨a, cap, rfl, hcap, hcm, hcells⟩ := ints_shape hrow
  have hkl := keysOf_length s.pend
  have hki := keys_in h.good
  have h1 := h.below hb1
  have HF : Hid (∀ s', allSafe s = s' ↔ settleN (fun _ => true) s (keysOf s.pend) (keysOf s.pend).length = s') := fun s' => Iff.rfl
  have hrow := trivial
  obtain ⟨ks, hks⟩ : ∃ ks, keysOf s.pend = ks := ⟨_, rfl⟩
  rw [hks] at hcells hkl hcap hki HF ⊢
  go_wp2_with fail
  have hlt := h.lt
  have hsz := hb1.size
  clear hp hks hrow hcd c3
  go_loopw [16] (fun t wr => ∃ k : Nat, k ≤ ks.length ∧ t = .int .i64 k ∧ DiskAt wr p bs bp (settleN (fun _ => true) s ks k) ∧ Sole [bs, bp] w1 wr) (fun t _ => ks.length - (intOf t).toNat)
  case atStart => exact ⟨0, Nat.zero_le _, rfl, h1, Sole.refl _ _⟩
  case round =>
    obtain ⟨k, hk, rfl, hd, hS⟩ := hrel
    by_cases hkk : k < ks.length
    · obtain ⟨g, rfl, hg0, hg1, hcs⟩ := hcells (by omega)
      have hkb := hki k hkk
      obtain ⟨x, hx⟩ : ∃ x, ks.getD k 0 = x := ⟨_, rfl⟩
      have hcell : wr.cell? ⟨g, k, none⟩ = some (.int .i64 x) := by
        rw [← hx, ← hcs k hkk]
        exact World.cell?_of_block (hS.block g hg1 (by simp; omega))
      rw [hx] at hkb
      have HX : Hid (ks.getD k 0 = x) := hx
      have hx1 : x < (settleN (fun _ => true) s ks k).blocks := by rw [settleN_blocks]; exact hkb.2
      clear hcells hki hcs hx
      go_wp2_with fail
      refine (disk_settle hd x hkb.1 hx1 _).mono ?_
      rintro e w2 ⟨rfl, hd2, hS2⟩
      go_wp2_with fail
      go_roundw
      case rel => exact ⟨k + 1, by omega, by go_num, by rw [settleN, HX.out]; exact hd2, hS.trans hS2⟩
      case measure => simp [intOf]; omega
    · obtain rfl : k = ks.length := by omega
      clear hcells hki
      go_wp2_with fail
      go_ret
      exact ⟨rfl, hd.as ((HF.out _).2 rfl), (Sole.of_below hb1 _).trans (hS.mono (by simp))⟩

theorem disk_Barrier {w : World} {p bs bp : Nat} {s : St} (h : DiskAt w p bs bp s) :
    Calls Tryz.prog 32 #[ptr p] w fun e w' => e = .returned (.int .i64 (barOut s).1) ∧ DiskAt w' p bs bp (barOut s).2 ∧ Sole [p, bs, bp] w w' := by
  cases ho : s.off
  · cases hd : due s
    · have e : barOut s = (0, allSafe s) := by simp [barOut, ho, hd]
      have hk := disk_Barrier_ok h ho hd
      refine hk.mono ?_
      rintro e' w' ⟨rfl, hd', hS⟩
      rw [e]
      dsimp only
      exact ⟨rfl, hd', hS⟩
    · have e : barOut s = (20, cutSt s s.mask) := by simp [barOut, ho, hd]
      rw [e]
      have c3 := h.c3
      rw [ho] at c3
      have hcd := disk_cutIfDue_yes h hd
      unfold ptr at hcd ⊢
      show Calls _ _ _ _ fun e w' => e = .returned (.int .i64 20) ∧ DiskAt w' p bs bp (cutSt s s.mask) ∧ Sole [p, bs, bp] w w'
      generalize cutSt s s.mask = s' at *
      clear ho hd e
      go_enter Tryz.func32, Tryz.ntmps32
      go_wp2_with fail
      refine hcd.mono ?_
      rintro e w1 ⟨rfl, hd, hS⟩
      go_wp2_with fail
      go_ret
      exact ⟨rfl, hd, hS⟩
  · have e : barOut s = (20, s) := by simp [barOut, ho]
    rw [e]
    have c3 := h.c3
    rw [ho] at c3
    unfold ptr
    show Calls _ _ _ _ fun e w' => e = .returned (.int .i64 20) ∧ DiskAt w' p bs bp s ∧ Sole [p, bs, bp] w w'
    clear ho e
    go_enter Tryz.func32, Tryz.ntmps32
    go_wp2_with fail
    go_ret
    exact ⟨rfl, h, Sole.refl _ _⟩

end Go.Proofs.YtckcdmkgmbicfaaGreat
