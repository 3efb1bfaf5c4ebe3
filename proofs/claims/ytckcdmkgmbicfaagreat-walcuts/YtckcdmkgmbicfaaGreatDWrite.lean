/- Write. -/
import Derived.Test.YtckcdmkgmbicfaaGreatDCut
namespace Go.Proofs.YtckcdmkgmbicfaaGreat
open Go.RowKit Go.Maps
set_option linter.unusedVariables false

/-- A slice that reads as some bytes lies in none of a disk's blocks. -/
theorem rd_apart {w : World} {p bs bp : Nat} {s : St} (h : DiskAt w p bs bp s) {b off : Nat} {z : Int} (hc : w.cell? ⟨b, off, none⟩ = some (.int .u8 z)) : b ≠ p ∧ b ≠ bs ∧ b ≠ bp := by
  refine ⟨?_, ?_, ?_⟩
  · intro e; subst e
    rw [cell_of_row w b off _ _ (0, 0) h.row] at hc
    have : off < 8 := by
      rcases Nat.lt_or_ge off 8 with h | h
      · exact h
      · rw [Array.getElem?_eq_none (by simpa [cellsOf] using h)] at hc; cases hc
    match off, this with
    | 0, _ => cases hc
    | 1, _ => cases hc
    | 2, _ => cases hc
    | 3, _ => cases hc
    | 4, _ => cases hc
    | 5, _ => cases hc
    | 6, _ => cases hc
    | 7, _ => cases hc
  · intro e; subst e
    obtain ⟨M, hM, _⟩ := h.safe
    obtain ⟨es, cl, hm⟩ := hM.is
    simp [World.cell?, hm] at hc
  · intro e; subst e
    obtain ⟨es, cl, hm⟩ := h.pend.is
    simp [World.cell?, hm] at hc

theorem wrap64_in (n : Int) : -9223372036854775808 ≤ wrap64 n ∧ wrap64 n ≤ 9223372036854775807 := by
  unfold wrap64
  omega

def wr1 (n : Int) : Int := wrap64 (n + 1)

/-- A write that is done. -/
def doneSt (s : St) (i : Int) (xs : List Int) : St := { countSt s with writes := wr1 s.writes, pend := upd s.pend i (some xs) }

/-- What Write tells, and what the disk is then. -/
def writeOut (s : St) (i : Int) (xs : List Int) : Int × St :=
  if useErr s i ≠ 0 then (useErr s i, s) else if xs.length ≠ 512 then (2, s) else if due s then (20, cutSt s s.mask) else (0, doneSt s i xs)

set_option maxRecDepth 100000 in
set_option maxHeartbeats 4000000 in
theorem disk_Write_ok {w : World} {p bs bp : Nat} {s : St} (h : DiskAt w p bs bp s) (i : Int) (h0 : -9223372036854775808 ≤ i) (h1 : i ≤ 9223372036854775807) {v : Value} {xs : List Int} (hr : Rd w v xs) (hy : Byt xs)
    (hu : useErr s i = 0) (hl : xs.length = 512) (hd : due s = false) :
    Calls Tryz.prog 55 #[ptr p, .int .i64 i, v] w fun e w' => e = .returned (.int .i64 0) ∧ DiskAt w' p bs bp (doneSt s i xs) ∧ Sole [p, bs, bp] w w' := by
  have hmu := disk_mayUse h i h0 h1
  rw [hu] at hmu
  have hcd := disk_cutIfDue_no h hd
  have hb : 0 ≤ i ∧ i < s.blocks := by
    unfold useErr at hu
    split at hu
    · cases hu
    · split at hu
      · cases hu
      · omega
  have hcw := disk_countWrite h (fun ha => by simp [due, ha] at hd; omega)
  have hi2 : i < 1024 := by have := h.good.b1; omega
  obtain ⟨a, cap, rfl, hcap, hcm, hnn, hne⟩ := hr
  obtain ⟨b, off, rfl, hbl, hcs⟩ := hne (by intro e; subst e; simp at hl)
  have hap := rd_apart h (by have := hcs 0 (by omega); rw [Nat.add_zero] at this; exact this)
  rw [hl]
  have har : ∀ W : World, (Instr.arrayAt 136 (.slice (some ⟨b, off, none⟩) 512 cap)).run Tryz.prog W = .ok (.pointer (some ⟨b, off, none⟩)) W := fun W => by simp [Instr.arrayAt, run_underlying Tryz.underlying136]
  unfold ptr at hmu hcd ⊢
  clear hu hd
  go_enter Tryz.func55, Tryz.ntmps55
  go_wp2_with fail
  refine hmu.mono ?_
  rintro e w0 ⟨rfl, rfl⟩
  go_wp2_with fail
  refine hcd.mono ?_
  rintro e w0 ⟨rfl, rfl⟩
  go_wp2_with fail
  refine hcw.mono ?_
  rintro e w1 ⟨rfl, hd1, hS1, hsz1⟩
  have c7 := hd1.c7
  have f7 := hd1.fr 7
  have hw1 : (countSt s).writes = s.writes := by unfold countSt; split <;> rfl
  rw [hw1] at c7
  have hd2 := hd1.put 7 (.int .i64 (wr1 s.writes)) (s' := { countSt s with writes := wr1 s.writes }) (by simp [cellsOf]) rfl rfl ⟨hd1.good.b0, hd1.good.b1, hd1.good.safe, hd1.good.pend, hd1.good.l0, hd1.good.l1, (wrap64_in _).1, (wrap64_in _).2, hd1.good.mz⟩
  have hS2 : Sole [p] w1 (w1.setCell ⟨p, 7, none⟩ (.int .i64 (wr1 s.writes))) := Sole.setCell _ _ (by simp)
  obtain ⟨w2, hw2⟩ : ∃ w2, w1.setCell ⟨p, 7, none⟩ (.int .i64 (wr1 s.writes)) = w2 := ⟨_, rfl⟩
  rw [hw2] at hd2 hS2
  have hw2' : w1.setCell ⟨p, 7, none⟩ (.int .i64 (wrap64 (s.writes + 1))) = w2 := hw2
  have c2 := hd2.c2
  have HC : Hid (∀ i, i < xs.length → w2.drew.cell? ⟨b, off + i, none⟩ = some (.int .u8 (xs.getD i 0))) := by
    intro j hj
    rw [← hcs j hj]
    refine World.cell?_of_block ?_
    show w2.heap[b]? = _
    rw [hS2.block b (by omega) (by simpa using hap.1), hS1.block b hbl (by simpa using hap.1)]
  clear hw2 hcs hw1
  go_wp2_with fail
  refine wp_region_still_tail 8 (by kernel_rfl) (by kernel_rfl) ?_
  change wpStill _ _ w2.drew (fun a' => wpList _ _ _ _ a' w2.drew) _ _
  simp only [List.take_succ_cons, List.take_zero, List.drop_succ_cons, List.drop_zero]
  still_step
  still_step
  still_step
  still_step
  still_step
  still_step
  still_step
  refine wpStill_loadB rfl _ rfl b off rfl xs hl HC.out ?_
  refine wpStill_nil ?_
  have HP : Hid (MapAt w2.drew bp (countSt s).pend) := hd2.pend.drew
  refine wpList_put rfl _ _ _ rfl bp (countSt s).pend rfl HP.out i rfl hb.1 hi2 xs rfl ⟨hl, hy⟩ ?_
  intro w3 hM3 hgr3 hsz3
  have hcp : (countSt s).pend = s.pend := by unfold countSt; split <;> rfl
  have hcb : (countSt s).blocks = s.blocks := by unfold countSt; split <;> rfl
  have hgr4 : w2.grownBy w3 (some bp) := ⟨hgr3.os, hgr3.tape, hgr3.output, hgr3.size, hgr3.block⟩
  have hd3 := hd2.pendTurn hM3 hgr4 (fun j c hj => by
    show 0 ≤ j ∧ j < (countSt s).blocks ∧ Blk c
    rw [hcb]
    by_cases e : j = i
    · subst e; rw [upd_same] at hj; cases hj; exact ⟨hb.1, hb.2, hl, hy⟩
    · rw [upd_other _ _ _ e, hcp] at hj; exact h.good.pend j c hj)
  have HD : Hid (DiskAt w3 p bs bp (doneSt s i xs)) := hd3.as (by unfold doneSt; rw [hcp])
  clear hd3 hcp hcb hM3
  go_wp2_with fail
  go_ret
  exact ⟨rfl, HD.out, ((hS1.mono (by simp)).trans (hS2.mono (by simp))).trans (Sole.of_grown hgr4 (by simp))⟩

theorem disk_Write {w : World} {p bs bp : Nat} {s : St} (h : DiskAt w p bs bp s) (i : Int) (h0 : -9223372036854775808 ≤ i) (h1 : i ≤ 9223372036854775807) {v : Value} {xs : List Int} (hr : Rd w v xs) (hy : Byt xs) :
    Calls Tryz.prog 55 #[ptr p, .int .i64 i, v] w fun e w' => e = .returned (.int .i64 (writeOut s i xs).1) ∧ DiskAt w' p bs bp (writeOut s i xs).2 ∧ Sole [p, bs, bp] w w' := by
  have hmu := disk_mayUse h i h0 h1
  have hlen := hr.len
  by_cases hu : useErr s i = 0
  · by_cases hl : xs.length = 512
    · cases hd : due s
      · have e : writeOut s i xs = (0, doneSt s i xs) := by unfold writeOut; rw [if_neg (by simpa using hu), if_neg (by simpa using hl), hd]; rfl
        refine (disk_Write_ok h i h0 h1 hr hy hu hl hd).mono ?_
        rintro e' w' ⟨rfl, hd', hS⟩
        rw [e]
        dsimp only
        exact ⟨rfl, hd', hS⟩
      · have e : writeOut s i xs = (20, cutSt s s.mask) := by unfold writeOut; rw [if_neg (by simpa using hu), if_neg (by simpa using hl), hd]; rfl
        rw [e]
        have hcd := disk_cutIfDue_yes h hd
        show Calls _ _ _ _ fun e w' => e = .returned (.int .i64 20) ∧ DiskAt w' p bs bp (cutSt s s.mask) ∧ Sole [p, bs, bp] w w'
        generalize cutSt s s.mask = s' at *
        rw [hu] at hmu
        rw [hl] at hlen
        unfold ptr at hmu hcd ⊢
        clear hu hd e hr
        go_enter Tryz.func55, Tryz.ntmps55
        go_wp2_with fail
        refine hmu.mono ?_
        rintro e w0 ⟨rfl, rfl⟩
        go_wp2_with fail
        refine hcd.mono ?_
        rintro e w1 ⟨rfl, hd, hS⟩
        go_wp2_with fail
        go_ret
        exact ⟨rfl, hd, hS⟩
    · have e : writeOut s i xs = (2, s) := by unfold writeOut; rw [if_neg (by simpa using hu), if_pos hl]
      rw [e]
      show Calls _ _ _ _ fun e w' => e = .returned (.int .i64 2) ∧ DiskAt w' p bs bp s ∧ Sole [p, bs, bp] w w'
      rw [hu] at hmu
      have hlI : ¬ (xs.length : Int) = 512 := by omega
      unfold ptr at hmu ⊢
      clear hu e hr
      go_enter Tryz.func55, Tryz.ntmps55
      go_wp2_with fail
      refine hmu.mono ?_
      rintro e w0 ⟨rfl, rfl⟩
      go_wp2_with fail
      go_ret
      exact ⟨rfl, h, Sole.refl _ _⟩
  · have e : writeOut s i xs = (useErr s i, s) := by unfold writeOut; rw [if_pos hu]
    rw [e]
    show Calls _ _ _ _ fun e w' => e = .returned (.int .i64 (useErr s i)) ∧ DiskAt w' p bs bp s ∧ Sole [p, bs, bp] w w'
    generalize useErr s i = u at *
    unfold ptr at hmu ⊢
    clear e hr hlen
    go_enter Tryz.func55, Tryz.ntmps55
    go_wp2_with fail
    refine hmu.mono ?_
    rintro e w0 ⟨rfl, rfl⟩
    go_wp2_with fail
    go_ret
    exact ⟨rfl, h, Sole.refl _ _⟩

end Go.Proofs.YtckcdmkgmbicfaaGreat
