/- Proved: DiskSafe, for every two slices of calls and every mask, with no condition: it answers true, and the slices read as they did. -/
import Derived.Test.YtjfhcbokfbbbhaaRows8
import Derived.Test.YtjfhcbokfbbbhaaPlay
import Derived.BigQuiet
import Derived.Deep.QuietTactic
import Derived.WalkSmall
import Derived.ProofKit
import Derived.OpenShut
import Derived.ShutString
import Derived.ChangeOld
import Derived.Below
import Derived.Carry
namespace Go.Proofs.Ytjfhcbokfbbbhaa.diskSafe
open Go.ChangeShapes Go.WideShapes Go.ChangeAt Go.RowKit Go.Maps
open Go.ChangeMaps (open_string shut_string)
set_option linter.unusedVariables false

theorem own : ownKnob Try.prog.godebug = none := by kernel_rfl
theorem laidOut : laidOutB Try.prog = true := by kernel_rfl

def sv (x : ByteArray) : Value := .string x

set_option maxRecDepth 100000 in
set_option maxHeartbeats 16000000 in
theorem walk (a0 : Option Addr) (len0 cap0 : Nat) (o0 : List OpV) (a1 : Option Addr) (len1 cap1 : Nat) (o1 : List OpV) (mask : ByteArray) (w : World)
    (ho0 : OpsAt w a0 len0 cap0 o0) (ho1 : OpsAt w a1 len1 cap1 o1) (hmask : mask.size ≤ maxLen) :
    Calls Try.prog 4 #[.slice a0 len0 cap0, .slice a1 len1 cap1, .string mask] w fun e w' => e = .returned (.bool true) ∧ Below w.heap.size w w' := by
  have HO1 : Hid (OpsAt w a1 len1 cap1 o1) := ho1
  obtain ⟨hol, hlc, hcm, hok, hoc⟩ := ho0
  have HOK0 : Hid (∀ o ∈ o0, OpOk o) := hok
  have HOC0 : Hid (0 < len0 → ∃ b off, a0 = some ⟨b, off, none⟩ ∧ b < w.heap.size ∧ ∀ i, i < len0 → OpAt w b (off + i * 6) (o0.getD i op0)) := hoc
  have HM : Hid (mask.size ≤ maxLen) := hmask
  unfold maxLen at hcm
  clear ho1 hok hoc hmask
  go_enter Try.func4, Try.ntmps4
  go_wp2_with fail
  refine (law_live w).mono ?_
  rintro e w1 ⟨rfl, hb1⟩
  go_wp2_with fail
  refine (law_disk_New (w := w1) (by decide) (by decide)).mono ?_
  rintro e w2 ⟨p, bs, bp, rfl, hd2, hb2, hp, hbs, hbp⟩
  have hb02 := hb1.trans (hb2.mono hb1.size)
  have hs1 := hb1.size
  unfold ptr
  have HS3 : Hid (∀ k ∈ [p, bs, bp], w.heap.size ≤ k) := by unfold Hid; simp; omega
  clear hb1 hb2 hp hbs hbp hs1
  go_wp2_with fail
  have hA0 : Row8 ((w2.alloc (.cells #[.string ⟨#[]⟩, .string ⟨#[]⟩, .string ⟨#[]⟩, .string ⟨#[]⟩, .string ⟨#[]⟩, .string ⟨#[]⟩, .string ⟨#[]⟩, .string ⟨#[]⟩] 46)).alloc (.cells #[.string ⟨#[]⟩, .string ⟨#[]⟩, .string ⟨#[]⟩, .string ⟨#[]⟩, .string ⟨#[]⟩, .string ⟨#[]⟩, .string ⟨#[]⟩, .string ⟨#[]⟩] 46)) w2.heap.size 46 (fun _ => sv ⟨#[]⟩) :=
    (Below.heap_alloc _ _ _ (by simp)).trans (heap_alloc_new w2 _)
  have hA1 : Row8 ((w2.alloc (.cells #[.string ⟨#[]⟩, .string ⟨#[]⟩, .string ⟨#[]⟩, .string ⟨#[]⟩, .string ⟨#[]⟩, .string ⟨#[]⟩, .string ⟨#[]⟩, .string ⟨#[]⟩] 46)).alloc (.cells #[.string ⟨#[]⟩, .string ⟨#[]⟩, .string ⟨#[]⟩, .string ⟨#[]⟩, .string ⟨#[]⟩, .string ⟨#[]⟩, .string ⟨#[]⟩, .string ⟨#[]⟩] 46)) (w2.heap.size + 1) 46 (fun _ => sv ⟨#[]⟩) := by
    have := heap_alloc_new (w2.alloc (.cells #[.string ⟨#[]⟩, .string ⟨#[]⟩, .string ⟨#[]⟩, .string ⟨#[]⟩, .string ⟨#[]⟩, .string ⟨#[]⟩, .string ⟨#[]⟩, .string ⟨#[]⟩] 46)) (.cells #[.string ⟨#[]⟩, .string ⟨#[]⟩, .string ⟨#[]⟩, .string ⟨#[]⟩, .string ⟨#[]⟩, .string ⟨#[]⟩, .string ⟨#[]⟩, .string ⟨#[]⟩] 46)
    rw [World.size_alloc] at this
    exact this
  have hbA : Below w2.heap.size w2 ((w2.alloc (.cells #[.string ⟨#[]⟩, .string ⟨#[]⟩, .string ⟨#[]⟩, .string ⟨#[]⟩, .string ⟨#[]⟩, .string ⟨#[]⟩, .string ⟨#[]⟩, .string ⟨#[]⟩] 46)).alloc (.cells #[.string ⟨#[]⟩, .string ⟨#[]⟩, .string ⟨#[]⟩, .string ⟨#[]⟩, .string ⟨#[]⟩, .string ⟨#[]⟩, .string ⟨#[]⟩, .string ⟨#[]⟩] 46)) :=
    ((Below.refl _ w2).alloc (Nat.le_refl _) _).alloc (by simp) _
  have hdA := hd2.below hbA
  have hb0A := hb02.trans (hbA.mono hb02.size)
  obtain ⟨Z, hZ⟩ : ∃ Z, strOfNums zeroB = Z := ⟨_, rfl⟩
  have HB : Hid (w.heap.size ≤ w2.heap.size) := hb02.size
  have hcv : ∀ W : World, (convert 33 9 (.slice (some ⟨W.heap.size, 0, none⟩) 512 512)).run Try.prog (W.alloc (.cells (List.replicate 512 (Value.int .u8 0)).toArray 5)) = .ok (.string Z) (W.alloc (.cells (List.replicate 512 (Value.int .u8 0)).toArray 5)) := fun W => by
    rw [← hZ]
    exact (Rd.laid (w := W) (xs := zeroB) (fr := (0, 0)) (by simp [zeroB]) (by unfold maxLen; omega) (by simp only [zeroB, List.map_replicate])).conv
  have HZ : Hid (strOfNums zeroB = Z) := hZ
  clear hZ hd2 hb02 hbA
  go_loopw [31] (fun t wr => ∃ (k : Nat) (f : Nat → ByteArray), k ≤ 8 ∧ t = .int .i64 k ∧ (∀ i, i < k → f i = Z) ∧ Row8 wr w2.heap.size 46 (fun i => sv (f i)) ∧ Row8 wr (w2.heap.size + 1) 46 (fun _ => sv ⟨#[]⟩) ∧ DiskAt wr p bs bp (freshSt 8) ∧ Below w.heap.size w wr) (fun t _ => 8 - (RowKit.intOf t).toNat)
  case atStart => exact ⟨0, fun _ => ⟨#[]⟩, by omega, rfl, fun i hi => by omega, hA0, hA1, hdA, hb0A⟩
  case round =>
    obtain ⟨k, f, hk, rfl, hf, hrW, hrI, hd, hbr⟩ := hrel
    clear hA0 hA1 hdA hb0A
    by_cases hk8 : k < 8
    · have hmk : (Instr.makeSlice 33 (.int .i64 512) (.int .i64 512)).run Try.prog wr = .ok (.slice (some ⟨wr.heap.size, 0, none⟩) 512 512) (wr.alloc (.cells (List.replicate 512 (Value.int .u8 0)).toArray 5)) := make_bytes wr 512 512 (by rfl) (by omega)
      have hcw := hcv wr
      obtain ⟨wz, hwz⟩ : ∃ wz, wr.alloc (.cells (List.replicate 512 (Value.int .u8 0)).toArray 5) = wz := ⟨_, rfl⟩
      have hbz : Below wr.heap.size wr wz := by rw [← hwz]; exact (Below.refl _ wr).alloc (Nat.le_refl _) _
      rw [hwz] at hmk hcw
      have hWz := hrW.below hbz
      have hIz := hrI.below hbz
      have hdz := hd.below hbz
      have hb0z := hbr.trans (hbz.mono hbr.size)
      have kc := hWz.cell k hk8
      have kf := hWz.fr k
      unfold sv at kc
      have hk8I : (k : Int) < 8 := by omega
      have hap := hWz.apart hdz (by decide)
      clear hcv hwz hrW hrI hd hbr hbz
      go_wp2_with fail
      go_roundw
      case rel =>
        have hS : Sole [w2.heap.size] wz (wz.setCell ⟨w2.heap.size, k, none⟩ (.string Z)) := Sole.setCell _ _ (by simp)
        refine ⟨k + 1, fun i => if i = k then Z else f i, by omega, by go_num, fun i hi => ?_, ?_, hIz.other hS (by simp), hdz.other hS (by simp at hap ⊢; omega) (by simp at hap ⊢; omega) (by simp at hap ⊢; omega), hS.belowOf hb0z hb0z.size (by simp; exact HB.out)⟩
        · by_cases e : i = k
          · simp [e]
          · simp [e]; exact hf i (by omega)
        · have := hWz.set k (.string Z)
          have e : (fun i => sv (if i = k then Z else f i)) = (fun i => if i = k then Value.string Z else sv (f i)) := funext fun i => by unfold sv; split <;> rfl
          rw [e]
          exact this
      case measure => simp [RowKit.intOf]; omega
    · have hkI : ¬ (k : Int) < 8 := by omega
      have hf' : ∀ i : Nat, i < 8 → f i = strOfNums (seen (freshSt 8) i) := fun i hi => by rw [hf i (by omega), ← HZ.out]; rfl
      clear hcv hf
      go_wp2_with fail
      go_loopw [41] (fun t wr => ∃ (k : Nat) (s : St) (f : Nat → ByteArray), k ≤ len0 ∧ t = .int .i64 k ∧ Un s ∧ (∀ i : Nat, i < 8 → f i = strOfNums (seen s i)) ∧ Row8 wr w2.heap.size 46 (fun i => sv (f i)) ∧ Row8 wr (w2.heap.size + 1) 46 (fun _ => sv ⟨#[]⟩) ∧ DiskAt wr p bs bp s ∧ Below w.heap.size w wr) (fun t _ => len0 - (RowKit.intOf t).toNat)
      case atStart => exact ⟨0, freshSt 8, f, Nat.zero_le _, rfl, un_fresh, hf', hrW, hrI, hd, hbr⟩
      case round =>
        obtain ⟨k, s, f, hk, rfl, hU, hf, hrT, hrO, hd, hbr⟩ := hrel
        clear hrW hrI
        by_cases hkl : k < len0
        · obtain ⟨b, off, rfl, hbl, hat⟩ := HOC0.out (by omega)
          have ho := (hat k hkl).same (hbr.block b hbl)
          have hoo : OpOk (o0.getD k op0) := HOK0.out _ (by rw [List.getD_eq_getElem?_getD, List.getElem?_eq_getElem (by omega)]; exact List.getElem_mem _)
          generalize o0.getD k op0 = o at *
          have c0 := ho.c0
          have c1 := ho.c1
          have c2 := ho.c2
          have c3 := ho.c3
          have c4 := ho.c4
          have c5 := ho.c5
          have a1 := hoo.a1
          have a3 := hoo.a3
          clear hat ho
          obtain ⟨wq, hwq⟩ : ∃ wq, wr.alloc (.cells #[.int .i64 o.f0, .int .i64 o.f1, .int .i64 o.f2, .int .u8 o.f3, .string o.f4, .bool o.f5] 32) = wq := ⟨_, rfl⟩
          have hbq : Below wr.heap.size wr wq := by rw [← hwq]; exact (Below.refl _ wr).alloc (Nat.le_refl _) _
          have hdq := hd.below hbq
          have hTq := hrT.below hbq
          have hOq := hrO.below hbq
          have hb0q := hbr.trans (hbq.mono hbr.size)
          have hrow : wq.heap[wr.heap.size]? = some (.cells #[.int .i64 o.f0, .int .i64 o.f1, .int .i64 o.f2, .int .u8 o.f3, .string o.f4, .bool o.f5] 32 (0, 0)) := by rw [← hwq]; exact heap_alloc_new wr _
          have hlt := hd.lt
          have hltT := hrT.lt
          have hnot : wr.heap.size ∉ [p, bs, bp] := by simp; omega
          have hneT : Hid (wr.heap.size ≠ w2.heap.size) := by unfold Hid; omega
          have hapT := hTq.apart hdq (by decide)
          have hapO := hOq.apart hdq (by decide)
          have hqs : wr.heap.size < wq.heap.size := by rw [← hwq]; simp
          have q1 : ∀ W, Sole [p, bs, bp] wq W → W.cell? ⟨wr.heap.size, 1, none⟩ = some (.int .i64 o.f1) := fun W hW => by
            rw [World.cell?_of_block (w := wq) (a := ⟨wr.heap.size, 1, none⟩) (hW.block _ hqs hnot), cell_of_row _ _ 1 _ _ (0, 0) hrow]; rfl
          have q3 : ∀ W, Sole [p, bs, bp] wq W → W.cell? ⟨wr.heap.size, 3, none⟩ = some (.int .u8 o.f3) := fun W hW => by
            rw [World.cell?_of_block (w := wq) (a := ⟨wr.heap.size, 3, none⟩) (hW.block _ hqs hnot), cell_of_row _ _ 3 _ _ (0, 0) hrow]; rfl
          have hWr : ∀ (W : World) (v : Value), DiskAt W p bs bp s → Rd W v (fullB o.f3) → Calls Try.prog 13 #[ptr p, .int .i64 o.f1, v] W fun e w' => e = .returned (.int .i64 (writeOut s o.f1 (fullB o.f3)).1) ∧ DiskAt w' p bs bp (writeOut s o.f1 (fullB o.f3)).2 ∧ Sole [p, bs, bp] W w' :=
            fun W v hdW hrW => disk_Write hdW o.f1 a1.1 a1.2 hrW (fullB_blk o.f3).2
          have hcase := un_write hU (i := o.f1) (fullB_len o.f3)
          obtain ⟨fe, s', hwo⟩ : ∃ fe s', writeOut s o.f1 (fullB o.f3) = (fe, s') := ⟨_, _, rfl⟩
          rw [hwo] at hWr hcase
          dsimp only at hWr
          unfold ptr at hWr
          have HC : Hid _ := hcase
          have HQ : Hid (wr.heap.size < wq.heap.size ∧ wr.heap.size ∉ [p, bs, bp] ∧ w2.heap.size ∉ [p, bs, bp] ∧ (w2.heap.size + 1) ∉ [p, bs, bp]) := ⟨hqs, hnot, hapT, hapO⟩
          clear hwo hcase hlt hltT hnot hd hbr hbq hqs hapT hapO
          go_wp2_with fail
          clear c0 c1 c2 c3 c4 c5 hwq
          refine wp_region_noPanic ?_
          go_region_held (fun W => Sole [p, bs, bp] wq W) (first | assumption | exact Sole.drew _ _ | exact Sole.trans (by assumption) (Sole.of_below (by assumption) _) | exact Sole.trans (by assumption) (by assumption))
            (first
              | (go_at_call 11; refine (law_full_rd _ o.f3 a3.1 a3.2).mono ?_; rintro e w5 ⟨u5, rfl, hr5, hb5⟩; have hd5 := hdq.below ((Below.refl _ _).drew.trans hb5))
              | (go_at_call 13; refine (hWr _ _ hd5 hr5).mono ?_; rintro e w6 ⟨rfl, hd6, hS6⟩))
          refine NoPanic.normal ?_
          have hSq : Sole [p, bs, bp] wq w6 := by assumption
          have hb6 : Below w.heap.size w w6 := hSq.belowOf hb0q hb0q.size HS3.out
          have hT6 := hTq.other hSq HQ.out.2.2.1
          have hO6 := hOq.other hSq HQ.out.2.2.2
          have hrow6 : w6.heap[wr.heap.size]? = some (.cells #[.int .i64 o.f0, .int .i64 o.f1, .int .i64 o.f2, .int .u8 o.f3, .string o.f4, .bool o.f5] 32 (0, 0)) := (hSq.block _ HQ.out.1 HQ.out.2.1).trans hrow
          have hl6 : wr.heap.size < w6.heap.size := (Array.getElem?_eq_some_iff.1 hrow6).1
          clear q1 q3 hWr hdq hd5 hr5 hb5 hS6 hSq hTq hOq hrow hb0q
          rcases HC.out with ⟨hi0, hi8, he⟩ | ⟨hi, he⟩
          · obtain ⟨rfl, rfl⟩ := Prod.mk.inj he
            obtain ⟨n, hn⟩ : ∃ n : Nat, o.f1 = (n : Int) := ⟨o.f1.toNat, by omega⟩
            have hn8 : n < 8 := by omega
            have hn8I : (n : Int) < 8 := by omega
            have r1 : ∀ W, Sole [w2.heap.size] w6 W → W.cell? ⟨wr.heap.size, 1, none⟩ = some (.int .i64 (n : Int)) := fun W hW => by
              rw [← hn, World.cell?_of_block (w := w6) (a := ⟨wr.heap.size, 1, none⟩) (hW.block _ hl6 (by simpa using hneT.out)), cell_of_row _ _ 1 _ _ (0, 0) hrow6]; rfl
            have r3 : ∀ W, Sole [w2.heap.size] w6 W → W.cell? ⟨wr.heap.size, 3, none⟩ = some (.int .u8 o.f3) := fun W hW => by
              rw [World.cell?_of_block (w := w6) (a := ⟨wr.heap.size, 3, none⟩) (hW.block _ hl6 (by simpa using hneT.out)), cell_of_row _ _ 3 _ _ (0, 0) hrow6]; rfl
            have HN : Hid (o.f1 = (n : Int)) := hn
            clear he hi0 hi8 hn hrow6
            go_wp2_with fail
            refine wp_region_noPanic ?_
            go_region_held (fun W => Sole [w2.heap.size] w6 W) (first | assumption | exact Sole.drew _ _ | exact Sole.trans (by assumption) (Sole.of_below (by assumption) _) | exact Sole.trans (by assumption) (Sole.setCell _ _ (by simp)))
              (first
                | (go_at_call 11; refine (law_full_rd _ o.f3 a3.1 a3.2).mono ?_; rintro e w7 ⟨u7, rfl, hr7, hb7⟩; have k7 := hr7.conv; have hT7 := hT6.below ((Below.refl _ _).drew.trans hb7); have kc := hT7.cell n hn8; have kf := hT7.fr n; unfold sv at kc))
            refine NoPanic.normal ?_
            have hS9 : Sole [w2.heap.size] w6 (w7.setCell ⟨w2.heap.size, n, none⟩ (.string (strOfNums (fullB o.f3)))) := by assumption
            have hT9 := hT7.set n (.string (strOfNums (fullB o.f3)))
            have hO9 := hO6.other hS9 (by simp)
            have hd9 := hd6.other hS9 (by have := HQ.out.2.2.1; simp at this ⊢; omega) (by have := HQ.out.2.2.1; simp at this ⊢; omega) (by have := HQ.out.2.2.1; simp at this ⊢; omega)
            have hb9 : Below w.heap.size w (w7.setCell ⟨w2.heap.size, n, none⟩ (.string (strOfNums (fullB o.f3)))) := hS9.belowOf hb6 hb6.size (by have := HB.out; simp; omega)
            have HT9 : Hid (Row8 (w7.setCell ⟨w2.heap.size, n, none⟩ (.string (strOfNums (fullB o.f3)))) w2.heap.size 46 (fun i => sv (if i = n then strOfNums (fullB o.f3) else f i))) := by
              have e : (fun i => sv (if i = n then strOfNums (fullB o.f3) else f i)) = (fun i => if i = n then Value.string (strOfNums (fullB o.f3)) else sv (f i)) := funext fun i => by unfold sv; split <;> rfl
              unfold Hid
              rw [e]
              exact hT9
            clear r1 r3 hT7 hT9 kc kf k7 hS9 hb7 hr7 hT6 hO6 hd6
            go_wp2_with fail
            go_roundw
            case rel =>
              skip
              refine ⟨k + 1, doneSt s o.f1 (fullB o.f3), fun i => if i = n then strOfNums (fullB o.f3) else f i, by omega, by go_num, un_done hU _ _, fun i hi => ?_, HT9.out, hO9, hd9, hb9⟩
              rw [done_seen hU, HN.out]
              by_cases e : i = n
              · subst e; rw [upd_same]; simp
              · show (if i = n then strOfNums (fullB o.f3) else f i) = _
                rw [upd_other _ _ _ (by omega), if_neg e]; exact hf i hi
            case measure => simp [RowKit.intOf]; omega
          · obtain ⟨he1, he2⟩ := Prod.mk.inj he
            subst he1
            rw [he2] at hd6
            clear he he2 hrow6
            go_wp2_with fail
            go_roundw
            case rel => exact ⟨k + 1, s, f, by omega, by go_num, hU, hf, hT6, hO6, hd6, hb6⟩
            case measure => simp [RowKit.intOf]; omega
        · obtain rfl : k = len0 := by omega
          have hba := disk_Barrier hd
          rw [un_bar hU] at hba
          dsimp only at hba
          unfold ptr at hba
          have hU1 := un_allSafe hU
          have hpn := allSafe_pend hd.good
          have hsf := allSafe_safe hd.good
          have hap0 := hrT.apart hd (by decide)
          have hap1 := hrO.apart hd (by decide)
          obtain ⟨s1, hs1⟩ : ∃ s1, allSafe s = s1 := ⟨_, rfl⟩
          rw [hs1] at hba hU1 hpn hsf
          obtain ⟨S1, hS1⟩ : ∃ S1, s1.safe = S1 := ⟨_, rfl⟩
          have HF : Hid (∀ i : Nat, i < 8 → f i = strOfNums (S1 i)) := fun i hi => by rw [hf i hi, ← hsf, hS1]
          obtain ⟨hol1, hlc1, hcm1, hok1, hoc1⟩ := HO1.out
          have HOK1 : Hid (∀ o ∈ o1, OpOk o) := hok1
          have HOC1 : Hid (0 < len1 → ∃ b off, a1 = some ⟨b, off, none⟩ ∧ b < w.heap.size ∧ ∀ i, i < len1 → OpAt w b (off + i * 6) (o1.getD i op0)) := hoc1
          unfold maxLen at hcm1
          clear hs1 hsf hok1 hoc1 hf
          go_wp2_with fail
          refine hba.mono ?_
          rintro e w11 ⟨rfl, hd1, hS11⟩
          have hrW1 := hrT.other hS11 hap0
          have hrI1 := hrO.other hS11 hap1
          have hb01 : Below w.heap.size w w11 := hS11.belowOf hbr hbr.size HS3.out
          have hg1 : ∀ (i : Nat) (c : List Int), s1.pend i = some c → (fun _ => (⟨#[]⟩ : ByteArray)) i = strOfNums c := fun i c hc => by rw [hpn] at hc; cases hc
          clear hba hd hrT hrO hbr hS11 hap0 hap1 hpn hU
          go_wp2_with fail
          go_loopw [66] (fun t wr => ∃ (k : Nat) (s : St) (g : Nat → ByteArray), k ≤ len1 ∧ t = .int .i64 k ∧ Un s ∧ s.safe = S1 ∧ (∀ (i : Nat) (c : List Int), s.pend i = some c → g i = strOfNums c) ∧ Row8 wr (w2.heap.size + 1) 46 (fun i => sv (g i)) ∧ Row8 wr w2.heap.size 46 (fun i => sv (f i)) ∧ DiskAt wr p bs bp s ∧ Below w.heap.size w wr) (fun t _ => len1 - (RowKit.intOf t).toNat)
          case atStart => exact ⟨0, s1, fun _ => ⟨#[]⟩, Nat.zero_le _, rfl, hU1, hS1, hg1, hrI1, hrW1, hd1, hb01⟩
          case round =>
            obtain ⟨k, s, g, hk, rfl, hU, hSf, hg, hrT, hrO, hd, hbr⟩ := hrel
            clear hrI1 hrW1 hd1 hb01
            by_cases hkl : k < len1
            · obtain ⟨b, off, rfl, hbl, hat⟩ := HOC1.out (by omega)
              have ho := (hat k hkl).same (hbr.block b hbl)
              have hoo : OpOk (o1.getD k op0) := HOK1.out _ (by rw [List.getD_eq_getElem?_getD, List.getElem?_eq_getElem (by omega)]; exact List.getElem_mem _)
              generalize o1.getD k op0 = o at *
              have c0 := ho.c0
              have c1 := ho.c1
              have c2 := ho.c2
              have c3 := ho.c3
              have c4 := ho.c4
              have c5 := ho.c5
              have a1 := hoo.a1
              have a3 := hoo.a3
              clear hat ho
              obtain ⟨wq, hwq⟩ : ∃ wq, wr.alloc (.cells #[.int .i64 o.f0, .int .i64 o.f1, .int .i64 o.f2, .int .u8 o.f3, .string o.f4, .bool o.f5] 32) = wq := ⟨_, rfl⟩
              have hbq : Below wr.heap.size wr wq := by rw [← hwq]; exact (Below.refl _ wr).alloc (Nat.le_refl _) _
              have hdq := hd.below hbq
              have hTq := hrT.below hbq
              have hOq := hrO.below hbq
              have hb0q := hbr.trans (hbq.mono hbr.size)
              have hrow : wq.heap[wr.heap.size]? = some (.cells #[.int .i64 o.f0, .int .i64 o.f1, .int .i64 o.f2, .int .u8 o.f3, .string o.f4, .bool o.f5] 32 (0, 0)) := by rw [← hwq]; exact heap_alloc_new wr _
              have hlt := hd.lt
              have hltT := hrT.lt
              have hnot : wr.heap.size ∉ [p, bs, bp] := by simp; omega
              have hneT : Hid (wr.heap.size ≠ (w2.heap.size + 1)) := by unfold Hid; omega
              have hapT := hTq.apart hdq (by decide)
              have hapO := hOq.apart hdq (by decide)
              have hqs : wr.heap.size < wq.heap.size := by rw [← hwq]; simp
              have q1 : ∀ W, Sole [p, bs, bp] wq W → W.cell? ⟨wr.heap.size, 1, none⟩ = some (.int .i64 o.f1) := fun W hW => by
                rw [World.cell?_of_block (w := wq) (a := ⟨wr.heap.size, 1, none⟩) (hW.block _ hqs hnot), cell_of_row _ _ 1 _ _ (0, 0) hrow]; rfl
              have q3 : ∀ W, Sole [p, bs, bp] wq W → W.cell? ⟨wr.heap.size, 3, none⟩ = some (.int .u8 o.f3) := fun W hW => by
                rw [World.cell?_of_block (w := wq) (a := ⟨wr.heap.size, 3, none⟩) (hW.block _ hqs hnot), cell_of_row _ _ 3 _ _ (0, 0) hrow]; rfl
              have hWr : ∀ (W : World) (v : Value), DiskAt W p bs bp s → Rd W v (fullB o.f3) → Calls Try.prog 13 #[ptr p, .int .i64 o.f1, v] W fun e w' => e = .returned (.int .i64 (writeOut s o.f1 (fullB o.f3)).1) ∧ DiskAt w' p bs bp (writeOut s o.f1 (fullB o.f3)).2 ∧ Sole [p, bs, bp] W w' :=
                fun W v hdW hrW => disk_Write hdW o.f1 a1.1 a1.2 hrW (fullB_blk o.f3).2
              have hcase := un_write hU (i := o.f1) (fullB_len o.f3)
              obtain ⟨fe, s', hwo⟩ : ∃ fe s', writeOut s o.f1 (fullB o.f3) = (fe, s') := ⟨_, _, rfl⟩
              rw [hwo] at hWr hcase
              dsimp only at hWr
              unfold ptr at hWr
              have HC : Hid _ := hcase
              have HQ : Hid (wr.heap.size < wq.heap.size ∧ wr.heap.size ∉ [p, bs, bp] ∧ (w2.heap.size + 1) ∉ [p, bs, bp] ∧ w2.heap.size ∉ [p, bs, bp]) := ⟨hqs, hnot, hapT, hapO⟩
              clear hwo hcase hlt hltT hnot hd hbr hbq hqs hapT hapO
              go_wp2_with fail
              clear c0 c1 c2 c3 c4 c5 hwq
              refine wp_region_noPanic ?_
              go_region_held (fun W => Sole [p, bs, bp] wq W) (first | assumption | exact Sole.drew _ _ | exact Sole.trans (by assumption) (Sole.of_below (by assumption) _) | exact Sole.trans (by assumption) (by assumption))
                (first
                  | (go_at_call 11; refine (law_full_rd _ o.f3 a3.1 a3.2).mono ?_; rintro e w5 ⟨u5, rfl, hr5, hb5⟩; have hd5 := hdq.below ((Below.refl _ _).drew.trans hb5))
                  | (go_at_call 13; refine (hWr _ _ hd5 hr5).mono ?_; rintro e w6 ⟨rfl, hd6, hS6⟩))
              refine NoPanic.normal ?_
              have hSq : Sole [p, bs, bp] wq w6 := by assumption
              have hb6 : Below w.heap.size w w6 := hSq.belowOf hb0q hb0q.size HS3.out
              have hT6 := hTq.other hSq HQ.out.2.2.1
              have hO6 := hOq.other hSq HQ.out.2.2.2
              have hrow6 : w6.heap[wr.heap.size]? = some (.cells #[.int .i64 o.f0, .int .i64 o.f1, .int .i64 o.f2, .int .u8 o.f3, .string o.f4, .bool o.f5] 32 (0, 0)) := (hSq.block _ HQ.out.1 HQ.out.2.1).trans hrow
              have hl6 : wr.heap.size < w6.heap.size := (Array.getElem?_eq_some_iff.1 hrow6).1
              clear q1 q3 hWr hdq hd5 hr5 hb5 hS6 hSq hTq hOq hrow hb0q
              rcases HC.out with ⟨hi0, hi8, he⟩ | ⟨hi, he⟩
              · obtain ⟨rfl, rfl⟩ := Prod.mk.inj he
                obtain ⟨n, hn⟩ : ∃ n : Nat, o.f1 = (n : Int) := ⟨o.f1.toNat, by omega⟩
                have hn8 : n < 8 := by omega
                have hn8I : (n : Int) < 8 := by omega
                have r1 : ∀ W, Sole [(w2.heap.size + 1)] w6 W → W.cell? ⟨wr.heap.size, 1, none⟩ = some (.int .i64 (n : Int)) := fun W hW => by
                  rw [← hn, World.cell?_of_block (w := w6) (a := ⟨wr.heap.size, 1, none⟩) (hW.block _ hl6 (by simpa using hneT.out)), cell_of_row _ _ 1 _ _ (0, 0) hrow6]; rfl
                have r3 : ∀ W, Sole [(w2.heap.size + 1)] w6 W → W.cell? ⟨wr.heap.size, 3, none⟩ = some (.int .u8 o.f3) := fun W hW => by
                  rw [World.cell?_of_block (w := w6) (a := ⟨wr.heap.size, 3, none⟩) (hW.block _ hl6 (by simpa using hneT.out)), cell_of_row _ _ 3 _ _ (0, 0) hrow6]; rfl
                have HN : Hid (o.f1 = (n : Int)) := hn
                clear he hi0 hi8 hn hrow6
                go_wp2_with fail
                refine wp_region_noPanic ?_
                go_region_held (fun W => Sole [(w2.heap.size + 1)] w6 W) (first | assumption | exact Sole.drew _ _ | exact Sole.trans (by assumption) (Sole.of_below (by assumption) _) | exact Sole.trans (by assumption) (Sole.setCell _ _ (by simp)))
                  (first
                    | (go_at_call 11; refine (law_full_rd _ o.f3 a3.1 a3.2).mono ?_; rintro e w7 ⟨u7, rfl, hr7, hb7⟩; have k7 := hr7.conv; have hT7 := hT6.below ((Below.refl _ _).drew.trans hb7); have kc := hT7.cell n hn8; have kf := hT7.fr n; unfold sv at kc))
                refine NoPanic.normal ?_
                have hS9 : Sole [(w2.heap.size + 1)] w6 (w7.setCell ⟨(w2.heap.size + 1), n, none⟩ (.string (strOfNums (fullB o.f3)))) := by assumption
                have hT9 := hT7.set n (.string (strOfNums (fullB o.f3)))
                have hO9 := hO6.other hS9 (by simp)
                have hd9 := hd6.other hS9 (by have := HQ.out.2.2.1; simp at this ⊢; omega) (by have := HQ.out.2.2.1; simp at this ⊢; omega) (by have := HQ.out.2.2.1; simp at this ⊢; omega)
                have hb9 : Below w.heap.size w (w7.setCell ⟨(w2.heap.size + 1), n, none⟩ (.string (strOfNums (fullB o.f3)))) := hS9.belowOf hb6 hb6.size (by have := HB.out; simp; omega)
                have HT9 : Hid (Row8 (w7.setCell ⟨(w2.heap.size + 1), n, none⟩ (.string (strOfNums (fullB o.f3)))) (w2.heap.size + 1) 46 (fun i => sv (if i = n then strOfNums (fullB o.f3) else g i))) := by
                  have e : (fun i => sv (if i = n then strOfNums (fullB o.f3) else g i)) = (fun i => if i = n then Value.string (strOfNums (fullB o.f3)) else sv (g i)) := funext fun i => by unfold sv; split <;> rfl
                  unfold Hid
                  rw [e]
                  exact hT9
                clear r1 r3 hT7 hT9 kc kf k7 hS9 hb7 hr7 hT6 hO6 hd6
                go_wp2_with fail
                go_roundw
                case rel =>
                  skip
                  refine ⟨k + 1, doneSt s o.f1 (fullB o.f3), fun i => if i = n then strOfNums (fullB o.f3) else g i, by omega, by go_num, un_done hU _ _, by rw [done_safe hU]; exact hSf, fun i c hc => ?_, HT9.out, hO9, hd9, hb9⟩
                  rw [done_pend, HN.out] at hc
                  by_cases e : i = n
                  · subst e
                    rw [upd_same] at hc
                    cases hc
                    simp
                  · rw [upd_other _ _ _ (by omega)] at hc
                    show (if i = n then strOfNums (fullB o.f3) else g i) = strOfNums c
                    rw [if_neg e]
                    exact hg i c hc
                case measure => simp [RowKit.intOf]; omega
              · obtain ⟨he1, he2⟩ := Prod.mk.inj he
                subst he1
                rw [he2] at hd6
                clear he he2 hrow6
                go_wp2_with fail
                go_roundw
                case rel => exact ⟨k + 1, s, g, by omega, by go_num, hU, hSf, hg, hT6, hO6, hd6, hb6⟩
                case measure => simp [RowKit.intOf]; omega
            · obtain rfl : k = len1 := by omega
              have hcut := disk_Cut_on hd mask HM.out hU.on
              unfold ptr at hcut
              have hpn := cut_pend hd.good mask
              have hsf := cut_safe hd.good mask
              have hbk := cut_blocks s mask
              have hap0 := hrO.apart hd (by decide)
              have hap1 := hrT.apart hd (by decide)
              obtain ⟨s2, hs2⟩ : ∃ s2, cutSt s mask = s2 := ⟨_, rfl⟩
              rw [hs2] at hcut hpn hsf hbk
              have HV : Hid (∀ i : Nat, i < 8 → strOfNums (s2.safe i) = f i ∨ (strOfNums (s2.safe i) = g i)) := fun i hi => by
                rcases hsf i with h | ⟨c, hc, h⟩
                · left; rw [h, hSf, HF.out i hi]
                · right; rw [h, hg i c hc]
              have hb2 : s2.blocks = 8 := by rw [hbk]; exact hU.b
              clear hs2 hsf hbk hg hSf
              go_wp2_with fail
              refine hcut.mono ?_
              rintro e w12 ⟨rfl, hd12, hS12⟩
              have hW12 := hrO.other hS12 hap0
              have hI12 := hrT.other hS12 hap1
              have hb12 : Below w.heap.size w w12 := hS12.belowOf hbr hbr.size HS3.out
              have hpw := disk_Power hd12
              unfold ptr at hpw
              clear hcut hd hrT hrO hbr hS12 hU hU1
              go_wp2_with fail
              refine hpw.mono ?_
              rintro e w13 ⟨rfl, hd13, hS13⟩
              have hW13 := hW12.other hS13 (by simp at hap0 ⊢; omega)
              have hI13 := hI12.other hS13 (by simp at hap1 ⊢; omega)
              have hb13 : Below w.heap.size w w13 := hS13.belowOf hb12 hb12.size (fun k hk => HS3.out k (by simp at hk ⊢; omega))
              obtain ⟨s3, hs3⟩ : ∃ s3 : St, { s2 with off := false } = s3 := ⟨_, rfl⟩
              have hp3 : ∀ j, s3.pend j = none := fun j => by rw [← hs3]; exact hpn j
              have hv3 : ∀ j, seen s3 j = s2.safe j := fun j => by unfold seen; rw [hp3, ← hs3]; rfl
              have hu3 : ∀ i : Nat, i < 8 → useErr s3 i = 0 := fun i hi => by rw [← hs3]; unfold useErr; simp [hb2]; omega
              rw [hs3] at hd13
              have HP3 : Hid (∀ j, s3.pend j = none) := hp3
              have HV3 : Hid (∀ j, seen s3 j = s2.safe j) := hv3
              have HU3 : Hid (∀ i : Nat, i < 8 → useErr s3 i = 0) := hu3
              clear hpw hd12 hW12 hI12 hb12 hS13 hs3 hp3 hv3 hu3 hpn hap0 hap1 hb2
              go_wp2_with fail
              go_loopw [91] (fun t wr => ∃ k : Nat, k ≤ 8 ∧ t = .int .i64 k ∧ Below w13.heap.size w13 wr) (fun t _ => 8 - (RowKit.intOf t).toNat)
              case atStart => exact ⟨0, by omega, rfl, Below.refl _ _⟩
              case round =>
                obtain ⟨k, hk, rfl, hbr⟩ := hrel
                by_cases hk8 : k < 8
                · have hr1 := disk_Read_rd (hd13.below hbr) (k : Int) (by omega) (by omega) (HU3.out k hk8)
                  rw [HV3.out] at hr1
                  unfold ptr at hr1
                  go_wp2_with fail
                  refine hr1.mono ?_
                  rintro e wa ⟨ga, rfl, _, _, hra, hba⟩
                  have hb1a := hbr.trans (hba.mono hbr.size)
                  have hk8I : (k : Int) < 8 := by omega
                  have ca : ∀ n, (convert 33 9 (.slice (some ⟨ga, 0, none⟩) 512 512)).run Try.prog (wa.drewN n) = .ok (.string (strOfNums (s2.safe k))) (wa.drewN n) := fun n => (hra.below (below_drewN (Below.refl _ wa) n)).conv
                  have cw : wa.cell? ⟨w2.heap.size, k, none⟩ = some (.string (f k)) := (hW13.below hb1a).cell k hk8
                  have ci : wa.cell? ⟨w2.heap.size + 1, k, none⟩ = some (.string (g k)) := (hI13.below hb1a).cell k hk8
                  have hne : s2.safe k ≠ [] := by
                    have := (rd_length hra)
                    intro e
                    rw [e] at this
                    cases this
                  have hv := HV.out k hk8
                  have hne' : Hid (strOfNums (s2.safe k) ≠ ⟨#[]⟩) := fun e => hne (by
                    have e2 := congrArg (fun s : ByteArray => s.data.toList) e
                    simp only [strOfNums_data] at e2
                    simpa using e2)
                  generalize strOfNums (s2.safe k) = X at *
                  clear hr1 hra hba hne
                  by_cases hxf : X = f k
                  · have e1 : (X.toList == (f k).toList) = true := by rw [hxf]; exact beq_self_eq_true _
                    rw [← hxf] at cw
                    clear hv e1
                    go_wp2_with fail
                    go_quiet (fail)
                    clear ca cw ci
                    go_wp2_with fail
                    go_roundw
                    case rel => exact ⟨k + 1, by omega, by go_num, below_drewN hb1a _⟩
                    case measure => simp [RowKit.intOf]; omega
                  · have hxg : X = g k := hv.resolve_left hxf
                    have e1 : (X.toList == (f k).toList) = false := by
                      rw [ByteArray.toList_eq, ByteArray.toList_eq, beq_eq_false_iff_ne]
                      intro e
                      apply hxf
                      obtain ⟨⟨x⟩⟩ := X
                      cases hfk : f k with
                      | mk d => obtain ⟨y⟩ := d; rw [hfk] at e; simp at e; rw [e]
                    have e2 : (X.toList == (⟨#[]⟩ : ByteArray).toList) = false := by
                      rw [ByteArray.toList_eq, ByteArray.toList_eq, beq_eq_false_iff_ne]
                      intro e
                      apply hne'.out
                      obtain ⟨⟨x⟩⟩ := X
                      simp at e
                      rw [e]
                    have hne3 : X.toList ≠ [] := fun e => by
                      have : (X.toList == (⟨#[]⟩ : ByteArray).toList) = true := by rw [e, ByteArray.toList_eq]; rfl
                      rw [e2] at this
                      cases this
                    have e3 : (X.toList == []) = false := by
                      cases hX : X.toList with
                      | nil => exact absurd hX hne3
                      | cons a l => rfl
                    have e4 : X.toList.isEmpty = false := by
                      cases hX : X.toList with
                      | nil => exact absurd hX hne3
                      | cons a l => rfl
                    rw [← hxg] at ci
                    clear hv hxf hxg
                    go_wp2_with fail
                    go_quiet (fail)
                    clear ca cw ci
                    go_wp2_with fail
                    go_roundw
                    case rel => exact ⟨k + 1, by omega, by go_num, below_drewN hb1a _⟩
                    case measure => simp [RowKit.intOf]; omega
                · have hkI : ¬ (k : Int) < 8 := by omega
                  have hpe := disk_Pending (hd13.below hbr)
                  have hke : keysOf s3.pend = [] := keysOf_eq List.Pairwise.nil (by simp) (fun i => by rw [HP3.out]; simp)
                  rw [hke] at hpe
                  unfold ptr at hpe
                  go_wp2_with fail
                  refine hpe.mono ?_
                  rintro e wb ⟨v, rfl, hrow, hbb⟩
                  obtain ⟨a, cap, rfl, _, _, _⟩ := ints_shape hrow
                  clear hrow
                  go_wp2_with fail
                  go_ret
                  exact ⟨rfl, hb13.trans ((hbr.trans (hbb.mono hbr.size)).mono hb13.size)⟩

/-! ### The row -/
set_option maxRecDepth 100000 in
theorem lifted (os : Os) (started : os.Started) (H : Type) (enc : TypeId × Value → H) :
    ReturnsInHanded {} Try.checked os 4 .any (Rows.diskSafeSpec.pre6 enc Try.prog Try.f4 Rows.diskSafeRow.domain false) (Rows.diskSafeSpec.post enc Try.prog Try.f4 false true false false) := by
  refine returnsInHanded_of_change (C := Try.checked) own started (by kernel_rfl) Try.func4
    (ChangeSpec.witness6 (enc := enc) (C := Try.checked) false ⟨#[], #[.slice none 0 0, .slice none 0 0, .string ByteArray.empty], []⟩ 8 (by kernel_rfl) (by kernel_rfl) (by kernel_rfl) (by kernel_rfl)) ?_
  intro W base args ds gs before hval0 hW hcnd _
  have hval : ∀ (j : Nat) t v, Try.f4.params[j]? = some t → args[j]? = some v → Value.okWide Try.prog W .any base t v := hval0
  have hW' := hW
  obtain ⟨p, q, hA0, hV, rfl, hfz, hnd⟩ := hW
  have hA : DataW.TrodAll enc Try.prog W 0 (fun _ => true) true Try.f4.params.toList args.toList ds p := hA0
  rw [Try.params4] at hA hval
  obtain ⟨v0, vs0, d0, ds0, p0, q0, hargs, rfl, rfl, h0, r0⟩ := trodAll_cons hA
  obtain ⟨v1, vs1, d1, ds1, p1, q1, rfl, rfl, rfl, h1, r1⟩ := trodAll_cons r0
  obtain ⟨v2, vs2, d2, ds2, p2, q2, rfl, rfl, rfl, h2, r2⟩ := trodAll_cons r1
  obtain ⟨rfl, rfl, rfl⟩ := trodAll_nil r2
  obtain rfl : args = #[v0, v1, v2] := by cases args; simp_all
  obtain ⟨rfl, rfl⟩ := trodVars_none hV
  obtain ⟨a0, len0, cap0, rfl⟩ := okWide_slice Try.underlying22 (hval 0 22 v0 rfl rfl)
  have k0 := h0
  have lt0 : ∀ x ∈ p0, x.block < W.heap.size := by obtain ⟨m, hm⟩ := k0; exact DataW.trod_lt m _ _ _ hm
  obtain ⟨o0, w0⟩ : ∃ os, OpsAt W a0 len0 cap0 os := by
    obtain ⟨fuel, hf⟩ := h0
    exact opsAt_of hf
  obtain ⟨a1, len1, cap1, rfl⟩ := okWide_slice Try.underlying22 (hval 1 22 v1 rfl rfl)
  have k1 := h1
  have lt1 : ∀ x ∈ p1, x.block < W.heap.size := by obtain ⟨m, hm⟩ := k1; exact DataW.trod_lt m _ _ _ hm
  obtain ⟨o1, w1⟩ : ∃ os, OpsAt W a1 len1 cap1 os := by
    obtain ⟨fuel, hf⟩ := h1
    exact opsAt_of hf
  obtain ⟨a2, rfl, rfl, rfl, w2⟩ := open_string Try.underlying9 (hval 2 9 v2 rfl rfl) h2
  clear hA0 hval0
  refine (walk a0 len0 cap0 o0 a1 len1 cap1 o1 a2 W w0 w1 w2).mono fun e W' ⟨he, bel⟩ => ?_
  subst he
  exact ⟨_, rfl, _, _, _, [], _, [], hW', trodAll_mk1 (shut_bool Try.underlying4 _), (trodAll_cons_mk (Below.trod laidOut (by kernel_rfl) (of_decide_eq_true (by kernel_rfl)) k0 bel lt0) (trodAll_cons_mk (Below.trod laidOut (by kernel_rfl) (of_decide_eq_true (by kernel_rfl)) k1 bel lt1) (trodAll_cons_mk (shut_string Try.underlying9 w2) trodAll_mk0))), rfl, bel.frame _, fun h => by cases h⟩

theorem over : Rows.diskSafeRow.holds Try.pinned (OpenSpec.ofChange Rows.diskSafeSpec) :=
  OpenClaim.holds_of_wide 4 Try.f4 rfl rfl rfl rfl rfl rfl rfl ⟨rfl, rfl, rfl, rfl, rfl⟩ rfl rfl rfl rfl rfl (by kernel_rfl) Try.func4 (by kernel_rfl)
    (of_decide_eq_true (by kernel_rfl)) (by unfold Func.isWrapper; first | (rw [if_pos (by decide +kernel)]; kernel_rfl) | (rw [if_neg (by decide +kernel)]; exact ⟨rfl, rfl⟩))
    (fun os started H enc _ => lifted os started H enc)

end Go.Proofs.Ytjfhcbokfbbbhaa.diskSafe

namespace Go.Proofs.Ytjfhcbokfbbbhaa
/-- The statement. -/
theorem diskSafe_proved : Rows.DiskSafeSaid := diskSafe.over
#print axioms diskSafe_proved
end Go.Proofs.Ytjfhcbokfbbbhaa
