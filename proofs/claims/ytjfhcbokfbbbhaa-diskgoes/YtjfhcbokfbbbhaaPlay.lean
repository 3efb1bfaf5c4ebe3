/- play: some calls, one behind the other. -/
import Derived.Test.YtjfhcbokfbbbhaaLive
import Derived.Test.YtjfhcbokfbbbhaaOps
import Derived.Deep.RegionHeld3
namespace Go.Proofs.Ytjfhcbokfbbbhaa
open Go.RowKit Go.Maps
set_option linter.unusedVariables false

def cutOut (s : St) (m : ByteArray) : St := if s.off then s else cutSt s m

theorem disk_Cut {w : World} {p bs bp : Nat} {s : St} (h : DiskAt w p bs bp s) (mask : ByteArray) (hmask : mask.size ≤ maxLen) :
    Calls Try.prog 19 #[ptr p, .string mask] w fun e w' => e = .returned (.tuple #[]) ∧ DiskAt w' p bs bp (cutOut s mask) ∧ Sole [p, bs, bp] w w' := by
  unfold cutOut
  cases ho : s.off
  · simp only [Bool.false_eq_true, if_false]
    exact disk_Cut_on h mask hmask ho
  · simp only [if_true]
    refine (disk_Cut_off h mask ho).mono ?_
    rintro e w' ⟨rfl, rfl⟩
    exact ⟨rfl, h, Sole.refl _ _⟩

/-- One call. -/
def stepSt (s : St) (o : OpV) : St :=
  if o.f0 = 2 then (barOut s).2 else if o.f0 = 3 then armSt s o.f1 o.f4 else if o.f0 = 4 then cutOut s o.f4 else if o.f0 = 5 then { s with off := false } else (writeOut s o.f1 (fullB o.f3)).2

/-- The first k of them. -/
def playN (s : St) (os : List OpV) : Nat → St
  | 0 => s
  | k + 1 => stepSt (playN s os k) (os.getD k op0)

set_option maxRecDepth 100000 in
set_option maxHeartbeats 16000000 in
theorem law_play {W0 : World} {a : Option Addr} {len cap : Nat} {os : List OpV} (ho : OpsAt W0 a len cap os) {w : World} (hw : Below W0.heap.size W0 w) {p bs bp : Nat} {s : St} (hd : DiskAt w p bs bp s)
    (hp : W0.heap.size ≤ p) (hbs : W0.heap.size ≤ bs) (hbp : W0.heap.size ≤ bp) :
    Calls Try.prog 28 #[ptr p, .slice a len cap] w fun e w' => e = .returned (.tuple #[]) ∧ DiskAt w' p bs bp (playN s os len) ∧ Sole [p, bs, bp] w w' := by
  have HS3 : Hid (∀ k ∈ [p, bs, bp], W0.heap.size ≤ k) := by unfold Hid; simp; omega
  have hws := hw.size
  obtain ⟨hol, hlc, hcm, hok, hoc⟩ := ho
  unfold maxLen at hcm
  unfold ptr
  go_enter Try.func28, Try.ntmps28
  go_wp2_with fail
  go_loopw [8] (fun t wr => ∃ k : Nat, k ≤ len ∧ t = .int .i64 k ∧ DiskAt wr p bs bp (playN s os k) ∧ Sole [p, bs, bp] w wr) (fun t _ => len - (RowKit.intOf t).toNat)
  case atStart => exact ⟨0, Nat.zero_le _, rfl, hd, Sole.refl _ _⟩
  case round =>
    obtain ⟨k, hk, rfl, hdr, hSr⟩ := hrel
    by_cases hkl : k < len
    · obtain ⟨b, off, rfl, hbl, hat⟩ := hoc (by omega)
      have hbr : Below W0.heap.size W0 wr := hSr.belowOf hw hws HS3.out
      have ho := (hat k hkl).same (hbr.block b hbl)
      have hoo : OpOk (os.getD k op0) := hok _ (by rw [List.getD_eq_getElem?_getD, List.getElem?_eq_getElem (by omega)]; exact List.getElem_mem _)
      have HN : Hid (playN s os (k + 1) = stepSt (playN s os k) (os.getD k op0)) := rfl
      generalize os.getD k op0 = o at *
      generalize playN s os k = sk at *
      have c0 := ho.c0
      have c1 := ho.c1
      have c2 := ho.c2
      have c3 := ho.c3
      have c4 := ho.c4
      have c5 := ho.c5
      have a1 := hoo.a1
      have a3 := hoo.a3
      have a4 := hoo.a4
      clear hat hoc hok ho
      have hda := fun ob => hdr.below ((Below.refl _ wr).alloc (Nat.le_refl _) ob)
      by_cases h2 : o.f0 = 2
      · have hba := fun ob => disk_Barrier (hda ob)
        unfold ptr at hba
        have HE : Hid (stepSt sk o = (barOut sk).2) := by unfold Hid stepSt; rw [if_pos h2]
        clear hda
        go_wp2_with fail
        refine (hba _).mono ?_
        rintro e w5 ⟨rfl, hd5, hS5⟩
        clear hba
        go_wp2_with fail
        go_roundw
        case rel => exact ⟨k + 1, by omega, by go_num, hd5.as (HN.out.trans HE.out), (hSr.trans (Sole.alloc _ _ _)).trans hS5⟩
        case measure => simp [RowKit.intOf]; omega
      · by_cases h3 : o.f0 = 3
        · have hba := fun ob => disk_Arm (hda ob) o.f1 a1.1 a1.2 o.f4 a4
          unfold ptr at hba
          have HE : Hid (stepSt sk o = armSt sk o.f1 o.f4) := by unfold Hid stepSt; rw [if_neg h2, if_pos h3]
          clear hda
          go_wp2_with fail
          refine (hba _).mono ?_
          rintro e w5 ⟨rfl, hd5, hS5, _⟩
          clear hba
          go_wp2_with fail
          go_roundw
          case rel => exact ⟨k + 1, by omega, by go_num, hd5.as (HN.out.trans HE.out), (hSr.trans (Sole.alloc _ _ _)).trans (hS5.mono (by simp))⟩
          case measure => simp [RowKit.intOf]; omega
        · by_cases h4 : o.f0 = 4
          · have hba := fun ob => disk_Cut (hda ob) o.f4 a4
            unfold ptr at hba
            have HE : Hid (stepSt sk o = cutOut sk o.f4) := by unfold Hid stepSt; rw [if_neg h2, if_neg h3, if_pos h4]
            clear hda
            go_wp2_with fail
            refine (hba _).mono ?_
            rintro e w5 ⟨rfl, hd5, hS5⟩
            clear hba
            go_wp2_with fail
            go_roundw
            case rel => exact ⟨k + 1, by omega, by go_num, hd5.as (HN.out.trans HE.out), (hSr.trans (Sole.alloc _ _ _)).trans hS5⟩
            case measure => simp [RowKit.intOf]; omega
          · by_cases h5 : o.f0 = 5
            · have hba := fun ob => disk_Power (hda ob)
              unfold ptr at hba
              have HE : Hid (stepSt sk o = { sk with off := false }) := by unfold Hid stepSt; rw [if_neg h2, if_neg h3, if_neg h4, if_pos h5]
              clear hda
              go_wp2_with fail
              refine (hba _).mono ?_
              rintro e w5 ⟨rfl, hd5, hS5⟩
              clear hba
              go_wp2_with fail
              go_roundw
              case rel => exact ⟨k + 1, by omega, by go_num, hd5.as (HN.out.trans HE.out), (hSr.trans (Sole.alloc _ _ _)).trans (hS5.mono (by simp))⟩
              case measure => simp [RowKit.intOf]; omega
            · have HE : Hid (stepSt sk o = (writeOut sk o.f1 (fullB o.f3)).2) := by unfold Hid stepSt; rw [if_neg h2, if_neg h3, if_neg h4, if_neg h5]
              obtain ⟨wq, hwq⟩ : ∃ wq, wr.alloc (.cells #[.int .i64 o.f0, .int .i64 o.f1, .int .i64 o.f2, .int .u8 o.f3, .string o.f4, .bool o.f5] 32) = wq := ⟨_, rfl⟩
              have hbq : Below wr.heap.size wr wq := by rw [← hwq]; exact (Below.refl _ wr).alloc (Nat.le_refl _) _
              have hdq := hdr.below hbq
              have hrow : wq.heap[wr.heap.size]? = some (.cells #[.int .i64 o.f0, .int .i64 o.f1, .int .i64 o.f2, .int .u8 o.f3, .string o.f4, .bool o.f5] 32 (0, 0)) := by rw [← hwq]; exact heap_alloc_new wr _
              have hlt := hdr.lt
              have hnot : wr.heap.size ∉ [p, bs, bp] := by simp; omega
              have hqs : wr.heap.size < wq.heap.size := by rw [← hwq]; simp
              have hSq : Sole [p, bs, bp] w wq := hSr.trans (Sole.of_below hbq _)
              have q0 : wq.cell? ⟨wr.heap.size, 0, none⟩ = some (.int .i64 o.f0) := by rw [cell_of_row _ _ 0 _ _ (0, 0) hrow]; rfl
              have q1 : ∀ W, Sole [p, bs, bp] wq W → W.cell? ⟨wr.heap.size, 1, none⟩ = some (.int .i64 o.f1) := fun W hW => by
                rw [World.cell?_of_block (w := wq) (a := ⟨wr.heap.size, 1, none⟩) (hW.block _ hqs hnot), cell_of_row _ _ 1 _ _ (0, 0) hrow]; rfl
              have q3 : ∀ W, Sole [p, bs, bp] wq W → W.cell? ⟨wr.heap.size, 3, none⟩ = some (.int .u8 o.f3) := fun W hW => by
                rw [World.cell?_of_block (w := wq) (a := ⟨wr.heap.size, 3, none⟩) (hW.block _ hqs hnot), cell_of_row _ _ 3 _ _ (0, 0) hrow]; rfl
              have hWr : ∀ (W : World) (v : Value), DiskAt W p bs bp sk → Rd W v (fullB o.f3) → Calls Try.prog 13 #[ptr p, .int .i64 o.f1, v] W fun e w' => e = .returned (.int .i64 (writeOut sk o.f1 (fullB o.f3)).1) ∧ DiskAt w' p bs bp (writeOut sk o.f1 (fullB o.f3)).2 ∧ Sole [p, bs, bp] W w' :=
                fun W v hdW hrW => disk_Write hdW o.f1 a1.1 a1.2 hrW (fullB_blk o.f3).2
              obtain ⟨fe, s', hwo⟩ : ∃ fe s', writeOut sk o.f1 (fullB o.f3) = (fe, s') := ⟨_, _, rfl⟩
              rw [hwo] at hWr HE
              dsimp only at hWr HE
              unfold ptr at hWr
              clear hda hwo hrow hlt hnot hdr hbq hqs hbr
              go_wp2_with fail
              clear c0 c1 c2 c3 c4 c5 q0 hwq
              refine wp_region_noPanic ?_
              go_region_held (fun W => Sole [p, bs, bp] wq W) (first | assumption | exact Sole.drew _ _ | exact Sole.trans (by assumption) (Sole.of_below (by assumption) _) | exact Sole.trans (by assumption) (by assumption))
                (first
                  | (go_at_call 11; refine (law_full_rd _ o.f3 a3.1 a3.2).mono ?_; rintro e w5 ⟨u5, rfl, hr5, hb5⟩; have hd5 := hdq.below ((Below.refl _ _).drew.trans hb5))
                  | (go_at_call 13; refine (hWr _ _ hd5 hr5).mono ?_; rintro e w6 ⟨rfl, hd6, hS6⟩))
              refine NoPanic.normal ?_
              have hSq6 : Sole [p, bs, bp] wq w6 := by assumption
              clear q1 q3 hWr hdq hd5 hr5 hb5 hS6
              go_wp2_with fail
              go_roundw
              case rel => exact ⟨k + 1, by omega, by go_num, hd6.as (HN.out.trans HE.out), hSq.trans hSq6⟩
              case measure => simp [RowKit.intOf]; omega
    · obtain rfl : k = len := by omega
      clear hoc hok
      go_wp2_with fail
      go_end0
      exact ⟨rfl, hdr, hSr⟩

end Go.Proofs.Ytjfhcbokfbbbhaa
