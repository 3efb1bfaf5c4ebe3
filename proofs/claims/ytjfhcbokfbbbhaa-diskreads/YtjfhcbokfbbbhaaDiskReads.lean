/- Proved: DiskReads, for every slice of calls, with no condition: it answers true, and the slice reads as it did. -/
import Derived.Test.YtjfhcbokfbbbhaaRows8
import Derived.Test.YtjfhcbokfbbbhaaLive
import Derived.Test.YtjfhcbokfbbbhaaOps
import Derived.BigQuiet
import Derived.Deep.QuietTactic
import Derived.WalkSmall
import Derived.ProofKit
import Derived.OpenShut
import Derived.ShutString
import Derived.ChangeOld
import Derived.Below
import Derived.Carry
namespace Go.Proofs.Ytjfhcbokfbbbhaa.diskReads
open Go.ChangeShapes Go.WideShapes Go.ChangeAt Go.RowKit Go.Maps
open Go.ChangeMaps (open_string shut_string)
set_option linter.unusedVariables false

theorem own : ownKnob Try.prog.godebug = none := by kernel_rfl
theorem laidOut : laidOutB Try.prog = true := by kernel_rfl

def sv (x : ByteArray) : Value := .string x
def bv (x : Bool) : Value := .bool x

/-- The blocks for which something is pending, of eight. -/
theorem keys8 {s : St} (h : Good s) (hU : Un s) {L : Nat → Bool} (hL : ∀ i : Nat, i < 8 → L i = (s.pend i).isSome) : keysOf s.pend = ((List.range 8).filter L).map Int.ofNat := by
  refine keysOf_eq ?_ (fun i hi => ?_) (fun i => ?_)
  · rw [List.pairwise_map]
    exact ((List.pairwise_lt_range (n := 8)).filter _).imp (fun h => by simpa using h)
  · obtain ⟨n, hn, rfl⟩ := List.mem_map.1 hi
    have := List.mem_range.1 (List.mem_filter.1 hn).1
    simp
    omega
  · constructor
    · intro hi
      obtain ⟨n, hn, rfl⟩ := List.mem_map.1 hi
      obtain ⟨h1, h2⟩ := List.mem_filter.1 hn
      rw [hL n (List.mem_range.1 h1)] at h2
      exact h2
    · intro hi
      obtain ⟨c, hc⟩ := Option.isSome_iff_exists.1 hi
      obtain ⟨b0, b1, _⟩ := h.pend i c hc
      rw [hU.b] at b1
      refine List.mem_map.2 ⟨i.toNat, List.mem_filter.2 ⟨List.mem_range.2 (by omega), ?_⟩, by simp; omega⟩
      rw [hL _ (by omega), show ((i.toNat : Nat) : Int) = i from by omega]
      exact hi

set_option maxRecDepth 100000 in
set_option maxHeartbeats 32000000 in
theorem walk (a : Option Addr) (len cap : Nat) (os : List OpV) (w : World) (ho : OpsAt w a len cap os) :
    Calls Try.prog 7 #[.slice a len cap] w fun e w' => e = .returned (.bool true) ∧ Below w.heap.size w w' := by
  obtain ⟨hol, hlc, hcm, hok, hoc⟩ := ho
  have HOK : Hid (∀ o ∈ os, OpOk o) := hok
  have HOC : Hid (0 < len → ∃ b off, a = some ⟨b, off, none⟩ ∧ b < w.heap.size ∧ ∀ i, i < len → OpAt w b (off + i * 6) (os.getD i op0)) := hoc
  unfold maxLen at hcm
  clear hok hoc
  go_enter Try.func7, Try.ntmps7
  go_wp2_with fail
  refine (law_live w).mono ?_
  rintro e w1 ⟨rfl, hb1⟩
  go_wp2_with fail
  refine (law_disk_New (w := w1) (by decide) (by decide)).mono ?_
  rintro e w2 ⟨p, bs, bp, rfl, hd2, hb2, hp, hbs, hbp⟩
  have hb02 := hb1.trans (hb2.mono hb1.size)
  have hs1 := hb1.size
  unfold ptr
  have HS3 : Hid (∀ k ∈ [p, bs, bp], w.heap.size ≤ k) := by unfold Hid; simp; omega
  clear hb1 hb2 hp hbs hbp hs1
  by_cases hbig : (100 : Int) < len
  · go_wp2_with fail
    go_ret
    exact ⟨rfl, hb02⟩
  go_wp2_with fail
  have hA0 : Row8 ((w2.alloc (.cells #[.string ⟨#[]⟩, .string ⟨#[]⟩, .string ⟨#[]⟩, .string ⟨#[]⟩, .string ⟨#[]⟩, .string ⟨#[]⟩, .string ⟨#[]⟩, .string ⟨#[]⟩] 46)).alloc (.cells #[.bool false, .bool false, .bool false, .bool false, .bool false, .bool false, .bool false, .bool false] 55)) w2.heap.size 46 (fun _ => sv ⟨#[]⟩) := (Below.heap_alloc _ _ _ (by simp)).trans (heap_alloc_new w2 _)
  have hA1 : Row8 ((w2.alloc (.cells #[.string ⟨#[]⟩, .string ⟨#[]⟩, .string ⟨#[]⟩, .string ⟨#[]⟩, .string ⟨#[]⟩, .string ⟨#[]⟩, .string ⟨#[]⟩, .string ⟨#[]⟩] 46)).alloc (.cells #[.bool false, .bool false, .bool false, .bool false, .bool false, .bool false, .bool false, .bool false] 55)) (w2.heap.size + 1) 55 (fun _ => bv false) := by
    have := heap_alloc_new (w2.alloc (.cells #[.string ⟨#[]⟩, .string ⟨#[]⟩, .string ⟨#[]⟩, .string ⟨#[]⟩, .string ⟨#[]⟩, .string ⟨#[]⟩, .string ⟨#[]⟩, .string ⟨#[]⟩] 46)) (.cells #[.bool false, .bool false, .bool false, .bool false, .bool false, .bool false, .bool false, .bool false] 55)
    rw [World.size_alloc] at this
    exact this
  have hbA : Below w2.heap.size w2 ((w2.alloc (.cells #[.string ⟨#[]⟩, .string ⟨#[]⟩, .string ⟨#[]⟩, .string ⟨#[]⟩, .string ⟨#[]⟩, .string ⟨#[]⟩, .string ⟨#[]⟩, .string ⟨#[]⟩] 46)).alloc (.cells #[.bool false, .bool false, .bool false, .bool false, .bool false, .bool false, .bool false, .bool false] 55)) := ((Below.refl _ w2).alloc (Nat.le_refl _) _).alloc (by simp) _
  have hdA := hd2.below hbA
  have hb0A := hb02.trans (hbA.mono hb02.size)
  obtain ⟨Z, hZ⟩ : ∃ Z, strOfNums zeroB = Z := ⟨_, rfl⟩
  have HB : Hid (w.heap.size ≤ w2.heap.size) := hb02.size
  have hcv : ∀ W : World, (convert 33 9 (.slice (some ⟨W.heap.size, 0, none⟩) 512 512)).run Try.prog (W.alloc (.cells (List.replicate 512 (Value.int .u8 0)).toArray 5)) = .ok (.string Z) (W.alloc (.cells (List.replicate 512 (Value.int .u8 0)).toArray 5)) := fun W => by
    rw [← hZ]
    exact (Rd.laid (w := W) (xs := zeroB) (fr := (0, 0)) (by simp [zeroB]) (by unfold maxLen; omega) (by simp only [zeroB, List.map_replicate])).conv
  have HZ : Hid (strOfNums zeroB = Z) := hZ
  clear hZ hd2 hb02 hbA
  go_loopw [40] (fun t wr => ∃ (k : Nat) (f : Nat → ByteArray), k ≤ 8 ∧ t = .int .i64 k ∧ (∀ i, i < k → f i = Z) ∧ Row8 wr w2.heap.size 46 (fun i => sv (f i)) ∧ Row8 wr (w2.heap.size + 1) 55 (fun _ => bv false) ∧ DiskAt wr p bs bp (freshSt 8) ∧ Below w.heap.size w wr) (fun t _ => 8 - (RowKit.intOf t).toNat)
  case atStart => exact ⟨0, fun _ => ⟨#[]⟩, by omega, rfl, fun i hi => by omega, hA0, hA1, hdA, hb0A⟩
  case round =>
    obtain ⟨k, f, hk, rfl, hf, hrW, hrI, hd, hbr⟩ := hrel
    clear hA0 hA1 hdA hb0A
    by_cases hk8 : k < 8
    · have hmk : (Instr.makeSlice 33 (.int .i64 512) (.int .i64 512)).run Try.prog wr = .ok (.slice (some ⟨wr.heap.size, 0, none⟩) 512 512) (wr.alloc (.cells (List.replicate 512 (Value.int .u8 0)).toArray 5)) := make_bytes wr 512 512 (by rfl) (by omega)
      have hcw := hcv wr
      obtain ⟨wz, hwz⟩ : ∃ wz, wr.alloc (.cells (List.replicate 512 (Value.int .u8 0)).toArray 5) = wz := ⟨_, rfl⟩
      have hbz : Below wr.heap.size wr wz := by rw [← hwz]; exact (Below.refl _ wr).alloc (Nat.le_refl _) _
      rw [hwz] at hmk hcw
      have hWz := hrW.below hbz
      have hIz := hrI.below hbz
      have hdz := hd.below hbz
      have hb0z := hbr.trans (hbz.mono hbr.size)
      have kc := hWz.cell k hk8
      have kf := hWz.fr k
      unfold sv at kc
      have hk8I : (k : Int) < 8 := by omega
      have hap := hWz.apart hdz (by decide)
      clear hcv hwz hrW hrI hd hbr hbz
      go_wp2_with fail
      go_roundw
      case rel =>
        have hS : Sole [w2.heap.size] wz (wz.setCell ⟨w2.heap.size, k, none⟩ (.string Z)) := Sole.setCell _ _ (by simp)
        refine ⟨k + 1, fun i => if i = k then Z else f i, by omega, by go_num, fun i hi => ?_, ?_, hIz.other hS (by simp), hdz.other hS (by simp at hap ⊢; omega) (by simp at hap ⊢; omega) (by simp at hap ⊢; omega), hS.belowOf hb0z hb0z.size (by simp; exact HB.out)⟩
        · by_cases e : i = k
          · simp [e]
          · simp [e]; exact hf i (by omega)
        · have := hWz.set k (.string Z)
          have e : (fun i => sv (if i = k then Z else f i)) = (fun i => if i = k then Value.string Z else sv (f i)) := funext fun i => by unfold sv; split <;> rfl
          rw [e]
          exact this
      case measure => simp [RowKit.intOf]; omega
    · have hkI : ¬ (k : Int) < 8 := by omega
      have hf' : ∀ i : Nat, i < 8 → f i = strOfNums (seen (freshSt 8) i) := fun i hi => by rw [hf i (by omega), ← HZ.out]; rfl
      clear hcv hf
      go_wp2_with fail
      go_loopw [50] (fun t wr => ∃ (k : Nat) (s : St) (f : Nat → ByteArray) (L : Nat → Bool), k ≤ len ∧ t = .int .i64 k ∧ Un s ∧ (∀ i : Nat, i < 8 → f i = strOfNums (seen s i)) ∧ (∀ i : Nat, i < 8 → L i = (s.pend i).isSome) ∧ Row8 wr w2.heap.size 46 (fun i => sv (f i)) ∧ Row8 wr (w2.heap.size + 1) 55 (fun i => bv (L i)) ∧ DiskAt wr p bs bp s ∧ Below w.heap.size w wr) (fun t _ => len - (RowKit.intOf t).toNat)
      case atStart => exact ⟨0, freshSt 8, f, fun _ => false, Nat.zero_le _, rfl, un_fresh, hf', fun i _ => rfl, hrW, hrI, hd, hbr⟩
      case round =>
        obtain ⟨k, s, f, L, hk, rfl, hU, hf, hL, hrN, hrL, hd, hbr⟩ := hrel
        clear hrW hrI
        by_cases hkl : k < len
        · obtain ⟨b, off, rfl, hbl, hat⟩ := HOC.out (by omega)
          have ho := (hat k hkl).same (hbr.block b hbl)
          have hoo : OpOk (os.getD k op0) := HOK.out _ (by rw [List.getD_eq_getElem?_getD, List.getElem?_eq_getElem (by omega)]; exact List.getElem_mem _)
          generalize os.getD k op0 = o at *
          have c0 := ho.c0
          have c1 := ho.c1
          have c2 := ho.c2
          have c3 := ho.c3
          have c4 := ho.c4
          have c5 := ho.c5
          have a1 := hoo.a1
          have a3 := hoo.a3
          clear hat ho
          obtain ⟨wq, hwq⟩ : ∃ wq, wr.alloc (.cells #[.int .i64 o.f0, .int .i64 o.f1, .int .i64 o.f2, .int .u8 o.f3, .string o.f4, .bool o.f5] 32) = wq := ⟨_, rfl⟩
          have hbq : Below wr.heap.size wr wq := by rw [← hwq]; exact (Below.refl _ wr).alloc (Nat.le_refl _) _
          have hdq := hd.below hbq
          have hNq := hrN.below hbq
          have hLq := hrL.below hbq
          have hb0q := hbr.trans (hbq.mono hbr.size)
          have hrow : wq.heap[wr.heap.size]? = some (.cells #[.int .i64 o.f0, .int .i64 o.f1, .int .i64 o.f2, .int .u8 o.f3, .string o.f4, .bool o.f5] 32 (0, 0)) := by rw [← hwq]; exact heap_alloc_new wr _
          have q0 : wq.cell? ⟨wr.heap.size, 0, none⟩ = some (.int .i64 o.f0) := by rw [cell_of_row _ _ 0 _ _ (0, 0) hrow]; rfl
          have q1 : wq.cell? ⟨wr.heap.size, 1, none⟩ = some (.int .i64 o.f1) := by rw [cell_of_row _ _ 1 _ _ (0, 0) hrow]; rfl
          have q3 : wq.cell? ⟨wr.heap.size, 3, none⟩ = some (.int .u8 o.f3) := by rw [cell_of_row _ _ 3 _ _ (0, 0) hrow]; rfl
          have hlt := hd.lt
          have hapN := hNq.apart hdq (by decide)
          have hapL := hLq.apart hdq (by decide)
          have HQ : Hid (wr.heap.size ∉ [p, bs, bp] ∧ w2.heap.size ∉ [p, bs, bp] ∧ w2.heap.size + 1 ∉ [p, bs, bp]) := ⟨by simp; omega, hapN, hapL⟩
          have hltL := hrL.lt
          clear hlt hapN hapL hd hbr hbq hrN hrL
          by_cases h2 : o.f0 = 2
          · have hba := disk_Barrier hdq
            rw [un_bar hU] at hba
            dsimp only at hba
            unfold ptr at hba
            have hU6 := un_allSafe hU
            have hf6 : ∀ i : Nat, i < 8 → f i = strOfNums (seen (allSafe s) i) := fun i hi => by
              rw [hf i hi]; unfold seen; rw [allSafe_pend hdq.good, allSafe_safe hdq.good]; rfl
            obtain ⟨L6, hL6d⟩ : ∃ L6 : Nat → Bool, ∀ i, L6 i = false := ⟨fun _ => false, fun _ => rfl⟩
            have hL6e : ∀ i : Nat, i < 8 → L6 i = ((allSafe s).pend i).isSome := fun i _ => by rw [hL6d, allSafe_pend hdq.good]; rfl
            have HL6 : Hid (∀ i, L6 i = false) := hL6d
            generalize allSafe s = s6 at *
            rw [h2] at c0 q0
            have hwq2 : wr.alloc (.cells #[.int .i64 2, .int .i64 o.f1, .int .i64 o.f2, .int .u8 o.f3, .string o.f4, .bool o.f5] 32) = wq := by rw [← hwq, h2]
            clear hf hL hU hwq h2 hL6d
            go_wp2_with fail
            clear c0 c1 c2 c3 c4 c5 hwq2 q0 q1 q3
            refine hba.mono ?_
            rintro e w5 ⟨rfl, hd5, hS5⟩
            have hN5 := hNq.other hS5 HQ.out.2.1
            have hL5 := hLq.other hS5 HQ.out.2.2
            have hb05 : Below w.heap.size w w5 := hS5.belowOf hb0q hb0q.size HS3.out
            clear hba hdq hNq hLq hb0q hS5 hrow
            have HR : Hid (w5.heap[w2.heap.size + 1]? = some (.cells ((List.range 8).map fun i => bv (L i)).toArray 55 (0, 0))) := hL5
            obtain ⟨w6, hw6⟩ : ∃ w6, w5.setRow (w2.heap.size + 1) #[.bool false, .bool false, .bool false, .bool false, .bool false, .bool false, .bool false, .bool false] = w6 := ⟨_, rfl⟩
            have hS6 : Sole [w2.heap.size + 1] w5 w6 := by
              rw [← hw6]
              exact ⟨rfl, rfl, rfl, by simp, fun k hk hn => setRow_other _ _ _ _ (by simpa using hn)⟩
            have hL6 : Row8 w6 (w2.heap.size + 1) 55 (fun i => bv (L6 i)) := by
              have e : (fun i => bv (L6 i)) = (fun _ => bv false) := funext fun i => by rw [HL6.out]
              rw [← hw6, e]
              exact setRow_heap w5 _ _ _ _ _ hL5
            have hN6 := hN5.other hS6 (by simp)
            have hd6 := hd5.other hS6 (by have := HQ.out.2.2; simp at this ⊢; omega) (by have := HQ.out.2.2; simp at this ⊢; omega) (by have := HQ.out.2.2; simp at this ⊢; omega)
            have hb06 : Below w.heap.size w w6 := hS6.belowOf hb05 hb05.size (by have := HB.out; simp; omega)
            clear hL5 hN5 hd5 hb05 hS6
            obtain ⟨f6, hf6d⟩ : ∃ f6 : Nat → ByteArray, f6 = f := ⟨_, rfl⟩
            rw [← hf6d] at hf6 hN6
            clear hf6d
            have HI : Hid ((Try.prog.info? 55).map (·.size) = some (#[.bool false, .bool false, .bool false, .bool false, .bool false, .bool false, .bool false, .bool false] : Array Value).size) := by unfold Hid; kernel_rfl
            have HO : Hid ((((List.range 8).map fun i => bv (L i)).toArray).size = (#[.bool false, .bool false, .bool false, .bool false, .bool false, .bool false, .bool false, .bool false] : Array Value).size) := by unfold Hid; simp
            have H1 : Hid ((#[.bool false, .bool false, .bool false, .bool false, .bool false, .bool false, .bool false, .bool false] : Array Value).all (·.oneCell') = true) := Array.all_eq_true_iff_forall_mem.2 (fun u hu => by simp at hu; subst hu; rfl)
            have HW : Hid (w5.setRow (w2.heap.size + 1) #[.bool false, .bool false, .bool false, .bool false, .bool false, .bool false, .bool false, .bool false] = w6) := hw6
            clear hw6
            go_wp2_with (refine wpList_store_row rfl 55 _ _ rfl (w2.heap.size + 1) #[.bool false, .bool false, .bool false, .bool false, .bool false, .bool false, .bool false, .bool false] rfl rfl 55 _ HR.out HI.out HO.out H1.out ?_; rw [HW.out])
            go_loopw [12, 81] (fun c t wx => ∃ (j : Nat), j ≤ 8 ∧ t = .int .i64 j ∧ c = .int .i64 (((List.range j).filter L6).length : Nat) ∧ Below w6.heap.size w6 wx) (fun _ t _ => 8 - (RowKit.intOf t).toNat)
            case atStart => exact ⟨0, by omega, rfl, rfl, Below.refl _ _⟩
            case round =>
              obtain ⟨j, hj, rfl, rfl, hbx⟩ := hrel
              have hcl : ((List.range j).filter L6).length ≤ j := by
                have := List.length_filter_le L6 (List.range j)
                simpa using this
              by_cases hj8 : j < 8
              · have hr1 := disk_Read_rd (hd6.below hbx) (j : Int) (by omega) (by omega) (un_use hU6 (by omega) (by omega))
                unfold ptr at hr1
                go_wp2_with fail
                refine hr1.mono ?_
                rintro e wa ⟨ga, rfl, _, _, hra, hba⟩
                have hb1a := hbx.trans (hba.mono hbx.size)
                have hj8I : (j : Int) < 8 := by omega
                have ca : ∀ n, (convert 33 9 (.slice (some ⟨ga, 0, none⟩) 512 512)).run Try.prog (wa.drewN n) = .ok (.string (strOfNums (seen s6 j))) (wa.drewN n) := fun n => (hra.below (below_drewN (Below.refl _ wa) n)).conv
                have cn : wa.cell? ⟨w2.heap.size, j, none⟩ = some (.string (strOfNums (seen s6 j))) := by
                  have := (hN6.below hb1a).cell j hj8
                  rw [this, hf6 j hj8]; rfl
                have cl : wa.cell? ⟨w2.heap.size + 1, j, none⟩ = some (.bool (L6 j)) := (hL6.below hb1a).cell j hj8
                generalize strOfNums (seen s6 j) = X at *
                have HL : Hid (((List.range (j + 1)).filter L6).length = ((List.range j).filter L6).length + (if L6 j then 1 else 0)) := by
                  unfold Hid
                  rw [List.range_succ, List.filter_append, List.length_append]
                  cases hL : L6 j <;> simp [hL]
                generalize ((List.range j).filter L6).length = cj at *
                clear hr1 hra hba hbx
                cases hlj : L6 j
                · rw [hlj] at cl HL
                  clear hlj
                  go_wp2_with fail
                  go_quiet (fail)
                  clear ca cn
                  have cl' : (wa.drewN nq).cell? ⟨w2.heap.size + 1, j, none⟩ = some (.bool false) := cl
                  go_wp2_with fail
                  go_roundw
                  case rel => exact ⟨j + 1, by omega, by go_num, by rw [HL.out]; simp, below_drewN hb1a _⟩
                  case measure => simp [RowKit.intOf]; omega
                · rw [hlj] at cl HL
                  clear hlj
                  go_wp2_with fail
                  go_quiet (fail)
                  clear ca cn
                  have cl' : (wa.drewN nq).cell? ⟨w2.heap.size + 1, j, none⟩ = some (.bool true) := cl
                  go_wp2_with fail
                  go_roundw
                  case rel => exact ⟨j + 1, by omega, by go_num, by rw [HL.out]; simp, below_drewN hb1a _⟩
                  case measure => simp [RowKit.intOf]; omega
              · have hjI : ¬ (j : Int) < 8 := by omega
                obtain rfl : j = 8 := by omega
                have hpe := disk_Pending (hd6.below hbx)
                rw [keys8 hd6.good hU6 hL6e] at hpe
                unfold ptr at hpe
                have HK : Hid (∀ x ∈ ((List.range 8).filter L6).map Int.ofNat, ∃ n : Nat, n < 8 ∧ x = (n : Int) ∧ L6 n = true) := fun x hx => by
                  obtain ⟨n, hn, rfl⟩ := List.mem_map.1 hx
                  obtain ⟨h1, h2⟩ := List.mem_filter.1 hn
                  exact ⟨n, List.mem_range.1 h1, rfl, h2⟩
                have hlm : (((List.range 8).filter L6).map Int.ofNat).length = ((List.range 8).filter L6).length := List.length_map _
                obtain ⟨cj, hcj⟩ : ∃ cj, ((List.range 8).filter L6).length = cj := ⟨_, rfl⟩
                rw [hcj] at hlm hcl
                generalize ((List.range 8).filter L6).map Int.ofNat = ks at *
                rw [hcj]
                clear hcj
                go_wp2_with fail
                refine hpe.mono ?_
                rintro e wp ⟨vp, rfl, hrow, hbp'⟩
                obtain ⟨ap, capp, rfl, hcap, hcmp, hcells⟩ := ints_shape hrow
                rw [hlm] at hcap hcells ⊢
                have hb6p : Below w6.heap.size w6 wp := hbx.trans (hbp'.mono hbx.size)
                clear hrow hpe hbx
                go_wp2_with fail
                go_loopw [114] (fun t wx => ∃ (i : Nat), i ≤ cj ∧ t = .int .i64 i ∧ wx = wp) (fun t _ => cj - (RowKit.intOf t).toNat)
                case atStart => exact ⟨0, by omega, rfl, rfl⟩
                case round =>
                  obtain ⟨i, hi, rfl, rfl⟩ := hrel
                  by_cases hic : i < cj
                  · obtain ⟨gp, rfl, hgp0, hgp1, hcs⟩ := hcells (by omega)
                    have hc1 := hcs i hic
                    obtain ⟨nx, hnx, ex, hLx⟩ := HK.out (ks.getD i 0) (by rw [List.getD_eq_getElem?_getD, List.getElem?_eq_getElem (by omega)]; exact List.getElem_mem _)
                    rw [ex] at hc1
                    have hnxI : (nx : Int) < 8 := by omega
                    have clx : wr.cell? ⟨w2.heap.size + 1, nx, none⟩ = some (.bool true) := by
                      have := (hL6.below hb6p).cell nx hnx
                      rw [this, hLx]; rfl
                    clear hcells hcs hLx ex
                    go_wp2_with fail
                    go_roundw
                    case rel => exact ⟨i + 1, by omega, by go_num, by first | rfl | trivial⟩
                    case measure => simp [RowKit.intOf]; omega
                  · obtain rfl : i = cj := by omega
                    clear hcells
                    go_wp2_with fail
                    go_roundw
                    case rel => exact ⟨k + 1, s6, f6, L6, by omega, by go_num, hU6, hf6, hL6e, hN6.below hb6p, hL6.below hb6p, hd6.below hb6p, hb06.trans (hb6p.mono hb06.size)⟩
                    case measure => simp [RowKit.intOf]; omega
          · have hmod := mod8_in o.f1
            have t1 := Int.tmod_lt_of_pos o.f1 (show (0 : Int) < 8 by decide)
            have t2 : -8 < o.f1.tmod 8 := by
              have := Int.lt_tmod_of_pos o.f1 (show (0 : Int) < 8 by decide)
              omega
            obtain ⟨n, hn⟩ : ∃ n : Nat, (o.f1.tmod 8 + 8) % 8 = (n : Int) := ⟨((o.f1.tmod 8 + 8) % 8).toNat, by omega⟩
            have hn' : o.f1.tmod 8 % 8 = (n : Int) := by omega
            have hn8 : n < 8 := by omega
            have hn8I : (n : Int) < 8 := by omega
            have hw0 : writeOut s n (fullB o.f3) = (0, doneSt s n (fullB o.f3)) := writeOut_ok hU.on (by omega) (by rw [hU.b]; omega) (fullB_len _) (un_due hU)
            have hWr : ∀ (W : World) (v : Value), DiskAt W p bs bp s → Rd W v (fullB o.f3) → Calls Try.prog 13 #[ptr p, .int .i64 n, v] W fun e w' => e = .returned (.int .i64 0) ∧ DiskAt w' p bs bp (doneSt s n (fullB o.f3)) ∧ Sole [p, bs, bp] W w' := fun W v hdW hrW => by
              have := disk_Write hdW (n : Int) (by omega) (by omega) hrW (fullB_blk o.f3).2
              rw [hw0] at this
              exact this
            have hU6 := un_done hU (n : Int) (fullB o.f3)
            obtain ⟨f6, hf6d⟩ : ∃ f6 : Nat → ByteArray, ∀ i, f6 i = if i = n then strOfNums (fullB o.f3) else f i := ⟨fun i => if i = n then strOfNums (fullB o.f3) else f i, fun _ => rfl⟩
            obtain ⟨L6, hL6d⟩ : ∃ L6 : Nat → Bool, ∀ i, L6 i = if i = n then true else L i := ⟨fun i => if i = n then true else L i, fun _ => rfl⟩
            have hf6 : ∀ i : Nat, i < 8 → f6 i = strOfNums (seen (doneSt s n (fullB o.f3)) i) := fun i hi => by
              rw [done_seen hU, hf6d]
              by_cases e : i = n
              · subst e; rw [upd_same, if_pos rfl]
              · rw [upd_other _ _ _ (by omega), if_neg e]; exact hf i hi
            have hL6e : ∀ i : Nat, i < 8 → L6 i = ((doneSt s n (fullB o.f3)).pend i).isSome := fun i hi => by
              rw [done_pend, hL6d]
              by_cases e : i = n
              · subst e; rw [upd_same, if_pos rfl]; rfl
              · rw [upd_other _ _ _ (by omega), if_neg e]; exact hL i hi
            generalize doneSt s n (fullB o.f3) = s6 at *
            unfold ptr at hWr
            have HN : Hid ((o.f1.tmod 8 + 8) % 8 = (n : Int)) := hn
            have HF6 : Hid (∀ i, f6 i = if i = n then strOfNums (fullB o.f3) else f i) := hf6d
            have HL6 : Hid (∀ i, L6 i = if i = n then true else L i) := hL6d
            clear hw0 hf hL hmod hn hf6d hL6d
            go_wp2_with fail
            refine (law_full_rd _ o.f3 a3.1 a3.2).mono ?_
            rintro e w4 ⟨u4, rfl, hr4, hb4⟩
            have hd4 := hdq.below hb4
            have hN4 := hNq.below hb4
            have hL4 := hLq.below hb4
            have hb04 := hb0q.trans (hb4.mono hb0q.size)
            have hrow4 : w4.heap[wr.heap.size]? = some (.cells #[.int .i64 o.f0, .int .i64 o.f1, .int .i64 o.f2, .int .u8 o.f3, .string o.f4, .bool o.f5] 32 (0, 0)) := (hb4.block _ (Array.getElem?_eq_some_iff.1 hrow).1).trans hrow
            have hw5 := hWr w4 u4 hd4 hr4
            clear c0 c1 c2 c3 c4 c5 q0 q1 q3 hwq hrow hdq hNq hLq hb0q hb4 hr4 hWr hd4
            go_wp2_with fail
            refine hw5.mono ?_
            rintro e w5 ⟨rfl, hd5, hS5⟩
            have hN5 := hN4.other hS5 HQ.out.2.1
            have hL5 := hL4.other hS5 HQ.out.2.2
            have hb05 : Below w.heap.size w w5 := hS5.belowOf hb04 hb04.size HS3.out
            have hrow5 : w5.heap[wr.heap.size]? = some (.cells #[.int .i64 o.f0, .int .i64 o.f1, .int .i64 o.f2, .int .u8 o.f3, .string o.f4, .bool o.f5] 32 (0, 0)) := (hS5.block _ (Array.getElem?_eq_some_iff.1 hrow4).1 HQ.out.1).trans hrow4
            have q3 : w5.cell? ⟨wr.heap.size, 3, none⟩ = some (.int .u8 o.f3) := by rw [cell_of_row _ _ 3 _ _ (0, 0) hrow5]; rfl
            clear hw5 hrow4 hrow5 hN4 hL4 hS5 hb04
            go_wp2_with fail
            refine (law_full_rd _ o.f3 a3.1 a3.2).mono ?_
            rintro e w7 ⟨u7, rfl, hr7, hb7⟩
            have k7 := hr7.conv
            have hd7 := hd5.below hb7
            have hN7 := hN5.below hb7
            have hL7 := hL5.below hb7
            have hb07 := hb05.trans (hb7.mono hb05.size)
            have kc := hN7.cell n hn8
            have kf := hN7.fr n
            unfold sv at kc
            obtain ⟨w8, hw8⟩ : ∃ w8, w7.setCell ⟨w2.heap.size, n, none⟩ (.string (strOfNums (fullB o.f3))) = w8 := ⟨_, rfl⟩
            have hS8 : Sole [w2.heap.size] w7 w8 := by rw [← hw8]; exact Sole.setCell _ _ (by simp)
            have hN8 : Row8 w8 w2.heap.size 46 (fun i => sv (f6 i)) := by
              rw [← hw8]
              have := hN7.set n (.string (strOfNums (fullB o.f3)))
              have e : (fun i => sv (f6 i)) = (fun i => if i = n then Value.string (strOfNums (fullB o.f3)) else sv (f i)) := funext fun i => by rw [HF6.out]; unfold sv; split <;> rfl
              rw [e]
              exact this
            have hL8 := hL7.other hS8 (by simp)
            have hd8 := hd7.other hS8 (by have := HQ.out.2.1; simp at this ⊢; omega) (by have := HQ.out.2.1; simp at this ⊢; omega) (by have := HQ.out.2.1; simp at this ⊢; omega)
            have hb08 : Below w.heap.size w w8 := hS8.belowOf hb07 hb07.size (by have := HB.out; simp; omega)
            have lc := hL8.cell n hn8
            have lf := hL8.fr n
            unfold bv at lc
            obtain ⟨w6, hw6⟩ : ∃ w6, w8.setCell ⟨w2.heap.size + 1, n, none⟩ (.bool true) = w6 := ⟨_, rfl⟩
            have hS6 : Sole [w2.heap.size + 1] w8 w6 := by rw [← hw6]; exact Sole.setCell _ _ (by simp)
            have hL6 : Row8 w6 (w2.heap.size + 1) 55 (fun i => bv (L6 i)) := by
              rw [← hw6]
              have := hL8.set n (.bool true)
              have e : (fun i => bv (L6 i)) = (fun i => if i = n then Value.bool true else bv (L i)) := funext fun i => by rw [HL6.out]; unfold bv; split <;> rfl
              rw [e]
              exact this
            have hN6 := hN8.other hS6 (by simp)
            have hd6 := hd8.other hS6 (by have := HQ.out.2.2; simp at this ⊢; omega) (by have := HQ.out.2.2; simp at this ⊢; omega) (by have := HQ.out.2.2; simp at this ⊢; omega)
            have hb06 : Below w.heap.size w w6 := hS6.belowOf hb08 hb08.size (by have := HB.out; simp; omega)
            clear q3 hd5 hN5 hL5 hb05 hb7 hr7 hd7 hN7 hL7 hb07 hS8 hN8 hL8 hd8 hb08 hS6
            go_wp2_with fail
            clear k7 kc kf lc lf hw8 hw6
            go_loopw [12, 81] (fun c t wx => ∃ (j : Nat), j ≤ 8 ∧ t = .int .i64 j ∧ c = .int .i64 (((List.range j).filter L6).length : Nat) ∧ Below w6.heap.size w6 wx) (fun _ t _ => 8 - (RowKit.intOf t).toNat)
            case atStart => exact ⟨0, by omega, rfl, rfl, Below.refl _ _⟩
            case round =>
              obtain ⟨j, hj, rfl, rfl, hbx⟩ := hrel
              have hcl : ((List.range j).filter L6).length ≤ j := by
                have := List.length_filter_le L6 (List.range j)
                simpa using this
              by_cases hj8 : j < 8
              · have hr1 := disk_Read_rd (hd6.below hbx) (j : Int) (by omega) (by omega) (un_use hU6 (by omega) (by omega))
                unfold ptr at hr1
                go_wp2_with fail
                refine hr1.mono ?_
                rintro e wa ⟨ga, rfl, _, _, hra, hba⟩
                have hb1a := hbx.trans (hba.mono hbx.size)
                have hj8I : (j : Int) < 8 := by omega
                have ca : ∀ n, (convert 33 9 (.slice (some ⟨ga, 0, none⟩) 512 512)).run Try.prog (wa.drewN n) = .ok (.string (strOfNums (seen s6 j))) (wa.drewN n) := fun n => (hra.below (below_drewN (Below.refl _ wa) n)).conv
                have cn : wa.cell? ⟨w2.heap.size, j, none⟩ = some (.string (strOfNums (seen s6 j))) := by
                  have := (hN6.below hb1a).cell j hj8
                  rw [this, hf6 j hj8]; rfl
                have cl : wa.cell? ⟨w2.heap.size + 1, j, none⟩ = some (.bool (L6 j)) := (hL6.below hb1a).cell j hj8
                generalize strOfNums (seen s6 j) = X at *
                have HL : Hid (((List.range (j + 1)).filter L6).length = ((List.range j).filter L6).length + (if L6 j then 1 else 0)) := by
                  unfold Hid
                  rw [List.range_succ, List.filter_append, List.length_append]
                  cases hL : L6 j <;> simp [hL]
                generalize ((List.range j).filter L6).length = cj at *
                clear hr1 hra hba hbx
                cases hlj : L6 j
                · rw [hlj] at cl HL
                  clear hlj
                  go_wp2_with fail
                  go_quiet (fail)
                  clear ca cn
                  have cl' : (wa.drewN nq).cell? ⟨w2.heap.size + 1, j, none⟩ = some (.bool false) := cl
                  go_wp2_with fail
                  go_roundw
                  case rel => exact ⟨j + 1, by omega, by go_num, by rw [HL.out]; simp, below_drewN hb1a _⟩
                  case measure => simp [RowKit.intOf]; omega
                · rw [hlj] at cl HL
                  clear hlj
                  go_wp2_with fail
                  go_quiet (fail)
                  clear ca cn
                  have cl' : (wa.drewN nq).cell? ⟨w2.heap.size + 1, j, none⟩ = some (.bool true) := cl
                  go_wp2_with fail
                  go_roundw
                  case rel => exact ⟨j + 1, by omega, by go_num, by rw [HL.out]; simp, below_drewN hb1a _⟩
                  case measure => simp [RowKit.intOf]; omega
              · have hjI : ¬ (j : Int) < 8 := by omega
                obtain rfl : j = 8 := by omega
                have hpe := disk_Pending (hd6.below hbx)
                rw [keys8 hd6.good hU6 hL6e] at hpe
                unfold ptr at hpe
                have HK : Hid (∀ x ∈ ((List.range 8).filter L6).map Int.ofNat, ∃ n : Nat, n < 8 ∧ x = (n : Int) ∧ L6 n = true) := fun x hx => by
                  obtain ⟨n, hn, rfl⟩ := List.mem_map.1 hx
                  obtain ⟨h1, h2⟩ := List.mem_filter.1 hn
                  exact ⟨n, List.mem_range.1 h1, rfl, h2⟩
                have hlm : (((List.range 8).filter L6).map Int.ofNat).length = ((List.range 8).filter L6).length := List.length_map _
                obtain ⟨cj, hcj⟩ : ∃ cj, ((List.range 8).filter L6).length = cj := ⟨_, rfl⟩
                rw [hcj] at hlm hcl
                generalize ((List.range 8).filter L6).map Int.ofNat = ks at *
                rw [hcj]
                clear hcj
                go_wp2_with fail
                refine hpe.mono ?_
                rintro e wp ⟨vp, rfl, hrow, hbp'⟩
                obtain ⟨ap, capp, rfl, hcap, hcmp, hcells⟩ := ints_shape hrow
                rw [hlm] at hcap hcells ⊢
                have hb6p : Below w6.heap.size w6 wp := hbx.trans (hbp'.mono hbx.size)
                clear hrow hpe hbx
                go_wp2_with fail
                go_loopw [114] (fun t wx => ∃ (i : Nat), i ≤ cj ∧ t = .int .i64 i ∧ wx = wp) (fun t _ => cj - (RowKit.intOf t).toNat)
                case atStart => exact ⟨0, by omega, rfl, rfl⟩
                case round =>
                  obtain ⟨i, hi, rfl, rfl⟩ := hrel
                  by_cases hic : i < cj
                  · obtain ⟨gp, rfl, hgp0, hgp1, hcs⟩ := hcells (by omega)
                    have hc1 := hcs i hic
                    obtain ⟨nx, hnx, ex, hLx⟩ := HK.out (ks.getD i 0) (by rw [List.getD_eq_getElem?_getD, List.getElem?_eq_getElem (by omega)]; exact List.getElem_mem _)
                    rw [ex] at hc1
                    have hnxI : (nx : Int) < 8 := by omega
                    have clx : wr.cell? ⟨w2.heap.size + 1, nx, none⟩ = some (.bool true) := by
                      have := (hL6.below hb6p).cell nx hnx
                      rw [this, hLx]; rfl
                    clear hcells hcs hLx ex
                    go_wp2_with fail
                    go_roundw
                    case rel => exact ⟨i + 1, by omega, by go_num, by first | rfl | trivial⟩
                    case measure => simp [RowKit.intOf]; omega
                  · obtain rfl : i = cj := by omega
                    clear hcells
                    go_wp2_with fail
                    go_roundw
                    case rel => exact ⟨k + 1, s6, f6, L6, by omega, by go_num, hU6, hf6, hL6e, hN6.below hb6p, hL6.below hb6p, hd6.below hb6p, hb06.trans (hb6p.mono hb06.size)⟩
                    case measure => simp [RowKit.intOf]; omega
        · obtain rfl : k = len := by omega
          go_wp2_with fail
          go_ret
          exact ⟨rfl, hbr⟩

/-! ### The row -/
set_option maxRecDepth 100000 in
theorem lifted (os : Os) (started : os.Started) (H : Type) (enc : TypeId × Value → H) :
    ReturnsInHanded {} Try.checked os 7 .any (Rows.diskReadsSpec.pre6 enc Try.prog Try.f7 Rows.diskReadsRow.domain false) (Rows.diskReadsSpec.post enc Try.prog Try.f7 false true false false) := by
  refine returnsInHanded_of_change (C := Try.checked) own started (by kernel_rfl) Try.func7
    (ChangeSpec.witness6 (enc := enc) (C := Try.checked) false ⟨#[], #[.slice none 0 0], []⟩ 8 (by kernel_rfl) (by kernel_rfl) (by kernel_rfl) (by kernel_rfl)) ?_
  intro W base args ds gs before hval0 hW hcnd _
  have hval : ∀ (j : Nat) t v, Try.f7.params[j]? = some t → args[j]? = some v → Value.okWide Try.prog W .any base t v := hval0
  have hW' := hW
  obtain ⟨p, q, hA0, hV, rfl, hfz, hnd⟩ := hW
  have hA : DataW.TrodAll enc Try.prog W 0 (fun _ => true) true Try.f7.params.toList args.toList ds p := hA0
  rw [Try.params7] at hA hval
  obtain ⟨v0, vs0, d0, ds0, p0, q0, hargs, rfl, rfl, h0, r0⟩ := trodAll_cons hA
  obtain ⟨rfl, rfl, rfl⟩ := trodAll_nil r0
  obtain rfl : args = #[v0] := by cases args; simp_all
  obtain ⟨rfl, rfl⟩ := trodVars_none hV
  obtain ⟨a0, len0, cap0, rfl⟩ := okWide_slice Try.underlying22 (hval 0 22 v0 rfl rfl)
  have k0 := h0
  have lt0 : ∀ x ∈ p0, x.block < W.heap.size := by obtain ⟨m, hm⟩ := k0; exact DataW.trod_lt m _ _ _ hm
  obtain ⟨o0, w0⟩ : ∃ os, OpsAt W a0 len0 cap0 os := by
    obtain ⟨fuel, hf⟩ := h0
    exact opsAt_of hf
  clear hA0 hval0
  refine (walk a0 len0 cap0 o0 W w0).mono fun e W' ⟨he, bel⟩ => ?_
  subst he
  exact ⟨_, rfl, _, _, _, [], _, [], hW', trodAll_mk1 (shut_bool Try.underlying4 _), (trodAll_cons_mk (Below.trod laidOut (by kernel_rfl) (of_decide_eq_true (by kernel_rfl)) k0 bel lt0) trodAll_mk0), rfl, bel.frame _, fun h => by cases h⟩

theorem over : Rows.diskReadsRow.holds Try.pinned (OpenSpec.ofChange Rows.diskReadsSpec) :=
  OpenClaim.holds_of_wide 7 Try.f7 rfl rfl rfl rfl rfl rfl rfl ⟨rfl, rfl, rfl, rfl, rfl⟩ rfl rfl rfl rfl rfl (by kernel_rfl) Try.func7 (by kernel_rfl)
    (of_decide_eq_true (by kernel_rfl)) (by unfold Func.isWrapper; first | (rw [if_pos (by decide +kernel)]; kernel_rfl) | (rw [if_neg (by decide +kernel)]; exact ⟨rfl, rfl⟩))
    (fun os started H enc _ => lifted os started H enc)

end Go.Proofs.Ytjfhcbokfbbbhaa.diskReads

namespace Go.Proofs.Ytjfhcbokfbbbhaa
/-- The statement. -/
theorem diskReads_proved : Rows.DiskReadsSaid := diskReads.over
#print axioms diskReads_proved
end Go.Proofs.Ytjfhcbokfbbbhaa
