/- The contract of view.standing over a store that may fail. -/
import Derived.Test.YtjjhfginmamlkaaGreatVwSoL
import Derived.Test.YtjjhfginmamlkaaGreatV6
namespace Go.Proofs.YtjjhfginmamlkaaGreat
open Go.RowKit
set_option linter.unusedVariables false
set_option linter.unusedSimpArgs false
set_option maxRecDepth 100000

theorem sole_setRow (w : World) (k : Nat) (cs : Array Value) : Sole [k] w (w.setRow k cs) := ⟨rfl, rfl, rfl, by simp [World.setRow], fun i hi hn => setRow_other _ _ _ _ (fun e => hn (by simp [e]))⟩
theorem SoL.setRow {w : World} {g : Nat} {a : Option Addr} {n cap : Nat} {l : List (ByteArray × ByteArray)} {f : Int} (h : SoL w g a n cap l f) (k : Nat) (cs : Array Value) (hk : g ≠ k) (hq : ∀ q, 0 < n → a = some q → q.block ≠ k) : SoL (w.setRow k cs) g a n cap l f :=
  ⟨(setRow_other _ _ _ _ hk).trans h.row, h.at_.keepG (sole_setRow w k cs).size (fun q hp e _ => setRow_other _ _ _ _ (hq q hp e)), h.hi⟩
theorem SoL.lts {w : World} {g : Nat} {a : Option Addr} {n cap : Nat} {l : List (ByteArray × ByteArray)} {f : Int} (h : SoL w g a n cap l f) : ∀ q, 0 < n → a = some q → q.block < w.heap.size := by
  intro q hp e
  obtain ⟨b, off, e', hlt, _⟩ := h.at_.2.2.2 hp
  rw [e] at e'; cases e'; exact hlt
/-- What the base has at a place, or why that is not told; how often it may be asked behind it. -/
def stV (l : List (ByteArray × ByteArray)) (f : Int) (q : Pl) : It × Bool × Int := if plOk q = true ∧ f = 0 then (it0, false, 70) else (stI l q, stB l q, stE l q)
def stF (f : Int) (q : Pl) : Int := if plOk q then decL f else f

set_option maxHeartbeats 4000000 in
theorem standing_l {w : World} {g : Nat} {a : Option Addr} {n cap : Nat} {l : List (ByteArray × ByteArray)} {f : Int} (hS : SoL w g a n cap l f) (q : Pl) (hq : PlOk q) : Calls Tryz.prog 98 #[baV g, plV q] w fun e w' =>
    e = .returned (.tuple #[.agg (itC (stV l f q).1), .bool (stV l f q).2.1, .int .i64 (stV l f q).2.2]) ∧ Sole [g] w w' ∧ SoL w' g a n cap l (stF f q) := by
  have HGL : Hid (g < w.heap.size) := hS.lt
  have HPB : Hid (∀ q, 0 < n → a = some q → q.block < w.heap.size) := hS.lts
  have hz := zeroItem
  have len0 := ch_zero.1
  have al : ∀ (A : World) (o : Obj), Below A.heap.size A (A.alloc o) := fun A o => (Below.refl _ A).alloc (Nat.le_refl _) o
  have hq1 := PlAt.laid w q
  have hb1 := al w (.cells (plCells q) 87)
  have HS1 : Hid (w.heap.size < (w.alloc (.cells (plCells q) 87)).heap.size) := by unfold Hid; simp
  obtain ⟨w1, hw1⟩ : ∃ w1, w.alloc (.cells (plCells q) 87) = w1 := ⟨_, rfl⟩
  rw [hw1] at hq1 hb1 HS1
  have hi2 := ItAt.laid 150 w1 it0
  have hb2 := al w1 (.cells (itC it0) 150)
  obtain ⟨w2, hw2⟩ : ∃ w2, w1.alloc (.cells (itC it0) 150) = w2 := ⟨_, rfl⟩
  rw [hw2] at hi2 hb2
  have hq2 := hq1.below hb2
  have hB2 := thenB hb1 hb2
  have lp2 : Hid _ := hq2.loadG
  have ck := key_any w2 q hq
  unfold plE at ck
  rw [show plV q = .agg (plCells q) from rfl] at ck ⊢
  rw [show plV q = .agg (plCells q) from rfl] at lp2
  unfold baV
  go_enter Tryz.func98, Tryz.ntmps98
  go_wp2_with (refine wpList_loadG rfl 87 _ rfl _ rfl _ lp2.out ?_)
  refine ck.mono ?_
  rintro e w3 ⟨rfl, hb3⟩
  clear ck lp2
  have hB3 := thenB hB2 hb3
  have hi3 := hi2.below hb3
  have hq3 := hq2.below hb3
  have hle : w.heap.size ≤ w1.heap.size := Nat.le_of_lt HS1.out
  cases hok : plOk q
  · have e1 : Hid (stB l q = false) := by unfold Hid stB; rw [hok]; rfl
    have e2 : Hid (stI l q = it0) := by unfold Hid stI; rw [e1.out]; rfl
    have e3 : Hid (stE l q = 30) := by unfold Hid stE; rw [hok]; rfl
    have HV : Hid (stV l f q = (it0, false, 30)) := by unfold Hid stV; rw [hok, if_neg (by simp), e1.out, e2.out, e3.out]
    have HFF : Hid (stF f q = f) := by unfold Hid stF; rw [hok]; rfl
    have HSX : Hid (SoL w3 g a n cap l f) := hS.below hB3
    rw [show (if false = true then (0 : Int) else 30) = 30 from rfl]
    clear hok
    go_wp2_with (first | (refine wpList_buildBy rfl 150 _ rfl _ rfl [] (by kernel_rfl) (itC it0) built_zero ?_) | (refine wpList_storeI rfl _ _ rfl w1.heap.size it0 it0 rfl rfl len0 len0 hi3 ?_))
    exact ret_item3 rfl w1.heap.size it0 len0 rfl _ rfl _ rfl (hi3.setRow _) rfl ⟨by rw [HV.out]; rfl, (Sole.of_below hB3 _).after (sole_setRow _ _ _) (fun k hk => .inr (by rw [List.mem_singleton] at hk; omega)), by rw [HFF.out]; exact HSX.out.setRow _ _ (by have := HGL.out; omega) (fun q hp e => by have := HPB.out q hp e; omega)⟩
  · rw [show (if true = true then (0 : Int) else 30) = 0 from rfl]
    have HK : Hid (plOk q = true) := hok
    have HFF : Hid (stF f q = decL f) := by unfold Hid stF; rw [hok]; rfl
    clear hok
    have cg := sget_l (hS.below hB3) (keyS q)
    go_wp2_with fail
    refine cg.mono ?_
    rintro e w4 ⟨rfl, hs4, hS4⟩
    clear cg
    have HS4 : Hid (Sole [g] w w4) := (Sole.of_below hB3 _).trans hs4
    have HX4 : Hid (SoL w4 g a n cap l (decL f)) := hS4
    have hi4 : ItAt 150 w4 w1.heap.size it0 := ⟨(hs4.block _ (Array.getElem?_eq_some_iff.1 hi3.row).1 (fun e => by rw [List.mem_singleton] at e; have := HGL.out; omega)).trans hi3.row⟩
    have hq4 : PlAt w4 w.heap.size q := ⟨(hs4.block _ (Array.getElem?_eq_some_iff.1 hq3.row).1 (fun e => by rw [List.mem_singleton] at e; have := HGL.out; omega)).trans hq3.row⟩
    clear hs4 hS4
    by_cases hf0 : f = 0
    · have e0 : gtR l f (keyS q) = (⟨#[]⟩, false, 70) := by unfold gtR; rw [if_pos hf0]
      rw [e0]
      have HV : Hid (stV l f q = (it0, false, 70)) := by unfold Hid stV; rw [if_pos ⟨HK.out, hf0⟩]
      clear e0 hf0
      go_wp2_with (first | (refine wpList_buildBy rfl 150 _ rfl _ rfl [] (by kernel_rfl) (itC it0) built_zero ?_) | (refine wpList_storeI rfl _ _ rfl w1.heap.size it0 it0 rfl rfl len0 len0 hi4 ?_))
      exact ret_item3 rfl w1.heap.size it0 len0 rfl _ rfl _ rfl (hi4.setRow _) rfl ⟨by rw [HV.out]; rfl, HS4.out.after (sole_setRow _ _ _) (fun k hk => .inr (by rw [List.mem_singleton] at hk; omega)), by rw [HFF.out]; exact HX4.out.setRow _ _ (by have := HGL.out; omega) (fun q hp e => by have := HPB.out q hp e; omega)⟩
    have e0 : gtR l f (keyS q) = (valS l (keyS q), fdB l (keyS q), 0) := by unfold gtR; rw [if_neg hf0]
    rw [e0]
    have HVV : Hid (stV l f q = (stI l q, stB l q, stE l q)) := by unfold Hid stV; rw [if_neg (fun h => hf0 h.2)]
    clear e0 hf0
    cases hF : fdB l (keyS q)
    · have e1 : Hid (stB l q = false) := by unfold Hid stB; rw [hF, Bool.and_false]; rfl
      have e2 : Hid (stI l q = it0) := by unfold Hid stI; rw [e1.out]; rfl
      have e3 : Hid (stE l q = 0) := by unfold Hid stE; rw [HK.out, hF]; rfl
      go_wp2_with (first | (refine wpList_buildBy rfl 150 _ rfl _ rfl [] (by kernel_rfl) (itC it0) built_zero ?_) | (refine wpList_storeI rfl _ _ rfl w1.heap.size it0 it0 rfl rfl len0 len0 hi4 ?_))
      exact ret_item3 rfl w1.heap.size it0 len0 rfl _ rfl _ rfl (hi4.setRow _) rfl ⟨by rw [HVV.out, e1.out, e2.out, e3.out]; rfl, HS4.out.after (sole_setRow _ _ _) (fun k hk => .inr (by rw [List.mem_singleton] at hk; omega)), by rw [HFF.out]; exact HX4.out.setRow _ _ (by have := HGL.out; omega) (fun q hp e => by have := HPB.out q hp e; omega)⟩
    · have HF : Hid (fdB l (keyS q) = true) := hF
      clear hF
      have p1 := hq4.c1
      have cd := decode_any w4 q.part (valS l (keyS q))
      go_wp2_with fail
      refine cd.mono ?_
      rintro e w5 ⟨rfl, hb5⟩
      clear cd
      have hi5 := hi4.below hb5
      have hdo := (decI_ok q.part (valS l (keyS q))).ch.1
      obtain ⟨de, hde⟩ : ∃ de, decE q.part (valS l (keyS q)) = de := ⟨_, rfl⟩
      obtain ⟨x, hx⟩ : ∃ x, decI q.part (valS l (keyS q)) = x := ⟨_, rfl⟩
      have HD : Hid (decE q.part (valS l (keyS q)) = de) := hde
      have HX : Hid (decI q.part (valS l (keyS q)) = x) := hx
      rw [hde, hx]
      rw [hx] at hdo
      clear hde hx
      have HO : Hid (x.bytes.length = 32) := hdo
      clear hdo
      have hn6 := ItAt.laid 150 w5 it0
      have hb6 := alloc_row (A := w5) (.cells (itC it0) 150) (itC x)
      have hx6 := hn6.setRow x
      obtain ⟨w6, hw6⟩ : ∃ w6, (w5.alloc (.cells (itC it0) 150)).setRow w5.heap.size (itC x) = w6 := ⟨_, rfl⟩
      rw [hw6] at hb6 hx6
      have HB6 : Hid (Below w4.heap.size w4 w6) := thenB hb5 hb6
      have hi6 := hi5.below hb6
      have l6 : Hid _ := hx6.loadW HO.out
      by_cases h0 : de = 0
      · subst h0
        have e1 : Hid (stB l q = true) := by unfold Hid stB; rw [HK.out, HF.out, HD.out]; rfl
        have e2 : Hid (stI l q = x) := by unfold Hid stI; rw [e1.out, HX.out]; rfl
        have e3 : Hid (stE l q = 0) := by unfold Hid stE; rw [HK.out, HF.out, HD.out]; rfl
        go_wp2_with (first
          | (refine wpList_storeI rfl _ _ rfl w5.heap.size x it0 rfl rfl HO.out len0 hn6 ?_; rw [hw6])
          | (refine wpList_loadG rfl 150 _ rfl _ rfl _ l6.out ?_)
          | (refine wpList_storeI rfl _ _ rfl w1.heap.size x it0 rfl rfl HO.out len0 hi6 ?_))
        exact ret_item3 rfl w1.heap.size x HO.out rfl _ rfl _ rfl (hi6.setRow _) rfl ⟨by rw [HVV.out, e1.out, e2.out, e3.out]; rfl, (HS4.out.trans (Sole.of_below HB6.out _)).after (sole_setRow _ _ _) (fun k hk => .inr (by rw [List.mem_singleton] at hk; omega)), by rw [HFF.out]; exact (HX4.out.below HB6.out).setRow _ _ (by have := HGL.out; omega) (fun q hp e => by have := HPB.out q hp e; omega)⟩
      · have e1 : Hid (stB l q = false) := by unfold Hid stB; rw [HK.out, HF.out, HD.out, decide_eq_false h0]; rfl
        have e2 : Hid (stI l q = it0) := by unfold Hid stI; rw [e1.out]; rfl
        have e3 : Hid (stE l q = de) := by unfold Hid stE; rw [HK.out, HF.out, HD.out]; rfl
        go_wp2_with (first
          | (refine wpList_storeI rfl _ _ rfl w5.heap.size x it0 rfl rfl HO.out len0 hn6 ?_; rw [hw6])
          | (refine wpList_buildBy rfl 150 _ rfl _ rfl [] (by kernel_rfl) (itC it0) built_zero ?_)
          | (refine wpList_storeI rfl _ _ rfl w1.heap.size it0 it0 rfl rfl len0 len0 hi6 ?_))
        exact ret_item3 rfl w1.heap.size it0 len0 rfl _ rfl _ rfl (hi6.setRow _) rfl ⟨by rw [HVV.out, e1.out, e2.out, e3.out]; rfl, (HS4.out.trans (Sole.of_below HB6.out _)).after (sole_setRow _ _ _) (fun k hk => .inr (by rw [List.mem_singleton] at hk; omega)), by rw [HFF.out]; exact (HX4.out.below HB6.out).setRow _ _ (by have := HGL.out; omega) (fun q hp e => by have := HPB.out q hp e; omega)⟩

end Go.Proofs.YtjjhfginmamlkaaGreat
