/- VwSoL, VwStL, VwChL, VwGtL: in one text. -/
import Derived.Test.YtkmckipfjahlcaaGreatVwStore
import Derived.Test.YtkmckipfjahlcaaGreatV6
import Derived.Test.YtkmckipfjahlcaaGreatVwChg2
import Derived.Test.YtkmckipfjahlcaaGreatVwGet
namespace Go.Proofs.YtkmckipfjahlcaaGreat
open Go.RowKit
set_option linter.unusedVariables false
set_option linter.unusedSimpArgs false
set_option maxRecDepth 4000

set_option maxRecDepth 100000

/-- How often a store may be asked behind one more call. -/
def decL (f : Int) : Int := if f ≤ 0 then f else f - 1
/-- Where a store lies that may be asked so often yet (below 0: always). -/
structure SoL (w : World) (g : Nat) (a : Option Addr) (n cap : Nat) (l : List (ByteArray × ByteArray)) (f : Int) : Prop where
  row : w.heap[g]? = some (.cells #[.slice a n cap, .int .i64 f] 74 (0, 0))
  at_ : RdK w a n cap l
  hi : f ≤ 9223372036854775807
theorem SoL.lt {w : World} {g : Nat} {a : Option Addr} {n cap : Nat} {l : List (ByteArray × ByteArray)} {f : Int} (h : SoL w g a n cap l f) : g < w.heap.size := (Array.getElem?_eq_some_iff.1 h.row).1
theorem SoL.below {w w' : World} {g : Nat} {a : Option Addr} {n cap : Nat} {l : List (ByteArray × ByteArray)} {f : Int} (h : SoL w g a n cap l f) (hb : Below w.heap.size w w') : SoL w' g a n cap l f := ⟨(hb.block g h.lt).trans h.row, h.at_.below hb, h.hi⟩
theorem SoL.c0 {w : World} {g : Nat} {a : Option Addr} {n cap : Nat} {l : List (ByteArray × ByteArray)} {f : Int} (h : SoL w g a n cap l f) : w.cell? ⟨g, 0, none⟩ = some (.slice a n cap) := by rw [cell_of_row _ _ _ _ _ (0, 0) h.row]; rfl
theorem SoL.c1 {w : World} {g : Nat} {a : Option Addr} {n cap : Nat} {l : List (ByteArray × ByteArray)} {f : Int} (h : SoL w g a n cap l f) : w.cell? ⟨g, 1, none⟩ = some (.int .i64 f) := by rw [cell_of_row _ _ _ _ _ (0, 0) h.row]; rfl
theorem SoL.f1 {w : World} {g : Nat} {a : Option Addr} {n cap : Nat} {l : List (ByteArray × ByteArray)} {f : Int} (h : SoL w g a n cap l f) : w.frozen? ⟨g, 1, none⟩ = false := by simp [World.frozen?, h.row]
/-- The pairs lie elsewhere. -/
theorem SoL.apart {w : World} {g : Nat} {a : Option Addr} {n cap : Nat} {l : List (ByteArray × ByteArray)} {f : Int} (h : SoL w g a n cap l f) : ∀ q, 0 < n → a = some q → q.block ≠ g := by
  intro q hp e
  obtain ⟨h1, h2, h3, h4⟩ := h.at_
  obtain ⟨b, off, e', hb, hc⟩ := h4 hp
  rw [e] at e'
  cases e'
  intro eg
  dsimp only at eg
  subst eg
  obtain ⟨p, hp'⟩ : ∃ p, l[0]? = some p := ⟨_, List.getElem?_eq_getElem (by omega)⟩
  have := (hc 0 p hp').1
  rw [cell_of_row _ _ _ _ _ (0, 0) h.row] at this
  rcases hk : off + 0 * 2 with _ | _ | k
  · rw [hk] at this; simp at this
  · rw [hk] at this; simp at this
  · rw [hk] at this; simp at this
theorem RdK.keepG {w w' : World} {a : Option Addr} {n cap : Nat} {l : List (ByteArray × ByteArray)} (h : RdK w a n cap l) (hs : w.heap.size ≤ w'.heap.size) (hk : ∀ q, 0 < n → a = some q → q.block < w.heap.size → w'.heap[q.block]? = w.heap[q.block]?) : RdK w' a n cap l := by
  obtain ⟨h1, h2, h3, h4⟩ := h
  refine ⟨h1, h2, h3, fun hp => ?_⟩
  obtain ⟨b, off, e, hb', hc⟩ := h4 hp
  have hb := hk _ hp e hb'
  refine ⟨b, off, e, Nat.lt_of_lt_of_le hb' hs, fun i p hi => ?_⟩
  obtain ⟨c1, c2⟩ := hc i p hi
  have cc : ∀ j, w'.cell? ⟨b, j, none⟩ = w.cell? ⟨b, j, none⟩ := fun j => by simp [World.cell?, hb]
  exact ⟨(cc _).trans c1, (cc _).trans c2⟩
theorem SoL.turn {w : World} {g : Nat} {a : Option Addr} {n cap : Nat} {l : List (ByteArray × ByteArray)} {f : Int} (h : SoL w g a n cap l f) (f' : Int) (hf : f' ≤ 9223372036854775807) : SoL (w.setCell ⟨g, 1, none⟩ (.int .i64 f')) g a n cap l f' :=
  ⟨heap_setCell_same w g 1 _ _ (.int .i64 f') h.row, h.at_.keepG (by simp [World.setCell]) (fun q hp e hl => heap_setCell_other w ⟨g, 1, none⟩ q.block _ (h.apart q hp e)), hf⟩

set_option maxHeartbeats 1000000 in
theorem fails_l {w : World} {g : Nat} {a : Option Addr} {n cap : Nat} {l : List (ByteArray × ByteArray)} {f : Int} (h : SoL w g a n cap l f) : Calls Tryz.prog 182 #[.pointer (some ⟨g, 0, none⟩)] w fun e w' =>
    e = .returned (.bool (decide (f = 0))) ∧ Sole [g] w w' ∧ SoL w' g a n cap l (decL f) := by
  have c1 := h.c1
  have f1 := h.f1
  have hh := h.hi
  by_cases h0 : f = 0
  · subst h0
    have HR : Hid (SoL w g a n cap l (decL 0)) := h
    clear h
    go_enter Tryz.func182, Tryz.ntmps182
    go_wp2
    go_ret
    exact ⟨rfl, Sole.of_below (Below.refl _ _) _, HR.out⟩
  · have h0b : (f == 0) = false := by simpa using h0
    have hd : decide (f = 0) = false := by simpa using h0
    rw [hd]
    by_cases hp : 0 < f
    · have e : decL f = f - 1 := by unfold decL; rw [if_neg (by omega)]
      rw [e]
      have HR : Hid (SoL (w.setCell ⟨g, 1, none⟩ (.int .i64 (f - 1))) g a n cap l (f - 1)) := h.turn _ (by omega)
      have HS : Hid (Sole [g] w (w.setCell ⟨g, 1, none⟩ (.int .i64 (f - 1)))) := Sole.setCell w _ (by simp)
      clear h e h0 hd
      go_enter Tryz.func182, Tryz.ntmps182
      go_wp2
      go_ret
      exact ⟨rfl, HS.out, HR.out⟩
    · have e : decL f = f := by unfold decL; rw [if_pos (by omega)]
      rw [e]
      have HR : Hid (SoL w g a n cap l f) := h
      clear h e h0 hd
      go_enter Tryz.func182, Tryz.ntmps182
      go_wp2
      go_ret
      exact ⟨rfl, Sole.of_below (Below.refl _ _) _, HR.out⟩

/-- What a store tells. -/
def gtR (l : List (ByteArray × ByteArray)) (f : Int) (k : ByteArray) : ByteArray × Bool × Int := if f = 0 then (⟨#[]⟩, false, 70) else (valS l k, fdB l k, 0)

set_option maxHeartbeats 2000000 in
theorem sget_l {w : World} {g : Nat} {a : Option Addr} {n cap : Nat} {l : List (ByteArray × ByteArray)} {f : Int} (h : SoL w g a n cap l f) (k : ByteArray) : Calls Tryz.prog 181 #[.pointer (some ⟨g, 0, none⟩), .string k] w fun e w' =>
    e = .returned (.tuple #[.string (gtR l f k).1, .bool (gtR l f k).2.1, .int .i64 (gtR l f k).2.2]) ∧ Sole [g] w w' ∧ SoL w' g a n cap l (decL f) := by
  have cf := fails_l h
  have hle := fdN_le l k
  have hl := h.at_.1
  have HR : Hid (gtR l f k = if f = 0 then (⟨#[]⟩, false, 70) else (valS l k, fdB l k, 0)) := rfl
  generalize gtR l f k = R at *
  clear h
  go_enter Tryz.func181, Tryz.ntmps181
  go_wp2_with fail
  refine cf.mono ?_
  rintro e w1 ⟨rfl, hs1, hS1⟩
  clear cf
  have HS1 : Hid (SoL w1 g a n cap l (decL f)) := hS1
  have HL1 : Hid (Sole [g] w w1) := hs1
  clear hs1
  by_cases h0 : f = 0
  · have hd : decide (f = 0) = true := by simpa using h0
    rw [hd]
    have HE : Hid (R = (⟨#[]⟩, false, 70)) := by unfold Hid; rw [HR.out, if_pos h0]
    clear HR hS1 h0 hd
    go_wp2
    go_ret3
    exact ⟨by rw [HE.out]; first | done | rfl, HL1.out, HS1.out⟩
  have hd : decide (f = 0) = false := by simpa using h0
  rw [hd]
  have HE : Hid (R = (valS l k, fdB l k, 0)) := by unfold Hid; rw [HR.out, if_neg h0]
  have c0 := hS1.c0
  have ci := find_any w1 a n cap l hS1.at_ k
  clear HR hS1 h0 hd
  go_wp2_with fail
  refine ci.mono ?_
  rintro e w2 ⟨rfl, hb2⟩
  clear ci
  have hS2 := HS1.out.below hb2
  have d0 := hS2.c0
  have HS2 : Hid (SoL w2 g a n cap l (decL f)) := hS2
  have HL2 : Hid (Sole [g] w w2) := HL1.out.trans (Sole.of_below hb2 _)
  clear hb2
  cases hB : fdB l k
  · have HV : Hid (R = (⟨#[]⟩, false, 0)) := by unfold Hid; rw [HE.out]; unfold valS; rw [hB]; rfl
    clear hS2
    go_wp2
    go_ret3
    exact ⟨by rw [HV.out]; first | done | rfl, HL2.out, HS2.out⟩
  · obtain ⟨p, hp, _⟩ := fdB_lt hB
    have hlt := (List.getElem?_eq_some_iff.1 hp).1
    have HV : Hid (R = (p.2, true, 0)) := by unfold Hid; rw [HE.out]; unfold valS; rw [hB, if_pos rfl, List.getD_eq_getElem?_getD, hp]; rfl
    obtain ⟨_, hnc, hcm, hI⟩ := hS2.at_
    obtain ⟨b, off, rfl, hb, hcs⟩ := hI (by omega)
    obtain ⟨_, x1⟩ := hcs _ p hp
    obtain ⟨i, hi⟩ : ∃ i, fdN l k = i := ⟨_, rfl⟩
    rw [hi] at x1 hlt
    rw [hi]
    have hltI : (i : Int) < n := by omega
    unfold maxLen at hcm
    clear hI hcs hp hi hS2
    go_wp2
    go_ret3
    exact ⟨by rw [HV.out]; first | done | rfl, HL2.out, HS2.out⟩

set_option maxRecDepth 100000

theorem sole_setRow (w : World) (k : Nat) (cs : Array Value) : Sole [k] w (w.setRow k cs) := ⟨rfl, rfl, rfl, by simp [World.setRow], fun i hi hn => setRow_other _ _ _ _ (fun e => hn (by simp [e]))⟩
theorem SoL.setRow {w : World} {g : Nat} {a : Option Addr} {n cap : Nat} {l : List (ByteArray × ByteArray)} {f : Int} (h : SoL w g a n cap l f) (k : Nat) (cs : Array Value) (hk : g ≠ k) (hq : ∀ q, 0 < n → a = some q → q.block ≠ k) : SoL (w.setRow k cs) g a n cap l f :=
  ⟨(setRow_other _ _ _ _ hk).trans h.row, h.at_.keepG (sole_setRow w k cs).size (fun q hp e _ => setRow_other _ _ _ _ (hq q hp e)), h.hi⟩
theorem SoL.lts {w : World} {g : Nat} {a : Option Addr} {n cap : Nat} {l : List (ByteArray × ByteArray)} {f : Int} (h : SoL w g a n cap l f) : ∀ q, 0 < n → a = some q → q.block < w.heap.size := by
  intro q hp e
  obtain ⟨b, off, e', hlt, _⟩ := h.at_.2.2.2 hp
  rw [e] at e'; cases e'; exact hlt
/-- What the base has at a place, or why that is not told; how often it may be asked behind it. -/
def stV (l : List (ByteArray × ByteArray)) (f : Int) (q : Pl) : It × Bool × Int := if plOk q = true ∧ f = 0 then (it0, false, 70) else (stI l q, stB l q, stE l q)
def stF (f : Int) (q : Pl) : Int := if plOk q then decL f else f

set_option maxHeartbeats 4000000 in
theorem standing_l {w : World} {g : Nat} {a : Option Addr} {n cap : Nat} {l : List (ByteArray × ByteArray)} {f : Int} (hS : SoL w g a n cap l f) (q : Pl) (hq : PlOk q) : Calls Tryz.prog 50 #[baV g, plV q] w fun e w' =>
    e = .returned (.tuple #[.agg (itC (stV l f q).1), .bool (stV l f q).2.1, .int .i64 (stV l f q).2.2]) ∧ Sole [g] w w' ∧ SoL w' g a n cap l (stF f q) := by
  have HGL : Hid (g < w.heap.size) := hS.lt
  have HPB : Hid (∀ q, 0 < n → a = some q → q.block < w.heap.size) := hS.lts
  have hz := zeroItem
  have len0 := ch_zero.1
  have al : ∀ (A : World) (o : Obj), Below A.heap.size A (A.alloc o) := fun A o => (Below.refl _ A).alloc (Nat.le_refl _) o
  have hq1 := PlAt.laid w q
  have hb1 := al w (.cells (plCells q) 70)
  have HS1 : Hid (w.heap.size < (w.alloc (.cells (plCells q) 70)).heap.size) := by unfold Hid; simp
  obtain ⟨w1, hw1⟩ : ∃ w1, w.alloc (.cells (plCells q) 70) = w1 := ⟨_, rfl⟩
  rw [hw1] at hq1 hb1 HS1
  have hi2 := ItAt.laid 66 w1 it0
  have hb2 := al w1 (.cells (itC it0) 66)
  obtain ⟨w2, hw2⟩ : ∃ w2, w1.alloc (.cells (itC it0) 66) = w2 := ⟨_, rfl⟩
  rw [hw2] at hi2 hb2
  have hq2 := hq1.below hb2
  have hB2 := thenB hb1 hb2
  have lp2 : Hid _ := hq2.loadG
  have ck := key_any w2 q hq
  unfold plE at ck
  rw [show plV q = .agg (plCells q) from rfl] at ck ⊢
  rw [show plV q = .agg (plCells q) from rfl] at lp2
  unfold baV
  go_enter Tryz.func50, Tryz.ntmps50
  go_wp2_with (refine wpList_loadG rfl 70 _ rfl _ rfl _ lp2.out ?_)
  refine ck.mono ?_
  rintro e w3 ⟨rfl, hb3⟩
  clear ck lp2
  have hB3 := thenB hB2 hb3
  have hi3 := hi2.below hb3
  have hq3 := hq2.below hb3
  have hle : w.heap.size ≤ w1.heap.size := Nat.le_of_lt HS1.out
  cases hok : plOk q
  · have e1 : Hid (stB l q = false) := by unfold Hid stB; rw [hok]; rfl
    have e2 : Hid (stI l q = it0) := by unfold Hid stI; rw [e1.out]; rfl
    have e3 : Hid (stE l q = 30) := by unfold Hid stE; rw [hok]; rfl
    have HV : Hid (stV l f q = (it0, false, 30)) := by unfold Hid stV; rw [hok, if_neg (by simp), e1.out, e2.out, e3.out]
    have HFF : Hid (stF f q = f) := by unfold Hid stF; rw [hok]; rfl
    have HSX : Hid (SoL w3 g a n cap l f) := hS.below hB3
    rw [show (if false = true then (0 : Int) else 30) = 30 from rfl]
    clear hok
    go_wp2_with (first | (refine wpList_buildBy rfl 66 _ rfl _ rfl [] (by kernel_rfl) (itC it0) built_zero ?_) | (refine wpList_storeI rfl _ _ rfl w1.heap.size it0 it0 rfl rfl len0 len0 hi3 ?_))
    exact ret_item3 rfl w1.heap.size it0 len0 rfl _ rfl _ rfl (hi3.setRow _) rfl ⟨by rw [HV.out]; rfl, (Sole.of_below hB3 _).after (sole_setRow _ _ _) (fun k hk => .inr (by rw [List.mem_singleton] at hk; omega)), by rw [HFF.out]; exact HSX.out.setRow _ _ (by have := HGL.out; omega) (fun q hp e => by have := HPB.out q hp e; omega)⟩
  · rw [show (if true = true then (0 : Int) else 30) = 0 from rfl]
    have HK : Hid (plOk q = true) := hok
    have HFF : Hid (stF f q = decL f) := by unfold Hid stF; rw [hok]; rfl
    clear hok
    have cg := sget_l (hS.below hB3) (keyS q)
    go_wp2_with fail
    refine cg.mono ?_
    rintro e w4 ⟨rfl, hs4, hS4⟩
    clear cg
    have HS4 : Hid (Sole [g] w w4) := (Sole.of_below hB3 _).trans hs4
    have HX4 : Hid (SoL w4 g a n cap l (decL f)) := hS4
    have hi4 : ItAt 66 w4 w1.heap.size it0 := ⟨(hs4.block _ (Array.getElem?_eq_some_iff.1 hi3.row).1 (fun e => by rw [List.mem_singleton] at e; have := HGL.out; omega)).trans hi3.row⟩
    have hq4 : PlAt w4 w.heap.size q := ⟨(hs4.block _ (Array.getElem?_eq_some_iff.1 hq3.row).1 (fun e => by rw [List.mem_singleton] at e; have := HGL.out; omega)).trans hq3.row⟩
    clear hs4 hS4
    by_cases hf0 : f = 0
    · have e0 : gtR l f (keyS q) = (⟨#[]⟩, false, 70) := by unfold gtR; rw [if_pos hf0]
      rw [e0]
      have HV : Hid (stV l f q = (it0, false, 70)) := by unfold Hid stV; rw [if_pos ⟨HK.out, hf0⟩]
      clear e0 hf0
      go_wp2_with (first | (refine wpList_buildBy rfl 66 _ rfl _ rfl [] (by kernel_rfl) (itC it0) built_zero ?_) | (refine wpList_storeI rfl _ _ rfl w1.heap.size it0 it0 rfl rfl len0 len0 hi4 ?_))
      exact ret_item3 rfl w1.heap.size it0 len0 rfl _ rfl _ rfl (hi4.setRow _) rfl ⟨by rw [HV.out]; rfl, HS4.out.after (sole_setRow _ _ _) (fun k hk => .inr (by rw [List.mem_singleton] at hk; omega)), by rw [HFF.out]; exact HX4.out.setRow _ _ (by have := HGL.out; omega) (fun q hp e => by have := HPB.out q hp e; omega)⟩
    have e0 : gtR l f (keyS q) = (valS l (keyS q), fdB l (keyS q), 0) := by unfold gtR; rw [if_neg hf0]
    rw [e0]
    have HVV : Hid (stV l f q = (stI l q, stB l q, stE l q)) := by unfold Hid stV; rw [if_neg (fun h => hf0 h.2)]
    clear e0 hf0
    cases hF : fdB l (keyS q)
    · have e1 : Hid (stB l q = false) := by unfold Hid stB; rw [hF, Bool.and_false]; rfl
      have e2 : Hid (stI l q = it0) := by unfold Hid stI; rw [e1.out]; rfl
      have e3 : Hid (stE l q = 0) := by unfold Hid stE; rw [HK.out, hF]; rfl
      go_wp2_with (first | (refine wpList_buildBy rfl 66 _ rfl _ rfl [] (by kernel_rfl) (itC it0) built_zero ?_) | (refine wpList_storeI rfl _ _ rfl w1.heap.size it0 it0 rfl rfl len0 len0 hi4 ?_))
      exact ret_item3 rfl w1.heap.size it0 len0 rfl _ rfl _ rfl (hi4.setRow _) rfl ⟨by rw [HVV.out, e1.out, e2.out, e3.out]; rfl, HS4.out.after (sole_setRow _ _ _) (fun k hk => .inr (by rw [List.mem_singleton] at hk; omega)), by rw [HFF.out]; exact HX4.out.setRow _ _ (by have := HGL.out; omega) (fun q hp e => by have := HPB.out q hp e; omega)⟩
    · have HF : Hid (fdB l (keyS q) = true) := hF
      clear hF
      have p1 := hq4.c1
      have cd := decode_any w4 q.part (valS l (keyS q))
      go_wp2_with fail
      refine cd.mono ?_
      rintro e w5 ⟨rfl, hb5⟩
      clear cd
      have hi5 := hi4.below hb5
      have hdo := (decI_ok q.part (valS l (keyS q))).ch.1
      obtain ⟨de, hde⟩ : ∃ de, decE q.part (valS l (keyS q)) = de := ⟨_, rfl⟩
      obtain ⟨x, hx⟩ : ∃ x, decI q.part (valS l (keyS q)) = x := ⟨_, rfl⟩
      have HD : Hid (decE q.part (valS l (keyS q)) = de) := hde
      have HX : Hid (decI q.part (valS l (keyS q)) = x) := hx
      rw [hde, hx]
      rw [hx] at hdo
      clear hde hx
      have HO : Hid (x.bytes.length = 32) := hdo
      clear hdo
      have hn6 := ItAt.laid 66 w5 it0
      have hb6 := alloc_row (A := w5) (.cells (itC it0) 66) (itC x)
      have hx6 := hn6.setRow x
      obtain ⟨w6, hw6⟩ : ∃ w6, (w5.alloc (.cells (itC it0) 66)).setRow w5.heap.size (itC x) = w6 := ⟨_, rfl⟩
      rw [hw6] at hb6 hx6
      have HB6 : Hid (Below w4.heap.size w4 w6) := thenB hb5 hb6
      have hi6 := hi5.below hb6
      have l6 : Hid _ := hx6.loadW HO.out
      by_cases h0 : de = 0
      · subst h0
        have e1 : Hid (stB l q = true) := by unfold Hid stB; rw [HK.out, HF.out, HD.out]; rfl
        have e2 : Hid (stI l q = x) := by unfold Hid stI; rw [e1.out, HX.out]; rfl
        have e3 : Hid (stE l q = 0) := by unfold Hid stE; rw [HK.out, HF.out, HD.out]; rfl
        go_wp2_with (first
          | (refine wpList_storeI rfl _ _ rfl w5.heap.size x it0 rfl rfl HO.out len0 hn6 ?_; rw [hw6])
          | (refine wpList_loadG rfl 66 _ rfl _ rfl _ l6.out ?_)
          | (refine wpList_storeI rfl _ _ rfl w1.heap.size x it0 rfl rfl HO.out len0 hi6 ?_))
        exact ret_item3 rfl w1.heap.size x HO.out rfl _ rfl _ rfl (hi6.setRow _) rfl ⟨by rw [HVV.out, e1.out, e2.out, e3.out]; rfl, (HS4.out.trans (Sole.of_below HB6.out _)).after (sole_setRow _ _ _) (fun k hk => .inr (by rw [List.mem_singleton] at hk; omega)), by rw [HFF.out]; exact (HX4.out.below HB6.out).setRow _ _ (by have := HGL.out; omega) (fun q hp e => by have := HPB.out q hp e; omega)⟩
      · have e1 : Hid (stB l q = false) := by unfold Hid stB; rw [HK.out, HF.out, HD.out, decide_eq_false h0]; rfl
        have e2 : Hid (stI l q = it0) := by unfold Hid stI; rw [e1.out]; rfl
        have e3 : Hid (stE l q = de) := by unfold Hid stE; rw [HK.out, HF.out, HD.out]; rfl
        go_wp2_with (first
          | (refine wpList_storeI rfl _ _ rfl w5.heap.size x it0 rfl rfl HO.out len0 hn6 ?_; rw [hw6])
          | (refine wpList_buildBy rfl 66 _ rfl _ rfl [] (by kernel_rfl) (itC it0) built_zero ?_)
          | (refine wpList_storeI rfl _ _ rfl w1.heap.size it0 it0 rfl rfl len0 len0 hi6 ?_))
        exact ret_item3 rfl w1.heap.size it0 len0 rfl _ rfl _ rfl (hi6.setRow _) rfl ⟨by rw [HVV.out, e1.out, e2.out, e3.out]; rfl, (HS4.out.trans (Sole.of_below HB6.out _)).after (sole_setRow _ _ _) (fun k hk => .inr (by rw [List.mem_singleton] at hk; omega)), by rw [HFF.out]; exact (HX4.out.below HB6.out).setRow _ _ (by have := HGL.out; omega) (fun q hp e => by have := HPB.out q hp e; omega)⟩

set_option maxRecDepth 100000

/-- What a call that may ask the store leaves. -/
structure LOut (w : World) (g : Nat) (a : Option Addr) (n cap : Nat) (l : List (ByteArray × ByteArray)) (f : Int) (w' : World) : Prop where
  sole : Sole [g] w w'
  so : SoL w' g a n cap l f
theorem LOut.of {w w' : World} {g : Nat} {a : Option Addr} {n cap : Nat} {l : List (ByteArray × ByteArray)} {f : Int} (hS : SoL w g a n cap l f) (hb : Below w.heap.size w w') : LOut w g a n cap l f w' := ⟨Sole.of_below hb _, hS.below hb⟩
theorem LOut.below {w wm w' : World} {g : Nat} {a : Option Addr} {n cap : Nat} {l : List (ByteArray × ByteArray)} {f : Int} (h : LOut w g a n cap l f wm) (hb : Below wm.heap.size wm w') : LOut w g a n cap l f w' := ⟨h.sole.trans (Sole.of_below hb _), h.so.below hb⟩
theorem LOut.setRow {w wm : World} {g : Nat} {a : Option Addr} {n cap : Nat} {l : List (ByteArray × ByteArray)} {f f0 : Int} (h : LOut w g a n cap l f wm) (hS : SoL w g a n cap l f0) (k : Nat) (hk : w.heap.size ≤ k) (cs : Array Value) : LOut w g a n cap l f (wm.setRow k cs) :=
  ⟨h.sole.after (sole_setRow _ _ _) (fun q hq => .inr (by rw [List.mem_singleton] at hq; omega)), h.so.setRow k cs (by have := hS.lt; omega) (fun q hp e => by have := hS.lts q hp e; omega)⟩
theorem LOut.pre {w wm w' : World} {g : Nat} {a : Option Addr} {n cap : Nat} {l : List (ByteArray × ByteArray)} {f : Int} (hb : Below w.heap.size w wm) (h : LOut wm g a n cap l f w') : LOut w g a n cap l f w' := ⟨(Sole.of_below hb _).trans h.sole, h.so⟩
theorem LOut.drew {w wm : World} {g : Nat} {a : Option Addr} {n cap : Nat} {l : List (ByteArray × ByteArray)} {f : Int} (h : LOut w g a n cap l f wm) : LOut w g a n cap l f wm.drew := h.below (Below.refl _ _).drew
theorem stV_ok (l : List (ByteArray × ByteArray)) (f : Int) (q : Pl) : ItOk (stV l f q).1 := by
  unfold stV
  split
  · exact it0_ok
  · exact stI_ok l q
/-- What a change makes of what the base tells; how often that one may be asked behind it. -/
def chV (l : List (ByteArray × ByteArray)) (f : Int) (c : Cg) : It × Bool × Int := chR (stV l f c.pl).1 (stV l f c.pl).2.1 (stV l f c.pl).2.2 c
def chF (f : Int) (c : Cg) : Int := if c.gone || c.fresh || decide (c.pl.part = 2) || c.pt.fresh then f else stF f c.pl

set_option maxHeartbeats 8000000 in
theorem changed_l {w : World} {g : Nat} {a : Option Addr} {n cap : Nat} {l : List (ByteArray × ByteArray)} {f : Int} (hS : SoL w g a n cap l f) (c : Cg) (hc : CgOk c) : Calls Tryz.prog 49 #[baV g, .agg (cgC c)] w fun e w' =>
    e = .returned (.tuple #[.agg (itC (chV l f c).1), .bool (chV l f c).2.1, .int .i64 (chV l f c).2.2]) ∧ LOut w g a n cap l (chF f c) w' := by
  have hz := zeroItem
  have len0 := ch_zero.1
  have HC : Hid (c.pt.bytes.length = 32) := hc.pt.ch.1
  have al : ∀ (A : World) (o : Obj), Below A.heap.size A (A.alloc o) := fun A o => (Below.refl _ A).alloc (Nat.le_refl _) o
  have hc1 := CgAt.laid w c
  have hb1 := al w (.cells (cgC c) 104)
  obtain ⟨w1, hw1⟩ : ∃ w1, w.alloc (.cells (cgC c) 104) = w1 := ⟨_, rfl⟩
  rw [hw1] at hc1 hb1
  have hr2 := ItAt.laid 66 w1 it0
  have hb2 := al w1 (.cells (itC it0) 66)
  obtain ⟨w2, hw2⟩ : ∃ w2, w1.alloc (.cells (itC it0) 66) = w2 := ⟨_, rfl⟩
  rw [hw2] at hr2 hb2
  have hB2 := thenB hb1 hb2
  have hle : w.heap.size ≤ w1.heap.size := hb1.size
  have hc2 := hc1.below hb2
  have c1 := hc2.c1
  have c4 := hc2.c4
  have c5 := hc2.c5
  have c11 := hc2.c11
  have c12 := hc2.c12
  have lI : Hid _ := hc2.loadI
  have lP : Hid _ := hc2.loadP
  have lC : Hid _ := hc2.load HC.out
  unfold chV
  unfold baV
  cases hg : c.gone
  case true =>
    have HR : Hid (chR (stV l f c.pl).1 (stV l f c.pl).2.1 (stV l f c.pl).2.2 c = (it0, false, 0)) := by unfold Hid chR; rw [hg]; rfl
    rw [HR.out]
    have HFF : Hid (chF f c = f) := by unfold Hid chF; rw [hg]; rfl
    rw [hg] at c4
    go_enter Tryz.func49, Tryz.ntmps49
    go_wp2_with (first | (refine wpList_buildBy rfl 66 _ rfl _ rfl [] (by kernel_rfl) (itC it0) built_zero ?_) | (refine wpList_storeI rfl _ _ rfl w1.heap.size it0 it0 rfl rfl len0 len0 hr2 ?_))
    exact ret_item3 rfl w1.heap.size it0 len0 rfl _ rfl _ rfl (hr2.setRow _) rfl ⟨rfl, by rw [HFF.out]; exact LOut.setRow (LOut.of hS hB2) hS _ hle _⟩
  rw [hg] at c4
  cases hf : c.fresh
  case true =>
    have HR : Hid (chR (stV l f c.pl).1 (stV l f c.pl).2.1 (stV l f c.pl).2.2 c = (freshI c, true, 0)) := by unfold Hid chR; rw [hg, hf]; rfl
    rw [HR.out]
    have HFF : Hid (chF f c = f) := by unfold Hid chF; rw [hg, hf]; rfl
    rw [hf] at c5
    go_enter Tryz.func49, Tryz.ntmps49
    go_wp2_with (first
      | (refine wpList_loadG rfl 53 _ rfl _ rfl _ lI.out ?_)
      | (refine wpList_buildBy rfl 66 _ rfl _ rfl [(0, .agg #[.int .i64 c.kind, .int .i64 c.mode, .int .i64 c.links, .int .i64 c.size])] (by kernel_rfl) (itC (freshI c)) (built_inode _ _ _ _) ?_)
      | (refine wpList_storeI rfl _ _ rfl w1.heap.size (freshI c) it0 rfl rfl len0 len0 hr2 ?_))
    exact ret_item3 rfl w1.heap.size (freshI c) len0 rfl _ rfl _ rfl (hr2.setRow _) rfl ⟨rfl, by rw [HFF.out]; exact LOut.setRow (LOut.of hS hB2) hS _ hle _⟩
  rw [hf] at c5
  by_cases hp : c.pl.part = 2
  · have HR : Hid (chR (stV l f c.pl).1 (stV l f c.pl).2.1 (stV l f c.pl).2.2 c = (leadI c, true, 0)) := by unfold Hid chR; rw [hg, hf, if_pos hp]; rfl
    rw [HR.out]
    have HFF : Hid (chF f c = f) := by unfold Hid chF; rw [hg, hf]; simp [hp]
    rw [hp] at c1
    go_enter Tryz.func49, Tryz.ntmps49
    go_wp2_with (first
      | (refine wpList_buildBy rfl 66 _ rfl _ rfl [(1, .int .u32 c.to)] (by kernel_rfl) (itC (leadI c)) (built_lead _) ?_)
      | (refine wpList_storeI rfl _ _ rfl w1.heap.size (leadI c) it0 rfl rfl len0 len0 hr2 ?_))
    exact ret_item3 rfl w1.heap.size (leadI c) len0 rfl _ rfl _ rfl (hr2.setRow _) rfl ⟨rfl, by rw [HFF.out]; exact LOut.setRow (LOut.of hS hB2) hS _ hle _⟩
  have hpb : (c.pl.part == 2) = false := by simpa using hp
  cases hpf : c.pt.fresh
  case true =>
    have HR : Hid (chR (stV l f c.pl).1 (stV l f c.pl).2.1 (stV l f c.pl).2.2 c = (laidI it0 c, true, 0)) := by unfold Hid chR; rw [hg, hf, if_neg hp, hpf]; rfl
    rw [HR.out]
    have HFF : Hid (chF f c = f) := by unfold Hid chF; rw [hg, hf, hpf]; simp
    rw [hpf] at c12
    have HL : Hid ((laidI it0 c).bytes.length = 32) := layB_len _ _
    have cl := laid_any w2 it0 it0_ok c hc
    go_enter Tryz.func49, Tryz.ntmps49
    go_wp2_with (first
      | (refine wpList_loadG rfl 104 _ rfl _ rfl _ lC.out ?_)
      | (refine wpList_buildBy rfl 66 _ rfl _ rfl [] (by kernel_rfl) (itC it0) built_zero ?_))
    refine cl.mono ?_
    rintro e w3 ⟨rfl, hb3⟩
    clear cl
    have hr3 := hr2.below hb3
    have hB3 := thenB hB2 hb3
    go_wp2_with (refine wpList_storeI rfl _ _ rfl w1.heap.size (laidI it0 c) it0 rfl rfl HL.out len0 hr3 ?_)
    exact ret_item3 rfl w1.heap.size (laidI it0 c) HL.out rfl _ rfl _ rfl (hr3.setRow _) rfl ⟨rfl, by rw [HFF.out]; exact LOut.setRow (LOut.of hS hB3) hS _ hle _⟩
  rw [hpf] at c12
  have HFF : Hid (chF f c = stF f c.pl) := by unfold Hid chF; rw [hg, hf, hpf]; simp [hp]
  have cs := standing_l (hS.below hB2) c.pl hc.pl
  unfold baV at cs
  have hxo := stV_ok l f c.pl
  have HR0 : Hid (chR (stV l f c.pl).1 (stV l f c.pl).2.1 (stV l f c.pl).2.2 c = if (stV l f c.pl).2.2 ≠ 0 then (it0, false, (stV l f c.pl).2.2) else if c.pl.part = 3 then (laidI (stV l f c.pl).1 c, true, 0) else if (stV l f c.pl).2.1 then (withI (stV l f c.pl).1 c, true, 0) else (it0, false, 3)) := by unfold Hid chR; rw [hg, hf, if_neg hp, hpf]; rfl
  rw [HR0.out]
  clear HR0
  generalize stV l f c.pl = V at *
  obtain ⟨x, is, er⟩ := V
  dsimp only at cs hxo ⊢
  have HX : Hid (x.bytes.length = 32) := hxo.ch.1
  obtain ⟨R, hR⟩ : ∃ R, (if er ≠ 0 then (it0, false, er) else if c.pl.part = 3 then (laidI x c, true, 0) else if is then (withI x c, true, 0) else (it0, false, (3 : Int))) = R := ⟨_, rfl⟩
  have HR : Hid ((if er ≠ 0 then (it0, false, er) else if c.pl.part = 3 then (laidI x c, true, 0) else if is then (withI x c, true, 0) else (it0, false, (3 : Int))) = R) := hR
  rw [hR]
  clear hR
  go_enter Tryz.func49, Tryz.ntmps49
  go_wp2_with (refine wpList_loadG rfl 70 _ rfl _ rfl _ lP.out ?_)
  refine cs.mono ?_
  rintro e w3 ⟨rfl, hs3, hS3⟩
  clear cs c1 c4 c5 c11 c12 lI lP lC
  have hgl := hS.lt
  have hr3 : ItAt 66 w3 w1.heap.size it0 := ⟨(hs3.block _ (Array.getElem?_eq_some_iff.1 hr2.row).1 (fun e => by rw [List.mem_singleton] at e; omega)).trans hr2.row⟩
  have hc3 : CgAt w3 w.heap.size c := ⟨(hs3.block _ hc2.lt (fun e => by rw [List.mem_singleton] at e; omega)).trans hc2.row⟩
  have hB3 : LOut w g a n cap l (chF f c) w3 := by rw [HFF.out]; exact ⟨(Sole.of_below hB2 _).trans hs3, hS3⟩
  clear hs3 hS3 hgl
  have hn4 := ItAt.laid 66 w3 it0
  have hb4 := alloc_row (A := w3) (.cells (itC it0) 66) (itC x)
  have hx4 := hn4.setRow x
  obtain ⟨w4, hw4⟩ : ∃ w4, (w3.alloc (.cells (itC it0) 66)).setRow w3.heap.size (itC x) = w4 := ⟨_, rfl⟩
  rw [hw4] at hb4 hx4
  have hr4 := hr3.below hb4
  have hB4 := LOut.below hB3 hb4
  have hc4 := hc3.below hb4
  have d1 := hc4.c1
  have lC4 : Hid _ := hc4.load HC.out
  by_cases he : er = 0
  case neg =>
    have e0 : Hid (R = (it0, false, er)) := by unfold Hid; rw [← HR.out, if_pos he]
    go_wp2_with (first
      | (refine wpList_storeI rfl _ _ rfl w3.heap.size x it0 rfl rfl HX.out len0 hn4 ?_; rw [hw4])
      | (refine wpList_buildBy rfl 66 _ rfl _ rfl [] (by kernel_rfl) (itC it0) built_zero ?_)
      | (refine wpList_storeI rfl _ _ rfl w1.heap.size it0 it0 rfl rfl len0 len0 hr4 ?_))
    exact ret_item3 rfl w1.heap.size it0 len0 rfl _ rfl _ rfl (hr4.setRow _) rfl ⟨by rw [e0.out]; rfl, LOut.setRow hB4 hS _ hle _⟩
  subst he
  by_cases hp3 : c.pl.part = 3
  · have e0 : Hid (R = (laidI x c, true, 0)) := by unfold Hid; rw [← HR.out, if_neg (by decide), if_pos hp3]
    rw [hp3] at d1
    have HL : Hid ((laidI x c).bytes.length = 32) := layB_len _ _
    have lx4 : Hid _ := hx4.loadW HX.out
    have cl := laid_any w4 x hxo c hc
    go_wp2_with (first
      | (refine wpList_storeI rfl _ _ rfl w3.heap.size x it0 rfl rfl HX.out len0 hn4 ?_; rw [hw4])
      | (refine wpList_loadG rfl 66 _ rfl _ rfl _ lx4.out ?_)
      | (refine wpList_loadG rfl 104 _ rfl _ rfl _ lC4.out ?_))
    refine cl.mono ?_
    rintro e w5 ⟨rfl, hb5⟩
    clear cl
    have hr5 := hr4.below hb5
    have hB5 := LOut.below hB4 hb5
    go_wp2_with (refine wpList_storeI rfl _ _ rfl w1.heap.size (laidI x c) it0 rfl rfl HL.out len0 hr5 ?_)
    exact ret_item3 rfl w1.heap.size (laidI x c) HL.out rfl _ rfl _ rfl (hr5.setRow _) rfl ⟨by rw [e0.out]; rfl, LOut.setRow hB5 hS _ hle _⟩
  have hpb3 : (c.pl.part == 3) = false := by simpa using hp3
  cases his : is
  · have e0 : Hid (R = (it0, false, 3)) := by unfold Hid; rw [← HR.out, if_neg (by decide), if_neg hp3, his]; rfl
    go_wp2_with (first
      | (refine wpList_storeI rfl _ _ rfl w3.heap.size x it0 rfl rfl HX.out len0 hn4 ?_; rw [hw4])
      | (refine wpList_buildBy rfl 66 _ rfl _ rfl [] (by kernel_rfl) (itC it0) built_zero ?_)
      | (refine wpList_storeI rfl _ _ rfl w1.heap.size it0 it0 rfl rfl len0 len0 hr4 ?_))
    exact ret_item3 rfl w1.heap.size it0 len0 rfl _ rfl _ rfl (hr4.setRow _) rfl ⟨by rw [e0.out]; rfl, LOut.setRow hB4 hS _ hle _⟩
  · have e0 : Hid (R = (withI x c, true, 0)) := by unfold Hid; rw [← HR.out, if_neg (by decide), if_neg hp3, his]; rfl
    have lj4 : Hid _ := hx4.loadJ
    have cw := vwith_any w4 x.kind x.mode x.links x.size c
    go_wp2_with (first
      | (refine wpList_storeI rfl _ _ rfl w3.heap.size x it0 rfl rfl HX.out len0 hn4 ?_; rw [hw4])
      | (refine wpList_loadG rfl 53 _ rfl _ rfl _ lj4.out ?_)
      | (refine wpList_loadG rfl 104 _ rfl _ rfl _ lC4.out ?_))
    refine cw.mono ?_
    rintro e w5 ⟨rfl, hb5⟩
    clear cw
    have hr5 := hr4.below hb5
    have hB5 := LOut.below hB4 hb5
    go_wp2_with (first
      | (refine wpList_buildBy rfl 66 _ rfl _ rfl [(0, .agg #[.int .i64 x.kind, .int .i64 (wM c x.mode), .int .i64 (wL c x.links), .int .i64 (wS c x.size)])] (by kernel_rfl) (itC (withI x c)) (built_inode _ _ _ _) ?_)
      | (refine wpList_storeI rfl _ _ rfl w1.heap.size (withI x c) it0 rfl rfl len0 len0 hr5 ?_))
    exact ret_item3 rfl w1.heap.size (withI x c) len0 rfl _ rfl _ rfl (hr5.setRow _) rfl ⟨by rw [e0.out]; rfl, LOut.setRow hB5 hS _ hle _⟩

set_option maxRecDepth 100000

/-- What a view tells; how often its base may be asked behind it. -/
def vgV (l : List (ByteArray × ByteArray)) (f : Int) (s : Dl) (q : Pl) : It × Bool × Int := if isX s q then chV l f (wasX s q) else stV l f q
def vgF (f : Int) (s : Dl) (q : Pl) : Int := if isX s q then chF f (wasX s q) else stF f q
theorem VwAt.soleG {w w' : World} {v g p g' : Nat} (h : VwAt w v g p) (hs : Sole [g'] w w') (hn : v ≠ g') : VwAt w' v g p := ⟨(hs.block _ h.lt (by simpa using hn)).trans h.row⟩
theorem PlAt.soleG {w w' : World} {k g' : Nat} {q : Pl} (h : PlAt w k q) (hs : Sole [g'] w w') (hn : k ≠ g') : PlAt w' k q := ⟨(hs.block _ (Array.getElem?_eq_some_iff.1 h.row).1 (by simpa using hn)).trans h.row⟩
theorem VwAt.setRowX {w : World} {v g p k : Nat} {cs : Array Value} (h : VwAt w v g p) (hn : v ≠ k) : VwAt (w.setRow k cs) v g p := ⟨(setRow_other _ _ _ _ hn).trans h.row⟩
theorem PlAt.setRowX {w : World} {k k' : Nat} {cs : Array Value} {q : Pl} (h : PlAt w k q) (hn : k ≠ k') : PlAt (w.setRow k' cs) k q := ⟨(setRow_other _ _ _ _ hn).trans h.row⟩

set_option maxHeartbeats 8000000 in
theorem vget_l {B : Nat} {w0 w : World} {v g p b : Nat} {s : Dl} {a : Option Addr} {n cap : Nat} {l : List (ByteArray × ByteArray)} {f : Int} (hv : VwAt w v g p) (hd : DlN B w0 w p b s) (hS : SoL w g a n cap l f) (q : Pl) (hq : PlOk q) : Calls Tryz.prog 19 #[.pointer (some ⟨v, 0, none⟩), plV q] w fun e w' =>
    e = .returned (.tuple #[.agg (itC (vgV l f s q).1), .bool (vgV l f s q).2.1, .int .i64 (vgV l f s q).2.2]) ∧ LOut w g a n cap l (vgF f s q) w' := by
  have hz := zeroItem
  have hzc := zeroCg
  have len0 := ch_zero.1
  have lenc : cg0.pt.bytes.length = 32 := cg0_ok.pt.ch.1
  have al : ∀ (A : World) (o : Obj), Below A.heap.size A (A.alloc o) := fun A o => (Below.refl _ A).alloc (Nat.le_refl _) o
  have hsok : DlOk s := by obtain ⟨v, hd, _⟩ := hd.d; exact hd.ok
  have hxok := getL_ok hsok.L q
  have HXL : Hid ((wasX s q).pt.bytes.length = 32) := hxok.pt.ch.1
  have hq1 := PlAt.laid w q
  have hb1 := al w (.cells (plCells q) 70)
  obtain ⟨w1, hw1⟩ : ∃ w1, w.alloc (.cells (plCells q) 70) = w1 := ⟨_, rfl⟩
  rw [hw1] at hq1 hb1
  have hi2 := ItAt.laid 66 w1 it0
  have hb2 := al w1 (.cells (itC it0) 66)
  have HSZ : Hid (w1.heap.size < (w1.alloc (.cells (itC it0) 66)).heap.size) := by unfold Hid; simp
  obtain ⟨w2, hw2⟩ : ∃ w2, w1.alloc (.cells (itC it0) 66) = w2 := ⟨_, rfl⟩
  rw [hw2] at hi2 hb2 HSZ
  have qv1 : ∀ W, Below w2.heap.size w2 W → W.cell? ⟨v, 1, none⟩ = some (.pointer (some ⟨p, 0, none⟩)) := fun W hW => (hv.below (thenB (thenB hb1 hb2) hW)).c1
  have qp : ∀ W, Below w2.heap.size w2 W → (Instr.loadAt 70 (.pointer (some ⟨w.heap.size, 0, none⟩))).run Tryz.prog W = .ok (.agg (plCells q)) W := fun W hW => ((hq1.below hb2).below hW).loadG
  have cgt : ∀ W, Below w2.heap.size w2 W → Calls Tryz.prog 48 #[.pointer (some ⟨p, 0, none⟩), .agg (plCells q)] W fun e w' => e = .returned (.tuple #[.agg (cgC (wasX s q)), .bool (isX s q)]) ∧ Below W.heap.size W w' := fun W hW => (hd.below (thenB (thenB hb1 hb2) hW)).get q hq
  have HV : Hid (∀ W, VwAt W v g p → W.cell? ⟨v, 0, none⟩ = some (.iface 39 (.pointer (some ⟨g, 0, none⟩)))) := fun W hW => hW.c0
  have HQ : Hid (∀ W, (VwAt W v g p ∧ PlAt W w.heap.size q) → (Instr.loadAt 70 (.pointer (some ⟨w.heap.size, 0, none⟩))).run Tryz.prog W = .ok (.agg (plCells q)) W) := fun W hW => hW.2.loadG
  have HVW : Hid (∀ W, Below w1.heap.size w1 W → VwAt W v g p ∧ PlAt W w.heap.size q) := fun W hW => ⟨hv.below (thenB hb1 hW), hq1.below hW⟩
  have HVG : Hid (v ≠ g ∧ v < w.heap.size ∧ g < w.heap.size ∧ w.heap.size < w1.heap.size) := ⟨ne_of_type hv.row hS.row (by decide), hv.lt, hS.lt, (Array.getElem?_eq_some_iff.1 hq1.row).1⟩
  have HST : Hid (∀ W, Below w1.heap.size w1 W → Calls Tryz.prog 50 #[.iface 39 (.pointer (some ⟨g, 0, none⟩)), .agg (plCells q)] W fun e w' => e = .returned (.tuple #[.agg (itC (stV l f q).1), .bool (stV l f q).2.1, .int .i64 (stV l f q).2.2]) ∧ LOut W g a n cap l (stF f q) w') := fun W hW => (standing_l (hS.below (thenB hb1 hW)) q hq).mono (by rintro e w' ⟨rfl, k1, k2⟩; exact ⟨rfl, k1, k2⟩)
  have HCH : Hid (∀ W, Below w1.heap.size w1 W → Calls Tryz.prog 49 #[.iface 39 (.pointer (some ⟨g, 0, none⟩)), .agg (cgC (wasX s q))] W fun e w' => e = .returned (.tuple #[.agg (itC (chV l f (wasX s q)).1), .bool (chV l f (wasX s q)).2.1, .int .i64 (chV l f (wasX s q)).2.2]) ∧ LOut W g a n cap l (chF f (wasX s q)) w') := fun W hW => changed_l (hS.below (thenB hb1 hW)) (wasX s q) hxok
  have hlc : ((chV l f (wasX s q)).1).bytes.length = 32 := chR_len _ (stV_ok l f _).ch.1 _ _ _
  have hls : ((stV l f q).1).bytes.length = 32 := (stV_ok l f q).ch.1
  have HR : Hid (vgV l f s q = if isX s q then chV l f (wasX s q) else stV l f q) := rfl
  have HRF : Hid (vgF f s q = if isX s q then chF f (wasX s q) else stF f q) := rfl
  have HSS : Hid (SoL w g a n cap l f) := hS
  generalize vgV l f s q = R at *
  generalize vgF f s q = RF at *
  generalize isX s q = is at *
  generalize wasX s q = c at *
  generalize chV l f c = D at *
  generalize chF f c = cF at *
  obtain ⟨dI, dB, dE⟩ := D
  dsimp only at HCH hlc HR
  generalize stV l f q = V at *
  generalize stF f q = sF at *
  obtain ⟨sI, sB, sE⟩ := V
  dsimp only at HST hls HR
  have HLC : Hid (dI.bytes.length = 32) := hlc
  have HLS : Hid (sI.bytes.length = 32) := hls
  clear hlc hls hsok hxok hS hd hv
  rw [show plV q = .agg (plCells q) from rfl]
  go_enter Tryz.func19, Tryz.ntmps19
  go_wp2_with fail
  refine wp_region_noPanic ?_
  refine wp_region_held_drew (S := fun W => Below w2.heap.size w2 W) (by kernel_rfl) (Below.refl _ _).drew (fun hHeld => ?_)
  refine wpAnyH_take (i := 0) (v := .pointer (some ⟨v, 0, none⟩)) rfl (by kernel_rfl) (by kernel_rfl) (by kernel_rfl) (fun _ _ _ h => h) (Or.inl ⟨by rfl, fun W hSw => by (try dsimp only at hSw); go_simp⟩) (by assumption) ?_
  try simp only [List.getElem_toArray, List.getElem_cons_zero, List.getElem_cons_succ, Act.put, List.setIfInBounds_toArray, List.set_cons_zero, List.set_cons_succ]
  refine wpAnyH_take (i := 1) (v := .pointer (some ⟨v, 0, none⟩)) rfl (by kernel_rfl) (by kernel_rfl) (by kernel_rfl) (fun _ _ _ h => h) (Or.inl ⟨by rfl, fun W hSw => by (try dsimp only at hSw); go_simp⟩) (by assumption) ?_
  try simp only [List.getElem_toArray, List.getElem_cons_zero, List.getElem_cons_succ, Act.put, List.setIfInBounds_toArray, List.set_cons_zero, List.set_cons_succ]
  refine wpAnyH_take (i := 2) (v := .pointer (some ⟨v, 1, none⟩)) rfl (by kernel_rfl) (by kernel_rfl) (by kernel_rfl) (fun _ _ _ h => h) (Or.inl ⟨by rfl, fun W hSw => by (try dsimp only at hSw); go_simp⟩) (by assumption) ?_
  try simp only [List.getElem_toArray, List.getElem_cons_zero, List.getElem_cons_succ, Act.put, List.setIfInBounds_toArray, List.set_cons_zero, List.set_cons_succ]
  refine wpAnyH_take (i := 3) (v := .pointer (some ⟨p, 0, none⟩)) rfl (by kernel_rfl) (by kernel_rfl) (by kernel_rfl) (fun _ _ _ h => h) (Or.inl ⟨by rfl, fun W hSw => by (try dsimp only at hSw); (have z := qv1 W hSw; go_simp)⟩) (by assumption) ?_
  try simp only [List.getElem_toArray, List.getElem_cons_zero, List.getElem_cons_succ, Act.put, List.setIfInBounds_toArray, List.set_cons_zero, List.set_cons_succ]
  refine wpAnyH_take (i := 4) (v := .agg (plCells q)) rfl (by kernel_rfl) (by kernel_rfl) (by kernel_rfl) (fun _ _ _ h => h) (yields_load (by rfl) _ _ rfl _ rfl _ qp) (by assumption) ?_
  try simp only [List.getElem_toArray, List.getElem_cons_zero, List.getElem_cons_succ, Act.put, List.setIfInBounds_toArray, List.set_cons_zero, List.set_cons_succ]
  refine wpAnyH_ready (rs := [5, 9]) (by kernel_rfl) (by simp) ?_
  refine AllReadyH.cons rfl (fun K hK => ?_) (AllReadyH.cons rfl (fun K hK => ?_) AllReadyH.nil)
  · go_simp
    go_wp2_with (go_at_call 48; refine (cgt _ (by assumption)).mono ?_; rintro e w5 ⟨rfl, hb5⟩)
    refine hK.out _ _ (hHeld.trans (hb5.mono hHeld.size)) (fun hHeld2 => ?_)
    clear hK K
    try simp only [List.getElem_toArray, List.getElem_cons_zero, List.getElem_cons_succ, Act.put, List.setIfInBounds_toArray, List.set_cons_zero, List.set_cons_succ]
    refine wpAnyH_take (i := 6) (v := .tuple #[.agg (cgC c), .bool is]) rfl (by kernel_rfl) (by kernel_rfl) (by kernel_rfl) (fun _ _ _ h => h) (Or.inl ⟨by rfl, fun W hSw => by (try dsimp only at hSw); go_simp⟩) (by assumption) ?_
    try simp only [List.getElem_toArray, List.getElem_cons_zero, List.getElem_cons_succ, Act.put, List.setIfInBounds_toArray, List.set_cons_zero, List.set_cons_succ]
    refine wpAnyH_take (i := 7) (v := .agg (cgC c)) rfl (by kernel_rfl) (by kernel_rfl) (by kernel_rfl) (fun _ _ _ h => h) (Or.inl ⟨by rfl, fun W hSw => by (try dsimp only at hSw); go_simp⟩) (by assumption) ?_
    try simp only [List.getElem_toArray, List.getElem_cons_zero, List.getElem_cons_succ, Act.put, List.setIfInBounds_toArray, List.set_cons_zero, List.set_cons_succ]
    refine wpAnyH_take (i := 8) (v := .bool is) rfl (by kernel_rfl) (by kernel_rfl) (by kernel_rfl) (fun _ _ _ h => h) (Or.inl ⟨by rfl, fun W hSw => by (try dsimp only at hSw); go_simp⟩) (by assumption) ?_
    try simp only [List.getElem_toArray, List.getElem_cons_zero, List.getElem_cons_succ, Act.put, List.setIfInBounds_toArray, List.set_cons_zero, List.set_cons_succ]
    refine wpAnyH_ready (rs := [9]) (by kernel_rfl) (by simp) ?_
    refine AllReadyH.cons rfl (fun K hK => ?_) AllReadyH.nil
    go_simp
    go_wp2
    have hat := CgAt.laid w5 cg0
    have HGE : Hid (w2.heap.size ≤ w5.heap.size) := hHeld2.size
    have hb6 := al w5 (.cells (cgC cg0) 104)
    obtain ⟨G, hG⟩ : ∃ G, w5.heap.size = G := ⟨_, rfl⟩
    refine hK.out _ _ (hHeld2.trans (hb6.mono hHeld2.size)) (fun hHeld3 => ?_)
    clear hK K
    try simp only [List.getElem_toArray, List.getElem_cons_zero, List.getElem_cons_succ, Act.put, List.setIfInBounds_toArray, List.set_cons_zero, List.set_cons_succ]
    obtain ⟨w6, hw6⟩ : ∃ w6, w5.alloc (.cells (cgC cg0) 104) = w6 := ⟨_, rfl⟩
    have hi6 : ItAt 66 w6 w1.heap.size it0 := by rw [← hw6]; exact hi2.below (hHeld2.trans (hb6.mono hHeld2.size))
    rw [hw6] at hat hHeld3 ⊢
    rw [hG] at hat HGE ⊢
    clear hb6 hw6 hb5 hHeld2
    refine wpAnyH_ready (rs := [10]) (by kernel_rfl) (by simp) ?_
    refine AllReadyH.cons rfl (fun K hK => ?_) AllReadyH.nil
    rw [if_pos (by rfl)]
    refine wp_stC _ _ rfl G c cg0 rfl rfl HXL.out lenc hat ?_
    refine hK.out _ _ (below_setRow hHeld3 HGE.out _) (fun hHeld4 => ?_)
    clear hK K
    try simp only [List.getElem_toArray, List.getElem_cons_zero, List.getElem_cons_succ, Act.put, List.setIfInBounds_toArray, List.set_cons_zero, List.set_cons_succ]
    have hc7 := hat.setRow c
    have hi7 : ItAt 66 (w6.setRow G (cgC c)) w1.heap.size it0 := ⟨(setRow_other _ _ _ _ (by have := HGE.out; have := HSZ.out; omega)).trans hi6.row⟩
    obtain ⟨w7, hw7⟩ : ∃ w7, w6.setRow G (cgC c) = w7 := ⟨_, rfl⟩
    rw [hw7] at hc7 hi7 hHeld4 ⊢
    refine wpAnyH_take (i := 11) (v := .bool is) rfl (by kernel_rfl) (by kernel_rfl) (by kernel_rfl) (fun _ _ _ h => h) (Or.inl ⟨by rfl, fun W hSw => by (try dsimp only at hSw); go_simp⟩) (by assumption) ?_
    try simp only [List.getElem_toArray, List.getElem_cons_zero, List.getElem_cons_succ, Act.put, List.setIfInBounds_toArray, List.set_cons_zero, List.set_cons_succ]
    refine wpAnyH_done (by kernel_rfl) ?_ _
    refine NoPanic.normal ?_
    have HB7 : Hid (Below w1.heap.size w1 w7) := hb2.trans (hHeld4.mono hb2.size)
    have HGN : Hid (G ≠ w1.heap.size) := by unfold Hid; have := HGE.out; have := HSZ.out; omega
    have HGG : Hid (w1.heap.size ≤ G) := by unfold Hid; have := HGE.out; have := HSZ.out; omega
    have e0 := HV.out
    have e1 := HQ.out
    have e2 := HST.out
    have e3 := HCH.out
    clear hHeld hHeld3 hHeld4 hat hi6 hw7 hG qv1 qp cgt HGE
    cases is
    · go_wp2_with fail
      refine wp_region_noPanic ?_
      refine wp_region_held_drew (S := fun W => VwAt W v g p ∧ PlAt W w.heap.size q) (by kernel_rfl) (HVW.out _ HB7.out.drew) (fun hHeld => ?_)
      refine wpAnyH_take (i := 0) (v := .pointer (some ⟨v, 0, none⟩)) rfl (by kernel_rfl) (by kernel_rfl) (by kernel_rfl) (fun _ _ _ h => h) (Or.inl ⟨by rfl, fun W hSw => by (try dsimp only at hSw); go_simp⟩) (by assumption) ?_
      try simp only [List.getElem_toArray, List.getElem_cons_zero, List.getElem_cons_succ, Act.put, List.setIfInBounds_toArray, List.set_cons_zero, List.set_cons_succ]
      refine wpAnyH_take (i := 1) (v := .pointer (some ⟨v, 0, none⟩)) rfl (by kernel_rfl) (by kernel_rfl) (by kernel_rfl) (fun _ _ _ h => h) (Or.inl ⟨by rfl, fun W hSw => by (try dsimp only at hSw); go_simp⟩) (by assumption) ?_
      try simp only [List.getElem_toArray, List.getElem_cons_zero, List.getElem_cons_succ, Act.put, List.setIfInBounds_toArray, List.set_cons_zero, List.set_cons_succ]
      refine wpAnyH_take (i := 2) (v := .pointer (some ⟨v, 0, none⟩)) rfl (by kernel_rfl) (by kernel_rfl) (by kernel_rfl) (fun _ _ _ h => h) (Or.inl ⟨by rfl, fun W hSw => by (try dsimp only at hSw); go_simp⟩) (by assumption) ?_
      try simp only [List.getElem_toArray, List.getElem_cons_zero, List.getElem_cons_succ, Act.put, List.setIfInBounds_toArray, List.set_cons_zero, List.set_cons_succ]
      refine wpAnyH_take (i := 3) (v := .iface 39 (.pointer (some ⟨g, 0, none⟩))) rfl (by kernel_rfl) (by kernel_rfl) (by kernel_rfl) (fun _ _ _ h => h) (Or.inl ⟨by rfl, fun W hSw => by (try dsimp only at hSw); (have z := e0 W hSw.1; go_simp)⟩) (by assumption) ?_
      try simp only [List.getElem_toArray, List.getElem_cons_zero, List.getElem_cons_succ, Act.put, List.setIfInBounds_toArray, List.set_cons_zero, List.set_cons_succ]
      refine wpAnyH_take (i := 4) (v := .agg (plCells q)) rfl (by kernel_rfl) (by kernel_rfl) (by kernel_rfl) (fun _ _ _ h => h) (yields_load (by rfl) _ _ rfl _ rfl _ e1) (by assumption) ?_
      try simp only [List.getElem_toArray, List.getElem_cons_zero, List.getElem_cons_succ, Act.put, List.setIfInBounds_toArray, List.set_cons_zero, List.set_cons_succ]
      refine wpAnyH_ready (rs := [5]) (by kernel_rfl) (by simp) ?_
      refine AllReadyH.cons rfl (fun K hK => ?_) AllReadyH.nil
      go_simp
      go_wp2_with (go_at_call 50; refine (e2 _ HB7.out.drew).mono ?_; rintro e w8 ⟨rfl, hL8⟩)
      refine hK.out _ _ ⟨hHeld.1.soleG hL8.sole HVG.out.1, hHeld.2.soleG hL8.sole (by have := HVG.out; omega)⟩ (fun hHeld2 => ?_)
      clear hK K
      try simp only [List.getElem_toArray, List.getElem_cons_zero, List.getElem_cons_succ, Act.put, List.setIfInBounds_toArray, List.set_cons_zero, List.set_cons_succ]
      refine wpAnyH_take (i := 6) (v := .agg (itC sI)) rfl (by kernel_rfl) (by kernel_rfl) (by kernel_rfl) (fun _ _ _ h => h) (Or.inl ⟨by rfl, fun W hSw => by (try dsimp only at hSw); go_simp⟩) (by assumption) ?_
      try simp only [List.getElem_toArray, List.getElem_cons_zero, List.getElem_cons_succ, Act.put, List.setIfInBounds_toArray, List.set_cons_zero, List.set_cons_succ]
      refine wpAnyH_take (i := 7) (v := .bool sB) rfl (by kernel_rfl) (by kernel_rfl) (by kernel_rfl) (fun _ _ _ h => h) (Or.inl ⟨by rfl, fun W hSw => by (try dsimp only at hSw); go_simp⟩) (by assumption) ?_
      try simp only [List.getElem_toArray, List.getElem_cons_zero, List.getElem_cons_succ, Act.put, List.setIfInBounds_toArray, List.set_cons_zero, List.set_cons_succ]
      refine wpAnyH_take (i := 8) (v := .int .i64 sE) rfl (by kernel_rfl) (by kernel_rfl) (by kernel_rfl) (fun _ _ _ h => h) (Or.inl ⟨by rfl, fun W hSw => by (try dsimp only at hSw); go_simp⟩) (by assumption) ?_
      try simp only [List.getElem_toArray, List.getElem_cons_zero, List.getElem_cons_succ, Act.put, List.setIfInBounds_toArray, List.set_cons_zero, List.set_cons_succ]
      have hi8 : ItAt 66 w8 w1.heap.size it0 := ⟨(hL8.sole.block _ (Array.getElem?_eq_some_iff.1 hi7.row).1 (fun e => by rw [List.mem_singleton] at e; have := HVG.out; omega)).trans hi7.row⟩
      refine wpAnyH_ready (rs := [9]) (by kernel_rfl) (by simp) ?_
      refine AllReadyH.cons rfl (fun K hK => ?_) AllReadyH.nil
      rw [if_pos (by rfl)]
      refine wp_stI _ _ rfl w1.heap.size sI it0 rfl rfl HLS.out len0 hi8 ?_
      refine hK.out _ _ ⟨hHeld2.1.setRowX (by have := HVG.out; omega), hHeld2.2.setRowX (by have := HVG.out; omega)⟩ (fun hHeld3 => ?_)
      clear hK K
      try simp only [List.getElem_toArray, List.getElem_cons_zero, List.getElem_cons_succ, Act.put, List.setIfInBounds_toArray, List.set_cons_zero, List.set_cons_succ]
      refine wpAnyH_take (i := 10) (v := .bool sB) rfl (by kernel_rfl) (by kernel_rfl) (by kernel_rfl) (fun _ _ _ h => h) (Or.inl ⟨by rfl, fun W hSw => by (try dsimp only at hSw); go_simp⟩) (by assumption) ?_
      try simp only [List.getElem_toArray, List.getElem_cons_zero, List.getElem_cons_succ, Act.put, List.setIfInBounds_toArray, List.set_cons_zero, List.set_cons_succ]
      refine wpAnyH_take (i := 11) (v := .int .i64 sE) rfl (by kernel_rfl) (by kernel_rfl) (by kernel_rfl) (fun _ _ _ h => h) (Or.inl ⟨by rfl, fun W hSw => by (try dsimp only at hSw); go_simp⟩) (by assumption) ?_
      try simp only [List.getElem_toArray, List.getElem_cons_zero, List.getElem_cons_succ, Act.put, List.setIfInBounds_toArray, List.set_cons_zero, List.set_cons_succ]
      refine wpAnyH_done (by kernel_rfl) ?_ _
      refine NoPanic.normal ?_
      clear e0 e1 e2 e3
      go_wp2_with fail
      exact ret_item3 rfl w1.heap.size sI HLS.out rfl _ rfl _ rfl (hi8.setRow _) rfl ⟨by rw [HR.out]; rfl, by rw [HRF.out]; exact (LOut.pre (hb1.trans (HB7.out.drew.mono hb1.size)) hL8).setRow HSS.out _ (Nat.le_of_lt HVG.out.2.2.2) _⟩
    · have lC : ∀ W, (VwAt W v g p ∧ CgAt W G c) → (Instr.loadAt 104 (.pointer (some ⟨G, 0, none⟩))).run Tryz.prog W = .ok (.agg (cgC c)) W := fun W h => h.2.load HXL.out
      go_wp2_with fail
      refine wp_region_noPanic ?_
      refine wp_region_held_drew (S := fun W => VwAt W v g p ∧ CgAt W G c) (by kernel_rfl) ⟨(HVW.out _ HB7.out.drew).1, hc7.drew⟩ (fun hHeld => ?_)
      refine wpAnyH_take (i := 0) (v := .pointer (some ⟨v, 0, none⟩)) rfl (by kernel_rfl) (by kernel_rfl) (by kernel_rfl) (fun _ _ _ h => h) (Or.inl ⟨by rfl, fun W hSw => by (try dsimp only at hSw); go_simp⟩) (by assumption) ?_
      try simp only [List.getElem_toArray, List.getElem_cons_zero, List.getElem_cons_succ, Act.put, List.setIfInBounds_toArray, List.set_cons_zero, List.set_cons_succ]
      refine wpAnyH_take (i := 1) (v := .pointer (some ⟨v, 0, none⟩)) rfl (by kernel_rfl) (by kernel_rfl) (by kernel_rfl) (fun _ _ _ h => h) (Or.inl ⟨by rfl, fun W hSw => by (try dsimp only at hSw); go_simp⟩) (by assumption) ?_
      try simp only [List.getElem_toArray, List.getElem_cons_zero, List.getElem_cons_succ, Act.put, List.setIfInBounds_toArray, List.set_cons_zero, List.set_cons_succ]
      refine wpAnyH_take (i := 2) (v := .pointer (some ⟨v, 0, none⟩)) rfl (by kernel_rfl) (by kernel_rfl) (by kernel_rfl) (fun _ _ _ h => h) (Or.inl ⟨by rfl, fun W hSw => by (try dsimp only at hSw); go_simp⟩) (by assumption) ?_
      try simp only [List.getElem_toArray, List.getElem_cons_zero, List.getElem_cons_succ, Act.put, List.setIfInBounds_toArray, List.set_cons_zero, List.set_cons_succ]
      refine wpAnyH_take (i := 3) (v := .iface 39 (.pointer (some ⟨g, 0, none⟩))) rfl (by kernel_rfl) (by kernel_rfl) (by kernel_rfl) (fun _ _ _ h => h) (Or.inl ⟨by rfl, fun W hSw => by (try dsimp only at hSw); (have z := e0 W hSw.1; go_simp)⟩) (by assumption) ?_
      try simp only [List.getElem_toArray, List.getElem_cons_zero, List.getElem_cons_succ, Act.put, List.setIfInBounds_toArray, List.set_cons_zero, List.set_cons_succ]
      refine wpAnyH_take (i := 4) (v := .agg (cgC c)) rfl (by kernel_rfl) (by kernel_rfl) (by kernel_rfl) (fun _ _ _ h => h) (yields_load (by rfl) _ _ rfl _ rfl _ lC) (by assumption) ?_
      try simp only [List.getElem_toArray, List.getElem_cons_zero, List.getElem_cons_succ, Act.put, List.setIfInBounds_toArray, List.set_cons_zero, List.set_cons_succ]
      refine wpAnyH_ready (rs := [5]) (by kernel_rfl) (by simp) ?_
      refine AllReadyH.cons rfl (fun K hK => ?_) AllReadyH.nil
      go_simp
      go_wp2_with (go_at_call 49; refine (e3 _ HB7.out.drew).mono ?_; rintro e w8 ⟨rfl, hL8⟩)
      refine hK.out _ _ ⟨hHeld.1.soleG hL8.sole HVG.out.1, ⟨(hL8.sole.block _ hHeld.2.lt (fun e => by rw [List.mem_singleton] at e; have := HVG.out; have := HGG.out; omega)).trans hHeld.2.row⟩⟩ (fun hHeld2 => ?_)
      clear hK K
      try simp only [List.getElem_toArray, List.getElem_cons_zero, List.getElem_cons_succ, Act.put, List.setIfInBounds_toArray, List.set_cons_zero, List.set_cons_succ]
      refine wpAnyH_take (i := 6) (v := .agg (itC dI)) rfl (by kernel_rfl) (by kernel_rfl) (by kernel_rfl) (fun _ _ _ h => h) (Or.inl ⟨by rfl, fun W hSw => by (try dsimp only at hSw); go_simp⟩) (by assumption) ?_
      try simp only [List.getElem_toArray, List.getElem_cons_zero, List.getElem_cons_succ, Act.put, List.setIfInBounds_toArray, List.set_cons_zero, List.set_cons_succ]
      refine wpAnyH_take (i := 7) (v := .bool dB) rfl (by kernel_rfl) (by kernel_rfl) (by kernel_rfl) (fun _ _ _ h => h) (Or.inl ⟨by rfl, fun W hSw => by (try dsimp only at hSw); go_simp⟩) (by assumption) ?_
      try simp only [List.getElem_toArray, List.getElem_cons_zero, List.getElem_cons_succ, Act.put, List.setIfInBounds_toArray, List.set_cons_zero, List.set_cons_succ]
      refine wpAnyH_take (i := 8) (v := .int .i64 dE) rfl (by kernel_rfl) (by kernel_rfl) (by kernel_rfl) (fun _ _ _ h => h) (Or.inl ⟨by rfl, fun W hSw => by (try dsimp only at hSw); go_simp⟩) (by assumption) ?_
      try simp only [List.getElem_toArray, List.getElem_cons_zero, List.getElem_cons_succ, Act.put, List.setIfInBounds_toArray, List.set_cons_zero, List.set_cons_succ]
      have hi8 : ItAt 66 w8 w1.heap.size it0 := ⟨(hL8.sole.block _ (Array.getElem?_eq_some_iff.1 hi7.row).1 (fun e => by rw [List.mem_singleton] at e; have := HVG.out; omega)).trans hi7.row⟩
      refine wpAnyH_ready (rs := [9]) (by kernel_rfl) (by simp) ?_
      refine AllReadyH.cons rfl (fun K hK => ?_) AllReadyH.nil
      rw [if_pos (by rfl)]
      refine wp_stI _ _ rfl w1.heap.size dI it0 rfl rfl HLC.out len0 hi8 ?_
      refine hK.out _ _ ⟨hHeld2.1.setRowX (by have := HVG.out; omega), hHeld2.2.apartR _ _ HGN.out⟩ (fun hHeld3 => ?_)
      clear hK K
      try simp only [List.getElem_toArray, List.getElem_cons_zero, List.getElem_cons_succ, Act.put, List.setIfInBounds_toArray, List.set_cons_zero, List.set_cons_succ]
      refine wpAnyH_take (i := 10) (v := .bool dB) rfl (by kernel_rfl) (by kernel_rfl) (by kernel_rfl) (fun _ _ _ h => h) (Or.inl ⟨by rfl, fun W hSw => by (try dsimp only at hSw); go_simp⟩) (by assumption) ?_
      try simp only [List.getElem_toArray, List.getElem_cons_zero, List.getElem_cons_succ, Act.put, List.setIfInBounds_toArray, List.set_cons_zero, List.set_cons_succ]
      refine wpAnyH_take (i := 11) (v := .int .i64 dE) rfl (by kernel_rfl) (by kernel_rfl) (by kernel_rfl) (fun _ _ _ h => h) (Or.inl ⟨by rfl, fun W hSw => by (try dsimp only at hSw); go_simp⟩) (by assumption) ?_
      try simp only [List.getElem_toArray, List.getElem_cons_zero, List.getElem_cons_succ, Act.put, List.setIfInBounds_toArray, List.set_cons_zero, List.set_cons_succ]
      refine wpAnyH_done (by kernel_rfl) ?_ _
      refine NoPanic.normal ?_
      clear e0 e1 e2 e3 lC
      go_wp2_with fail
      exact ret_item3 rfl w1.heap.size dI HLC.out rfl _ rfl _ rfl (hi8.setRow _) rfl ⟨by rw [HR.out]; rfl, by rw [HRF.out]; exact (LOut.pre (hb1.trans (HB7.out.drew.mono hb1.size)) hL8).setRow HSS.out _ (Nat.le_of_lt HVG.out.2.2.2) _⟩
  · go_simp
    go_wp2
    have hat0 : CgAt (w2.alloc (.cells (cgC cg0) 104)).drew w2.heap.size cg0 := (CgAt.laid w2 cg0).drew
    have hb6 := (al w2 (.cells (cgC cg0) 104)).drew
    have HGE : Hid (w2.heap.size ≤ w2.heap.size) := Nat.le_refl _
    refine hK.out _ _ hb6 (fun hHeld2 => ?_)
    clear hK K
    try simp only [List.getElem_toArray, List.getElem_cons_zero, List.getElem_cons_succ, Act.put, List.setIfInBounds_toArray, List.set_cons_zero, List.set_cons_succ]
    obtain ⟨w5, hw5⟩ : ∃ w5, (w2.alloc (.cells (cgC cg0) 104)).drew = w5 := ⟨_, rfl⟩
    rw [hw5] at hat0 hHeld2 ⊢
    clear hb6 hw5
    refine wpAnyH_ready (rs := [5]) (by kernel_rfl) (by simp) ?_
    refine AllReadyH.cons rfl (fun K hK => ?_) AllReadyH.nil
    go_simp
    go_wp2_with (go_at_call 48; refine (cgt _ (by assumption)).mono ?_; rintro e w6 ⟨rfl, hb5⟩)
    refine hK.out _ _ (hHeld2.trans (hb5.mono hHeld2.size)) (fun hHeld3 => ?_)
    clear hK K
    try simp only [List.getElem_toArray, List.getElem_cons_zero, List.getElem_cons_succ, Act.put, List.setIfInBounds_toArray, List.set_cons_zero, List.set_cons_succ]
    refine wpAnyH_take (i := 6) (v := .tuple #[.agg (cgC c), .bool is]) rfl (by kernel_rfl) (by kernel_rfl) (by kernel_rfl) (fun _ _ _ h => h) (Or.inl ⟨by rfl, fun W hSw => by (try dsimp only at hSw); go_simp⟩) (by assumption) ?_
    try simp only [List.getElem_toArray, List.getElem_cons_zero, List.getElem_cons_succ, Act.put, List.setIfInBounds_toArray, List.set_cons_zero, List.set_cons_succ]
    refine wpAnyH_take (i := 7) (v := .agg (cgC c)) rfl (by kernel_rfl) (by kernel_rfl) (by kernel_rfl) (fun _ _ _ h => h) (Or.inl ⟨by rfl, fun W hSw => by (try dsimp only at hSw); go_simp⟩) (by assumption) ?_
    try simp only [List.getElem_toArray, List.getElem_cons_zero, List.getElem_cons_succ, Act.put, List.setIfInBounds_toArray, List.set_cons_zero, List.set_cons_succ]
    refine wpAnyH_take (i := 8) (v := .bool is) rfl (by kernel_rfl) (by kernel_rfl) (by kernel_rfl) (fun _ _ _ h => h) (Or.inl ⟨by rfl, fun W hSw => by (try dsimp only at hSw); go_simp⟩) (by assumption) ?_
    try simp only [List.getElem_toArray, List.getElem_cons_zero, List.getElem_cons_succ, Act.put, List.setIfInBounds_toArray, List.set_cons_zero, List.set_cons_succ]
    have hat := hat0.below hb5
    have hi6 : ItAt 66 w6 w1.heap.size it0 := hi2.below hHeld3
    have hG : True := trivial
    clear hat0 hb5 hHeld2
    refine wpAnyH_ready (rs := [10]) (by kernel_rfl) (by simp) ?_
    refine AllReadyH.cons rfl (fun K hK => ?_) AllReadyH.nil
    rw [if_pos (by rfl)]
    refine wp_stC _ _ rfl w2.heap.size c cg0 rfl rfl HXL.out lenc hat ?_
    refine hK.out _ _ (below_setRow hHeld3 HGE.out _) (fun hHeld4 => ?_)
    clear hK K
    try simp only [List.getElem_toArray, List.getElem_cons_zero, List.getElem_cons_succ, Act.put, List.setIfInBounds_toArray, List.set_cons_zero, List.set_cons_succ]
    have hc7 := hat.setRow c
    have hi7 : ItAt 66 (w6.setRow w2.heap.size (cgC c)) w1.heap.size it0 := ⟨(setRow_other _ _ _ _ (by have := HGE.out; have := HSZ.out; omega)).trans hi6.row⟩
    obtain ⟨w7, hw7⟩ : ∃ w7, w6.setRow w2.heap.size (cgC c) = w7 := ⟨_, rfl⟩
    rw [hw7] at hc7 hi7 hHeld4 ⊢
    refine wpAnyH_take (i := 11) (v := .bool is) rfl (by kernel_rfl) (by kernel_rfl) (by kernel_rfl) (fun _ _ _ h => h) (Or.inl ⟨by rfl, fun W hSw => by (try dsimp only at hSw); go_simp⟩) (by assumption) ?_
    try simp only [List.getElem_toArray, List.getElem_cons_zero, List.getElem_cons_succ, Act.put, List.setIfInBounds_toArray, List.set_cons_zero, List.set_cons_succ]
    refine wpAnyH_done (by kernel_rfl) ?_ _
    refine NoPanic.normal ?_
    have HB7 : Hid (Below w1.heap.size w1 w7) := hb2.trans (hHeld4.mono hb2.size)
    have HGN : Hid (w2.heap.size ≠ w1.heap.size) := by unfold Hid; have := HGE.out; have := HSZ.out; omega
    have HGG : Hid (w1.heap.size ≤ w2.heap.size) := by unfold Hid; have := HGE.out; have := HSZ.out; omega
    have e0 := HV.out
    have e1 := HQ.out
    have e2 := HST.out
    have e3 := HCH.out
    clear hHeld hHeld3 hHeld4 hat hi6 hw7 hG qv1 qp cgt HGE
    cases is
    · go_wp2_with fail
      refine wp_region_noPanic ?_
      refine wp_region_held_drew (S := fun W => VwAt W v g p ∧ PlAt W w.heap.size q) (by kernel_rfl) (HVW.out _ HB7.out.drew) (fun hHeld => ?_)
      refine wpAnyH_take (i := 0) (v := .pointer (some ⟨v, 0, none⟩)) rfl (by kernel_rfl) (by kernel_rfl) (by kernel_rfl) (fun _ _ _ h => h) (Or.inl ⟨by rfl, fun W hSw => by (try dsimp only at hSw); go_simp⟩) (by assumption) ?_
      try simp only [List.getElem_toArray, List.getElem_cons_zero, List.getElem_cons_succ, Act.put, List.setIfInBounds_toArray, List.set_cons_zero, List.set_cons_succ]
      refine wpAnyH_take (i := 1) (v := .pointer (some ⟨v, 0, none⟩)) rfl (by kernel_rfl) (by kernel_rfl) (by kernel_rfl) (fun _ _ _ h => h) (Or.inl ⟨by rfl, fun W hSw => by (try dsimp only at hSw); go_simp⟩) (by assumption) ?_
      try simp only [List.getElem_toArray, List.getElem_cons_zero, List.getElem_cons_succ, Act.put, List.setIfInBounds_toArray, List.set_cons_zero, List.set_cons_succ]
      refine wpAnyH_take (i := 2) (v := .pointer (some ⟨v, 0, none⟩)) rfl (by kernel_rfl) (by kernel_rfl) (by kernel_rfl) (fun _ _ _ h => h) (Or.inl ⟨by rfl, fun W hSw => by (try dsimp only at hSw); go_simp⟩) (by assumption) ?_
      try simp only [List.getElem_toArray, List.getElem_cons_zero, List.getElem_cons_succ, Act.put, List.setIfInBounds_toArray, List.set_cons_zero, List.set_cons_succ]
      refine wpAnyH_take (i := 3) (v := .iface 39 (.pointer (some ⟨g, 0, none⟩))) rfl (by kernel_rfl) (by kernel_rfl) (by kernel_rfl) (fun _ _ _ h => h) (Or.inl ⟨by rfl, fun W hSw => by (try dsimp only at hSw); (have z := e0 W hSw.1; go_simp)⟩) (by assumption) ?_
      try simp only [List.getElem_toArray, List.getElem_cons_zero, List.getElem_cons_succ, Act.put, List.setIfInBounds_toArray, List.set_cons_zero, List.set_cons_succ]
      refine wpAnyH_take (i := 4) (v := .agg (plCells q)) rfl (by kernel_rfl) (by kernel_rfl) (by kernel_rfl) (fun _ _ _ h => h) (yields_load (by rfl) _ _ rfl _ rfl _ e1) (by assumption) ?_
      try simp only [List.getElem_toArray, List.getElem_cons_zero, List.getElem_cons_succ, Act.put, List.setIfInBounds_toArray, List.set_cons_zero, List.set_cons_succ]
      refine wpAnyH_ready (rs := [5]) (by kernel_rfl) (by simp) ?_
      refine AllReadyH.cons rfl (fun K hK => ?_) AllReadyH.nil
      go_simp
      go_wp2_with (go_at_call 50; refine (e2 _ HB7.out.drew).mono ?_; rintro e w8 ⟨rfl, hL8⟩)
      refine hK.out _ _ ⟨hHeld.1.soleG hL8.sole HVG.out.1, hHeld.2.soleG hL8.sole (by have := HVG.out; omega)⟩ (fun hHeld2 => ?_)
      clear hK K
      try simp only [List.getElem_toArray, List.getElem_cons_zero, List.getElem_cons_succ, Act.put, List.setIfInBounds_toArray, List.set_cons_zero, List.set_cons_succ]
      refine wpAnyH_take (i := 6) (v := .agg (itC sI)) rfl (by kernel_rfl) (by kernel_rfl) (by kernel_rfl) (fun _ _ _ h => h) (Or.inl ⟨by rfl, fun W hSw => by (try dsimp only at hSw); go_simp⟩) (by assumption) ?_
      try simp only [List.getElem_toArray, List.getElem_cons_zero, List.getElem_cons_succ, Act.put, List.setIfInBounds_toArray, List.set_cons_zero, List.set_cons_succ]
      refine wpAnyH_take (i := 7) (v := .bool sB) rfl (by kernel_rfl) (by kernel_rfl) (by kernel_rfl) (fun _ _ _ h => h) (Or.inl ⟨by rfl, fun W hSw => by (try dsimp only at hSw); go_simp⟩) (by assumption) ?_
      try simp only [List.getElem_toArray, List.getElem_cons_zero, List.getElem_cons_succ, Act.put, List.setIfInBounds_toArray, List.set_cons_zero, List.set_cons_succ]
      refine wpAnyH_take (i := 8) (v := .int .i64 sE) rfl (by kernel_rfl) (by kernel_rfl) (by kernel_rfl) (fun _ _ _ h => h) (Or.inl ⟨by rfl, fun W hSw => by (try dsimp only at hSw); go_simp⟩) (by assumption) ?_
      try simp only [List.getElem_toArray, List.getElem_cons_zero, List.getElem_cons_succ, Act.put, List.setIfInBounds_toArray, List.set_cons_zero, List.set_cons_succ]
      have hi8 : ItAt 66 w8 w1.heap.size it0 := ⟨(hL8.sole.block _ (Array.getElem?_eq_some_iff.1 hi7.row).1 (fun e => by rw [List.mem_singleton] at e; have := HVG.out; omega)).trans hi7.row⟩
      refine wpAnyH_ready (rs := [9]) (by kernel_rfl) (by simp) ?_
      refine AllReadyH.cons rfl (fun K hK => ?_) AllReadyH.nil
      rw [if_pos (by rfl)]
      refine wp_stI _ _ rfl w1.heap.size sI it0 rfl rfl HLS.out len0 hi8 ?_
      refine hK.out _ _ ⟨hHeld2.1.setRowX (by have := HVG.out; omega), hHeld2.2.setRowX (by have := HVG.out; omega)⟩ (fun hHeld3 => ?_)
      clear hK K
      try simp only [List.getElem_toArray, List.getElem_cons_zero, List.getElem_cons_succ, Act.put, List.setIfInBounds_toArray, List.set_cons_zero, List.set_cons_succ]
      refine wpAnyH_take (i := 10) (v := .bool sB) rfl (by kernel_rfl) (by kernel_rfl) (by kernel_rfl) (fun _ _ _ h => h) (Or.inl ⟨by rfl, fun W hSw => by (try dsimp only at hSw); go_simp⟩) (by assumption) ?_
      try simp only [List.getElem_toArray, List.getElem_cons_zero, List.getElem_cons_succ, Act.put, List.setIfInBounds_toArray, List.set_cons_zero, List.set_cons_succ]
      refine wpAnyH_take (i := 11) (v := .int .i64 sE) rfl (by kernel_rfl) (by kernel_rfl) (by kernel_rfl) (fun _ _ _ h => h) (Or.inl ⟨by rfl, fun W hSw => by (try dsimp only at hSw); go_simp⟩) (by assumption) ?_
      try simp only [List.getElem_toArray, List.getElem_cons_zero, List.getElem_cons_succ, Act.put, List.setIfInBounds_toArray, List.set_cons_zero, List.set_cons_succ]
      refine wpAnyH_done (by kernel_rfl) ?_ _
      refine NoPanic.normal ?_
      clear e0 e1 e2 e3
      go_wp2_with fail
      exact ret_item3 rfl w1.heap.size sI HLS.out rfl _ rfl _ rfl (hi8.setRow _) rfl ⟨by rw [HR.out]; rfl, by rw [HRF.out]; exact (LOut.pre (hb1.trans (HB7.out.drew.mono hb1.size)) hL8).setRow HSS.out _ (Nat.le_of_lt HVG.out.2.2.2) _⟩
    · have lC : ∀ W, (VwAt W v g p ∧ CgAt W w2.heap.size c) → (Instr.loadAt 104 (.pointer (some ⟨w2.heap.size, 0, none⟩))).run Tryz.prog W = .ok (.agg (cgC c)) W := fun W h => h.2.load HXL.out
      go_wp2_with fail
      refine wp_region_noPanic ?_
      refine wp_region_held_drew (S := fun W => VwAt W v g p ∧ CgAt W w2.heap.size c) (by kernel_rfl) ⟨(HVW.out _ HB7.out.drew).1, hc7.drew⟩ (fun hHeld => ?_)
      refine wpAnyH_take (i := 0) (v := .pointer (some ⟨v, 0, none⟩)) rfl (by kernel_rfl) (by kernel_rfl) (by kernel_rfl) (fun _ _ _ h => h) (Or.inl ⟨by rfl, fun W hSw => by (try dsimp only at hSw); go_simp⟩) (by assumption) ?_
      try simp only [List.getElem_toArray, List.getElem_cons_zero, List.getElem_cons_succ, Act.put, List.setIfInBounds_toArray, List.set_cons_zero, List.set_cons_succ]
      refine wpAnyH_take (i := 1) (v := .pointer (some ⟨v, 0, none⟩)) rfl (by kernel_rfl) (by kernel_rfl) (by kernel_rfl) (fun _ _ _ h => h) (Or.inl ⟨by rfl, fun W hSw => by (try dsimp only at hSw); go_simp⟩) (by assumption) ?_
      try simp only [List.getElem_toArray, List.getElem_cons_zero, List.getElem_cons_succ, Act.put, List.setIfInBounds_toArray, List.set_cons_zero, List.set_cons_succ]
      refine wpAnyH_take (i := 2) (v := .pointer (some ⟨v, 0, none⟩)) rfl (by kernel_rfl) (by kernel_rfl) (by kernel_rfl) (fun _ _ _ h => h) (Or.inl ⟨by rfl, fun W hSw => by (try dsimp only at hSw); go_simp⟩) (by assumption) ?_
      try simp only [List.getElem_toArray, List.getElem_cons_zero, List.getElem_cons_succ, Act.put, List.setIfInBounds_toArray, List.set_cons_zero, List.set_cons_succ]
      refine wpAnyH_take (i := 3) (v := .iface 39 (.pointer (some ⟨g, 0, none⟩))) rfl (by kernel_rfl) (by kernel_rfl) (by kernel_rfl) (fun _ _ _ h => h) (Or.inl ⟨by rfl, fun W hSw => by (try dsimp only at hSw); (have z := e0 W hSw.1; go_simp)⟩) (by assumption) ?_
      try simp only [List.getElem_toArray, List.getElem_cons_zero, List.getElem_cons_succ, Act.put, List.setIfInBounds_toArray, List.set_cons_zero, List.set_cons_succ]
      refine wpAnyH_take (i := 4) (v := .agg (cgC c)) rfl (by kernel_rfl) (by kernel_rfl) (by kernel_rfl) (fun _ _ _ h => h) (yields_load (by rfl) _ _ rfl _ rfl _ lC) (by assumption) ?_
      try simp only [List.getElem_toArray, List.getElem_cons_zero, List.getElem_cons_succ, Act.put, List.setIfInBounds_toArray, List.set_cons_zero, List.set_cons_succ]
      refine wpAnyH_ready (rs := [5]) (by kernel_rfl) (by simp) ?_
      refine AllReadyH.cons rfl (fun K hK => ?_) AllReadyH.nil
      go_simp
      go_wp2_with (go_at_call 49; refine (e3 _ HB7.out.drew).mono ?_; rintro e w8 ⟨rfl, hL8⟩)
      refine hK.out _ _ ⟨hHeld.1.soleG hL8.sole HVG.out.1, ⟨(hL8.sole.block _ hHeld.2.lt (fun e => by rw [List.mem_singleton] at e; have := HVG.out; have := HGG.out; omega)).trans hHeld.2.row⟩⟩ (fun hHeld2 => ?_)
      clear hK K
      try simp only [List.getElem_toArray, List.getElem_cons_zero, List.getElem_cons_succ, Act.put, List.setIfInBounds_toArray, List.set_cons_zero, List.set_cons_succ]
      refine wpAnyH_take (i := 6) (v := .agg (itC dI)) rfl (by kernel_rfl) (by kernel_rfl) (by kernel_rfl) (fun _ _ _ h => h) (Or.inl ⟨by rfl, fun W hSw => by (try dsimp only at hSw); go_simp⟩) (by assumption) ?_
      try simp only [List.getElem_toArray, List.getElem_cons_zero, List.getElem_cons_succ, Act.put, List.setIfInBounds_toArray, List.set_cons_zero, List.set_cons_succ]
      refine wpAnyH_take (i := 7) (v := .bool dB) rfl (by kernel_rfl) (by kernel_rfl) (by kernel_rfl) (fun _ _ _ h => h) (Or.inl ⟨by rfl, fun W hSw => by (try dsimp only at hSw); go_simp⟩) (by assumption) ?_
      try simp only [List.getElem_toArray, List.getElem_cons_zero, List.getElem_cons_succ, Act.put, List.setIfInBounds_toArray, List.set_cons_zero, List.set_cons_succ]
      refine wpAnyH_take (i := 8) (v := .int .i64 dE) rfl (by kernel_rfl) (by kernel_rfl) (by kernel_rfl) (fun _ _ _ h => h) (Or.inl ⟨by rfl, fun W hSw => by (try dsimp only at hSw); go_simp⟩) (by assumption) ?_
      try simp only [List.getElem_toArray, List.getElem_cons_zero, List.getElem_cons_succ, Act.put, List.setIfInBounds_toArray, List.set_cons_zero, List.set_cons_succ]
      have hi8 : ItAt 66 w8 w1.heap.size it0 := ⟨(hL8.sole.block _ (Array.getElem?_eq_some_iff.1 hi7.row).1 (fun e => by rw [List.mem_singleton] at e; have := HVG.out; omega)).trans hi7.row⟩
      refine wpAnyH_ready (rs := [9]) (by kernel_rfl) (by simp) ?_
      refine AllReadyH.cons rfl (fun K hK => ?_) AllReadyH.nil
      rw [if_pos (by rfl)]
      refine wp_stI _ _ rfl w1.heap.size dI it0 rfl rfl HLC.out len0 hi8 ?_
      refine hK.out _ _ ⟨hHeld2.1.setRowX (by have := HVG.out; omega), hHeld2.2.apartR _ _ HGN.out⟩ (fun hHeld3 => ?_)
      clear hK K
      try simp only [List.getElem_toArray, List.getElem_cons_zero, List.getElem_cons_succ, Act.put, List.setIfInBounds_toArray, List.set_cons_zero, List.set_cons_succ]
      refine wpAnyH_take (i := 10) (v := .bool dB) rfl (by kernel_rfl) (by kernel_rfl) (by kernel_rfl) (fun _ _ _ h => h) (Or.inl ⟨by rfl, fun W hSw => by (try dsimp only at hSw); go_simp⟩) (by assumption) ?_
      try simp only [List.getElem_toArray, List.getElem_cons_zero, List.getElem_cons_succ, Act.put, List.setIfInBounds_toArray, List.set_cons_zero, List.set_cons_succ]
      refine wpAnyH_take (i := 11) (v := .int .i64 dE) rfl (by kernel_rfl) (by kernel_rfl) (by kernel_rfl) (fun _ _ _ h => h) (Or.inl ⟨by rfl, fun W hSw => by (try dsimp only at hSw); go_simp⟩) (by assumption) ?_
      try simp only [List.getElem_toArray, List.getElem_cons_zero, List.getElem_cons_succ, Act.put, List.setIfInBounds_toArray, List.set_cons_zero, List.set_cons_succ]
      refine wpAnyH_done (by kernel_rfl) ?_ _
      refine NoPanic.normal ?_
      clear e0 e1 e2 e3 lC
      go_wp2_with fail
      exact ret_item3 rfl w1.heap.size dI HLC.out rfl _ rfl _ rfl (hi8.setRow _) rfl ⟨by rw [HR.out]; rfl, by rw [HRF.out]; exact (LOut.pre (hb1.trans (HB7.out.drew.mono hb1.size)) hL8).setRow HSS.out _ (Nat.le_of_lt HVG.out.2.2.2) _⟩

end Go.Proofs.YtkmckipfjahlcaaGreat
