/- The contract of codec.Unseal: the bytes ahead of the last four, where these are their sum; or ErrShort, or ErrSum. -/
import Derived.Test.YtmpddbnggddmdaaRefSeal
import Derived.Stop.BytesEq
import Derived.Deep.RegionWith
namespace Go.Proofs.Ytmpddbnggddmdaa
open Go.RowKit
set_option linter.unusedVariables false

/-- The error's number, and the bytes. -/
def bodyB (xs : List Int) : List Int := xs.take (xs.length - 4)
def tailB (xs : List Int) : List Int := xs.drop (xs.length - 4)
def unE (xs : List Int) : Int := if xs.length < 4 then 10 else if tailB xs = sealB (bodyB xs) then 0 else 12
def unB (xs : List Int) : List Int := if unE xs = 0 then bodyB xs else []

def toU (a : List Int) : List UInt8 := a.map fun n => UInt8.ofNat n.toNat
theorem toU_cell (a : List Int) (h : Byt a) : (toU a).map Extern.Stop.cell = a.map (Value.int .u8) := by
  unfold toU
  rw [List.map_map]
  apply List.map_congr_left
  intro x hx
  obtain ⟨h0, h1⟩ := h x hx
  simp only [Function.comp_apply, Extern.Stop.cell]
  congr 1
  simp
  omega
theorem toU_inj (a b : List Int) (ha : Byt a) (hb : Byt b) (h : toU a = toU b) : a = b := by
  have := congrArg (List.map Extern.Stop.cell) h
  rw [toU_cell a ha, toU_cell b hb] at this
  exact (List.map_inj_right (fun x y e => by cases e; rfl)).1 this
theorem eq_four (W : World) (a b : List Int) (ha : Byt a) (hb : Byt b) (la : a.length = 4) (lb : b.length = 4) :
    (Op.equalIn 10000 43 (.agg (a.map (Value.int .u8)).toArray) (.agg (b.map (Value.int .u8)).toArray)).run Try.prog W = .ok (decide (a = b)) W := by
  have hsz : ∀ w, (sizeOf 5).run Try.prog w = .ok 1 w := by
    intro w
    obtain ⟨i, hi, _, h1, _⟩ := info_parts Try.info5
    simp [sizeOf, typeInfo, hi, h1]
  have := run_equalIn_bytes (P := Try.prog) W 9998 43 5 4 Try.underlying43 Try.underlying5 hsz (toU a) (toU b) (by simp [toU, la]) (by simp [toU, lb])
  rw [toU_cell a ha, toU_cell b hb] at this
  rw [this]
  congr 1
  rw [Bool.eq_iff_iff, beq_iff_eq, decide_eq_true_iff]
  exact ⟨toU_inj a b ha hb, fun e => by rw [e]⟩

set_option maxHeartbeats 400000 in
theorem unseal_short (w : World) (a : Option Addr) (n cap : Nat) (hn : n < 4) : Calls Try.prog 21 #[.slice a n cap] w fun e w' => e = .returned (.tuple #[.slice none 0 0, .int .i64 10]) ∧ w = w' := by
  have hn' : (n : Int) - 4 < 0 := by omega
  go_enter Try.func21, Try.ntmps21
  go_wp2
  go_ret2
  exact ⟨rfl, rfl⟩

set_option maxHeartbeats 1000000 in
theorem unseal_no (w : World) (b off n cap : Nat) (body : List Int) (t0 t1 t2 t3 : Int) (hcap : n + 4 ≤ cap) (hm : cap ≤ maxLen) (hy : Byt body) (ht : Byt [t0, t1, t2, t3])
    (hr : Rd w (.slice (some ⟨b, off, none⟩) n cap) body) (hbl : b < w.heap.size) (hle : n ≤ 140737488355328)
    (c0 : w.cell? ⟨b, off + n, none⟩ = some (.int .u8 t0)) (c1 : w.cell? ⟨b, off + n + 1, none⟩ = some (.int .u8 t1)) (c2 : w.cell? ⟨b, off + n + 2, none⟩ = some (.int .u8 t2)) (c3 : w.cell? ⟨b, off + n + 3, none⟩ = some (.int .u8 t3)) (hq : ¬ [t0, t1, t2, t3] = sealB body) :
    Calls Try.prog 21 #[.slice (some ⟨b, off, none⟩) (n + 4) cap] w fun e w' => e = .returned (.tuple #[.slice none 0 0, .int .i64 12]) ∧ Below w.heap.size w w' := by
  unfold maxLen at hm
  have he := fun W => eq_four W [t0, t1, t2, t3] (sealB body) ht (sealB_byt body) rfl (sealB_length body)
  rw [decide_eq_false hq] at he
  clear hq ht
  go_enter Try.func21, Try.ntmps21
  go_wp2
  have hle4 : (n : Int) ≤ (n : Int) + 4 := by omega
  generalize hMe : ((sealB body).map (Value.int .u8)).toArray = M at *
  have HM : Hid _ := hMe
  have he' : ∀ W, (Op.equalIn 10000 43 (.agg #[.int .u8 t0, .int .u8 t1, .int .u8 t2, .int .u8 t3]) (.agg M)).run Try.prog W = .ok false W := he
  clear hMe he
  have hat : ∀ W, (Instr.arrayAt 43 (.slice (some ⟨b, off + n, none⟩) 4 (cap - n))).run Try.prog W = .ok (.pointer (some ⟨b, off + n, none⟩)) W := fun W => by
    simp [Instr.arrayAt, run_underlying Try.underlying43]
  have hrd : Rd w.drew (.slice (some ⟨b, off, none⟩) n cap) body := hr
  go_region_with (go_at_call 27; refine (sumBytes_any _ _ body hrd hy).mono ?_; rintro e w1 ⟨rfl, hb1⟩; have k0 := (hb1.cell (p := ⟨b, off + n, none⟩) hbl).trans c0; have k1 := (hb1.cell (p := ⟨b, off + n + 1, none⟩) hbl).trans c1; have k2 := (hb1.cell (p := ⟨b, off + n + 2, none⟩) hbl).trans c2; have k3 := (hb1.cell (p := ⟨b, off + n + 3, none⟩) hbl).trans c3; rw [HM.out])
  all_goals
    go_wp2
    go_ret2
    exact ⟨rfl, (Below.refl _ w).drew.trans hb1⟩

set_option maxHeartbeats 1000000 in
theorem unseal_yes (w : World) (b off n cap : Nat) (body : List Int) (t0 t1 t2 t3 : Int) (hcap : n + 4 ≤ cap) (hm : cap ≤ maxLen) (hy : Byt body) (ht : Byt [t0, t1, t2, t3])
    (hr : Rd w (.slice (some ⟨b, off, none⟩) n cap) body) (hbl : b < w.heap.size) (hle : n ≤ 140737488355328)
    (c0 : w.cell? ⟨b, off + n, none⟩ = some (.int .u8 t0)) (c1 : w.cell? ⟨b, off + n + 1, none⟩ = some (.int .u8 t1)) (c2 : w.cell? ⟨b, off + n + 2, none⟩ = some (.int .u8 t2)) (c3 : w.cell? ⟨b, off + n + 3, none⟩ = some (.int .u8 t3)) (hq : [t0, t1, t2, t3] = sealB body) :
    Calls Try.prog 21 #[.slice (some ⟨b, off, none⟩) (n + 4) cap] w fun e w' => ∃ u, e = .returned (.tuple #[u, .int .i64 0]) ∧ OwnI w' w.heap.size u body ∧ Below w.heap.size w w' := by
  unfold maxLen at hm
  have he := fun W => eq_four W [t0, t1, t2, t3] (sealB body) ht (sealB_byt body) rfl (sealB_length body)
  rw [decide_eq_true hq] at he
  clear hq ht
  go_enter Try.func21, Try.ntmps21
  go_wp2
  have hle4 : (n : Int) ≤ (n : Int) + 4 := by omega
  generalize hMe : ((sealB body).map (Value.int .u8)).toArray = M at *
  have HM : Hid _ := hMe
  have he' : ∀ W, (Op.equalIn 10000 43 (.agg #[.int .u8 t0, .int .u8 t1, .int .u8 t2, .int .u8 t3]) (.agg M)).run Try.prog W = .ok true W := he
  clear hMe he
  have hat : ∀ W, (Instr.arrayAt 43 (.slice (some ⟨b, off + n, none⟩) 4 (cap - n))).run Try.prog W = .ok (.pointer (some ⟨b, off + n, none⟩)) W := fun W => by
    simp [Instr.arrayAt, run_underlying Try.underlying43]
  have hrd : Rd w.drew (.slice (some ⟨b, off, none⟩) n cap) body := hr
  go_region_with (go_at_call 27; refine (sumBytes_any _ _ body hrd hy).mono ?_; rintro e w1 ⟨rfl, hb1⟩; have k0 := (hb1.cell (p := ⟨b, off + n, none⟩) hbl).trans c0; have k1 := (hb1.cell (p := ⟨b, off + n + 1, none⟩) hbl).trans c1; have k2 := (hb1.cell (p := ⟨b, off + n + 2, none⟩) hbl).trans c2; have k3 := (hb1.cell (p := ⟨b, off + n + 3, none⟩) hbl).trans c3; rw [HM.out])
  all_goals
    have hb2 : Below w.heap.size w w1 := (Below.refl _ w).drew.trans hb1
    have hz2 := hb2.size
    have hr2 := hr.below hb2
    clear k0 k1 k2 k3 hb1 c0 c1 c2 c3 he' hat hrd
    go_wp2_with (go_at_call 28; refine (cloneI_any _ _ _ _ body hr2 hy (by rw [rd_length hr2]; exact hle)).mono ?_; rintro e w2 ⟨u, rfl, ho2, hb3⟩)
    go_ret2
    exact ⟨u, rfl, ho2.mono hz2, hb2.trans (hb3.mono hz2)⟩

end Go.Proofs.Ytmpddbnggddmdaa
