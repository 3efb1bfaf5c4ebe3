/- WSink, BBase: in one text. -/
import Derived.Test.YtiplhhaehbjghaaGreatM1
import Derived.Deep.RegionHeld3
import Derived.Below
namespace Go.Proofs.YtiplhhaehbjghaaGreat
open Go.RowKit
set_option linter.unusedVariables false
set_option maxHeartbeats 32000000
set_option maxRecDepth 100000
set_option linter.unusedSimpArgs false
section
variable {P : Program} {ops : Array Oper} {Q : Exit → Act → World → Prop} {md : Region.Mode} {S : World → Prop}
def Behind (P : Program) (ops : Array Oper) (z : Nat) (Q : Exit → Act → World → Prop) : Exit → Act → World → Prop
 | .normal, a, w => wpOp P ops Q z (fun a' w' => Q .normal a' w') a w
 | .ret, a, w => Q .ret a w
 | .exit l, a, w => Q (.exit l) a w
 | .panic c, a, w => Q (.panic c) a w
 | e, a, w => Q e a w
theorem upon_behind {z : Nat} {o : Oper} {a : Act} {K : Act → World → Prop} {r : Result Next} (h : o.upon P a K (Behind P ops z Q) r) : o.upon P a K Q r := by
 cases r with
 | ok n w' =>
  cases n <;> simp only [Oper.upon] at h ⊢ <;>
   first
    | exact h
    | exact Calls.mono h (fun e w'' he => by cases e <;> exact he)
 | halt x w' => cases x <;> simp only [Oper.upon] at h ⊢ <;> exact h
theorem wpOp_behind {z i : Nat} {a : Act} {w : World} {K : Act → World → Prop} (h : wpOp P ops (Behind P ops z Q) i K a w) : wpOp P ops Q i K a w := by
 unfold wpOp at *
 cases ho : ops[i]? with
 | none => simpa [ho] using h
 | some o =>
  simp only [ho] at h ⊢
  split
  ·rename_i hw
   rw [if_pos hw] at h
   rcases h with h | ⟨h1, h2⟩
   ·exact .inl (upon_behind h)
   ·exact .inr ⟨h1, h2⟩
  ·rename_i hw
   rw [if_neg hw] at h
   exact h
def sinkOk (md : Region.Mode) (ops : Array Oper) (z : Nat) : Bool :=
 (z + 1 == ops.size) && (List.range ops.size).all (fun i => ((ops[i]?).map (·.after.all fun e => decide (e.on < i))).getD true) &&
  (List.range z).all (fun j => (List.range ops.size).any (fun k => decide (j < k) && ((ops[k]?).map (·.after.any fun e => Region.binds md e && e.on == j)).getD false))
def Closed (md : Region.Mode) (ops : Array Oper) (listed : Array Bool) : Prop :=
 ∀ (k : Nat) (o : Oper) (e : Edge), ops[k]? = some o → listed.getD k false = true → e ∈ o.after → Region.binds md e = true → listed.getD e.on false = true
theorem wpAny_sink {z : Nat} (hs : sinkOk md ops z = true) : ∀ (fuel : Nat) (listed : Array Bool) (a : Act) (w : World), listed.size = ops.size → listed.getD z true = false → Closed md ops listed →
  wpAny P md ops (Behind P ops z Q) fuel (listed.setIfInBounds z true) a w → wpAny P md ops Q (fuel + 1) listed a w := by
 unfold sinkOk at hs
 simp only [Bool.and_eq_true, beq_iff_eq, List.all_eq_true, List.mem_range] at hs
 obtain ⟨⟨hz, hlow⟩, hwait⟩ := hs
 have low : ∀ (i : Nat) (o : Oper) (e : Edge), ops[i]? = some o → e ∈ o.after → e.on < i := fun i o e ho he => by
  have := hlow i (Array.getElem?_eq_some_iff.1 ho).1
  rw [ho] at this
  simp only [Option.map_some, Option.getD_some, Array.all_eq_true_iff_forall_mem] at this
  exact of_decide_eq_true (this e he)
 have getD_tf : ∀ (listed : Array Bool) (j : Nat), j < listed.size → listed.getD j false = listed.getD j true := fun listed j hj => by
  simp [Array.getD, hj]
 have progress : ∀ (listed : Array Bool), listed.size = ops.size → listed.getD z true = false → Region.ready md ops listed ≠ [] := fun listed hsz hzl hr => by
  have all : ∀ j, j ≤ z → listed.getD j true = true := fun j => by
   induction j using Nat.strongRecOn with
   | _ j ih =>
    intro hj
    cases hl : listed.getD j true with
    | true => rfl
    | false =>
     exfalso
     have hjs : j < ops.size := by omega
     have : j ∈ Region.ready md ops listed := mem_ready.2 ⟨hl, ops[j], Array.getElem?_eq_getElem hjs, fun e he hb => by
      have hlt := low j _ e (Array.getElem?_eq_getElem hjs) he
      rw [getD_tf listed e.on (by omega)]
      exact ih e.on hlt (by omega)⟩
     rw [hr] at this
     cases this
  rw [all z (Nat.le_refl _)] at hzl
  cases hzl
 have done : ∀ (listed : Array Bool), listed.size = ops.size → Closed md ops listed → z ∈ Region.ready md ops listed → Region.ready md ops (listed.setIfInBounds z true) = [] := fun listed hsz hcl hr => by
  obtain ⟨_, o, ho, hall⟩ := mem_ready.1 hr
  have every : ∀ d j, j + d = z → 0 < d → listed.getD j false = true := fun d => by
   induction d using Nat.strongRecOn with
   | _ d ih =>
    intro j hj hd
    have hw := hwait j (by omega)
    simp only [List.any_eq_true, List.mem_range, Bool.and_eq_true, decide_eq_true_eq] at hw
    obtain ⟨k, hk, hjk, hw⟩ := hw
    rw [Array.getElem?_eq_getElem hk] at hw
    simp only [Option.map_some, Option.getD_some, ← Array.any_toList, List.any_eq_true, Bool.and_eq_true, beq_iff_eq] at hw
    obtain ⟨ed, he', hb, hon⟩ := hw
    have he : ed ∈ ops[k].after := Array.mem_toList_iff.1 he'
    by_cases e : k = z
    ·have ho' : ops[k]? = some o := by rw [e]; exact ho
     rw [Array.getElem?_eq_getElem hk] at ho'
     have ho2 := Option.some.inj ho'
     rw [ho2] at he
     have := hall ed he hb
     rw [hon] at this
     exact this
    ·have h1 := ih (z - k) (by omega) k (by omega) (by omega)
     have := hcl k _ ed (Array.getElem?_eq_getElem hk) h1 he hb
     rw [hon] at this
     exact this
  apply List.eq_nil_iff_forall_not_mem.2
  intro i hi
  obtain ⟨h0, oi, hoi, _⟩ := mem_ready.1 hi
  have his : i < ops.size := (Array.getElem?_eq_some_iff.1 hoi).1
  by_cases e : i = z
  ·subst e
   rw [show (listed.setIfInBounds i true).getD i true = true from by simp [Array.getD, Array.size_setIfInBounds, hsz, his]] at h0
   cases h0
  ·have h1 := every (z - i) i (by omega) (by omega)
   rw [getD_tf listed i (by omega)] at h1
   have h2 : (listed.setIfInBounds z true).getD i true = listed.getD i true := by
    simp [Array.getD, Array.size_setIfInBounds, hsz, his, Array.getElem_setIfInBounds, Ne.symm e]
   rw [h2, h1] at h0
   cases h0
 have closed : ∀ (listed : Array Bool) (i : Nat), listed.size = ops.size → Closed md ops listed → i ∈ Region.ready md ops listed → Closed md ops (listed.setIfInBounds i true) := fun listed i hsz hcl hi k o e ho hk he hb => by
  obtain ⟨_, oi, hoi, hall⟩ := mem_ready.1 hi
  apply getD_set_true
  by_cases q : k = i
  ·subst q
   rw [hoi] at ho
   have := Option.some.inj ho
   subst this
   exact hall e he hb
  ·refine hcl k o e ho ?_ he hb
   have hks : k < ops.size := (Array.getElem?_eq_some_iff.1 ho).1
   have h2 : (listed.setIfInBounds i true).getD k false = listed.getD k false := by
    simp [Array.getD, Array.size_setIfInBounds, hsz, hks, Array.getElem_setIfInBounds, Ne.symm q]
   rw [h2] at hk
   exact hk
 intro fuel
 induction fuel with
 | zero =>
  intro listed a w hsz hzl hcl H
  refine ⟨fun h => absurd h (progress listed hsz hzl), fun i hi => ?_⟩
  by_cases e : i = z
  ·subst e
   exact wpOp_mono (fun a' w' q => ⟨H.1, q⟩) H.2
  ·have := ready_mono hi e
   rw [H.1] at this
   cases this
 | succ fuel ih =>
  intro listed a w hsz hzl hcl H
  refine ⟨fun h => absurd h (progress listed hsz hzl), fun i hi => ?_⟩
  by_cases e : i = z
  ·subst e
   have hd := done listed hsz hcl hi
   exact wpOp_mono (fun a' w' q => ⟨fun _ => q, fun j hj => by rw [hd] at hj; cases hj⟩) (H.1 hd)
  ·refine wpOp_mono (fun a' w' q => ?_) (wpOp_behind (H.2 i (ready_mono hi e)))
   refine ih (listed.setIfInBounds i true) a' w' (by simpa using hsz) ?_ (closed listed i hsz hcl hi) ?_
   ·rw [← hzl]
    have hzs : z < listed.size := by omega
    simp [Array.getD, Array.size_setIfInBounds, hzs, Array.getElem_setIfInBounds, e]
   ·rw [Array.setIfInBounds_comm true true e]
    exact q
theorem wp_region_sink {id : Nat} {a : Act} {w : World} (z : Nat) (hs : sinkOk .any ops z = true) (hm : P.follows .mixedOrders = true) (hS : S w.drew)
  (h : S w.drew → wpAnyH P .any ops (Behind P ops z Q) S z ((Array.replicate ops.size false).setIfInBounds z true) a w.drew) : (Code.region id ops true).wp P Q a w := by
 refine wp_region_any hm ?_
 have hz : ops.size = z + 1 := by
  unfold sinkOk at hs
  simp only [Bool.and_eq_true, beq_iff_eq] at hs
  omega
 rw [hz]
 refine wpAny_sink hs z (Array.replicate (z + 1) false) a w.drew (by simp [hz]) (by simp [Array.getD]) (fun k o e ho hk he hb => by simp [Array.getD] at hk) ?_
 have := wpAny_of_held _ _ _ _ (h hS)
 rw [hz] at this
 exact this
theorem wpOp_at {i : Nat} {o : Oper} {a : Act} {w : World} {K : Act → World → Prop} (ho : ops[i]? = some o) (h : if Region.wanted o (yielded ops a.tmps) = true then o.wp P a w K Q else K (a.put o.dst undef) w) : wpOp P ops Q i K a w := by
 unfold wpOp
 simp only [ho]
 split
 ·rename_i hw
  rw [if_pos hw] at h
  exact .inl h
 ·rename_i hw
  rw [if_neg hw] at h
  exact h
theorem Behind.run {z : Nat} {o : Oper} {a : Act} {w : World} (ho : ops[z]? = some o) (h : if Region.wanted o (yielded ops a.tmps) = true then o.wp P a w (fun a' w' => Q .normal a' w') Q else Q .normal (a.put o.dst undef) w) : Behind P ops z Q .normal a w := wpOp_at ho h
end
/- What a call may change; no function of the program. -/
structure Sole (S : List Nat) (w w' : World) : Prop where
 os : w'.os = w.os
 tape : w'.tape = w.tape
 output : w'.output = w.output
 size : w.heap.size ≤ w'.heap.size
 block : ∀ k, k < w.heap.size → k ∉ S → w'.heap[k]? = w.heap[k]?
theorem Sole.refl (S : List Nat) (w : World) : Sole S w w := ⟨rfl, rfl, rfl, Nat.le_refl _, fun _ _ _ => rfl⟩
theorem Sole.trans {S : List Nat} {a b c : World} (h : Sole S a b) (k : Sole S b c) : Sole S a c :=
 ⟨k.os.trans h.os, k.tape.trans h.tape, k.output.trans h.output, Nat.le_trans h.size k.size, fun i hi hn => (k.block i (Nat.lt_of_lt_of_le hi h.size) hn).trans (h.block i hi hn)⟩
theorem Sole.mono {S S' : List Nat} {w w' : World} (h : Sole S w w') (hs : ∀ k ∈ S, k ∈ S') : Sole S' w w' :=
 ⟨h.os, h.tape, h.output, h.size, fun k hk hn => h.block k hk (fun e => hn (hs k e))⟩
theorem Sole.after {S S' : List Nat} {w0 w w' : World} (h0 : Sole S w0 w) (h : Sole S' w w') (hs : ∀ k ∈ S', k ∈ S ∨ w0.heap.size ≤ k) : Sole S w0 w' :=
 ⟨h.os.trans h0.os, h.tape.trans h0.tape, h.output.trans h0.output, Nat.le_trans h0.size h.size, fun i hi hn => (h.block i (Nat.lt_of_lt_of_le hi h0.size) (fun e => by rcases hs i e with h | h; exact hn h; omega)).trans (h0.block i hi hn)⟩
theorem Sole.of_below {w w' : World} (h : Below w.heap.size w w') (S : List Nat) : Sole S w w' := ⟨h.os, h.tape, h.output, h.size, fun k hk _ => h.block k hk⟩
theorem Sole.below {w w' : World} (h : Sole [] w w') : Below w.heap.size w w' := ⟨h.os, h.tape, h.output, h.size, fun k hk => h.block k hk (by simp)⟩
theorem Sole.setCell (w : World) {a : Addr} (u : Value) {S : List Nat} (hb : a.block ∈ S) : Sole S w (w.setCell a u) :=
 ⟨rfl, rfl, rfl, by simp [World.setCell], fun k hk hn => Below.heap_setCell _ _ _ _ (fun e => hn (by rw [e]; exact hb))⟩
theorem Sole.drew (w : World) (S : List Nat) : Sole S w w.drew := ⟨rfl, rfl, rfl, Nat.le_refl _, fun _ _ _ => rfl⟩
theorem belowQ (W : World) (q B : Nat) : Below B W (W.drewN q) := ⟨rfl, rfl, rfl, Nat.le_refl _, fun _ _ => rfl⟩
def ptr (p : Nat) : Value := .pointer (some ⟨p, 0, none⟩)
end Go.Proofs.YtiplhhaehbjghaaGreat
