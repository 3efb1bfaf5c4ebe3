/- PCheck, PCheck2, PCompare: in one text. -/
import Derived.Test.YtgajjphjkbnaeaaGreatQ1
import Derived.Test.YtgajjphjkbnaeaaGreatQ3
import Derived.Deep.RegionHeld3
import Derived.Deep.RegionWith
import Derived.BigQuiet
namespace Go.Proofs.YtgajjphjkbnaeaaGreat
open Go.RowKit
set_option linter.unusedVariables false
set_option maxHeartbeats 32000000
set_option maxRecDepth 100000
set_option linter.unusedSimpArgs false
def plOk (p : Pl) : Bool :=
 !(p.ino == 0) && ((p.part == 1 && p.name.toList == [] && p.chunk == 0) || (p.part == 2 && nameOk p.name && p.chunk == 0) || (p.part == 3 && p.name.toList == [] && decide (p.chunk < 16)))
theorem plOk_rec (i : Int) (s : ByteArray) (c : Int) (h0 : i ≠ 0) : plOk ⟨i,1,s,c⟩ = plEq ⟨i,1,s,c⟩ (recP i):=by
 have : (i == 0) = false:=by simpa using h0
 simp [plOk,plEq,recP,this,ByteArray.toList_eq]
theorem plOk_ent (i : Int) (s : ByteArray) (c : Int) (h0 : i ≠ 0) : plOk ⟨i,2,s,c⟩ = (nameOk s && c == 0):=by
 have : (i == 0) = false:=by simpa using h0
 simp [plOk,this]
theorem plOk_dat (i : Int) (s : ByteArray) (c : Int) (h0 : i ≠ 0) : plOk ⟨i,3,s,c⟩ = (s.toList == [] && decide (c < 16)):=by
 have : (i == 0) = false:=by simpa using h0
 simp [plOk,this]
theorem mayBe_rec (w : World) (i : Int) (s : ByteArray) (c : Int) (h0 : i ≠ 0) : Calls Tryz.prog 129 #[plV ⟨i,1,s,c⟩] w fun e w' => e = .returned (.bool (plOk ⟨i,1,s,c⟩)) ∧ Below w.heap.size w w':=by
 rw [plOk_rec i s c h0]
 unfold plV
 have heq : ∀ W,(binOp .eql 110 (.agg #[.int .u32 i,.int .i64 1,.string s,.int .u32 c]) (.agg #[.int .u32 i,.int .i64 1,.string ⟨#[]⟩,.int .u32 0])).run Tryz.prog W = .ok (.bool (plEq ⟨i,1,s,c⟩ (recP i))) W:=fun W => eq_places W i 1 c i 1 0 s ⟨#[]⟩
 go_enter Tryz.func129,Tryz.ntmps129
 go_wp2
 obtain ⟨w1,hw1⟩ : ∃ w1,w1 = w.alloc (.cells #[.int .u32 i,.int .i64 1,.string s,.int .u32 c] 110):=⟨_,rfl⟩
 rw [← hw1]
 have hb1 : Below w.heap.size w w1:=by rw [hw1]; exact (Below.refl _ _).alloc (Nat.le_refl _) _
 have hp1 : PlAt w1 w.heap.size ⟨i,1,s,c⟩:=by rw [hw1]; exact PlAt.laid w ⟨i,1,s,c⟩
 have q0 : ∀ W,Below w1.heap.size w1 W → W.cell? ⟨w.heap.size,0,none⟩ = some (.int .u32 i):=fun W hW => (hp1.below hW).c0
 have q1 : ∀ W,Below w1.heap.size w1 W → W.cell? ⟨w.heap.size,1,none⟩ = some (.int .i64 1):=fun W hW => (hp1.below hW).c1
 have q2 : ∀ W,Below w1.heap.size w1 W → W.cell? ⟨w.heap.size,2,none⟩ = some (.string s):=fun W hW => (hp1.below hW).c2
 have q3 : ∀ W,Below w1.heap.size w1 W → W.cell? ⟨w.heap.size,3,none⟩ = some (.int .u32 c):=fun W hW => (hp1.below hW).c3
 clear hw1
 refine wp_region_noPanic ?_
 go_region_held (fun W => Below w1.heap.size w1 W) (first | assumption | exact (Below.refl _ _).drew | exact keep2 (by assumption) (by assumption))
  (first | (go_at_call 136; refine (record_any _ _).mono ?_; rintro e w2 ⟨rfl,hb2⟩; unfold plV recP))
 refine NoPanic.normal ?_
 have hlast : Below w1.heap.size w1 w2:=by assumption
 clear q0 q1 q2 q3
 go_wp2
 go_ret
 exact ⟨rfl,thenB hb1 hlast⟩
theorem mayBe_ent0 (w : World) (i : Int) (s : ByteArray) (c : Int) (h0 : i ≠ 0) (hs : s.size ≤ maxLen) (hc : c = 0) : Calls Tryz.prog 129 #[plV ⟨i,2,s,c⟩] w fun e w' => e = .returned (.bool (nameOk s)) ∧ Below w.heap.size w w':=by
 unfold plV
 have heq : ∀ W,(binOp .eql 110 (.agg #[.int .u32 i,.int .i64 2,.string s,.int .u32 c]) (.agg #[.int .u32 i,.int .i64 2,.string s,.int .u32 0])).run Tryz.prog W = .ok (.bool true) W:=fun W => by
  rw [eq_places W i 2 c i 2 0 s s]
  simp [plEq,hc]
 have HN : Hid ((nameE s == 0) = nameOk s):=by
  show _ = _
  unfold nameE; cases nameOk s <;> rfl
 clear hc
 go_enter Tryz.func129,Tryz.ntmps129
 go_wp2
 obtain ⟨w1,hw1⟩ : ∃ w1,w1 = w.alloc (.cells #[.int .u32 i,.int .i64 2,.string s,.int .u32 c] 110):=⟨_,rfl⟩
 rw [← hw1]
 have hb1 : Below w.heap.size w w1:=by rw [hw1]; exact (Below.refl _ _).alloc (Nat.le_refl _) _
 have hp1 : PlAt w1 w.heap.size ⟨i,2,s,c⟩:=by rw [hw1]; exact PlAt.laid w ⟨i,2,s,c⟩
 have q0 : ∀ W,Below w1.heap.size w1 W → W.cell? ⟨w.heap.size,0,none⟩ = some (.int .u32 i):=fun W hW => (hp1.below hW).c0
 have q1 : ∀ W,Below w1.heap.size w1 W → W.cell? ⟨w.heap.size,1,none⟩ = some (.int .i64 2):=fun W hW => (hp1.below hW).c1
 have q2 : ∀ W,Below w1.heap.size w1 W → W.cell? ⟨w.heap.size,2,none⟩ = some (.string s):=fun W hW => (hp1.below hW).c2
 have q3 : ∀ W,Below w1.heap.size w1 W → W.cell? ⟨w.heap.size,3,none⟩ = some (.int .u32 c):=fun W hW => (hp1.below hW).c3
 clear hw1
 refine wp_region_noPanic ?_
 go_region_held (fun W => Below w1.heap.size w1 W) (first | assumption | exact (Below.refl _ _).drew | exact keep2 (by assumption) (by assumption))
  (first
   | (go_at_call 138; refine (entry_any _ _ _).mono ?_; rintro e w2 ⟨rfl,hb2⟩; unfold plV entP)
   | (go_at_call 74; refine (checkName_any _ _ hs).mono ?_; rintro e w3 ⟨rfl,rfl⟩))
 refine NoPanic.normal ?_
 clear q0 q1 q2 q3
 go_wp2
 go_ret
 refine ⟨congrArg (fun x => Ending.returned (Value.bool x)) HN.out,thenB hb1 (by assumption)⟩
theorem mayBe_ent1 (w : World) (i : Int) (s : ByteArray) (c : Int) (h0 : i ≠ 0) (hs : s.size ≤ maxLen) (hc : c ≠ 0) : Calls Tryz.prog 129 #[plV ⟨i,2,s,c⟩] w fun e w' => e = .returned (.bool false) ∧ Below w.heap.size w w':=by
 unfold plV
 have heq : ∀ W,(binOp .eql 110 (.agg #[.int .u32 i,.int .i64 2,.string s,.int .u32 c]) (.agg #[.int .u32 i,.int .i64 2,.string s,.int .u32 0])).run Tryz.prog W = .ok (.bool false) W:=fun W => by
  rw [eq_places W i 2 c i 2 0 s s]
  simp [plEq,hc]
 clear hc
 go_enter Tryz.func129,Tryz.ntmps129
 go_wp2
 obtain ⟨w1,hw1⟩ : ∃ w1,w1 = w.alloc (.cells #[.int .u32 i,.int .i64 2,.string s,.int .u32 c] 110):=⟨_,rfl⟩
 rw [← hw1]
 have hb1 : Below w.heap.size w w1:=by rw [hw1]; exact (Below.refl _ _).alloc (Nat.le_refl _) _
 have hp1 : PlAt w1 w.heap.size ⟨i,2,s,c⟩:=by rw [hw1]; exact PlAt.laid w ⟨i,2,s,c⟩
 have q0 : ∀ W,Below w1.heap.size w1 W → W.cell? ⟨w.heap.size,0,none⟩ = some (.int .u32 i):=fun W hW => (hp1.below hW).c0
 have q1 : ∀ W,Below w1.heap.size w1 W → W.cell? ⟨w.heap.size,1,none⟩ = some (.int .i64 2):=fun W hW => (hp1.below hW).c1
 have q2 : ∀ W,Below w1.heap.size w1 W → W.cell? ⟨w.heap.size,2,none⟩ = some (.string s):=fun W hW => (hp1.below hW).c2
 have q3 : ∀ W,Below w1.heap.size w1 W → W.cell? ⟨w.heap.size,3,none⟩ = some (.int .u32 c):=fun W hW => (hp1.below hW).c3
 clear hw1
 refine wp_region_noPanic ?_
 refine wp_region_held_drew (S:=fun W => Below w1.heap.size w1 W) (by kernel_rfl) (Below.refl _ _).drew (fun hHeld => ?_)
 refine tk 0 (.agg #[.int .u32 i,.int .i64 2,.string s,.int .u32 c]) rfl ?_
 simp only [nz]
 refine tk 1 (.pointer (some ⟨w.heap.size,0,none⟩)) rfl ?_
 simp only [nz]
 refine tk 2 (.int .u32 i) rfl ?_
 simp only [nz]
 refine tk 3 (.pointer (some ⟨w.heap.size,2,none⟩)) rfl ?_
 simp only [nz]
 refine tk 4 (.string s) rfl ?_
 simp only [nz]
 refine rd 5 rfl (fun K hK => ?_)
 go_simp
 go_wp2_with (go_at_call 138; refine (entry_any _ _ _).mono ?_; rintro e w2 ⟨rfl,hb2⟩; unfold plV entP)
 refine hK.out _ _ (keep2 (by assumption) (by assumption)) (fun hHeld2 => ?_)
 clear hK K
 refine tk 6 (.bool false) rfl ?_
 simp only [nz]
 refine tk 7 (.bool false) rfl ?_
 simp only [nz]
 refine wpAnyH_take (i:=8) (v:=undef) rfl (by kernel_rfl) (by kernel_rfl) (by kernel_rfl) (fun _ _ _ h => h) (Or.inr ⟨by rfl,rfl⟩) (by assumption) ?_
 simp only [nz]
 refine wpAnyH_take (i:=9) (v:=undef) rfl (by kernel_rfl) (by kernel_rfl) (by kernel_rfl) (fun _ _ _ h => h) (Or.inr ⟨by rfl,rfl⟩) (by assumption) ?_
 simp only [nz]
 refine wpAnyH_take (i:=10) (v:=undef) rfl (by kernel_rfl) (by kernel_rfl) (by kernel_rfl) (fun _ _ _ h => h) (Or.inr ⟨by rfl,rfl⟩) (by assumption) ?_
 simp only [nz]
 refine wpAnyH_take (i:=11) (v:=undef) rfl (by kernel_rfl) (by kernel_rfl) (by kernel_rfl) (fun _ _ _ h => h) (Or.inr ⟨by rfl,rfl⟩) (by assumption) ?_
 simp only [nz]
 refine tk 12 (.bool false) rfl ?_
 simp only [nz]
 refine tk 13 (.bool false) rfl ?_
 simp only [nz]
 refine wpAnyH_done (by kernel_rfl) ?_ _
 refine NoPanic.normal ?_
 clear q0 q1 q2 q3
 go_wp2
 go_ret
 exact ⟨rfl,thenB hb1 hHeld2⟩
theorem mayBe_dat0 (w : World) (i : Int) (s : ByteArray) (c : Int) (h0 : i ≠ 0) (hs : s.toList = []) : Calls Tryz.prog 129 #[plV ⟨i,3,s,c⟩] w fun e w' => e = .returned (.bool (decide (c < 16))) ∧ Below w.heap.size w w':=by
 unfold plV
 have heq : ∀ W,(binOp .eql 110 (.agg #[.int .u32 i,.int .i64 3,.string s,.int .u32 c]) (.agg #[.int .u32 i,.int .i64 3,.string ⟨#[]⟩,.int .u32 c])).run Tryz.prog W = .ok (.bool true) W:=fun W => by
  rw [eq_places W i 3 c i 3 c s ⟨#[]⟩]
  simp [plEq,hs,ByteArray.toList_eq]
 clear hs
 go_enter Tryz.func129,Tryz.ntmps129
 go_wp2
 obtain ⟨w1,hw1⟩ : ∃ w1,w1 = w.alloc (.cells #[.int .u32 i,.int .i64 3,.string s,.int .u32 c] 110):=⟨_,rfl⟩
 rw [← hw1]
 have hb1 : Below w.heap.size w w1:=by rw [hw1]; exact (Below.refl _ _).alloc (Nat.le_refl _) _
 have hp1 : PlAt w1 w.heap.size ⟨i,3,s,c⟩:=by rw [hw1]; exact PlAt.laid w ⟨i,3,s,c⟩
 have q0 : ∀ W,Below w1.heap.size w1 W → W.cell? ⟨w.heap.size,0,none⟩ = some (.int .u32 i):=fun W hW => (hp1.below hW).c0
 have q1 : ∀ W,Below w1.heap.size w1 W → W.cell? ⟨w.heap.size,1,none⟩ = some (.int .i64 3):=fun W hW => (hp1.below hW).c1
 have q2 : ∀ W,Below w1.heap.size w1 W → W.cell? ⟨w.heap.size,2,none⟩ = some (.string s):=fun W hW => (hp1.below hW).c2
 have q3 : ∀ W,Below w1.heap.size w1 W → W.cell? ⟨w.heap.size,3,none⟩ = some (.int .u32 c):=fun W hW => (hp1.below hW).c3
 clear hw1
 refine wp_region_noPanic ?_
 go_region_held (fun W => Below w1.heap.size w1 W) (first | assumption | exact (Below.refl _ _).drew | exact keep2 (by assumption) (by assumption))
  (first
   | (go_at_call 139; refine (data_any _ _ _).mono ?_; rintro e w2 ⟨rfl,hb2⟩; unfold plV datP))
 refine NoPanic.normal ?_
 clear q0 q1 q2 q3
 go_wp2
 go_ret
 exact ⟨rfl,thenB hb1 (by assumption)⟩
theorem mayBe_dat1 (w : World) (i : Int) (s : ByteArray) (c : Int) (h0 : i ≠ 0) (hs : s.toList ≠ []) : Calls Tryz.prog 129 #[plV ⟨i,3,s,c⟩] w fun e w' => e = .returned (.bool false) ∧ Below w.heap.size w w':=by
 unfold plV
 have heq : ∀ W,(binOp .eql 110 (.agg #[.int .u32 i,.int .i64 3,.string s,.int .u32 c]) (.agg #[.int .u32 i,.int .i64 3,.string ⟨#[]⟩,.int .u32 c])).run Tryz.prog W = .ok (.bool false) W:=fun W => by
  rw [eq_places W i 3 c i 3 c s ⟨#[]⟩]
  simp [plEq,hs]
 clear hs
 go_enter Tryz.func129,Tryz.ntmps129
 go_wp2
 obtain ⟨w1,hw1⟩ : ∃ w1,w1 = w.alloc (.cells #[.int .u32 i,.int .i64 3,.string s,.int .u32 c] 110):=⟨_,rfl⟩
 rw [← hw1]
 have hb1 : Below w.heap.size w w1:=by rw [hw1]; exact (Below.refl _ _).alloc (Nat.le_refl _) _
 have hp1 : PlAt w1 w.heap.size ⟨i,3,s,c⟩:=by rw [hw1]; exact PlAt.laid w ⟨i,3,s,c⟩
 have q0 : ∀ W,Below w1.heap.size w1 W → W.cell? ⟨w.heap.size,0,none⟩ = some (.int .u32 i):=fun W hW => (hp1.below hW).c0
 have q1 : ∀ W,Below w1.heap.size w1 W → W.cell? ⟨w.heap.size,1,none⟩ = some (.int .i64 3):=fun W hW => (hp1.below hW).c1
 have q2 : ∀ W,Below w1.heap.size w1 W → W.cell? ⟨w.heap.size,2,none⟩ = some (.string s):=fun W hW => (hp1.below hW).c2
 have q3 : ∀ W,Below w1.heap.size w1 W → W.cell? ⟨w.heap.size,3,none⟩ = some (.int .u32 c):=fun W hW => (hp1.below hW).c3
 clear hw1
 refine wp_region_noPanic ?_
 refine wp_region_held_drew (S:=fun W => Below w1.heap.size w1 W) (by kernel_rfl) (Below.refl _ _).drew (fun hHeld => ?_)
 refine tk 0 (.agg #[.int .u32 i,.int .i64 3,.string s,.int .u32 c]) rfl ?_
 simp only [nz]
 refine tk 1 (.pointer (some ⟨w.heap.size,0,none⟩)) rfl ?_
 simp only [nz]
 refine tk 2 (.int .u32 i) rfl ?_
 simp only [nz]
 refine tk 3 (.pointer (some ⟨w.heap.size,3,none⟩)) rfl ?_
 simp only [nz]
 refine tk 4 (.int .u32 c) rfl ?_
 simp only [nz]
 refine rd 5 rfl (fun K hK => ?_)
 go_simp
 go_wp2_with (go_at_call 139; refine (data_any _ _ _).mono ?_; rintro e w2 ⟨rfl,hb2⟩; unfold plV datP)
 refine hK.out _ _ (keep2 (by assumption) (by assumption)) (fun hHeld2 => ?_)
 clear hK K
 refine tk 6 (.bool false) rfl ?_
 simp only [nz]
 refine tk 7 (.bool false) rfl ?_
 simp only [nz]
 refine wpAnyH_take (i:=8) (v:=undef) rfl (by kernel_rfl) (by kernel_rfl) (by kernel_rfl) (fun _ _ _ h => h) (Or.inr ⟨by rfl,rfl⟩) (by assumption) ?_
 simp only [nz]
 refine wpAnyH_take (i:=9) (v:=undef) rfl (by kernel_rfl) (by kernel_rfl) (by kernel_rfl) (fun _ _ _ h => h) (Or.inr ⟨by rfl,rfl⟩) (by assumption) ?_
 simp only [nz]
 refine wpAnyH_take (i:=10) (v:=undef) rfl (by kernel_rfl) (by kernel_rfl) (by kernel_rfl) (fun _ _ _ h => h) (Or.inr ⟨by rfl,rfl⟩) (by assumption) ?_
 simp only [nz]
 refine tk 11 (.bool false) rfl ?_
 simp only [nz]
 refine tk 12 (.bool false) rfl ?_
 simp only [nz]
 refine wpAnyH_done (by kernel_rfl) ?_ _
 refine NoPanic.normal ?_
 clear q0 q1 q2 q3
 go_wp2
 go_ret
 exact ⟨rfl,thenB hb1 hHeld2⟩
theorem mayBe_ino (w : World) (k : Int) (s : ByteArray) (c : Int) : Calls Tryz.prog 129 #[plV ⟨0,k,s,c⟩] w fun e w' => e = .returned (.bool false) ∧ Below w.heap.size w w':=by
 unfold plV
 go_enter Tryz.func129,Tryz.ntmps129
 go_wp2
 go_ret
 exact ⟨rfl,(Below.refl _ _).alloc (Nat.le_refl _) _⟩
theorem mayBe_part (w : World) (i k : Int) (s : ByteArray) (c : Int) (h0 : i ≠ 0) (h1 : k ≠ 1) (h2 : k ≠ 2) (h3 : k ≠ 3) : Calls Tryz.prog 129 #[plV ⟨i,k,s,c⟩] w fun e w' => e = .returned (.bool false) ∧ Below w.heap.size w w':=by
 unfold plV
 go_enter Tryz.func129,Tryz.ntmps129
 go_wp2
 go_ret
 exact ⟨rfl,(Below.refl _ _).alloc (Nat.le_refl _) _⟩
theorem mayBe_any (w : World) (p : Pl) (hp : PlOk p) : Calls Tryz.prog 129 #[plV p] w fun e w' => e = .returned (.bool (plOk p)) ∧ Below w.heap.size w w':=by
 have hn:=hp.n1
 clear hp
 obtain ⟨i,k,s,c⟩:=p
 dsimp only at hn
 by_cases h0 : i = 0
 ·subst h0
  exact mayBe_ino w k s c
 ·by_cases h1 : k = 1
  ·subst h1
   exact mayBe_rec w i s c h0
  ·by_cases h2 : k = 2
   ·subst h2
    rw [plOk_ent i s c h0]
    by_cases hc : c = 0
    ·rw [show (c == 0) = true from by simpa using hc,Bool.and_true]
     exact mayBe_ent0 w i s c h0 hn hc
    ·rw [show (c == 0) = false from by simpa using hc,Bool.and_false]
     exact mayBe_ent1 w i s c h0 hn hc
   ·by_cases h3 : k = 3
    ·subst h3
     rw [plOk_dat i s c h0]
     by_cases hs : s.toList = []
     ·rw [show (s.toList == []) = true from by simpa using hs,Bool.true_and]
      exact mayBe_dat0 w i s c h0 hs
     ·rw [show (s.toList == []) = false from by simpa using hs,Bool.false_and]
      exact mayBe_dat1 w i s c h0 hs
    ·rw [show plOk ⟨i,k,s,c⟩ = false from by simp [plOk,h1,h2,h3]]
     exact mayBe_part w i k s c h0 h1 h2 h3
def plE (p : Pl) : Int:=if plOk p then 0 else 30
theorem check_any (w : World) (p : Pl) (hp : PlOk p) : Calls Tryz.prog 111 #[plV p] w fun e w' => e = .returned (.int .i64 (plE p)) ∧ Below w.heap.size w w':=by
 have hmb : ∀ W,Calls Tryz.prog 129 #[.agg #[.int .u32 p.ino,.int .i64 p.part,.string p.name,.int .u32 p.chunk]] W fun e w' => e = .returned (.bool (plOk p)) ∧ Below W.heap.size W w':=fun W => mayBe_any W p hp
 unfold plE
 unfold plV
 clear hp
 generalize plOk p = b at *
 cases b
 ·go_enter Tryz.func111,Tryz.ntmps111
  go_wp2_with fail
  refine (hmb _).mono ?_
  rintro e w1 ⟨rfl,hb1⟩
  go_wp2
  go_ret
  exact ⟨rfl,thenB ((Below.refl _ _).alloc (Nat.le_refl _) _) hb1⟩
 ·go_enter Tryz.func111,Tryz.ntmps111
  go_wp2_with fail
  refine (hmb _).mono ?_
  rintro e w1 ⟨rfl,hb1⟩
  go_wp2
  go_ret
  exact ⟨rfl,thenB ((Below.refl _ _).alloc (Nat.le_refl _) _) hb1⟩
def cmpP (a b : Pl) : Int:=orL [cmpI a.ino b.ino,cmpI a.part b.part,cmpS a.name b.name,cmpI a.chunk b.chunk]
end Go.Proofs.YtgajjphjkbnaeaaGreat
