/- CgCheck, CgJoin: in one text. -/
import Derived.Test.YtgajjphjkbnaeaaGreatQ1
import Derived.Test.YtgajjphjkbnaeaaGreatQ9
import Derived.Test.YtgajjphjkbnaeaaGreatQ6
namespace Go.Proofs.YtgajjphjkbnaeaaGreat
open Go.RowKit
set_option linter.unusedVariables false
set_option maxHeartbeats 32000000
set_option maxRecDepth 100000
set_option linter.unusedSimpArgs false
theorem OneS.below {w W W' : World} {c : Cg} (h : OneS w W c) (hb : Below W.heap.size W W') : OneS w W' c:=⟨h.c.below hb,h.bel.trans (hb.mono h.bel.size)⟩
theorem OneS.drew {w W : World} {c : Cg} (h : OneS w W c) : OneS w W.drew c:=⟨h.c.drew,h.bel.drew⟩
theorem recordMayBe_any (w : World) (c : Cg) (h : CgOk c) : Calls Tryz.prog 151 #[.agg (cgC c)] w fun e w' => e = .returned (.bool (recOk c)) ∧ Below w.heap.size w w':=by
 have HL : Hid (c.pt.bytes.length = 32):=h.pt.ch.1
 have hS:=one_laid w c
 obtain ⟨w1,hw1⟩ : ∃ w1,w.alloc (.cells (cgC c) 114) = w1:=⟨_,rfl⟩
 rw [hw1] at hS
 have hl1 : Hid _:=hS.c.load HL.out
 have hp1 : Hid _:=hS.c.loadP
 have hi1 : Hid _:=hS.c.loadI
 have c5:=hS.c.c5
 cases hf : c.fresh
 ·have HR : Hid (recOk c = fieldsOk c):=by unfold Hid recOk; rw [hf]; exact if_neg (by decide)
  rw [hf] at c5
  rw [HR.out]
  go_enter Tryz.func151,Tryz.ntmps151
  go_wp2_with (refine wpList_loadG rfl 114 _ rfl _ rfl _ hl1.out ?_)
  refine (fieldsMayBe_any _ c h).mono ?_
  rintro e w2 ⟨rfl,hb2⟩
  go_wp2
  go_ret
  exact ⟨rfl,hS.bel.trans (hb2.mono hS.bel.size)⟩
 ·have HR : Hid (recOk c = (cgEq c (freshC c.pl c.kind c.mode c.links c.size) && inoOk c.kind c.mode c.links c.size)):=by unfold Hid recOk; rw [hf]; exact if_pos rfl
  rw [hf] at c5
  rw [HR.out]
  have heq:=fun W => eq_cgs W (x:=c) (y:=freshC c.pl c.kind c.mode c.links c.size) HL.out len0
  cases hq : cgEq c (freshC c.pl c.kind c.mode c.links c.size)
  ·rw [hq] at heq
   go_enter Tryz.func151,Tryz.ntmps151
   go_wp2_with (first
    | (refine wpList_loadG rfl 114 _ rfl _ rfl _ hl1.out ?_)
    | (refine wpList_loadG rfl 110 _ rfl _ rfl _ hp1.out ?_)
    | (refine wpList_loadG rfl 41 _ rfl _ rfl _ hi1.out ?_)
    | (refine wpList_buildBy rfl 114 _ rfl _ rfl [(0,plV c.pl),(2,.bool true),(4,.agg #[.int .i64 c.kind,.int .i64 c.mode,.int .i64 c.links,.int .i64 c.size])] (by kernel_rfl) _ (bt_fresh c.pl c.kind c.mode c.links c.size) ?_))
   go_ret
   exact ⟨rfl,hS.bel⟩
  ·rw [hq] at heq
   go_enter Tryz.func151,Tryz.ntmps151
   go_wp2_with (first
    | (refine wpList_loadG rfl 114 _ rfl _ rfl _ hl1.out ?_)
    | (refine wpList_loadG rfl 110 _ rfl _ rfl _ hp1.out ?_)
    | (refine wpList_loadG rfl 41 _ rfl _ rfl _ hi1.out ?_)
    | (refine wpList_buildBy rfl 114 _ rfl _ rfl [(0,plV c.pl),(2,.bool true),(4,.agg #[.int .i64 c.kind,.int .i64 c.mode,.int .i64 c.links,.int .i64 c.size])] (by kernel_rfl) _ (bt_fresh c.pl c.kind c.mode c.links c.size) ?_))
   refine (checkInode_any _ c.kind c.mode c.links c.size).mono ?_
   rintro e w2 ⟨rfl,hb2⟩
   have hB2 : Below w.heap.size w w2:=hS.bel.trans (hb2.mono hS.bel.size)
   cases hi : inoOk c.kind c.mode c.links c.size
   ·rw [inoE_11 hi]
    go_wp2
    go_ret
    exact ⟨by rw [hi]; rfl,hB2⟩
   ·rw [inoE_0 hi]
    go_wp2
    go_ret
    exact ⟨by rw [hi]; rfl,hB2⟩
theorem entryMayBe_any (w : World) (c : Cg) (h : CgOk c) : Calls Tryz.prog 153 #[.agg (cgC c)] w fun e w' => e = .returned (.bool (entOk c)) ∧ Below w.heap.size w w':=by
 have HL : Hid (c.pt.bytes.length = 32):=h.pt.ch.1
 have hS:=one_laid w c
 obtain ⟨w1,hw1⟩ : ∃ w1,w.alloc (.cells (cgC c) 114) = w1:=⟨_,rfl⟩
 rw [hw1] at hS
 have hl1 : Hid _:=hS.c.load HL.out
 have hp1 : Hid _:=hS.c.loadP
 have c11:=hS.c.c11
 unfold entOk
 have heq:=fun W => eq_cgs W (x:=c) (y:=entC c.pl c.to) HL.out len0
 cases hq : cgEq c (entC c.pl c.to)
 ·rw [hq] at heq
  go_enter Tryz.func153,Tryz.ntmps153
  go_wp2_with (first
   | (refine wpList_loadG rfl 114 _ rfl _ rfl _ hl1.out ?_)
   | (refine wpList_loadG rfl 110 _ rfl _ rfl _ hp1.out ?_)
   | (refine wpList_buildBy rfl 114 _ rfl _ rfl [(0,plV c.pl),(5,.int .u32 c.to)] (by kernel_rfl) _ (bt_ent c.pl c.to) ?_))
  go_ret
  exact ⟨rfl,hS.bel⟩
 ·rw [hq] at heq
  go_enter Tryz.func153,Tryz.ntmps153
  go_wp2_with (first
   | (refine wpList_loadG rfl 114 _ rfl _ rfl _ hl1.out ?_)
   | (refine wpList_loadG rfl 110 _ rfl _ rfl _ hp1.out ?_)
   | (refine wpList_buildBy rfl 114 _ rfl _ rfl [(0,plV c.pl),(5,.int .u32 c.to)] (by kernel_rfl) _ (bt_ent c.pl c.to) ?_))
  go_ret
  exact ⟨rfl,hS.bel⟩
theorem dataMayBe_any (w : World) (c : Cg) (h : CgOk c) : Calls Tryz.prog 155 #[.agg (cgC c)] w fun e w' => e = .returned (.bool (datOk c)) ∧ Below w.heap.size w w':=by
 have HL : Hid (c.pt.bytes.length = 32):=h.pt.ch.1
 have hS:=one_laid w c
 obtain ⟨w1,hw1⟩ : ∃ w1,w.alloc (.cells (cgC c) 114) = w1:=⟨_,rfl⟩
 rw [hw1] at hS
 have hl1 : Hid _:=hS.c.load HL.out
 have hp1 : Hid _:=hS.c.loadP
 have hT:=trimP_ok h.pt
 have HT : Hid ((trimP c.pt).bytes.length = 32):=hT.ch.1
 have tr:=fun W => trim_any W c.pt h.pt
 have heq:=fun W => eq_cgs W (x:=c) (y:=dataC c.pl (trimP c.pt)) HL.out HT.out
 go_enter Tryz.func155,Tryz.ntmps155
 go_wp2_with fail
 refine wp_region_noPanic ?_
 refine wp_region_held_drew (S:=fun W => OneS w W c) (by kernel_rfl) hS.drew (fun hHeld => ?_)
 refine wpAnyH_take (i:=0) (v:=.agg (cgC c)) rfl (by kernel_rfl) (by kernel_rfl) (by kernel_rfl) (fun _ _ _ h => h) (yields_load (by rfl) _ _ rfl _ rfl _ (fun W h => h.c.load HL.out)) (by assumption) ?_
 try simp only [nz]
 refine tk 1 (.pointer (some ⟨w.heap.size,0,none⟩)) rfl ?_
 try simp only [nz]
 refine wpAnyH_take (i:=2) (v:=plV c.pl) rfl (by kernel_rfl) (by kernel_rfl) (by kernel_rfl) (fun _ _ _ h => h) (yields_load (by rfl) _ _ rfl _ rfl _ (fun W h => h.c.loadP)) (by assumption) ?_
 try simp only [nz]
 refine tk 3 (.pointer (some ⟨w.heap.size,12,none⟩)) rfl ?_
 try simp only [nz]
 refine wpAnyH_take (i:=4) (v:=.agg (ptC c.pt)) rfl (by kernel_rfl) (by kernel_rfl) (by kernel_rfl) (fun _ _ _ h => h) (yields_load (by rfl) _ _ rfl _ rfl _ (fun W h => h.c.loadT HL.out)) (by assumption) ?_
 try simp only [nz]
 refine rd 5 rfl (fun K hK => ?_)
 go_simp
 go_wp2_with (go_at_call 167; refine (tr _).mono ?_; rintro e w2 ⟨rfl,hb_w2⟩)
 refine hK.out _ _ (hHeld.below hb_w2) (fun hHeld2 => ?_)
 clear hK K
 refine wpAnyH_take (i:=6) (v:=.agg (cgC (dataC c.pl (trimP c.pt)))) rfl (by kernel_rfl) (by kernel_rfl) (by kernel_rfl) (fun _ _ _ h => h) (yields_build (by rfl) 114 _ rfl [(0,plV c.pl),(6,.agg (ptC (trimP c.pt)))] (by kernel_rfl) _ (bt_data c.pl HT.out)) (by assumption) ?_
 try simp only [nz]
 refine tk 7 (.bool (cgEq c (dataC c.pl (trimP c.pt)))) rfl ?_
 try simp only [nz]
 refine tk 8 (.bool (cgEq c (dataC c.pl (trimP c.pt)))) rfl ?_
 try simp only [nz]
 refine wpAnyH_done (by kernel_rfl) ?_ _
 refine NoPanic.normal ?_
 go_wp2
 go_ret
 exact ⟨rfl,hHeld2.bel⟩
def ckOk (c : Cg) : Bool:=if plOk c.pl then (if c.gone then cgEq c (goneC c.pl) else if c.pl.part = 1 then recOk c else if c.pl.part = 2 then entOk c else datOk c) else false
def ckE (c : Cg) : Int:=if ckOk c then 0 else 1
theorem plE_0 {p : Pl} (h : plOk p = true) : plE p = 0:=by unfold plE; rw [h]; rfl
theorem plE_30 {p : Pl} (h : plOk p = false) : plE p = 30:=by unfold plE; rw [h]; rfl
theorem plOk_part {p : Pl} (h : plOk p = true) : p.part = 1 ∨ p.part = 2 ∨ p.part = 3:=by
 unfold plOk at h
 by_cases h1 : p.part = 1
 ·exact .inl h1
 by_cases h2 : p.part = 2
 ·exact .inr (.inl h2)
 by_cases h3 : p.part = 3
 ·exact .inr (.inr h3)
 simp [h1,h2,h3] at h
theorem mayBeK_1 (w : World) (c : Cg) (h : CgOk c) (hp : plOk c.pl = true) (hg : c.gone = false) (hk : c.pl.part = 1) : Calls Tryz.prog 132 #[.agg (cgC c)] w fun e w' => e = .returned (.bool (recOk c)) ∧ Below w.heap.size w w':=by
 have HL : Hid (c.pt.bytes.length = 32):=h.pt.ch.1
 have hS:=one_laid w c
 obtain ⟨w1,hw1⟩ : ∃ w1,w.alloc (.cells (cgC c) 114) = w1:=⟨_,rfl⟩
 rw [hw1] at hS
 have hl1 : Hid _:=hS.c.load HL.out
 have hp1 : Hid _:=hS.c.loadP
 have c4:=hS.c.c4
 rw [hg] at c4
 have hpc:=(check_any w1 c.pl h.pl)
 rw [plE_0 hp] at hpc
 have po : ∀ W,Calls Tryz.prog 133 #[plV c.pl] W fun e w' => e = .returned (.agg #[.func (.func 151) #[] #[],.func (.func 152) #[] #[]]) ∧ Below W.heap.size W w':=by
  intro W
  have e : c.pl = ⟨c.pl.ino,1,c.pl.name,c.pl.chunk⟩:=by rw [← hk]
  rw [e]; exact partOf_1 W _ _ _
 have ma:=fun W => recordMayBe_any W c h
 have hfd : ∀ W,(Instr.field 243 (.agg #[.func (.func 151) #[] #[],.func (.func 152) #[] #[]]) 0).run Tryz.prog W = .ok (.func (.func 151) #[] #[]) W:=fun W => by kernel_rfl
 clear hk
 go_enter Tryz.func132,Tryz.ntmps132
 go_wp2_with (refine wpList_loadG rfl 110 _ rfl _ rfl _ hp1.out ?_)
 refine hpc.mono ?_
 rintro e w2 ⟨rfl,hb2⟩
 have hS2:=hS.below hb2
 have d4:=hS2.c.c4
 rw [hg] at d4
 go_wp2_with fail
 refine wp_region_noPanic ?_
 refine wp_region_held_drew (S:=fun W => OneS w W c) (by kernel_rfl) hS2.drew (fun hHeld => ?_)
 refine tk 0 (.pointer (some ⟨w.heap.size,0,none⟩)) rfl ?_
 try simp only [nz]
 refine wpAnyH_take (i:=1) (v:=plV c.pl) rfl (by kernel_rfl) (by kernel_rfl) (by kernel_rfl) (fun _ _ _ h => h) (yields_load (by rfl) _ _ rfl _ rfl _ (fun W h => h.c.loadP)) (by assumption) ?_
 try simp only [nz]
 refine wpAnyH_take (i:=4) (v:=.agg (cgC c)) rfl (by kernel_rfl) (by kernel_rfl) (by kernel_rfl) (fun _ _ _ h => h) (yields_load (by rfl) _ _ rfl _ rfl _ (fun W h => h.c.load HL.out)) (by assumption) ?_
 try simp only [nz]
 refine rd 2 rfl (fun K hK => ?_)
 go_simp
 go_wp2_with (go_at_call 133; refine (po _).mono ?_; rintro e w3 ⟨rfl,hb_w3⟩)
 refine hK.out _ _ (hHeld.below hb_w3) (fun hHeld2 => ?_)
 clear hK K
 refine tk 3 (.func (.func 151) #[] #[]) rfl ?_
 try simp only [nz]
 refine rd 5 rfl (fun K hK => ?_)
 go_simp
 go_wp2_with (go_at_call 151; refine (ma _).mono ?_; rintro e w4 ⟨rfl,hb_w4⟩)
 refine hK.out _ _ (hHeld2.below hb_w4) (fun hHeld3 => ?_)
 clear hK K
 refine tk 6 (.bool (recOk c)) rfl ?_
 try simp only [nz]
 refine wpAnyH_done (by kernel_rfl) ?_ _
 refine NoPanic.normal ?_
 go_wp2
 go_ret
 exact ⟨rfl,hHeld3.bel⟩
theorem mayBeK_2 (w : World) (c : Cg) (h : CgOk c) (hp : plOk c.pl = true) (hg : c.gone = false) (hk : c.pl.part = 2) : Calls Tryz.prog 132 #[.agg (cgC c)] w fun e w' => e = .returned (.bool (entOk c)) ∧ Below w.heap.size w w':=by
 have HL : Hid (c.pt.bytes.length = 32):=h.pt.ch.1
 have hS:=one_laid w c
 obtain ⟨w1,hw1⟩ : ∃ w1,w.alloc (.cells (cgC c) 114) = w1:=⟨_,rfl⟩
 rw [hw1] at hS
 have hl1 : Hid _:=hS.c.load HL.out
 have hp1 : Hid _:=hS.c.loadP
 have c4:=hS.c.c4
 rw [hg] at c4
 have hpc:=(check_any w1 c.pl h.pl)
 rw [plE_0 hp] at hpc
 have po : ∀ W,Calls Tryz.prog 133 #[plV c.pl] W fun e w' => e = .returned (.agg #[.func (.func 153) #[] #[],.func (.func 154) #[] #[]]) ∧ Below W.heap.size W w':=by
  intro W
  have e : c.pl = ⟨c.pl.ino,2,c.pl.name,c.pl.chunk⟩:=by rw [← hk]
  rw [e]; exact partOf_2 W _ _ _
 have ma:=fun W => entryMayBe_any W c h
 have hfd : ∀ W,(Instr.field 243 (.agg #[.func (.func 153) #[] #[],.func (.func 154) #[] #[]]) 0).run Tryz.prog W = .ok (.func (.func 153) #[] #[]) W:=fun W => by kernel_rfl
 clear hk
 go_enter Tryz.func132,Tryz.ntmps132
 go_wp2_with (refine wpList_loadG rfl 110 _ rfl _ rfl _ hp1.out ?_)
 refine hpc.mono ?_
 rintro e w2 ⟨rfl,hb2⟩
 have hS2:=hS.below hb2
 have d4:=hS2.c.c4
 rw [hg] at d4
 go_wp2_with fail
 refine wp_region_noPanic ?_
 refine wp_region_held_drew (S:=fun W => OneS w W c) (by kernel_rfl) hS2.drew (fun hHeld => ?_)
 refine tk 0 (.pointer (some ⟨w.heap.size,0,none⟩)) rfl ?_
 try simp only [nz]
 refine wpAnyH_take (i:=1) (v:=plV c.pl) rfl (by kernel_rfl) (by kernel_rfl) (by kernel_rfl) (fun _ _ _ h => h) (yields_load (by rfl) _ _ rfl _ rfl _ (fun W h => h.c.loadP)) (by assumption) ?_
 try simp only [nz]
 refine wpAnyH_take (i:=4) (v:=.agg (cgC c)) rfl (by kernel_rfl) (by kernel_rfl) (by kernel_rfl) (fun _ _ _ h => h) (yields_load (by rfl) _ _ rfl _ rfl _ (fun W h => h.c.load HL.out)) (by assumption) ?_
 try simp only [nz]
 refine rd 2 rfl (fun K hK => ?_)
 go_simp
 go_wp2_with (go_at_call 133; refine (po _).mono ?_; rintro e w3 ⟨rfl,hb_w3⟩)
 refine hK.out _ _ (hHeld.below hb_w3) (fun hHeld2 => ?_)
 clear hK K
 refine tk 3 (.func (.func 153) #[] #[]) rfl ?_
 try simp only [nz]
 refine rd 5 rfl (fun K hK => ?_)
 go_simp
 go_wp2_with (go_at_call 153; refine (ma _).mono ?_; rintro e w4 ⟨rfl,hb_w4⟩)
 refine hK.out _ _ (hHeld2.below hb_w4) (fun hHeld3 => ?_)
 clear hK K
 refine tk 6 (.bool (entOk c)) rfl ?_
 try simp only [nz]
 refine wpAnyH_done (by kernel_rfl) ?_ _
 refine NoPanic.normal ?_
 go_wp2
 go_ret
 exact ⟨rfl,hHeld3.bel⟩
theorem mayBeK_3 (w : World) (c : Cg) (h : CgOk c) (hp : plOk c.pl = true) (hg : c.gone = false) (hk : c.pl.part = 3) : Calls Tryz.prog 132 #[.agg (cgC c)] w fun e w' => e = .returned (.bool (datOk c)) ∧ Below w.heap.size w w':=by
 have HL : Hid (c.pt.bytes.length = 32):=h.pt.ch.1
 have hS:=one_laid w c
 obtain ⟨w1,hw1⟩ : ∃ w1,w.alloc (.cells (cgC c) 114) = w1:=⟨_,rfl⟩
 rw [hw1] at hS
 have hl1 : Hid _:=hS.c.load HL.out
 have hp1 : Hid _:=hS.c.loadP
 have c4:=hS.c.c4
 rw [hg] at c4
 have hpc:=(check_any w1 c.pl h.pl)
 rw [plE_0 hp] at hpc
 have po : ∀ W,Calls Tryz.prog 133 #[plV c.pl] W fun e w' => e = .returned (.agg #[.func (.func 155) #[] #[],.func (.func 156) #[] #[]]) ∧ Below W.heap.size W w':=by
  intro W
  have e : c.pl = ⟨c.pl.ino,3,c.pl.name,c.pl.chunk⟩:=by rw [← hk]
  rw [e]; exact partOf_3 W _ _ _
 have ma:=fun W => dataMayBe_any W c h
 have hfd : ∀ W,(Instr.field 243 (.agg #[.func (.func 155) #[] #[],.func (.func 156) #[] #[]]) 0).run Tryz.prog W = .ok (.func (.func 155) #[] #[]) W:=fun W => by kernel_rfl
 clear hk
 go_enter Tryz.func132,Tryz.ntmps132
 go_wp2_with (refine wpList_loadG rfl 110 _ rfl _ rfl _ hp1.out ?_)
 refine hpc.mono ?_
 rintro e w2 ⟨rfl,hb2⟩
 have hS2:=hS.below hb2
 have d4:=hS2.c.c4
 rw [hg] at d4
 go_wp2_with fail
 refine wp_region_noPanic ?_
 refine wp_region_held_drew (S:=fun W => OneS w W c) (by kernel_rfl) hS2.drew (fun hHeld => ?_)
 refine tk 0 (.pointer (some ⟨w.heap.size,0,none⟩)) rfl ?_
 try simp only [nz]
 refine wpAnyH_take (i:=1) (v:=plV c.pl) rfl (by kernel_rfl) (by kernel_rfl) (by kernel_rfl) (fun _ _ _ h => h) (yields_load (by rfl) _ _ rfl _ rfl _ (fun W h => h.c.loadP)) (by assumption) ?_
 try simp only [nz]
 refine wpAnyH_take (i:=4) (v:=.agg (cgC c)) rfl (by kernel_rfl) (by kernel_rfl) (by kernel_rfl) (fun _ _ _ h => h) (yields_load (by rfl) _ _ rfl _ rfl _ (fun W h => h.c.load HL.out)) (by assumption) ?_
 try simp only [nz]
 refine rd 2 rfl (fun K hK => ?_)
 go_simp
 go_wp2_with (go_at_call 133; refine (po _).mono ?_; rintro e w3 ⟨rfl,hb_w3⟩)
 refine hK.out _ _ (hHeld.below hb_w3) (fun hHeld2 => ?_)
 clear hK K
 refine tk 3 (.func (.func 155) #[] #[]) rfl ?_
 try simp only [nz]
 refine rd 5 rfl (fun K hK => ?_)
 go_simp
 go_wp2_with (go_at_call 155; refine (ma _).mono ?_; rintro e w4 ⟨rfl,hb_w4⟩)
 refine hK.out _ _ (hHeld2.below hb_w4) (fun hHeld3 => ?_)
 clear hK K
 refine tk 6 (.bool (datOk c)) rfl ?_
 try simp only [nz]
 refine wpAnyH_done (by kernel_rfl) ?_ _
 refine NoPanic.normal ?_
 go_wp2
 go_ret
 exact ⟨rfl,hHeld3.bel⟩
theorem dmayBe_any (w : World) (c : Cg) (h : CgOk c) : Calls Tryz.prog 132 #[.agg (cgC c)] w fun e w' => e = .returned (.bool (ckOk c)) ∧ Below w.heap.size w w':=by
 unfold ckOk
 cases hp : plOk c.pl
 ·rw [if_neg (by decide)]
  have HL : Hid (c.pt.bytes.length = 32):=h.pt.ch.1
  have hS:=one_laid w c
  obtain ⟨w1,hw1⟩ : ∃ w1,w.alloc (.cells (cgC c) 114) = w1:=⟨_,rfl⟩
  rw [hw1] at hS
  have hl1 : Hid _:=hS.c.load HL.out
  have hp1 : Hid _:=hS.c.loadP
  have hpc:=(check_any w1 c.pl h.pl)
  rw [plE_30 hp] at hpc
  go_enter Tryz.func132,Tryz.ntmps132
  go_wp2_with (refine wpList_loadG rfl 110 _ rfl _ rfl _ hp1.out ?_)
  refine hpc.mono ?_
  rintro e w2 ⟨rfl,hb2⟩
  go_wp2
  go_ret
  exact ⟨rfl,(hS.below hb2).bel⟩
 ·rw [if_pos rfl]
  cases hg : c.gone
  ·rw [if_neg (by decide)]
   rcases plOk_part hp with hk | hk | hk
   ·rw [if_pos hk]; exact mayBeK_1 w c h hp hg hk
   ·rw [if_neg (by omega),if_pos hk]; exact mayBeK_2 w c h hp hg hk
   ·rw [if_neg (by omega),if_neg (by omega)]; exact mayBeK_3 w c h hp hg hk
  ·rw [if_pos rfl]
   have HL : Hid (c.pt.bytes.length = 32):=h.pt.ch.1
   have hS:=one_laid w c
   obtain ⟨w1,hw1⟩ : ∃ w1,w.alloc (.cells (cgC c) 114) = w1:=⟨_,rfl⟩
   rw [hw1] at hS
   have hl1 : Hid _:=hS.c.load HL.out
   have hp1 : Hid _:=hS.c.loadP
   have hpc:=(check_any w1 c.pl h.pl)
   rw [plE_0 hp] at hpc
   have heq:=fun W => eq_cgs W (x:=c) (y:=goneC c.pl) HL.out len0
   go_enter Tryz.func132,Tryz.ntmps132
   go_wp2_with (refine wpList_loadG rfl 110 _ rfl _ rfl _ hp1.out ?_)
   refine hpc.mono ?_
   rintro e w2 ⟨rfl,hb2⟩
   have hS2:=hS.below hb2
   have d4:=hS2.c.c4
   rw [hg] at d4
   have hl2 : Hid _:=hS2.c.load HL.out
   have hp2 : Hid _:=hS2.c.loadP
   go_wp2_with (first
    | (refine wpList_loadG rfl 114 _ rfl _ rfl _ hl2.out ?_)
    | (refine wpList_loadG rfl 110 _ rfl _ rfl _ hp2.out ?_)
    | (refine wpList_buildBy rfl 114 _ rfl _ rfl [(0,plV c.pl),(1,.bool true)] (by kernel_rfl) _ (bt_gone c.pl) ?_))
   go_ret
   exact ⟨rfl,hS2.bel⟩
theorem dcheck_any (w : World) (c : Cg) (h : CgOk c) : Calls Tryz.prog 117 #[.agg (cgC c)] w fun e w' => e = .returned (.int .i64 (ckE c)) ∧ Below w.heap.size w w':=by
 have HL : Hid (c.pt.bytes.length = 32):=h.pt.ch.1
 have hS:=one_laid w c
 obtain ⟨w1,hw1⟩ : ∃ w1,w.alloc (.cells (cgC c) 114) = w1:=⟨_,rfl⟩
 rw [hw1] at hS
 have hl1 : Hid _:=hS.c.load HL.out
 have hp1 : Hid _:=hS.c.loadP
 go_enter Tryz.func117,Tryz.ntmps117
 go_wp2_with (refine wpList_loadG rfl 114 _ rfl _ rfl _ hl1.out ?_)
 refine (dmayBe_any _ c h).mono ?_
 rintro e w2 ⟨rfl,hb2⟩
 cases hk : ckOk c
 ·go_wp2
  go_ret
  exact ⟨by unfold ckE; rw [hk]; rfl,(hS.below hb2).bel⟩
 ·go_wp2
  go_ret
  exact ⟨by unfold ckE; rw [hk]; rfl,(hS.below hb2).bel⟩
def orF (a b : Int) : Int:=bits .or .i64 a b
def recI (a b : Cg) : Cg:={ a with mode:=wM b a.mode,links:=wL b a.links,size:=wS b a.size }
def recJ (a b : Cg) : Cg:=if a.fresh then recI a b else { recI a b with fields:=orF a.fields b.fields }
def frP (c : Cg) : Cg:={ c with pt:={ c.pt with fresh:=true } }
def joC (a b : Cg) : Cg:={ b with pt:=joinP a.pt b.pt }
def jRX (a b : Cg) : Cg × Int:=if b.fresh then (b,0) else if a.gone then (cg0,3) else if recOk (recJ a b) then (recJ a b,0) else (cg0,1)
def jDX (a b : Cg) : Cg × Int:=if a.gone then (frP b,0) else (joC a b,0)
def joinX (a b : Cg) : Cg × Int :=
 if ckOk a then (if ckOk b then (if plEq a.pl b.pl then (if b.gone then (b,0) else if b.pl.part = 1 then jRX a b else if b.pl.part = 2 then (b,0) else jDX a b) else (cg0,1)) else (cg0,1)) else (cg0,1)
theorem recI_ok {a b : Cg} (ha : CgOk a) (hb : CgOk b) : CgOk (recI a b):=by
 have A:=ha.ino
 have B:=hb.ino
 refine ⟨ha.pl,ha.f0,ha.f1,?_,ha.t0,ha.t1,ha.pt⟩
 unfold recI wM wL wS
 dsimp only
 obtain ⟨a1,a2,a3,a4,a5,a6,a7,a8⟩:=A
 obtain ⟨b1,b2,b3,b4,b5,b6,b7,b8⟩:=B
 constructor <;> first | assumption | (split <;> assumption)
theorem orF_bd (a b : Int) : -9223372036854775808 ≤ orF a b ∧ orF a b ≤ 9223372036854775807:=bounds_i64 (wf_bits .or .i64 a b)
theorem recJ_ok {a b : Cg} (ha : CgOk a) (hb : CgOk b) : CgOk (recJ a b):=by
 unfold recJ
 split
 ·exact recI_ok ha hb
 ·obtain ⟨h1,h2,h3,h4,h5,h6,h7⟩:=recI_ok ha hb
  exact ⟨h1,(orF_bd _ _).1,(orF_bd _ _).2,h4,h5,h6,h7⟩
theorem recJ_len {a b : Cg} : (recJ a b).pt = a.pt:=by unfold recJ; split <;> rfl
theorem frP_ok {c : Cg} (h : CgOk c) : CgOk (frP c):=⟨h.pl,h.f0,h.f1,h.ino,h.t0,h.t1,⟨h.pt.lt,h.pt.ch⟩⟩
theorem joC_ok {a b : Cg} (ha : CgOk a) (hb : CgOk b) : CgOk (joC a b):=⟨hb.pl,hb.f0,hb.f1,hb.ino,hb.t0,hb.t1,joinP_ok ha.pt hb.pt⟩
theorem jRX_ok {a b : Cg} (ha : CgOk a) (hb : CgOk b) : CgOk (jRX a b).1:=by
 unfold jRX; split
 ·exact hb
 ·split
  ·exact cg0_ok
  ·split
   ·exact recJ_ok ha hb
   ·exact cg0_ok
theorem jDX_ok {a b : Cg} (ha : CgOk a) (hb : CgOk b) : CgOk (jDX a b).1:=by
 unfold jDX; split
 ·exact frP_ok hb
 ·exact joC_ok ha hb
theorem joinX_ok {a b : Cg} (ha : CgOk a) (hb : CgOk b) : CgOk (joinX a b).1:=by
 unfold joinX
 repeat' split
 all_goals first | exact cg0_ok | exact hb | exact jRX_ok ha hb | exact jDX_ok ha hb
theorem cgL_pt (c : Cg) (q : Pt) (hc : c.pt.bytes.length = 32) : (cgL c).take 12 ++ (ptC q).toList ++ (cgL c).drop (12 + 34) = cgL { c with pt:=q }:=by
 have h : (cgL c).drop (12 + 34) = []:=List.drop_of_length_le (by rw [cgL_len hc]; decide)
 rw [h,List.append_nil]
 simp [cgL,ptC]
theorem ckOk_pl {c : Cg} (h : ckOk c = true) : plOk c.pl = true:=by
 unfold ckOk at h
 cases hp : plOk c.pl
 ·rw [hp] at h; cases h
 ·rfl
theorem neq_places (W : World) (p q : Pl) : (binOp .neq 110 (plV p) (plV q)).run Tryz.prog W = .ok (.bool (!plEq p q)) W:=by
 obtain ⟨i,k,s,c⟩:=p
 obtain ⟨i',k',s',c'⟩:=q
 unfold plV
 rw [run_neq_struct,equal_places]
 rfl
structure TwoS (w : World) (a b r : Cg) (W : World) : Prop where
 a : CgAt W w.heap.size a
 b : CgAt W (w.heap.size + 1) b
 r : CgAt W (w.heap.size + 1 + 1) r
 bel : Below w.heap.size w W
theorem TwoS.below {w : World} {a b r : Cg} {W W' : World} (h : TwoS w a b r W) (hb : Below W.heap.size W W') : TwoS w a b r W':=⟨h.a.below hb,h.b.below hb,h.r.below hb,h.bel.trans (hb.mono h.bel.size)⟩
theorem TwoS.drew {w : World} {a b r : Cg} {W : World} (h : TwoS w a b r W) : TwoS w a b r W.drew:=⟨h.a.drew,h.b.drew,h.r.drew,h.bel.drew⟩
theorem two_laid (w : World) (a b : Cg) : TwoS w a b cg0 (((w.alloc (.cells (cgC a) 114)).alloc (.cells (cgC b) 114)).alloc (.cells (cgC cg0) 114)):=by
 have al : ∀ (A : World) (o : Obj),Below A.heap.size A (A.alloc o):=fun A o => (Below.refl _ A).alloc (Nat.le_refl _) o
 have h2:=(CgAt.laid (w.alloc (.cells (cgC a) 114)) b).below (al _ (.cells (cgC cg0) 114))
 have h3:=CgAt.laid ((w.alloc (.cells (cgC a) 114)).alloc (.cells (cgC b) 114)) cg0
 rw [World.size_alloc] at h2
 rw [World.size_alloc,World.size_alloc] at h3
 exact ⟨((CgAt.laid w a).below (al _ _)).below (al _ _),h2,h3,(((Below.refl _ w).alloc (Nat.le_refl _) _).alloc (by simp) _).alloc (by simp; omega) _⟩
theorem TwoS.setA {w : World} {a b r : Cg} {W : World} (h : TwoS w a b r W) (z : Cg) : TwoS w z b r (W.setRow w.heap.size (cgC z)):=⟨h.a.setRow z,h.b.apartR _ _ (by omega),h.r.apartR _ _ (by omega),below_setRow h.bel (Nat.le_refl _) _⟩
theorem TwoS.setB {w : World} {a b r : Cg} {W : World} (h : TwoS w a b r W) (z : Cg) : TwoS w a z r (W.setRow (w.heap.size + 1) (cgC z)):=⟨h.a.apartR _ _ (by omega),h.b.setRow z,h.r.apartR _ _ (by omega),below_setRow h.bel (by omega) _⟩
theorem TwoS.setR {w : World} {a b r : Cg} {W : World} (h : TwoS w a b r W) (z : Cg) : TwoS w a b z (W.setRow (w.heap.size + 1 + 1) (cgC z)):=⟨h.a.apartR _ _ (by omega),h.b.apartR _ _ (by omega),h.r.setRow z,below_setRow h.bel (by omega) _⟩
theorem TwoS.setAc {w : World} {a b r : Cg} {W : World} (h : TwoS w a b r W) (i : Nat) (v : Value) (z : Cg) (hz : (cgL a).set i v = cgL z) : TwoS w z b r (W.setCell ⟨w.heap.size,i,none⟩ v):=⟨h.a.set i v z hz,h.b.apart _ _ _ (by omega),h.r.apart _ _ _ (by omega),h.bel.setCell (Nat.le_refl _) _⟩
theorem TwoS.setBc {w : World} {a b r : Cg} {W : World} (h : TwoS w a b r W) (i : Nat) (v : Value) (z : Cg) (hz : (cgL b).set i v = cgL z) : TwoS w a z r (W.setCell ⟨w.heap.size + 1,i,none⟩ v):=⟨h.a.apart _ _ _ (by omega),h.b.set i v z hz,h.r.apart _ _ _ (by omega),h.bel.setCell (by dsimp only; omega) _⟩
theorem joinRecord_any (w : World) (a b : Cg) (ha : CgOk a) (hb : CgOk b) : Calls Tryz.prog 152 #[.agg (cgC a),.agg (cgC b)] w fun e w' => e = .returned (.tuple #[.agg (cgC (jRX a b).1),.int .i64 (jRX a b).2]) ∧ Below w.heap.size w w':=by
 have HA : Hid (a.pt.bytes.length = 32):=ha.pt.ch.1
 have HB : Hid (b.pt.bytes.length = 32):=hb.pt.ch.1
 have hz:=zeroCg
 have hS:=two_laid w a b
 obtain ⟨w1,hw1⟩ : ∃ w1,(((w.alloc (.cells (cgC a) 114)).alloc (.cells (cgC b) 114)).alloc (.cells (cgC cg0) 114)) = w1:=⟨_,rfl⟩
 rw [hw1] at hS
 have hla : Hid _:=hS.a.load HA.out
 have hlb : Hid _:=hS.b.load HB.out
 have hpa : Hid _:=hS.a.loadP
 have hpb : Hid _:=hS.b.loadP
 have c5:=hS.b.c5
 have a4:=hS.a.c4
 have a5:=hS.a.c5
 cases hf : b.fresh
 ·rw [hf] at c5
  cases hg : a.gone
  ·rw [hg] at a4
   have hia : Hid _:=hS.a.loadI
   go_enter Tryz.func152,Tryz.ntmps152
   go_wp2_with (first
    | (refine wpList_loadG rfl 114 _ rfl _ rfl _ hlb.out ?_)
    | (refine wpList_loadG rfl 41 _ rfl _ rfl _ hia.out ?_))
   refine (with_any _ a.kind a.mode a.links a.size b).mono ?_
   rintro e w2 ⟨rfl,hb2⟩
   have hS2:=hS.below hb2
   have hS3:=hS2.setA (recI a b)
   obtain ⟨w3,hw3⟩ : ∃ w3,w2.setRow w.heap.size (cgC (recI a b)) = w3:=⟨_,rfl⟩
   rw [hw3] at hS3
   have HI : Hid ((recI a b).pt.bytes.length = 32):=HA.out
   have e5 : w3.cell? ⟨w.heap.size,5,none⟩ = some (.bool a.fresh):=hS3.a.c5
   cases hf2 : a.fresh
   ·rw [hf2] at e5
    have e6 : w3.cell? ⟨w.heap.size,6,none⟩ = some (.int .i64 a.fields):=hS3.a.c6
    have g6:=hS3.b.c6
    have fr6:=hS3.a.frozen 6
    have HJ : Hid (recJ a b = { recI a b with fields:=orF a.fields b.fields }):=by unfold Hid recJ; rw [hf2]; rfl
    have hS4:=hS3.setAc 6 (.int .i64 (orF a.fields b.fields)) (recJ a b) (by rw [HJ.out]; rfl)
    obtain ⟨w4,hw4⟩ : ∃ w4,w3.setCell ⟨w.heap.size,6,none⟩ (.int .i64 (orF a.fields b.fields)) = w4:=⟨_,rfl⟩
    rw [hw4] at hS4
    have HK : Hid ((recJ a b).pt.bytes.length = 32):=by unfold Hid; rw [recJ_len]; exact HA.out
    have hl4 : Hid _:=hS4.a.load HK.out
    have hor : ∀ x y,bits .or .i64 x y = orF x y:=fun _ _ => rfl
    go_wp2_with (first
     | (refine wpList_storeAt rfl 41 _ _ rfl w.heap.size 7 4 _ (recI a b) a rfl rfl rfl (by kernel_rfl) (by decide) (by kernel_rfl) HA.out hS2.a rfl ?_; rw [hw3])
     | (refine wpList_loadG rfl 114 _ rfl _ rfl _ hl4.out ?_))
    refine (recordMayBe_any _ (recJ a b) (recJ_ok ha hb)).mono ?_
    rintro e w5 ⟨rfl,hb5⟩
    have hS5:=hS4.below hb5
    have hl5 : Hid _:=hS5.a.load HK.out
    cases hk : recOk (recJ a b)
    ·have HX : Hid (jRX a b = (cg0,1)):=by unfold Hid jRX; rw [hf,hg,hk]; rfl
     go_wp2_with (first
      | (refine wpList_buildBy rfl 114 _ rfl _ rfl [] (by kernel_rfl) _ built_cg0 ?_)
      | (refine wpList_storeG rfl _ _ rfl (w.heap.size + 1 + 1) cg0 cg0 rfl rfl len0 len0 hS5.r ?_))
     exact ret_cg2 rfl (w.heap.size + 1 + 1) cg0 len0 rfl _ rfl (hS5.setR cg0).r rfl ⟨by rw [HX.out]; rfl,(hS5.setR cg0).bel⟩
    ·have HX : Hid (jRX a b = (recJ a b,0)):=by unfold Hid jRX; rw [hf,hg,hk]; rfl
     go_wp2_with (first
      | (refine wpList_loadG rfl 114 _ rfl _ rfl _ hl5.out ?_)
      | (refine wpList_storeG rfl _ _ rfl (w.heap.size + 1 + 1) (recJ a b) cg0 rfl rfl HK.out len0 hS5.r ?_))
     exact ret_cg2 rfl (w.heap.size + 1 + 1) (recJ a b) HK.out rfl _ rfl (hS5.setR (recJ a b)).r rfl ⟨by rw [HX.out]; rfl,(hS5.setR (recJ a b)).bel⟩
   ·rw [hf2] at e5
    have HJ : Hid (recI a b = recJ a b):=by unfold Hid recJ; rw [hf2]; rfl
    rw [HJ.out] at hS3 hw3 HI
    have hl3 : Hid _:=hS3.a.load HI.out
    have HK:=HI
    have hS4:=hS3
    go_wp2_with (first
     | (refine wpList_storeAt rfl 41 _ _ rfl w.heap.size 7 4 _ (recI a b) a rfl rfl rfl (by kernel_rfl) (by decide) (by kernel_rfl) HA.out hS2.a rfl ?_; rw [HJ.out,hw3])
     | (refine wpList_loadG rfl 114 _ rfl _ rfl _ hl3.out ?_))
    refine (recordMayBe_any _ (recJ a b) (recJ_ok ha hb)).mono ?_
    rintro e w5 ⟨rfl,hb5⟩
    have hS5:=hS4.below hb5
    have hl5 : Hid _:=hS5.a.load HK.out
    cases hk : recOk (recJ a b)
    ·have HX : Hid (jRX a b = (cg0,1)):=by unfold Hid jRX; rw [hf,hg,hk]; rfl
     go_wp2_with (first
      | (refine wpList_buildBy rfl 114 _ rfl _ rfl [] (by kernel_rfl) _ built_cg0 ?_)
      | (refine wpList_storeG rfl _ _ rfl (w.heap.size + 1 + 1) cg0 cg0 rfl rfl len0 len0 hS5.r ?_))
     exact ret_cg2 rfl (w.heap.size + 1 + 1) cg0 len0 rfl _ rfl (hS5.setR cg0).r rfl ⟨by rw [HX.out]; rfl,(hS5.setR cg0).bel⟩
    ·have HX : Hid (jRX a b = (recJ a b,0)):=by unfold Hid jRX; rw [hf,hg,hk]; rfl
     go_wp2_with (first
      | (refine wpList_loadG rfl 114 _ rfl _ rfl _ hl5.out ?_)
      | (refine wpList_storeG rfl _ _ rfl (w.heap.size + 1 + 1) (recJ a b) cg0 rfl rfl HK.out len0 hS5.r ?_))
     exact ret_cg2 rfl (w.heap.size + 1 + 1) (recJ a b) HK.out rfl _ rfl (hS5.setR (recJ a b)).r rfl ⟨by rw [HX.out]; rfl,(hS5.setR (recJ a b)).bel⟩
  ·rw [hg] at a4
   have HX : Hid (jRX a b = (cg0,3)):=by unfold Hid jRX; rw [hf,hg]; rfl
   go_enter Tryz.func152,Tryz.ntmps152
   go_wp2_with (first
    | (refine wpList_buildBy rfl 114 _ rfl _ rfl [] (by kernel_rfl) _ built_cg0 ?_)
    | (refine wpList_storeG rfl _ _ rfl (w.heap.size + 1 + 1) cg0 cg0 rfl rfl len0 len0 hS.r ?_))
   exact ret_cg2 rfl (w.heap.size + 1 + 1) cg0 len0 rfl _ rfl (hS.setR cg0).r rfl ⟨by rw [HX.out]; rfl,(hS.setR cg0).bel⟩
 ·rw [hf] at c5
  have HX : Hid (jRX a b = (b,0)):=by unfold Hid jRX; rw [hf]; rfl
  go_enter Tryz.func152,Tryz.ntmps152
  go_wp2_with (first
   | (refine wpList_loadG rfl 114 _ rfl _ rfl _ hlb.out ?_)
   | (refine wpList_storeG rfl _ _ rfl (w.heap.size + 1 + 1) b cg0 rfl rfl HB.out len0 hS.r ?_))
  exact ret_cg2 rfl (w.heap.size + 1 + 1) b HB.out rfl _ rfl (hS.setR b).r rfl ⟨by rw [HX.out]; rfl,(hS.setR b).bel⟩
theorem joinEntry_any (w : World) (a b : Cg) (ha : CgOk a) (hb : CgOk b) : Calls Tryz.prog 154 #[.agg (cgC a),.agg (cgC b)] w fun e w' => e = .returned (.tuple #[.agg (cgC b),.int .i64 0]) ∧ Below w.heap.size w w':=by
 have HA : Hid (a.pt.bytes.length = 32):=ha.pt.ch.1
 have HB : Hid (b.pt.bytes.length = 32):=hb.pt.ch.1
 have hz:=zeroCg
 have hS:=two_laid w a b
 obtain ⟨w1,hw1⟩ : ∃ w1,(((w.alloc (.cells (cgC a) 114)).alloc (.cells (cgC b) 114)).alloc (.cells (cgC cg0) 114)) = w1:=⟨_,rfl⟩
 rw [hw1] at hS
 have hla : Hid _:=hS.a.load HA.out
 have hlb : Hid _:=hS.b.load HB.out
 have hpa : Hid _:=hS.a.loadP
 have hpb : Hid _:=hS.b.loadP
 go_enter Tryz.func154,Tryz.ntmps154
 go_wp2_with (first
  | (refine wpList_loadG rfl 114 _ rfl _ rfl _ hlb.out ?_)
  | (refine wpList_storeG rfl _ _ rfl (w.heap.size + 1 + 1) b cg0 rfl rfl HB.out len0 hS.r ?_))
 exact ret_cg2 rfl (w.heap.size + 1 + 1) b HB.out rfl _ rfl (hS.setR b).r rfl ⟨rfl,(hS.setR b).bel⟩
theorem joinData_any (w : World) (a b : Cg) (ha : CgOk a) (hb : CgOk b) : Calls Tryz.prog 156 #[.agg (cgC a),.agg (cgC b)] w fun e w' => e = .returned (.tuple #[.agg (cgC (jDX a b).1),.int .i64 (jDX a b).2]) ∧ Below w.heap.size w w':=by
 have HA : Hid (a.pt.bytes.length = 32):=ha.pt.ch.1
 have HB : Hid (b.pt.bytes.length = 32):=hb.pt.ch.1
 have hz:=zeroCg
 have hS:=two_laid w a b
 obtain ⟨w1,hw1⟩ : ∃ w1,(((w.alloc (.cells (cgC a) 114)).alloc (.cells (cgC b) 114)).alloc (.cells (cgC cg0) 114)) = w1:=⟨_,rfl⟩
 rw [hw1] at hS
 have hla : Hid _:=hS.a.load HA.out
 have hlb : Hid _:=hS.b.load HB.out
 have hpa : Hid _:=hS.a.loadP
 have hpb : Hid _:=hS.b.loadP
 have a4:=hS.a.c4
 cases hg : a.gone
 ·rw [hg] at a4
  have HX : Hid (jDX a b = (joC a b,0)):=by unfold Hid jDX; rw [hg]; rfl
  have hta : Hid _:=hS.a.loadT HA.out
  have htb : Hid _:=hS.b.loadT HB.out
  have hJ:=joinP_ok ha.pt hb.pt
  have HJ : Hid ((joinP a.pt b.pt).bytes.length = 32):=hJ.ch.1
  have HK : Hid ((joC a b).pt.bytes.length = 32):=hJ.ch.1
  go_enter Tryz.func156,Tryz.ntmps156
  go_wp2_with (first
   | (refine wpList_loadG rfl 112 _ rfl _ rfl _ hta.out ?_)
   | (refine wpList_loadG rfl 112 _ rfl _ rfl _ htb.out ?_))
  refine (join_any _ a.pt b.pt ha.pt hb.pt).mono ?_
  rintro e w2 ⟨rfl,hb2⟩
  have hS2:=hS.below hb2
  have hS3:=hS2.setB (joC a b)
  obtain ⟨w3,hw3⟩ : ∃ w3,w2.setRow (w.heap.size + 1) (cgC (joC a b)) = w3:=⟨_,rfl⟩
  rw [hw3] at hS3
  have hl3 : Hid _:=hS3.b.load HK.out
  go_wp2_with (first
   | (refine wpList_storeAt rfl 112 _ _ rfl (w.heap.size + 1) 12 34 (ptC (joinP a.pt b.pt)) (joC a b) b rfl rfl (ptC_size HJ.out) size_pt (by decide) (one_pt _) HB.out hS2.b (cgL_pt b (joinP a.pt b.pt) HB.out) ?_; rw [hw3])
   | (refine wpList_loadG rfl 114 _ rfl _ rfl _ hl3.out ?_)
   | (refine wpList_storeG rfl _ _ rfl (w.heap.size + 1 + 1) (joC a b) cg0 rfl rfl HK.out len0 hS3.r ?_))
  exact ret_cg2 rfl (w.heap.size + 1 + 1) (joC a b) HK.out rfl _ rfl (hS3.setR (joC a b)).r rfl ⟨by rw [HX.out]; rfl,(hS3.setR (joC a b)).bel⟩
 ·rw [hg] at a4
  have HX : Hid (jDX a b = (frP b,0)):=by unfold Hid jDX; rw [hg]; rfl
  have b12:=hS.b.c12
  have f12:=hS.b.frozen 12
  have hS3:=hS.setBc 12 (.bool true) (frP b) rfl
  have HK : Hid ((frP b).pt.bytes.length = 32):=HB.out
  obtain ⟨w3,hw3⟩ : ∃ w3,w1.setCell ⟨w.heap.size + 1,12,none⟩ (.bool true) = w3:=⟨_,rfl⟩
  rw [hw3] at hS3
  have hl3 : Hid _:=hS3.b.load HK.out
  go_enter Tryz.func156,Tryz.ntmps156
  go_wp2_with (first
   | (refine wpList_loadG rfl 114 _ rfl _ rfl _ hl3.out ?_)
   | (refine wpList_storeG rfl _ _ rfl (w.heap.size + 1 + 1) (frP b) cg0 rfl rfl HK.out len0 hS3.r ?_))
  exact ret_cg2 rfl (w.heap.size + 1 + 1) (frP b) HK.out rfl _ rfl (hS3.setR (frP b)).r rfl ⟨by rw [HX.out]; rfl,(hS3.setR (frP b)).bel⟩
theorem djoin_any (w : World) (a b : Cg) (ha : CgOk a) (hb : CgOk b) : Calls Tryz.prog 118 #[.agg (cgC a),.agg (cgC b)] w fun e w' => e = .returned (.tuple #[.agg (cgC (joinX a b).1),.int .i64 (joinX a b).2]) ∧ Below w.heap.size w w':=by
 have HA : Hid (a.pt.bytes.length = 32):=ha.pt.ch.1
 have HB : Hid (b.pt.bytes.length = 32):=hb.pt.ch.1
 have hz:=zeroCg
 have hS:=two_laid w a b
 obtain ⟨w1,hw1⟩ : ∃ w1,(((w.alloc (.cells (cgC a) 114)).alloc (.cells (cgC b) 114)).alloc (.cells (cgC cg0) 114)) = w1:=⟨_,rfl⟩
 rw [hw1] at hS
 have hla : Hid _:=hS.a.load HA.out
 have hlb : Hid _:=hS.b.load HB.out
 have hpa : Hid _:=hS.a.loadP
 have hpb : Hid _:=hS.b.loadP
 cases hka : ckOk a
 ·have HX : Hid (joinX a b = (cg0,1)):=by unfold Hid joinX; rw [hka]; rfl
  go_enter Tryz.func118,Tryz.ntmps118
  go_wp2_with (refine wpList_loadG rfl 114 _ rfl _ rfl _ hla.out ?_)
  refine (dmayBe_any _ a ha).mono ?_
  rintro e w2 ⟨rfl,hb2⟩
  rw [hka]
  have hS2:=hS.below hb2
  go_wp2_with (first
   | (refine wpList_buildBy rfl 114 _ rfl _ rfl [] (by kernel_rfl) _ built_cg0 ?_)
   | (refine wpList_storeG rfl _ _ rfl (w.heap.size + 1 + 1) cg0 cg0 rfl rfl len0 len0 hS2.r ?_))
  exact ret_cg2 rfl (w.heap.size + 1 + 1) cg0 len0 rfl _ rfl (hS2.setR cg0).r rfl ⟨by rw [HX.out]; rfl,(hS2.setR cg0).bel⟩
 cases hkb : ckOk b
 ·have HX : Hid (joinX a b = (cg0,1)):=by unfold Hid joinX; rw [hka,hkb]; rfl
  go_enter Tryz.func118,Tryz.ntmps118
  go_wp2_with (refine wpList_loadG rfl 114 _ rfl _ rfl _ hla.out ?_)
  refine (dmayBe_any _ a ha).mono ?_
  rintro e w2 ⟨rfl,hb2⟩
  rw [hka]
  have hS2:=hS.below hb2
  have hlb2 : Hid _:=hS2.b.load HB.out
  go_wp2_with (refine wpList_loadG rfl 114 _ rfl _ rfl _ hlb2.out ?_)
  refine (dmayBe_any _ b hb).mono ?_
  rintro e w3 ⟨rfl,hb3⟩
  rw [hkb]
  have hS3:=hS2.below hb3
  go_wp2_with (first
   | (refine wpList_buildBy rfl 114 _ rfl _ rfl [] (by kernel_rfl) _ built_cg0 ?_)
   | (refine wpList_storeG rfl _ _ rfl (w.heap.size + 1 + 1) cg0 cg0 rfl rfl len0 len0 hS3.r ?_))
  exact ret_cg2 rfl (w.heap.size + 1 + 1) cg0 len0 rfl _ rfl (hS3.setR cg0).r rfl ⟨by rw [HX.out]; rfl,(hS3.setR cg0).bel⟩
 have heq : ∀ W,(binOp .neq 110 (.agg #[.int .u32 a.pl.ino,.int .i64 a.pl.part,.string a.pl.name,.int .u32 a.pl.chunk]) (.agg #[.int .u32 b.pl.ino,.int .i64 b.pl.part,.string b.pl.name,.int .u32 b.pl.chunk])).run Tryz.prog W = .ok (.bool (!plEq a.pl b.pl)) W:=fun W => neq_places W a.pl b.pl
 go_enter Tryz.func118,Tryz.ntmps118
 go_wp2_with (refine wpList_loadG rfl 114 _ rfl _ rfl _ hla.out ?_)
 refine (dmayBe_any _ a ha).mono ?_
 rintro e w2 ⟨rfl,hb2⟩
 rw [hka]
 have hS2:=hS.below hb2
 have hlb2 : Hid _:=hS2.b.load HB.out
 go_wp2_with (refine wpList_loadG rfl 114 _ rfl _ rfl _ hlb2.out ?_)
 refine (dmayBe_any _ b hb).mono ?_
 rintro e w3 ⟨rfl,hb3⟩
 rw [hkb]
 have hS3:=hS2.below hb3
 have hpa3 : Hid ((Instr.loadAt 110 (.pointer (some ⟨w.heap.size,0,none⟩))).run Tryz.prog w3 = .ok (.agg #[.int .u32 a.pl.ino,.int .i64 a.pl.part,.string a.pl.name,.int .u32 a.pl.chunk]) w3):=hS3.a.loadP
 have hpb3 : Hid ((Instr.loadAt 110 (.pointer (some ⟨w.heap.size + 1,0,none⟩))).run Tryz.prog w3 = .ok (.agg #[.int .u32 b.pl.ino,.int .i64 b.pl.part,.string b.pl.name,.int .u32 b.pl.chunk]) w3):=hS3.b.loadP
 have hlb3 : Hid _:=hS3.b.load HB.out
 have b4:=hS3.b.c4
 cases hpp : plEq a.pl b.pl
 ·have HX : Hid (joinX a b = (cg0,1)):=by unfold Hid joinX; rw [hka,hkb,hpp]; rfl
  rw [hpp] at heq
  go_wp2_with (first
   | (refine wpList_loadG rfl 110 _ rfl _ rfl _ hpa3.out ?_)
   | (refine wpList_loadG rfl 110 _ rfl _ rfl _ hpb3.out ?_)
   | (refine wpList_buildBy rfl 114 _ rfl _ rfl [] (by kernel_rfl) _ built_cg0 ?_)
   | (refine wpList_storeG rfl _ _ rfl (w.heap.size + 1 + 1) cg0 cg0 rfl rfl len0 len0 hS3.r ?_))
  exact ret_cg2 rfl (w.heap.size + 1 + 1) cg0 len0 rfl _ rfl (hS3.setR cg0).r rfl ⟨by rw [HX.out]; rfl,(hS3.setR cg0).bel⟩
 rw [hpp] at heq
 cases hg : b.gone
 ·rw [hg] at b4
  have hpo:=plOk_part (ckOk_pl hkb)
  have HX : Hid (joinX a b = if b.pl.part = 1 then jRX a b else if b.pl.part = 2 then (b,0) else jDX a b):=by unfold Hid joinX; rw [hka,hkb,hpp,hg]; rfl
  go_wp2_with (first
   | (refine wpList_loadG rfl 110 _ rfl _ rfl _ hpa3.out ?_)
   | (refine wpList_loadG rfl 110 _ rfl _ rfl _ hpb3.out ?_))
  refine wp_region_noPanic ?_
  rcases hpo with hk | hk | hk
  ·have HY : Hid (joinX a b = ((jRX a b).1,(jRX a b).2)):=by unfold Hid; rw [HX.out,if_pos hk]
   have po : ∀ W,Calls Tryz.prog 133 #[plV b.pl] W fun e w' => e = .returned (.agg #[.func (.func 151) #[] #[],.func (.func 152) #[] #[]]) ∧ Below W.heap.size W w':=by
    intro W
    have e : b.pl = ⟨b.pl.ino,1,b.pl.name,b.pl.chunk⟩:=by rw [← hk]
    rw [e]; exact partOf_1 W _ _ _
   have HV : Hid (((jRX a b).1 : Cg).pt.bytes.length = 32):=(jRX_ok ha hb).pt.ch.1
   have hfd : ∀ W,(Instr.field 243 (.agg #[.func (.func 151) #[] #[],.func (.func 152) #[] #[]]) 1).run Tryz.prog W = .ok (.func (.func 152) #[] #[]) W:=fun W => by kernel_rfl
   clear HX hk
   refine wp_region_held_drew (S:=fun W => ∃ r,r.pt.bytes.length = 32 ∧ TwoS w a b r W) (by kernel_rfl) ⟨cg0,len0,hS3.drew⟩ (fun hHeld => ?_)
   refine tk 0 (.pointer (some ⟨w.heap.size + 1,0,none⟩)) rfl ?_
   try simp only [nz]
   refine wpAnyH_take (i:=1) (v:=plV b.pl) rfl (by kernel_rfl) (by kernel_rfl) (by kernel_rfl) (fun _ _ _ h => h) (yields_load (by rfl) _ _ rfl _ rfl _ (fun W h => by obtain ⟨r,_,h⟩:=h; exact h.b.loadP)) (by assumption) ?_
   try simp only [nz]
   refine wpAnyH_take (i:=4) (v:=.agg (cgC a)) rfl (by kernel_rfl) (by kernel_rfl) (by kernel_rfl) (fun _ _ _ h => h) (yields_load (by rfl) _ _ rfl _ rfl _ (fun W h => by obtain ⟨r,_,h⟩:=h; exact h.a.load HA.out)) (by assumption) ?_
   try simp only [nz]
   refine wpAnyH_take (i:=5) (v:=.agg (cgC b)) rfl (by kernel_rfl) (by kernel_rfl) (by kernel_rfl) (fun _ _ _ h => h) (yields_load (by rfl) _ _ rfl _ rfl _ (fun W h => by obtain ⟨r,_,h⟩:=h; exact h.b.load HB.out)) (by assumption) ?_
   try simp only [nz]
   refine rd 2 rfl (fun K hK => ?_)
   go_simp
   go_wp2_with (go_at_call 133; refine (po _).mono ?_; rintro e w4 ⟨rfl,hb_w4⟩)
   refine hK.out _ _ (by obtain ⟨r,hr,h⟩:=hHeld; exact ⟨r,hr,h.below hb_w4⟩) (fun hHeld2 => ?_)
   clear hK K
   refine tk 3 (.func (.func 152) #[] #[]) rfl ?_
   try simp only [nz]
   refine rd 6 rfl (fun K hK => ?_)
   go_simp
   go_wp2_with (go_at_call 152; refine (joinRecord_any _ a b ha hb).mono ?_; rintro e w5 ⟨rfl,hb_w5⟩)
   refine hK.out _ _ (by obtain ⟨r,hr,h⟩:=hHeld2; exact ⟨r,hr,h.below hb_w5⟩) (fun hHeld3 => ?_)
   clear hK K
   refine tk 7 (.agg (cgC (jRX a b).1)) rfl ?_
   try simp only [nz]
   refine tk 8 (.int .i64 (jRX a b).2) rfl ?_
   try simp only [nz]
   obtain ⟨r0,hr0,hat0⟩:=hHeld3
   have HR : Hid (r0.pt.bytes.length = 32):=hr0
   clear hr0
   refine rd 9 rfl (fun K hK => ?_)
   rw [if_pos (by rfl)]
   refine wp_store_row 114 _ _ rfl (w.heap.size + 1 + 1) (cgC (jRX a b).1) rfl rfl 114 (cgC r0) hat0.r.row (by rw [cgC_size HV.out]; exact size_cg) (by rw [cgC_size HV.out,cgC_size HR.out]) (one_cg _) ?_
   refine hK.out _ _ ⟨_,HV.out,hat0.setR (jRX a b).1⟩ (fun hHeld4 => ?_)
   clear hK K
   refine tk 10 (.int .i64 (jRX a b).2) rfl ?_
   try simp only [nz]
   refine wpAnyH_done (by kernel_rfl) ?_ _
   refine NoPanic.normal ?_
   go_wp2_with fail
   exact ret_cg2 rfl (w.heap.size + 1 + 1) (jRX a b).1 HV.out rfl _ rfl (hat0.setR (jRX a b).1).r rfl ⟨by rw [HY.out]; rfl,(hat0.setR (jRX a b).1).bel⟩
  ·have HY : Hid (joinX a b = (b,0)):=by unfold Hid; rw [HX.out,if_neg (by omega),if_pos hk]
   have po : ∀ W,Calls Tryz.prog 133 #[plV b.pl] W fun e w' => e = .returned (.agg #[.func (.func 153) #[] #[],.func (.func 154) #[] #[]]) ∧ Below W.heap.size W w':=by
    intro W
    have e : b.pl = ⟨b.pl.ino,2,b.pl.name,b.pl.chunk⟩:=by rw [← hk]
    rw [e]; exact partOf_2 W _ _ _
   have HV : Hid ((b : Cg).pt.bytes.length = 32):=HB.out
   have hfd : ∀ W,(Instr.field 243 (.agg #[.func (.func 153) #[] #[],.func (.func 154) #[] #[]]) 1).run Tryz.prog W = .ok (.func (.func 154) #[] #[]) W:=fun W => by kernel_rfl
   clear HX hk
   refine wp_region_held_drew (S:=fun W => ∃ r,r.pt.bytes.length = 32 ∧ TwoS w a b r W) (by kernel_rfl) ⟨cg0,len0,hS3.drew⟩ (fun hHeld => ?_)
   refine tk 0 (.pointer (some ⟨w.heap.size + 1,0,none⟩)) rfl ?_
   try simp only [nz]
   refine wpAnyH_take (i:=1) (v:=plV b.pl) rfl (by kernel_rfl) (by kernel_rfl) (by kernel_rfl) (fun _ _ _ h => h) (yields_load (by rfl) _ _ rfl _ rfl _ (fun W h => by obtain ⟨r,_,h⟩:=h; exact h.b.loadP)) (by assumption) ?_
   try simp only [nz]
   refine wpAnyH_take (i:=4) (v:=.agg (cgC a)) rfl (by kernel_rfl) (by kernel_rfl) (by kernel_rfl) (fun _ _ _ h => h) (yields_load (by rfl) _ _ rfl _ rfl _ (fun W h => by obtain ⟨r,_,h⟩:=h; exact h.a.load HA.out)) (by assumption) ?_
   try simp only [nz]
   refine wpAnyH_take (i:=5) (v:=.agg (cgC b)) rfl (by kernel_rfl) (by kernel_rfl) (by kernel_rfl) (fun _ _ _ h => h) (yields_load (by rfl) _ _ rfl _ rfl _ (fun W h => by obtain ⟨r,_,h⟩:=h; exact h.b.load HB.out)) (by assumption) ?_
   try simp only [nz]
   refine rd 2 rfl (fun K hK => ?_)
   go_simp
   go_wp2_with (go_at_call 133; refine (po _).mono ?_; rintro e w4 ⟨rfl,hb_w4⟩)
   refine hK.out _ _ (by obtain ⟨r,hr,h⟩:=hHeld; exact ⟨r,hr,h.below hb_w4⟩) (fun hHeld2 => ?_)
   clear hK K
   refine tk 3 (.func (.func 154) #[] #[]) rfl ?_
   try simp only [nz]
   refine rd 6 rfl (fun K hK => ?_)
   go_simp
   go_wp2_with (go_at_call 154; refine (joinEntry_any _ a b ha hb).mono ?_; rintro e w5 ⟨rfl,hb_w5⟩)
   refine hK.out _ _ (by obtain ⟨r,hr,h⟩:=hHeld2; exact ⟨r,hr,h.below hb_w5⟩) (fun hHeld3 => ?_)
   clear hK K
   refine tk 7 (.agg (cgC b)) rfl ?_
   try simp only [nz]
   refine tk 8 (.int .i64 0) rfl ?_
   try simp only [nz]
   obtain ⟨r0,hr0,hat0⟩:=hHeld3
   have HR : Hid (r0.pt.bytes.length = 32):=hr0
   clear hr0
   refine rd 9 rfl (fun K hK => ?_)
   rw [if_pos (by rfl)]
   refine wp_store_row 114 _ _ rfl (w.heap.size + 1 + 1) (cgC b) rfl rfl 114 (cgC r0) hat0.r.row (by rw [cgC_size HV.out]; exact size_cg) (by rw [cgC_size HV.out,cgC_size HR.out]) (one_cg _) ?_
   refine hK.out _ _ ⟨_,HV.out,hat0.setR b⟩ (fun hHeld4 => ?_)
   clear hK K
   refine tk 10 (.int .i64 0) rfl ?_
   try simp only [nz]
   refine wpAnyH_done (by kernel_rfl) ?_ _
   refine NoPanic.normal ?_
   go_wp2_with fail
   exact ret_cg2 rfl (w.heap.size + 1 + 1) b HV.out rfl _ rfl (hat0.setR b).r rfl ⟨by rw [HY.out]; rfl,(hat0.setR b).bel⟩
  ·have HY : Hid (joinX a b = ((jDX a b).1,(jDX a b).2)):=by unfold Hid; rw [HX.out,if_neg (by omega),if_neg (by omega)]
   have po : ∀ W,Calls Tryz.prog 133 #[plV b.pl] W fun e w' => e = .returned (.agg #[.func (.func 155) #[] #[],.func (.func 156) #[] #[]]) ∧ Below W.heap.size W w':=by
    intro W
    have e : b.pl = ⟨b.pl.ino,3,b.pl.name,b.pl.chunk⟩:=by rw [← hk]
    rw [e]; exact partOf_3 W _ _ _
   have HV : Hid (((jDX a b).1 : Cg).pt.bytes.length = 32):=(jDX_ok ha hb).pt.ch.1
   have hfd : ∀ W,(Instr.field 243 (.agg #[.func (.func 155) #[] #[],.func (.func 156) #[] #[]]) 1).run Tryz.prog W = .ok (.func (.func 156) #[] #[]) W:=fun W => by kernel_rfl
   clear HX hk
   refine wp_region_held_drew (S:=fun W => ∃ r,r.pt.bytes.length = 32 ∧ TwoS w a b r W) (by kernel_rfl) ⟨cg0,len0,hS3.drew⟩ (fun hHeld => ?_)
   refine tk 0 (.pointer (some ⟨w.heap.size + 1,0,none⟩)) rfl ?_
   try simp only [nz]
   refine wpAnyH_take (i:=1) (v:=plV b.pl) rfl (by kernel_rfl) (by kernel_rfl) (by kernel_rfl) (fun _ _ _ h => h) (yields_load (by rfl) _ _ rfl _ rfl _ (fun W h => by obtain ⟨r,_,h⟩:=h; exact h.b.loadP)) (by assumption) ?_
   try simp only [nz]
   refine wpAnyH_take (i:=4) (v:=.agg (cgC a)) rfl (by kernel_rfl) (by kernel_rfl) (by kernel_rfl) (fun _ _ _ h => h) (yields_load (by rfl) _ _ rfl _ rfl _ (fun W h => by obtain ⟨r,_,h⟩:=h; exact h.a.load HA.out)) (by assumption) ?_
   try simp only [nz]
   refine wpAnyH_take (i:=5) (v:=.agg (cgC b)) rfl (by kernel_rfl) (by kernel_rfl) (by kernel_rfl) (fun _ _ _ h => h) (yields_load (by rfl) _ _ rfl _ rfl _ (fun W h => by obtain ⟨r,_,h⟩:=h; exact h.b.load HB.out)) (by assumption) ?_
   try simp only [nz]
   refine rd 2 rfl (fun K hK => ?_)
   go_simp
   go_wp2_with (go_at_call 133; refine (po _).mono ?_; rintro e w4 ⟨rfl,hb_w4⟩)
   refine hK.out _ _ (by obtain ⟨r,hr,h⟩:=hHeld; exact ⟨r,hr,h.below hb_w4⟩) (fun hHeld2 => ?_)
   clear hK K
   refine tk 3 (.func (.func 156) #[] #[]) rfl ?_
   try simp only [nz]
   refine rd 6 rfl (fun K hK => ?_)
   go_simp
   go_wp2_with (go_at_call 156; refine (joinData_any _ a b ha hb).mono ?_; rintro e w5 ⟨rfl,hb_w5⟩)
   refine hK.out _ _ (by obtain ⟨r,hr,h⟩:=hHeld2; exact ⟨r,hr,h.below hb_w5⟩) (fun hHeld3 => ?_)
   clear hK K
   refine tk 7 (.agg (cgC (jDX a b).1)) rfl ?_
   try simp only [nz]
   refine tk 8 (.int .i64 (jDX a b).2) rfl ?_
   try simp only [nz]
   obtain ⟨r0,hr0,hat0⟩:=hHeld3
   have HR : Hid (r0.pt.bytes.length = 32):=hr0
   clear hr0
   refine rd 9 rfl (fun K hK => ?_)
   rw [if_pos (by rfl)]
   refine wp_store_row 114 _ _ rfl (w.heap.size + 1 + 1) (cgC (jDX a b).1) rfl rfl 114 (cgC r0) hat0.r.row (by rw [cgC_size HV.out]; exact size_cg) (by rw [cgC_size HV.out,cgC_size HR.out]) (one_cg _) ?_
   refine hK.out _ _ ⟨_,HV.out,hat0.setR (jDX a b).1⟩ (fun hHeld4 => ?_)
   clear hK K
   refine tk 10 (.int .i64 (jDX a b).2) rfl ?_
   try simp only [nz]
   refine wpAnyH_done (by kernel_rfl) ?_ _
   refine NoPanic.normal ?_
   go_wp2_with fail
   exact ret_cg2 rfl (w.heap.size + 1 + 1) (jDX a b).1 HV.out rfl _ rfl (hat0.setR (jDX a b).1).r rfl ⟨by rw [HY.out]; rfl,(hat0.setR (jDX a b).1).bel⟩
 ·rw [hg] at b4
  have HX : Hid (joinX a b = (b,0)):=by unfold Hid joinX; rw [hka,hkb,hpp,hg]; rfl
  go_wp2_with (first
   | (refine wpList_loadG rfl 110 _ rfl _ rfl _ hpa3.out ?_)
   | (refine wpList_loadG rfl 110 _ rfl _ rfl _ hpb3.out ?_)
   | (refine wpList_loadG rfl 114 _ rfl _ rfl _ hlb3.out ?_)
   | (refine wpList_storeG rfl _ _ rfl (w.heap.size + 1 + 1) b cg0 rfl rfl HB.out len0 hS3.r ?_))
  exact ret_cg2 rfl (w.heap.size + 1 + 1) b HB.out rfl _ rfl (hS3.setR b).r rfl ⟨by rw [HX.out]; rfl,(hS3.setR b).bel⟩
end Go.Proofs.YtgajjphjkbnaeaaGreat
