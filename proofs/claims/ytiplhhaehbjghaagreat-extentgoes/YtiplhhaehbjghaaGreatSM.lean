/- DlAll2, InSm, InSm2, InIop: in one text. -/
import Derived.Test.YtiplhhaehbjghaaGreatM1
import Derived.Test.YtiplhhaehbjghaaGreatDG
import Derived.Test.YtiplhhaehbjghaaGreatID
import Derived.Test.YtiplhhaehbjghaaGreatIK
import Derived.Test.YtiplhhaehbjghaaGreatD5
import Derived.Test.YtiplhhaehbjghaaGreatCR
import Derived.Deep.LoopGhost
import Derived.Deep.RegionHeld3
namespace Go.Proofs.YtiplhhaehbjghaaGreat
open Go.RowKit
set_option linter.unusedVariables false
set_option maxHeartbeats 32000000
set_option maxRecDepth 100000
set_option linter.unusedSimpArgs false
open Go.Proofs
open Go.RowKit Go.Sort Go.Shelf Go.Maps
theorem sorted_is {L : List Cg} (hL : LOk L) {ps : List CgK} (hp : (ps.map CgK.c).Perm L) (hs : ps.Pairwise fun x y => ¬ cmpP y.1.pl x.1.pl = -1) : ps.map CgK.c = L := by
 have hnd : (ps.map CgK.c).Nodup := hp.nodup_iff.2 (rise_nodup hL.rise)
 refine rise_ext ?_ hL.rise fun x => hp.mem_iff
 have h1 : (ps.map CgK.c).Pairwise fun x y => ¬ cmpP y.pl x.pl = -1 := List.pairwise_map.2 hs
 refine List.Pairwise.imp_of_mem (fun {x y} hx hy h => ?_) (h1.and hnd)
 refine cmp_other h.1 fun e => h.2 ?_
 exact rise_one hL.rise (hp.mem_iff.1 hx) (hp.mem_iff.1 hy) e.symm
theorem collect_any (g : Nat) (lb : Array Value) (eg : ∀ args w, (callFunc g args).run Tryz.prog w = .ok (.enter g args) w) (L : List Cg) (N : Nat) (hN : N ≤ 2000) (w : World)
  (hseq : SeqStopsK Fence.wide 2 Tryz.prog g lb (fun x : CgK => #[.agg (cgC x.1)]) KeepsWalks (fun ys => (ys.map (·.1)).Perm L) (fun _ => True) N w) :
  Calls Tryz.prog 145 #[.func (.func g) #[] lb] w fun e w' => ∃ (v : Value) (ps : List CgK), e = .returned v ∧ (ps.map CgK.c).Perm L ∧ w'.ownsRow w.heap.size 119 46 v ps.length (ps.flatMap ckL) ∧ Below w.heap.size w w' := by
 have h := appendSeq_any g lb eg L N hN w hseq
 go_enter Tryz.func145, Tryz.ntmps145
 go_wp2_with fail
 refine h.mono ?_
 rintro e w5 ⟨v5, ps, rfl, hp, ho5, hb5⟩
 go_wp2
 go_ret
 exact ⟨_, ps, rfl, hp, ho5, hb5⟩
theorem sortedFunc_any (g : Nat) (lb : Array Value) (eg : ∀ args w, (callFunc g args).run Tryz.prog w = .ok (.enter g args) w) (L : List Cg) (hL : LOk L) (hN : L.length ≤ 2000) (w : World)
  (hseq : SeqStopsK Fence.wide 2 Tryz.prog g lb (fun x : CgK => #[.agg (cgC x.1)]) KeepsWalks (fun ys => (ys.map (·.1)).Perm L) (fun _ => True) L.length w) :
  Calls Tryz.prog 98 #[.func (.func g) #[] lb, .func (.func 100) #[] #[]] w fun e w' => ∃ v, e = .returned v ∧ w'.ownsRow w.heap.size 119 46 v L.length (L.flatMap cgL) ∧ Below w.heap.size w w' := by
 have h := collect_any g lb eg L L.length hN w hseq
 go_enter Tryz.func98, Tryz.ntmps98
 go_wp2_with fail
 refine h.mono ?_
 rintro e w5 ⟨v5, ps, rfl, hp, ho5, hb5⟩
 have hlen : Hid (ps.length = L.length) := by unfold Hid; have := hp.length_eq; simpa using this
 obtain ⟨a5, c5, rfl⟩ := own_shape ho5
 have hs := sortG_any ho5 (by rw [hlen.out]; omega)
 have HO5 : Hid _ := ho5
 have HP : Hid _ := hp
 have hlo : ∀ k, (Value.slice a5 ps.length c5).ownBlock = some k → w.heap.size ≤ k := fun k hk => (World.ownsRow.lt ho5 k hk).1
 clear ho5 hp h hseq
 go_wp2_with fail
 refine hs.mono ?_
 rintro e w6 ⟨rfl, L', hp', hs', ho6, hg6⟩
 have he := sorted_is hL ((hp'.map CgK.c).trans HP.out) hs'
 have hb6 : Below w.heap.size w w6 := hb5.trans ⟨hg6.os, hg6.tape, hg6.output, hg6.size, fun k hk => hg6.block k (Nat.lt_of_lt_of_le hk hb5.size) (fun e => by have := hlo k e.symm; omega)⟩
 clear hs
 have ho7 : w6.ownsRow w.heap.size 119 46 (.slice a5 ps.length c5) L.length (L.flatMap cgL) := by
  have e1 : L'.length = L.length := by rw [hp'.length_eq, hlen.out]
  have e2 : L'.flatMap ckL = L.flatMap cgL := by rw [← he, List.flatMap_map]; rfl
  rw [e1, e2] at ho6
  exact ho6
 have HO7 : Hid _ := ho7
 have HB6 : Hid _ := hb6
 clear ho7 ho6 he hg6 hb6 hp' hs'
 go_wp2
 go_ret
 exact ⟨_, rfl, HO7.out, HB6.out⟩
theorem dall_any {w : World} {p b : Nat} {v : Value} {s : Dl} (h : DlAt w p b v s) (hN : s.L.length ≤ 2000) : Calls Tryz.prog 50 #[.pointer (some ⟨p, 0, none⟩)] w fun e w' =>
  ∃ u, e = .returned u ∧ w'.ownsRow w.heap.size 119 46 u s.L.length (s.L.flatMap cgL) ∧ Below w.heap.size w w' := by
 have c1 := h.c1
 have al : ∀ (A : World) (o : Obj), Below A.heap.size A (A.alloc o) := fun A o => (Below.refl _ A).alloc (Nat.le_refl _) o
 have hb1 := al w (.cells #[.map (some b)] 137)
 have hc1 : (w.alloc (.cells #[.map (some b)] 137)).cell? ⟨w.heap.size, 0, none⟩ = some (.map (some b)) := by
  rw [cell_of_row _ _ _ _ _ (0, 0) (heap_alloc_new w _)]; rfl
 have hm1 := h.mp.keep (hb1.block b h.mp.lt)
 have hlt1 : w.heap.size < (w.alloc (.cells #[.map (some b)] 137)).heap.size := by simp
 have hv := values_any w b
 obtain ⟨w1, hw1⟩ : ∃ w1, w.alloc (.cells #[.map (some b)] 137) = w1 := ⟨_, rfl⟩
 rw [hw1] at hb1 hc1 hm1 hlt1 hv
 have eg : ∀ args w, (callFunc 147 args).run Tryz.prog w = .ok (.enter 147 args) w := enters_of Tryz.func147 (by kernel_rfl) rfl
 have hs := sortedFunc_any _ #[.pointer (some ⟨w.heap.size, 0, none⟩)] eg s.L h.ok.L hN w1 (values_stops 2 (by decide) w.heap.size b s.L h.ok.L w1 hlt1 hc1 hm1)
 clear hw1
 go_enter Tryz.func50, Tryz.ntmps50
 go_wp2_with fail
 refine hv.mono ?_
 rintro e w2 ⟨rfl, rfl⟩
 go_wp2_with fail
 refine hs.mono ?_
 rintro e w3 ⟨u, rfl, ho3, hb3⟩
 go_wp2
 go_ret
 refine ⟨_, rfl, ?_, thenB hb1 hb3⟩
 obtain ⟨h1, h2 | ⟨g, cap, cur, h2, h3, h4⟩⟩ := ho3
 ·exact ⟨h1, .inl h2⟩
 ·exact ⟨h1, .inr ⟨g, cap, cur, h2, by omega, h4⟩⟩
open Go.RowKit Go.Maps
theorem Bo.allD {B : Nat} {w0 w : World} {pp : Nat} {a : Sa} {x : Nat} {Z : List Nat} {s t : Sg} (h : Bo B w0 w pp a x Z s t) (hL : s.d.L.length ≤ 2000) : Calls Tryz.prog 50 #[.pointer (some ⟨a.p, 0, none⟩)] w fun e w' =>
  ∃ u, e = .returned u ∧ w'.ownsRow w.heap.size 119 46 u s.d.L.length (s.d.L.flatMap cgL) ∧ Below w.heap.size w w' := by
 obtain ⟨X, Y, p, ⟨vd, vr, vu, g, _⟩, _⟩ := h.ex
 exact dall_any g.d hL
theorem Bo.xrow {B : Nat} {w0 w : World} {pp : Nat} {a : Sa} {x : Nat} {Z : List Nat} {s t : Sg} (h : Bo B w0 w pp a x Z s t) {N : Nat} (hk : Sk t N) (hN : N ≤ 3800) : ∃ rv q vr vu, w.cell? ⟨x, 0, none⟩ = some (.pointer (some ⟨rv, 0, none⟩)) ∧ w.cell? ⟨x, 1, none⟩ = some vr ∧ w.cell? ⟨x, 2, none⟩ = some vu ∧ w.cell? ⟨rv, 1, none⟩ = some (.pointer (some ⟨q, 0, none⟩)) ∧ RdZ 5 tcE w vr t.R ∧ RdZ 5 tcE w vu t.U ∧
  ∀ W, Below w.heap.size w W → Calls Tryz.prog 51 #[.pointer (some ⟨q, 0, none⟩)] W fun e w' => ∃ u, e = .returned u ∧ w'.ownsRow W.heap.size 119 46 u t.d.L.length (t.d.L.flatMap cgL) ∧ Below W.heap.size W w' := by
 obtain ⟨X, Y, p, _, ⟨rv, q, vq, vr, vu, g, _⟩, _⟩ := h.ex
 obtain ⟨ad, n, cap, hv, _⟩ := g.v
 obtain ⟨xs, hd⟩ := g.d
 refine ⟨rv, q, vr, vu, by rw [cell_of_row _ _ _ _ _ (0, 0) g.row]; rfl, by rw [cell_of_row _ _ _ _ _ (0, 0) g.row]; rfl, by rw [cell_of_row _ _ _ _ _ (0, 0) g.row]; rfl, by rw [cell_of_row _ _ _ _ _ (0, 0) hv.row]; rfl, g.r, g.u, fun W hW => ?_⟩
 have hl := hd.r.len
 have := hk.P
 have := hk.L
 exact xall_any (hd.below hW).x hd.r hd.ok (by omega) (by omega)
theorem Bo.allR {B : Nat} {w0 w : World} {pp : Nat} {a : Sa} {x : Nat} {Z : List Nat} {s t : Sg} (h : Bo B w0 w pp a x Z s t) (hl : s.R.length ≤ 100000) : Calls Tryz.prog 29 #[.pointer (some ⟨a.r, 0, none⟩)] w fun e w' =>
  ∃ ad c, e = .returned (.slice ad s.R.length c) ∧ RdZ 5 tcE w' (.slice ad s.R.length c) s.R ∧ Below w.heap.size w w' := by
 obtain ⟨X, Y, p, ⟨vd, vr, vu, g, _⟩, _⟩ := h.ex
 refine (all_any g.r hl).mono ?_
 rintro e w' ⟨u, rfl, hu, hb⟩
 obtain ⟨ad, c, rfl⟩ := own_shape hu
 exact ⟨ad, c, rfl, rdZ_own tc_len hu, hb⟩
theorem Bo.allU {B : Nat} {w0 w : World} {pp : Nat} {a : Sa} {x : Nat} {Z : List Nat} {s t : Sg} (h : Bo B w0 w pp a x Z s t) (hl : s.U.length ≤ 100000) : Calls Tryz.prog 29 #[.pointer (some ⟨a.u, 0, none⟩)] w fun e w' =>
  ∃ ad c, e = .returned (.slice ad s.U.length c) ∧ RdZ 5 tcE w' (.slice ad s.U.length c) s.U ∧ Below w.heap.size w w' := by
 obtain ⟨X, Y, p, ⟨vd, vr, vu, g, _⟩, _⟩ := h.ex
 refine (all_any g.u hl).mono ?_
 rintro e w' ⟨u, rfl, hu, hb⟩
 obtain ⟨ad, c, rfl⟩ := own_shape hu
 exact ⟨ad, c, rfl, rdZ_own tc_len hu, hb⟩
theorem Bo.r1 {B : Nat} {w0 w : World} {pp : Nat} {a : Sa} {x : Nat} {Z : List Nat} {s t : Sg} (h : Bo B w0 w pp a x Z s t) : w.cell? ⟨a.s, 1, none⟩ = some (.pointer (some ⟨a.r, 0, none⟩)) := by
 obtain ⟨X, Y, p, g, _⟩ := h.ex
 exact g.c1
theorem Bo.u2 {B : Nat} {w0 w : World} {pp : Nat} {a : Sa} {x : Nat} {Z : List Nat} {s t : Sg} (h : Bo B w0 w pp a x Z s t) : w.cell? ⟨a.s, 2, none⟩ = some (.pointer (some ⟨a.u, 0, none⟩)) := by
 obtain ⟨X, Y, p, g, _⟩ := h.ex
 exact g.c2
open Go.RowKit Go.Maps
theorem rdz_shape {k : Nat} {α : Type} {ec : α → List Value} {w : World} {v : Value} {l : List α} (h : RdZ k ec w v l) : ∃ a c, v = .slice a l.length c := by
 obtain ⟨⟨a, c, e, _⟩, _⟩ := h
 exact ⟨a, c, e⟩
theorem bo_same {B : Nat} {w0 w : World} {pp : Nat} {a : Sa} {x : Nat} {Z : List Nat} {s : Sg} (h : Bo B w0 w pp a x Z s s) (hok : DlOk s.d) {N : Nat} (hk : Sk s N) (hN : N ≤ 2000) : Calls Tryz.prog 13 #[.pointer (some ⟨pp, 0, none⟩)] w fun e w' => e = .returned (.bool true) ∧ Below w.heap.size w w' := by
 have hLn : s.d.L.length ≤ 2000 := Nat.le_trans hk.L hN
 have ca := h.allD hLn
 have q1 := h.c1
 have HH : Hid (Bo B w0 w pp a x Z s s) := h
 have HK : Hid (Sk s N) := hk
 have HRn : Hid (s.R.length ≤ 100000) := Nat.le_trans hk.R (by omega)
 have HUn : Hid (s.U.length ≤ 100000) := Nat.le_trans hk.U (by omega)
 have HLn : Hid (s.d.L.length ≤ 2000) := hLn
 have HN : Hid (N ≤ 2000) := hN
 clear h hk hLn hN
 go_enter Tryz.func13, Tryz.ntmps13
 go_wp2_with fail
 refine ca.mono ?_
 rintro e w1 ⟨u1, rfl, ho1, hb1⟩
 clear ca q1
 obtain ⟨a1, c1, rfl⟩ := own_shape ho1
 have h1 := HH.out.below hb1
 obtain ⟨rv, q, vr, vu, x0, x1, x2, v1, hr, hu, hx⟩ := h1.xrow HK.out (Nat.le_trans HN.out (by omega))
 obtain ⟨ar, cr, rfl⟩ := rdz_shape hr
 obtain ⟨au, cu, rfl⟩ := rdz_shape hu
 have p2 := h1.c2
 have cx := hx w1 (Below.refl _ _)
 have HX1 : Hid (w1.cell? ⟨x, 1, none⟩ = some (.slice ar s.R.length cr)) := x1
 have HX2 : Hid (w1.cell? ⟨x, 2, none⟩ = some (.slice au s.U.length cu)) := x2
 have HR : Hid (RdZ 5 tcE w1 (.slice ar s.R.length cr) s.R) := hr
 have HU : Hid (RdZ 5 tcE w1 (.slice au s.U.length cu) s.U) := hu
 have HB1 : Hid (Below w.heap.size w w1) := hb1
 have HO1 : Hid (w1.ownsRow w.heap.size 119 46 (.slice a1 s.d.L.length c1) s.d.L.length (s.d.L.flatMap cgL)) := ho1
 clear hx x1 x2 hr hu hb1 ho1 h1
 go_wp2_with fail
 refine cx.mono ?_
 rintro e w2 ⟨u2, rfl, ho2, hb2⟩
 clear cx p2 v1 x0
 obtain ⟨a2, c2, rfl⟩ := own_shape ho2
 have HB2 : Hid (Below w1.heap.size w1 w2) := hb2
 have HBo : Hid (∀ W, Below w2.heap.size w2 W → Bo B w0 W pp a x Z s s) := fun W hW => HH.out.below (thenB (thenB HB1.out HB2.out) hW)
 have z0 : ∀ W, Below w2.heap.size w2 W → W.cell? ⟨pp, 0, none⟩ = some (.pointer (some ⟨a.s, 0, none⟩)) := fun W hW => (HBo.out W hW).c0
 have z2 : ∀ W, Below w2.heap.size w2 W → W.cell? ⟨pp, 2, none⟩ = some (.pointer (some ⟨x, 0, none⟩)) := fun W hW => (HBo.out W hW).c2
 have zr : ∀ W, Below w2.heap.size w2 W → W.cell? ⟨a.s, 1, none⟩ = some (.pointer (some ⟨a.r, 0, none⟩)) := fun W hW => (HBo.out W hW).r1
 have zu : ∀ W, Below w2.heap.size w2 W → W.cell? ⟨a.s, 2, none⟩ = some (.pointer (some ⟨a.u, 0, none⟩)) := fun W hW => (HBo.out W hW).u2
 have y1 : ∀ W, Below w2.heap.size w2 W → W.cell? ⟨x, 1, none⟩ = some (.slice ar s.R.length cr) := fun W hW => (World.cell?_of_block ((thenB HB2.out hW).block x (World.block_lt_of_cell? _ _ HX1.out))).trans HX1.out
 have y2 : ∀ W, Below w2.heap.size w2 W → W.cell? ⟨x, 2, none⟩ = some (.slice au s.U.length cu) := fun W hW => (World.cell?_of_block ((thenB HB2.out hW).block x (World.block_lt_of_cell? _ _ HX2.out))).trans HX2.out
 have HRA : Hid (0 < s.d.L.length → ∃ ga gb, a1 = some ⟨ga, 0, none⟩ ∧ a2 = some ⟨gb, 0, none⟩ ∧ RowG w2 ga s.d.L ∧ RowG w2 gb s.d.L) := fun hp => by
  obtain ⟨x1, y1, e1, z1⟩ := row_of hok.L.ok HO1.out
  obtain ⟨x2, y2, e2, z2⟩ := row_of hok.L.ok ho2
  simp only [Value.slice.injEq] at e1 e2
  obtain ⟨ga, ea, hga, _⟩ := z1 hp
  obtain ⟨gb, eb, hgb, _⟩ := z2 hp
  exact ⟨ga, gb, e1.1.trans ea, e2.1.trans eb, hga.below HB2.out, hgb⟩
 have cR := fun W (hW : Below w2.heap.size w2 W) => (HBo.out W hW).allR HRn.out
 have cU := fun W (hW : Below w2.heap.size w2 W) => (HBo.out W hW).allU HUn.out
 obtain ⟨n, hn⟩ : ∃ n, s.d.L.length = n := ⟨_, rfl⟩
 have HNL : Hid (s.d.L.length = n) := hn
 have HNn : Hid (n ≤ 2000) := by unfold Hid; rw [← hn]; exact HLn.out
 rw [hn] at HRA
 rw [hn]
 clear hn ho2 hb2 HO1
 go_wp2_with fail
 refine wp_region_noPanic ?_
 refine wp_region_held_drew (S := fun W => Below w2.heap.size w2 W) (by kernel_rfl) (Below.refl _ _).drew (fun hHeld => ?_)
 refine tk 0 (.slice a1 n c1) rfl ?_
 try simp only [nz]
 refine tk 1 (.int .i64 n) rfl ?_
 try simp only [nz]
 refine tk 2 (.slice a2 n c2) rfl ?_
 try simp only [nz]
 refine tk 3 (.int .i64 n) rfl ?_
 try simp only [nz]
 refine tk 4 (.bool false) rfl ?_
 try simp only [nz]
 refine tk 5 (.bool false) rfl ?_
 try simp only [nz]
 refine tk 6 (.pointer (some ⟨pp, 0, none⟩)) rfl ?_
 try simp only [nz]
 refine tk 7 (.pointer (some ⟨pp, 0, none⟩)) rfl ?_
 try simp only [nz]
 refine tk 8 (.pointer (some ⟨pp, 0, none⟩)) rfl ?_
 try simp only [nz]
 refine tk 9 (.pointer (some ⟨a.s, 0, none⟩)) rfl ?_ (fun W hSw => by (try dsimp only at hSw); (have z := z0 W hSw; go_simp))
 try simp only [nz]
 refine tk 10 (.pointer (some ⟨a.s, 0, none⟩)) rfl ?_
 try simp only [nz]
 refine tk 11 (.pointer (some ⟨a.s, 1, none⟩)) rfl ?_
 try simp only [nz]
 refine tk 12 (.pointer (some ⟨a.r, 0, none⟩)) rfl ?_ (fun W hSw => by (try dsimp only at hSw); (have z := zr W hSw; go_simp))
 try simp only [nz]
 refine tk 14 (.pointer (some ⟨pp, 0, none⟩)) rfl ?_
 try simp only [nz]
 refine tk 15 (.pointer (some ⟨pp, 0, none⟩)) rfl ?_
 try simp only [nz]
 refine tk 16 (.pointer (some ⟨pp, 2, none⟩)) rfl ?_
 try simp only [nz]
 refine tk 17 (.pointer (some ⟨x, 0, none⟩)) rfl ?_ (fun W hSw => by (try dsimp only at hSw); (have z := z2 W hSw; go_simp))
 try simp only [nz]
 refine tk 18 (.pointer (some ⟨x, 0, none⟩)) rfl ?_
 try simp only [nz]
 refine tk 19 (.pointer (some ⟨x, 1, none⟩)) rfl ?_
 try simp only [nz]
 refine tk 20 (.slice ar s.R.length cr) rfl ?_ (fun W hSw => by (try dsimp only at hSw); (have z := y1 W hSw; go_simp))
 try simp only [nz]
 refine rd 13 rfl (fun K hK => ?_)
 go_simp
 go_wp2_with (go_at_call 29; refine (cR _ (by assumption)).mono ?_; rintro e w5 ⟨ad5, cc5, rfl, hz5, hb5⟩)
 have hS5 : Below w2.heap.size w2 w5 := thenB hHeld hb5
 refine hK.out _ _ hS5 (fun hHeld5 => ?_)
 clear hK K
 try simp only [nz]
 refine rd 21 rfl (fun K hK => ?_)
 go_simp
 go_wp2_with (go_at_call 52; refine (touches_same w5 ad5 ar s.R.length cc5 cr s.R hz5 (HR.out.below (thenB HB2.out hS5)) HRn.out).mono ?_; rintro e w6 ⟨rfl, hb6⟩)
 have hS6 : Below w2.heap.size w2 w6 := thenB hS5 hb6
 refine hK.out _ _ hS6 (fun hHeld6 => ?_)
 clear hK K hz5 hb5
 try simp only [nz]
 refine tk 22 (.bool false) rfl ?_
 try simp only [nz]
 refine tk 23 (.bool false) rfl ?_
 try simp only [nz]
 refine tk 24 (.bool false) rfl ?_
 try simp only [nz]
 refine tk 25 (.pointer (some ⟨pp, 0, none⟩)) rfl ?_
 try simp only [nz]
 refine tk 26 (.pointer (some ⟨pp, 0, none⟩)) rfl ?_
 try simp only [nz]
 refine tk 27 (.pointer (some ⟨pp, 0, none⟩)) rfl ?_
 try simp only [nz]
 refine tk 28 (.pointer (some ⟨a.s, 0, none⟩)) rfl ?_ (fun W hSw => by (try dsimp only at hSw); (have z := z0 W hSw; go_simp))
 try simp only [nz]
 refine tk 29 (.pointer (some ⟨a.s, 0, none⟩)) rfl ?_
 try simp only [nz]
 refine tk 30 (.pointer (some ⟨a.s, 2, none⟩)) rfl ?_
 try simp only [nz]
 refine tk 31 (.pointer (some ⟨a.u, 0, none⟩)) rfl ?_ (fun W hSw => by (try dsimp only at hSw); (have z := zu W hSw; go_simp))
 try simp only [nz]
 refine tk 33 (.pointer (some ⟨pp, 0, none⟩)) rfl ?_
 try simp only [nz]
 refine tk 34 (.pointer (some ⟨pp, 0, none⟩)) rfl ?_
 try simp only [nz]
 refine tk 35 (.pointer (some ⟨pp, 2, none⟩)) rfl ?_
 try simp only [nz]
 refine tk 36 (.pointer (some ⟨x, 0, none⟩)) rfl ?_ (fun W hSw => by (try dsimp only at hSw); (have z := z2 W hSw; go_simp))
 try simp only [nz]
 refine tk 37 (.pointer (some ⟨x, 0, none⟩)) rfl ?_
 try simp only [nz]
 refine tk 38 (.pointer (some ⟨x, 2, none⟩)) rfl ?_
 try simp only [nz]
 refine tk 39 (.slice au s.U.length cu) rfl ?_ (fun W hSw => by (try dsimp only at hSw); (have z := y2 W hSw; go_simp))
 try simp only [nz]
 refine rd 32 rfl (fun K hK => ?_)
 go_simp
 go_wp2_with (go_at_call 29; refine (cU _ (by assumption)).mono ?_; rintro e w7 ⟨ad7, cc7, rfl, hz7, hb7⟩)
 have hS7 : Below w2.heap.size w2 w7 := thenB hS6 hb7
 refine hK.out _ _ hS7 (fun hHeld7 => ?_)
 clear hK K
 try simp only [nz]
 refine rd 40 rfl (fun K hK => ?_)
 go_simp
 go_wp2_with (go_at_call 52; refine (touches_same w7 ad7 au s.U.length cc7 cu s.U hz7 (HU.out.below (thenB HB2.out hS7)) HUn.out).mono ?_; rintro e w8 ⟨rfl, hb8⟩)
 have hS8 : Below w2.heap.size w2 w8 := thenB hS7 hb8
 refine hK.out _ _ hS8 (fun hHeld8 => ?_)
 clear hK K hz7 hb7
 try simp only [nz]
 refine tk 41 (.bool false) rfl ?_
 try simp only [nz]
 refine tk 42 (.bool false) rfl ?_
 try simp only [nz]
 refine wpAnyH_done (by kernel_rfl) ?_ _
 refine NoPanic.normal ?_
 have HS8 : Hid (Below w2.heap.size w2 w8) := hS8
 clear hS8 hS7 hS6 hS5 hb8 hb6 hHeld hHeld5 hHeld6 hHeld7 hHeld8 cR cU z0 z2 zr zu y1 y2
 go_wp2_with fail
 go_loopg [5, 67] n (fun kx s5 s67 wr => ∃ i : Nat, s67 = .int .i64 i ∧ i ≤ n ∧ n - i ≤ kx ∧ Hid (Below w2.heap.size w2 wr))
 case atStart => exact ⟨0, rfl, Nat.zero_le _, by omega, HS8.out⟩
 case round =>
  obtain ⟨i, rfl, hin, hkx, HW⟩ := hrel
  by_cases hlt : i < n
  ·have hiI : (i : Int) < (n : Int) := by omega
   have hib : (i : Int) + 1 ≤ 9223372036854775807 := by have := HNn.out; unfold Hid at this; omega
   obtain ⟨ga, gb, rfl, rfl, hA, hB⟩ := HRA.out (by omega)
   have hiL : i < s.d.L.length := by rw [HNL.out]; exact hlt
   have hyok := hok.L.ok _ (getD_mem hiL)
   have lA : Hid (∀ W, Below wr.heap.size wr W → (Instr.loadAt 119 (.pointer (some ⟨ga, i * 46, none⟩))).run Tryz.prog W = .ok (.agg (cgC (s.d.L.getD i cg0))) W) := fun W hW => ((hA.below HW.out).below hW).load hiL hyok
   have lB : Hid (∀ W, Below wr.heap.size wr W → (Instr.loadAt 119 (.pointer (some ⟨gb, i * 46, none⟩))).run Tryz.prog W = .ok (.agg (cgC (s.d.L.getD i cg0))) W) := fun W hW => ((hB.below HW.out).below hW).load hiL hyok
   obtain ⟨y, hy⟩ : ∃ y, s.d.L.getD i cg0 = y := ⟨_, rfl⟩
   rw [hy] at hyok lA lB
   have HY : Hid (y.pt.bytes.length = 32) := hyok.pt.ch.1
   have hneq := fun W => ne_cgs W (x := y) (y := y) HY.out HY.out
   rw [cgEq_self] at hneq
   clear hy hyok hiL hA hB
   go_wp2_with fail
   refine wp_region_noPanic ?_
   refine wp_region_held_drew (S := fun W => Below wr.heap.size wr W) (by kernel_rfl) (Below.refl _ _).drew (fun hHeld => ?_)
   refine tk 0 (.slice (some ⟨ga, 0, none⟩) n c1) rfl ?_
   try simp only [nz]
   refine tk 1 (.int .i64 i) rfl ?_
   try simp only [nz]
   refine tk 2 (.pointer (some ⟨ga, i * 46, none⟩)) rfl ?_
   try simp only [nz]
   refine wpAnyH_take (i := 3) (v := .agg (cgC y)) rfl (by kernel_rfl) (by kernel_rfl) (by kernel_rfl) (fun _ _ _ h => h) (yields_load (by rfl) _ _ rfl _ rfl _ (fun W h => lA.out W h)) (by assumption) ?_
   try simp only [nz]
   refine tk 4 (.slice (some ⟨gb, 0, none⟩) n c2) rfl ?_
   try simp only [nz]
   refine tk 5 (.int .i64 i) rfl ?_
   try simp only [nz]
   refine tk 6 (.pointer (some ⟨gb, i * 46, none⟩)) rfl ?_
   try simp only [nz]
   refine wpAnyH_take (i := 7) (v := .agg (cgC y)) rfl (by kernel_rfl) (by kernel_rfl) (by kernel_rfl) (fun _ _ _ h => h) (yields_load (by rfl) _ _ rfl _ rfl _ (fun W h => lB.out W h)) (by assumption) ?_
   try simp only [nz]
   refine tk 8 (.bool false) rfl ?_ (fun W hSw => by (try dsimp only at hSw); (have z := hneq W; go_simp))
   try simp only [nz]
   refine wpAnyH_done (by kernel_rfl) ?_ _
   refine NoPanic.normal ?_
   have HBr : Hid (Below w2.heap.size w2 wr.drew) := thenB HW.out (Below.refl _ _).drew
   clear hHeld
   go_wp2_with fail
   go_roundg (n - (i + 1))
   case measure => omega
   case rel => exact ⟨i + 1, by rw [show ((i : Int) + 1) = ((i + 1 : Nat) : Int) by omega], by omega, by omega, HBr⟩
  ·obtain rfl : n = i := by omega
   go_wp2_with fail
   go_ret
   exact ⟨rfl, thenB (thenB HB1.out HB2.out) HW.out⟩
structure Iop where
 o : IOp
 fa : Option Addr
 fn : Nat
 fc : Nat
 fs : List (Int × Int)
def iopE (x : Iop) : List Value := [.int .i64 x.o.d, .int .i64 x.o.a, .int .i64 x.o.b, .int .u32 x.o.ino, .slice x.fa x.fn x.fc]
structure IopOk (w : World) (x : Iop) : Prop where
 ok : IOpOk x.o
 rd : RdZ 2 fiE w (.slice x.fa x.fn x.fc) x.fs
 fi : fiOk x.fs
theorem IopOk.below {w w' : World} {x : Iop} (h : IopOk w x) (hb : Below w.heap.size w w') : IopOk w' x := ⟨h.ok, h.rd.below hb, h.fi⟩
def RdIop (w : World) (v : Value) (l : List Iop) : Prop := RdZ 5 iopE w v l ∧ ∀ o ∈ l, IopOk w o
theorem RdIop.below {w w' : World} {v : Value} {l : List Iop} (h : RdIop w v l) (hb : Below w.heap.size w w') : RdIop w' v l := ⟨h.1.below hb, fun o ho => (h.2 o ho).below hb⟩
end Go.Proofs.YtiplhhaehbjghaaGreat
