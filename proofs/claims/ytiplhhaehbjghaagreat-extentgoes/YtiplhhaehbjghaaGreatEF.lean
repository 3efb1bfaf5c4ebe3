/- InE, InF: in one text. -/
import Derived.Test.YtiplhhaehbjghaaGreatM1
import Derived.Test.YtiplhhaehbjghaaGreatS2
namespace Go.Proofs.YtiplhhaehbjghaaGreat
open Go.RowKit
set_option linter.unusedVariables false
set_option maxHeartbeats 32000000
set_option maxRecDepth 100000
set_option linter.unusedSimpArgs false
open Go.RowKit Go.Maps
def nextN (n : Int) : Int := if n = 4294967295 then 0 else n + 1
theorem nextN_ok {n : Int} (h0 : 0 ≤ n) (h1 : n ≤ 4294967295) : 0 ≤ nextN n ∧ nextN n ≤ 4294967295 := by
 unfold nextN
 split <;> omega
theorem alloc_any {w : World} {x : Nat} {n : Int} (h : w.heap[x]? = some (.cells #[.int .u32 n] 23 (0, 0))) (h0 : 0 ≤ n) (h1 : n ≤ 4294967295) : Calls Tryz.prog 38 #[.pointer (some ⟨x, 0, none⟩)] w fun e w' =>
  e = .returned (.int .u32 n) ∧ w' = w.setCell ⟨x, 0, none⟩ (.int .u32 (nextN n)) := by
 have bx : Boxed w x 23 (.int .u32 n) := h
 have xc := bx.cell
 have xf := bx.frozen
 by_cases hm : n = 4294967295
 ·subst hm
  have c2 := (bx.set (.int .u32 0)).cell
  go_enter Tryz.func38, Tryz.ntmps38
  go_wp2
  go_ret
  exact ⟨rfl, rfl⟩
 ·have hlt : n + 1 ≤ 4294967295 := by omega
  have hn : nextN n = n + 1 := by unfold nextN; rw [if_neg hm]
  rw [hn]
  have c2 := (bx.set (.int .u32 (n + 1))).cell
  have h11 : n + 1 - 1 = n := by omega
  go_enter Tryz.func38, Tryz.ntmps38
  go_wp2
  go_ret
  first | exact ⟨rfl, rfl⟩ | (refine ⟨?_, rfl⟩; rw [h11])
theorem SgAt.next {B : Nat} {w : World} {a : Sa} {vd vr vu : Value} {s : Sg} (h : SgAt B w a vd vr vu s) : SgOut B w a (mine a vd vr vu) { s with n := nextN s.n } (w.setCell ⟨a.x, 0, none⟩ (.int .u32 (nextN s.n))) := by
 obtain ⟨ad, n, cap, hS, hq⟩ := h.so
 have hx : a.x ∈ mine a vd vr vu := mine_iff.2 (by simp)
 have hs := Sole.setCell (S := mine a vd vr vu) w (a := ⟨a.x, 0, none⟩) (.int .u32 (nextN s.n)) hx
 obtain ⟨w', hw⟩ : ∃ w', w.setCell ⟨a.x, 0, none⟩ (.int .u32 (nextN s.n)) = w' := ⟨_, rfl⟩
 have oth : ∀ i, i ≠ a.x → w'.heap[i]? = w.heap[i]? := fun i hi => by rw [← hw]; exact heap_setCell_other w ⟨a.x, 0, none⟩ i _ hi
 have hnew : w'.heap[a.x]? = some (.cells #[.int .u32 (nextN s.n)] 23 (0, 0)) := by rw [← hw]; exact heap_setCell_same w a.x 0 _ _ (.int .u32 (nextN s.n)) h.x
 rw [hw] at hs ⊢
 have ne : ∀ {i : Nat} {cs : Array Value} {T : TypeId} {fr : Nat × Nat}, w.heap[i]? = some (.cells cs T fr) → T ≠ 23 → w'.heap[i]? = w.heap[i]? := fun hi ht => oth _ (ne_of_type hi h.x ht)
 have mp : ∀ {i : Nat} {es : Array MapEntry} {cl : Nat}, w.heap[i]? = some (.map es cl) → w'.heap[i]? = w.heap[i]? := fun {i es cl} hi => oth _ (fun e => by rw [e, h.x] at hi; cases hi)
 obtain ⟨n0, n1⟩ := nextN_ok h.n0 h.n1
 have ks : ∀ {p b : Nat} {v : Value} {L : List Tc}, SetAt w p b v L → SetAt w' p b v L := fun {p b v L} hs' => hs'.keep hs.size (fun i hi e => by
  rcases e with rfl | rfl | e
  ·exact ne hs'.row (by decide)
  ·obtain ⟨x, cl, e⟩ := hs'.sp.isMap; exact mp e
  ·obtain ⟨cs, e'⟩ := own_row hs'.own e; exact ne e' (by decide))
 refine ⟨mine a vd vr vu, ⟨vd, vr, vu, ⟨(ne h.sr (by decide)).trans h.sr, ⟨(ne h.vw.row (by decide)).trans h.vw.row⟩, ⟨ad, n, cap, ⟨(ne hS.row (by decide)).trans hS.row, hS.at_.keep hq hs.size ?_⟩, hq⟩,
  ⟨(ne h.d.row (by decide)).trans h.d.row, h.d.mp.keep (by obtain ⟨x, cl, e⟩ := h.d.mp.isMap; exact mp e), own_keep h.d.pus hs.size (fun q hq hl => by obtain ⟨cs, e⟩ := own_row h.d.pus hq; exact ne e (by decide)), h.d.ok⟩,
  ks h.r, ks h.u, hnew, n0, n1, h.ru, h.rub, h.brb, h.bub, h.vv, h.ge, Nat.le_trans h.le hs.size⟩, rfl⟩, hs, fun k hk => .inl hk⟩
 exact fun i hi hl => oth i (fun e => by have := h.ge a.x hx; omega)
theorem SgIn.next {B : Nat} {w : World} {a : Sa} {X : List Nat} {s : Sg} (h : SgIn B w a X s) : Calls Tryz.prog 38 #[.pointer (some ⟨a.x, 0, none⟩)] w fun e w' =>
  e = .returned (.int .u32 s.n) ∧ SgOut B w a X { s with n := nextN s.n } w' := by
 obtain ⟨vd, vr, vu, h, rfl⟩ := h
 refine (alloc_any h.x h.n0 h.n1).mono ?_
 rintro e w' ⟨rfl, rfl⟩
 exact ⟨rfl, h.next⟩
theorem sg_n {B : Nat} {w : World} {a : Sa} {X : List Nat} {s : Sg} (h : SgIn B w a X s) : 0 ≤ s.n ∧ s.n ≤ 4294967295 := by
 obtain ⟨vd, vr, vu, h, rfl⟩ := h
 exact ⟨h.n0, h.n1⟩
def makC (s : Sg) (kind mode : Int) : Cg := freshC (recP s.n) kind mode 1 0
def makS (s : Sg) (kind mode : Int) : Sg := { s with n := nextN s.n, d := putS s.d (makC s kind mode) }
def makR (s : Sg) (kind mode : Int) : Sg × Int × Int :=
 if inoOk kind mode 1 0 = false then (s, 0, 1)
 else if (putX s.d (makC s kind mode)).2 ≠ 0 then (makS s kind mode, 0, (putX s.d (makC s kind mode)).2)
 else (makS s kind mode, s.n, 0)
theorem bt_freshP (p : Pl) (k m l z : Int) : Tryz.prog.built 119 [(0, plV p), (2, .bool true), (4, .agg #[.int .i64 k, .int .i64 m, .int .i64 l, .int .i64 z])] = some (cgC (freshC p k m l z)) := bt_fresh p k m l z
theorem makC_ok {s : Sg} (h0 : 0 ≤ s.n) (h1 : s.n ≤ 4294967295) {kind mode : Int} (h : inoOk kind mode 1 0 = true) : CgOk (makC s kind mode) := by
 have hb := (bd_ok h).ok
 exact ⟨recP_ok h0 h1, by simp only [makC, freshC]; omega, by simp only [makC, freshC]; omega, hb, by simp [makC, freshC], by simp [makC, freshC], pt0_ok⟩
theorem make_in {B : Nat} {w : World} {a : Sa} {X : List Nat} {s : Sg} (h : SgIn B w a X s) (kind mode : Int) (hL : s.d.L.length ≤ 5000) (hP : s.d.pus.length ≤ 5000) : Calls Tryz.prog 32 #[.pointer (some ⟨a.s, 0, none⟩), .int .i64 kind, .int .i64 mode] w fun e w' =>
  e = .returned (.tuple #[.int .u32 (makR s kind mode).2.1, .int .i64 (makR s kind mode).2.2]) ∧ SgOut B w a X (makR s kind mode).1 w' := by
 obtain ⟨hn0, hn1⟩ := sg_n h
 have hX := h.lt
 have HF : Hid (makR s kind mode = if inoOk kind mode 1 0 = false then (s, 0, 1) else if (putX s.d (makC s kind mode)).2 ≠ 0 then (makS s kind mode, 0, (putX s.d (makC s kind mode)).2) else (makS s kind mode, s.n, 0)) := rfl
 generalize makR s kind mode = R at *
 have hb1 := bel1 w (.cells #[.int .i64 kind, .int .i64 mode, .int .i64 1, .int .i64 0] 91)
 have hi1 : InRow (w.alloc (.cells #[.int .i64 kind, .int .i64 mode, .int .i64 1, .int .i64 0] 91)) w.heap.size kind mode 1 0 := ⟨heap_alloc_new w _⟩
 have cc := checkInode_any (w.alloc (.cells #[.int .i64 kind, .int .i64 mode, .int .i64 1, .int .i64 0] 91)) kind mode 1 0
 have HH : Hid (SgIn B w a X s) := h
 have HB1 : Hid (Below w.heap.size w (w.alloc (.cells #[.int .i64 kind, .int .i64 mode, .int .i64 1, .int .i64 0] 91))) := hb1
 have HI1 : Hid (InRow (w.alloc (.cells #[.int .i64 kind, .int .i64 mode, .int .i64 1, .int .i64 0] 91)) w.heap.size kind mode 1 0) := hi1
 have HX : Hid (∀ k ∈ X, k < w.heap.size) := hX
 have HN : Hid (0 ≤ s.n ∧ s.n ≤ 4294967295) := ⟨hn0, hn1⟩
 have HL : Hid (s.d.L.length ≤ 5000 ∧ s.d.pus.length ≤ 5000) := ⟨hL, hP⟩
 have l1 : Hid _ := hi1.load
 clear h hb1 hi1 hX hn0 hn1 hL hP
 go_enter Tryz.func32, Tryz.ntmps32
 go_wp2_with (refine wpList_loadG rfl 91 _ rfl _ rfl _ l1.out ?_)
 refine cc.mono ?_
 rintro e w2 ⟨rfl, hb2⟩
 clear cc l1
 have HB2 : Hid (Below w.heap.size w w2) := thenB HB1.out hb2
 have HI2 : Hid (InRow w2 w.heap.size kind mode 1 0) := HI1.out.below hb2
 clear hb2 HB1 HI1
 cases hok : inoOk kind mode 1 0 with
 | false =>
  have HE : Hid (R = (s, 0, 1)) := by unfold Hid; rw [HF.out, if_pos hok]
  rw [inoE_11 hok]
  clear HF
  go_wp2
  go_ret2
  exact ⟨by rw [HE.out]; first | done | rfl, by rw [HE.out]; exact HH.out.out HB2.out⟩
 | true =>
 rw [inoE_0 hok]
 have HE0 : Hid ((if (putX s.d (makC s kind mode)).2 ≠ 0 then (makS s kind mode, 0, (putX s.d (makC s kind mode)).2) else (makS s kind mode, s.n, 0)) = R) := by have := HF.out; rw [if_neg (by rw [hok]; decide)] at this; exact this.symm
 have HCG : Hid (CgOk (makC s kind mode)) := makC_ok HN.out.1 HN.out.2 hok
 have h2 := HH.out.below HB2.out
 have c3 := h2.c3
 unfold alV at c3
 have ca := h2.next
 clear HF hok
 clear h2
 go_wp2_with fail
 refine ca.mono ?_
 rintro e w3 ⟨rfl, ho3⟩
 clear ca c3
 have HI3 : Hid (InRow w3 w.heap.size kind mode 1 0) := HI2.out.sole ho3.sole (fun e => by have := HX.out _ e; omega)
 obtain ⟨X3, hx1, hx2, hx3⟩ := ho3
 have HX2 : Hid (Sole X w2 w3) := hx2
 have HX3 : Hid (∀ k ∈ X3, k ∈ X ∨ w2.heap.size ≤ k) := hx3
 have HNX : Hid (w.heap.size ∉ X3) := fun hm => by
  rcases hx3 _ hm with e | e
  ·have := HX.out _ e; omega
  ·have := HI2.out.lt; omega
 have HX1 : Hid (SgIn B w3.drew a X3 { s with n := nextN s.n }) := hx1.drew
 have hS0 : SRow w3.drew a ∧ InRow w3.drew w.heap.size kind mode 1 0 := ⟨HX1.out.row, ⟨HI3.out.row⟩⟩
 have lJ : ∀ W, (SRow W a ∧ InRow W w.heap.size kind mode 1 0) → (Instr.loadAt 91 (.pointer (some ⟨w.heap.size, 0, none⟩))).run Tryz.prog W = .ok (.agg #[.int .i64 kind, .int .i64 mode, .int .i64 1, .int .i64 0]) W := fun W h => h.2.load
 clear hx1 hx2 hx3
 go_wp2_with fail
 refine wp_region_noPanic ?_
 refine wp_region_held_drew (S := fun W => SRow W a ∧ InRow W w.heap.size kind mode 1 0) (by kernel_rfl) hS0 (fun hHeld => ?_)
 refine tk 0 (.pointer (some ⟨a.s, 0, none⟩)) rfl ?_
 try simp only [nz]
 refine tk 1 (.pointer (some ⟨a.s, 0, none⟩)) rfl ?_
 try simp only [nz]
 refine tk 2 (.pointer (some ⟨a.s, 0, none⟩)) rfl ?_
 try simp only [nz]
 refine tk 3 (.pointer (some ⟨a.v, 0, none⟩)) rfl ?_ (fun W hSw => by (try dsimp only at hSw); (have z := hSw.1.c0; go_simp))
 try simp only [nz]
 refine tk 4 (.int .u32 s.n) rfl ?_
 try simp only [nz]
 refine wpAnyH_take (i := 6) (v := .agg #[.int .i64 kind, .int .i64 mode, .int .i64 1, .int .i64 0]) rfl (by kernel_rfl) (by kernel_rfl) (by kernel_rfl) (fun _ _ _ h => h) (yields_load (by rfl) _ _ rfl _ rfl _ lJ) (by assumption) ?_
 try simp only [nz]
 have cr := irec_any w3.drew s.n
 refine rd 5 rfl (fun K hK => ?_)
 go_simp
 go_wp2_with (go_at_call 86; refine cr.mono ?_; rintro e w8 ⟨rfl, hb8⟩)
 refine hK.out _ _ ⟨hHeld.1.below hb8, hHeld.2.below hb8⟩ (fun hHeld2 => ?_)
 clear hK K cr
 try simp only [nz]
 refine wpAnyH_take (i := 7) (v := .agg (cgC (makC s kind mode))) rfl (by kernel_rfl) (by kernel_rfl) (by kernel_rfl) (fun _ _ _ h => h) (yields_build (by rfl) 119 _ rfl [(0, plV (recP s.n)), (2, .bool true), (4, .agg #[.int .i64 kind, .int .i64 mode, .int .i64 1, .int .i64 0])] (by kernel_rfl) _ (bt_freshP (recP s.n) kind mode 1 0)) (by assumption) ?_
 try simp only [nz]
 have cp := (HX1.out.below hb8).put (makC s kind mode) HCG.out HL.out.1 HL.out.2
 refine rd 8 rfl (fun K hK => ?_)
 go_simp
 go_wp2_with (go_at_call 85; refine cp.mono ?_; rintro e w9 ⟨rfl, ho9⟩)
 have HO9 : Hid (SgOut B w a X (makS s kind mode) w9) := SgOut.pre HB2.out (SgOut.then HX2.out HX3.out (SgOut.pre (w1 := w8) ((Below.refl _ w3).drew.trans (hb8.mono (Nat.le_refl _))) ho9))
 refine hK.out _ _ ⟨ho9.srow, hHeld2.2.sole ho9.sole HNX.out⟩ (fun hHeld3 => ?_)
 clear hK K cp
 try simp only [nz]
 refine tk 9 (.int .i64 (putX s.d (makC s kind mode)).2) rfl ?_
 try simp only [nz]
 refine wpAnyH_done (by kernel_rfl) ?_ _
 refine NoPanic.normal ?_
 clear hHeld hHeld2 hHeld3 ho9 hb8 lJ hS0 HX1 HCG
 generalize putX s.d (makC s kind mode) = PX at *
 generalize makS s kind mode = MS at *
 obtain ⟨pc, pe⟩ := PX
 dsimp only at HE0 ⊢
 by_cases hpe : pe = 0
 case neg =>
  have hpb : (pe != 0) = true := by simpa using hpe
  have HE : Hid (R = (MS, 0, pe)) := by have := HE0.out; rw [if_pos hpe] at this; exact this.symm
  clear HE0
  go_wp2
  go_ret2
  exact ⟨by rw [HE.out]; first | done | rfl, by rw [HE.out]; exact HO9.out⟩
 subst hpe
 have HE : Hid (R = (MS, s.n, 0)) := by have := HE0.out; rw [if_neg (by simp)] at this; exact this.symm
 clear HE0
 go_wp2
 go_ret2
 exact ⟨by rw [HE.out]; first | done | rfl, by rw [HE.out]; exact HO9.out⟩
open Go.RowKit Go.Maps
def lkE (g : Sg × Int) (n : Int) : Sg × Int × Int := if g.2 ≠ 0 then (g.1, 0, g.2) else (g.1, n, 0)
def lkB (s : Sg) (ino l by_ : Int) : Sg × Int × Int :=
 if by_ < -l ∨ 15 - l < by_ then (s, 0, 170) else if l + by_ = 0 then lkE (rmR s ino) 0 else if by_ = 0 then (s, l + by_, 0) else lkE (setR s ino [(2, l + by_)]) (l + by_)
def lkR (s : Sg) (ino by_ : Int) : Sg × Int × Int :=
 if (fdR s ino).2 ≠ 0 then (s, 0, (fdR s ino).2) else if (fdR s ino).1.k = 2 then (s, 0, 193) else lkB { s with R := addK s.R ino [2] } ino (fdR s ino).1.l by_
end Go.Proofs.YtiplhhaehbjghaaGreat
