/- Over a store that may fail: Set (written by tools/laws/InL2_gen.py). -/
import Derived.Test.YtjjhfginmamlkaaGreatInBL
import Derived.Test.YtjjhfginmamlkaaGreatS2
namespace Go.Proofs.YtjjhfginmamlkaaGreat.L
open Go.RowKit Go.Maps
set_option linter.unusedVariables false
set_option linter.unusedSimpArgs false
set_option maxRecDepth 100000

theorem SgIn.srow {B : Nat} {w : World} {a : Sa} {X : List Nat} {s : Sg} (h : SgIn B w a X s) : SRow w a := h.row
theorem SgOut.srow {B : Nat} {w w' : World} {a : Sa} {X : List Nat} {s : Sg} (h : SgOut B w a X s w') : SRow w' a := by
  obtain ⟨X', h1, _⟩ := h
  exact h1.row
theorem _root_.Go.Proofs.YtjjhfginmamlkaaGreat.RdZ.soleX {α : Type} {k : Nat} {enc : α → List Value} {w w' : World} {X : List Nat} {a : Option Addr} {n c : Nat} {l : List α} (h : RdZ k enc w (.slice a n c) l) (hs : Sole X w w') (hb : ∀ b off, a = some ⟨b, off, none⟩ → l ≠ [] → b ∉ X) : RdZ k enc w' (.slice a n c) l := by
  obtain ⟨⟨a', cap, e, h1, h2, h3⟩, h4⟩ := h
  simp only [Value.slice.injEq] at e
  obtain ⟨rfl, rfl, rfl⟩ := e
  refine ⟨⟨_, _, rfl, h1, h2, fun hn => ?_⟩, h4⟩
  obtain ⟨b', off', rfl, hlt, hc⟩ := h3 hn
  refine ⟨_, _, rfl, Nat.lt_of_lt_of_le hlt hs.size, fun i x j u hi hj => ?_⟩
  have := hs.block _ hlt (hb _ _ rfl hn)
  simpa [World.cell?, this] using hc i x j u hi hj
def setF (s : Sg) (ino : Int) (F : In4 × Int) (n : In4 × Int × Bool) (j : In4) : Sg × Int :=
  if F.2 ≠ 0 then (s, F.2)
  else if (n.2.2 && inoOk n.1.k n.1.m n.1.l n.1.s) = false then (s, 1)
  else if n.2.1 = 0 then (s, 0)
  else if (putX s.d (fieldsC (recP ino) n.2.1 j.k j.m j.l j.s)).2 ≠ 0 then ({ s with d := putS s.d (fieldsC (recP ino) n.2.1 j.k j.m j.l j.s) }, (putX s.d (fieldsC (recP ino) n.2.1 j.k j.m j.l j.s)).2)
  else ({ s with d := putS s.d (fieldsC (recP ino) n.2.1 j.k j.m j.l j.s), U := addK s.U ino (kindsL n.2.1) }, 0)
def setR (s : Sg) (ino : Int) (fs : List (Int × Int)) : Sg × Int := setF (fdS s ino) ino (fdR s ino) (wfR (fdR s ino).1 fs) (wfR in0 fs).1

set_option maxHeartbeats 8000000 in
theorem set_in {B : Nat} {w : World} {a : Sa} {X : List Nat} {s : Sg} (h : SgIn B w a X s) (ino : Int) (h0 : 0 ≤ ino) (h1 : ino ≤ 4294967295) (fa : Option Addr) (fn fc : Nat) (fs : List (Int × Int)) (hr : RdZ 2 fiE w (.slice fa fn fc) fs) (hrx : ∀ b off, fa = some ⟨b, off, none⟩ → fs ≠ [] → b ∉ X) (hn : fn ≤ 1000) (hf : fiOk fs)
    (hL : s.d.L.length ≤ 5000) (hP : s.d.pus.length ≤ 5000) (hU : s.U.length ≤ 18000) : Calls Tryz.prog 71 #[.pointer (some ⟨a.s, 0, none⟩), .int .u32 ino, .slice fa fn fc] w fun e w' =>
    e = .returned (.int .i64 (setR s ino fs).2) ∧ SgOut B w a X (setR s ino fs).1 w' := by
  have cf := find_in h ino h0 h1
  obtain ⟨e1, e2, e3, _⟩ := fdS_same s ino
  rw [← e1] at hL hP
  rw [← e3] at hU
  have hwf : ∀ (W : World) (i : In4), RdZ 2 fiE W (.slice fa fn fc) fs → Calls Tryz.prog 95 #[inV i, .slice fa fn fc] W fun e w' => e = .returned (.tuple #[inV (wfR i fs).1, .int .i64 (wfR i fs).2.1, .bool (wfR i fs).2.2]) ∧ Below W.heap.size W w' := fun W i hW => wf_any W i fa fn fc fs (hW) hn
  obtain ⟨hjo, hj0, hj7⟩ := wfR_ok hf in0_ok
  have hsums : ∀ i, (wfR i fs).2.2 = true → (wfR i fs).2.1 = (wfR in0 fs).2.1 := by
    intro i hi
    have e := wf_sum (fs := fs) (a := some (i, 0)) (b := some (in0, 0)) rfl
    unfold wfR wfL at *
    cases h1 : fs.foldl wf1 (some (i, 0)) with
    | none => rw [h1] at hi; cases hi
    | some p =>
      cases h2 : fs.foldl wf1 (some (in0, 0)) with
      | none => rw [h1, h2] at e; cases e
      | some q => rw [h1, h2] at e; simp only [Option.map_some, Option.some.injEq] at e; exact e
  have cw := fun W hW => hwf W (fdR s ino).1 hW
  have cz := fun W hW => hwf W in0 hW
  have hsum := hsums (fdR s ino).1
  have HF : Hid (setF (fdS s ino) ino (fdR s ino) (wfR (fdR s ino).1 fs) (wfR in0 fs).1 = setR s ino fs) := rfl
  clear hwf hsums
  generalize setR s ino fs = R at *
  generalize wfR in0 fs = J at *
  generalize wfR (fdR s ino).1 fs = N at *
  generalize fdR s ino = F at *
  generalize fdS s ino = S1 at *
  obtain ⟨⟨jk, jm, jl, jz⟩, jsum, jmay⟩ := J
  obtain ⟨⟨nk, nm, nl, nz⟩, sum, may⟩ := N
  obtain ⟨⟨fk, fm, fl, fz⟩, fe⟩ := F
  unfold inV at cf cw cz
  dsimp only [in0] at cf cw cz HF hjo hj0 hj7 hsum
  have HJ : Hid (InoOk jk jm jl jz) := hjo
  have HSUM : Hid (may = true → sum = jsum) := hsum
  have HJ7 : Hid (0 ≤ jsum ∧ jsum ≤ 7) := ⟨hj0, hj7⟩
  have HH : Hid (SgIn B w a X s) := h
  have HRF : Hid (RdZ 2 fiE w (.slice fa fn fc) fs ∧ ∀ b off, fa = some ⟨b, off, none⟩ → fs ≠ [] → b ∉ X) := ⟨hr, hrx⟩
  have HX : Hid (∀ k ∈ X, k < w.heap.size) := h.lt
  have HL : Hid (S1.d.L.length ≤ 5000 ∧ S1.d.pus.length ≤ 5000 ∧ S1.U.length ≤ 18000) := ⟨hL, hP, hU⟩
  have hz : ∀ W : World, (zeroValue 89).run Tryz.prog W = .ok (.agg #[.int .i64 0, .int .i64 0, .int .i64 0, .int .i64 0]) W := fun W => by kernel_rfl
  clear h hr hjo hj0 hj7 hsum hL hP hU hz
  go_enter Tryz.func71, Tryz.ntmps71
  go_wp2_with fail
  refine cf.mono ?_
  rintro e w1 ⟨rfl, ho1⟩
  clear cf
  obtain ⟨Xz, hz1, hz2, hz3⟩ := ho1
  have HZ2 : Hid (Sole X w w1) := hz2
  have HZ3 : Hid (∀ k ∈ Xz, k ∈ X ∨ w.heap.size ≤ k) := hz3
  have HHz : Hid (SgIn B w1 a Xz S1) := hz1
  have HRZ : Hid (RdZ 2 fiE w1 (.slice fa fn fc) fs) := HRF.out.1.soleX hz2 HRF.out.2
  have HXz : Hid (∀ k ∈ Xz, k < w1.heap.size) := hz1.lt
  have hb1 := Below.refl w1.heap.size w1
  clear hz1 hz2 hz3
  have hb2 := bel1 w1 (.cells #[.int .i64 fk, .int .i64 fm, .int .i64 fl, .int .i64 fz] 89)
  have hi2 : InRow (w1.alloc (.cells #[.int .i64 fk, .int .i64 fm, .int .i64 fl, .int .i64 fz] 89)) w1.heap.size fk fm fl fz := ⟨heap_alloc_new w1 _⟩
  obtain ⟨w2, hw2⟩ : ∃ w2, w1.alloc (.cells #[.int .i64 fk, .int .i64 fm, .int .i64 fl, .int .i64 fz] 89) = w2 := ⟨_, rfl⟩
  rw [hw2] at hb2 hi2
  have hB2 := thenB hb1 hb2
  have HB2 : Hid (Below w1.heap.size w1 w2) := hB2
  by_cases he : fe = 0
  case neg =>
    have heb : (fe != 0) = true := by simpa using he
    have HE : Hid (R = (S1, fe)) := by unfold Hid; rw [← HF.out]; unfold setF; rw [if_pos he]
    clear HF cw cz hi2
    go_wp2
    go_ret
    exact ⟨by rw [HE.out]; first | done | rfl, by rw [HE.out]; exact SgOut.then HZ2.out HZ3.out (HHz.out.out HB2.out)⟩
  subst he
  have cw2 := cw w2 (HRZ.out.below hB2)
  have l2 : Hid _ := hi2.load
  clear cw hi2
  go_wp2_with (refine wpList_loadG rfl 89 _ rfl _ rfl _ l2.out ?_)
  refine cw2.mono ?_
  rintro e w3 ⟨rfl, hb3⟩
  clear cw2 l2
  have hb4 := bel1 w3 (.cells #[.int .i64 nk, .int .i64 nm, .int .i64 nl, .int .i64 nz] 89)
  have hi4 : InRow (w3.alloc (.cells #[.int .i64 nk, .int .i64 nm, .int .i64 nl, .int .i64 nz] 89)) w3.heap.size nk nm nl nz := ⟨heap_alloc_new w3 _⟩
  obtain ⟨w4, hw4⟩ : ∃ w4, w3.alloc (.cells #[.int .i64 nk, .int .i64 nm, .int .i64 nl, .int .i64 nz] 89) = w4 := ⟨_, rfl⟩
  rw [hw4] at hb4 hi4
  have hB4 := thenB hB2 (thenB hb3 hb4)
  have HB4 : Hid (Below w1.heap.size w1 w4) := hB4
  clear hb1 hb2 hB2 HB2 hb3 hb4
  cases may with
  | false =>
    have HE : Hid (R = (S1, 1)) := by unfold Hid; rw [← HF.out]; unfold setF; rfl
    clear HF cz hi4
    go_wp2
    go_ret
    exact ⟨by rw [HE.out]; first | done | rfl, by rw [HE.out]; exact SgOut.then HZ2.out HZ3.out (HHz.out.out HB4.out)⟩
  | true =>
  have hss := HSUM.out rfl
  subst hss
  have cc := checkInode_any w4 nk nm nl nz
  have l4 : Hid _ := hi4.load
  clear hi4
  go_wp2_with (refine wpList_loadG rfl 89 _ rfl _ rfl _ l4.out ?_)
  refine cc.mono ?_
  rintro e w5 ⟨rfl, hb5⟩
  clear cc l4
  have hB5 := thenB hB4 hb5
  have HB5 : Hid (Below w1.heap.size w1 w5) := hB5
  cases hok : inoOk nk nm nl nz with
  | false =>
    have HE : Hid (R = (S1, 1)) := by unfold Hid; rw [← HF.out]; unfold setF; dsimp only; rw [if_neg (by simp), hok]; rfl
    rw [inoE_11 hok]
    clear HF cz
    go_wp2
    go_ret
    exact ⟨by rw [HE.out]; first | done | rfl, by rw [HE.out]; exact SgOut.then HZ2.out HZ3.out (HHz.out.out HB5.out)⟩
  | true =>
  rw [inoE_0 hok]
  by_cases h00 : sum = 0
  · subst h00
    have HE : Hid (R = (S1, 0)) := by unfold Hid; rw [← HF.out]; unfold setF; dsimp only; rw [if_neg (by simp), hok]; rfl
    clear HF cz
    go_wp2
    go_ret
    exact ⟨by rw [HE.out]; first | done | rfl, by rw [HE.out]; exact SgOut.then HZ2.out HZ3.out (HHz.out.out HB5.out)⟩
  have hsb : (sum == 0) = false := by simpa using h00
  have HE0 : Hid ((if (putX S1.d (fieldsC (recP ino) sum jk jm jl jz)).2 ≠ 0 then ({ S1 with d := putS S1.d (fieldsC (recP ino) sum jk jm jl jz) }, (putX S1.d (fieldsC (recP ino) sum jk jm jl jz)).2) else ({ S1 with d := putS S1.d (fieldsC (recP ino) sum jk jm jl jz), U := addK S1.U ino (kindsL sum) }, 0)) = R) := by
    have := HF.out; unfold setF at this; dsimp only at this; rw [if_neg (by simp), hok, if_neg (by simp), if_neg h00] at this; exact this
  have hcg : CgOk (fieldsC (recP ino) sum jk jm jl jz) := fields_ok (j := ⟨jk, jm, jl, jz⟩) h0 h1 HJ7.out HJ.out
  have HCG : Hid (CgOk (fieldsC (recP ino) sum jk jm jl jz)) := hcg
  have cz5 := cz w5 (HRZ.out.below hB5)
  clear HF cz hcg HSUM hok h00 hB4 HB4
  go_wp2_with fail
  refine cz5.mono ?_
  rintro e w6 ⟨rfl, hb6⟩
  clear cz5
  have hb7 := bel1 w6 (.cells #[.int .i64 jk, .int .i64 jm, .int .i64 jl, .int .i64 jz] 89)
  have hi7 : InRow (w6.alloc (.cells #[.int .i64 jk, .int .i64 jm, .int .i64 jl, .int .i64 jz] 89)) w6.heap.size jk jm jl jz := ⟨heap_alloc_new w6 _⟩
  obtain ⟨w7, hw7⟩ : ∃ w7, w6.alloc (.cells #[.int .i64 jk, .int .i64 jm, .int .i64 jl, .int .i64 jz] 89) = w7 := ⟨_, rfl⟩
  rw [hw7] at hb7 hi7
  have hB7 := thenB hB5 (thenB hb6 hb7)
  have HB7 : Hid (Below w1.heap.size w1 w7) := hB7
  have HG : Hid (w1.heap.size ≤ w6.heap.size) := (thenB hB5 hb6).size
  have hs7 := (HHz.out.below hB7)
  have HS7 : Hid (SgIn B w7.drew a Xz S1) := hs7.drew
  have hS0 : SRow w7.drew a ∧ InRow w7.drew w6.heap.size jk jm jl jz := ⟨HS7.out.row, ⟨hi7.row⟩⟩
  have lJ : ∀ W, (SRow W a ∧ InRow W w6.heap.size jk jm jl jz) → (Instr.loadAt 89 (.pointer (some ⟨w6.heap.size, 0, none⟩))).run Tryz.prog W = .ok (.agg #[.int .i64 jk, .int .i64 jm, .int .i64 jl, .int .i64 jz]) W := fun W h => h.2.load
  clear hb6 hb7 hB5 HB5 hi7 hs7 hB7
  go_wp2_with fail
  refine wp_region_noPanic ?_
  refine wp_region_held_drew (S := fun W => SRow W a ∧ InRow W w6.heap.size jk jm jl jz) (by kernel_rfl) hS0 (fun hHeld => ?_)
  refine wpAnyH_take (i := 0) (v := .pointer (some ⟨a.s, 0, none⟩)) rfl (by kernel_rfl) (by kernel_rfl) (by kernel_rfl) (fun _ _ _ h => h) (Or.inl ⟨by rfl, fun W hSw => by (try dsimp only at hSw); go_simp⟩) (by assumption) ?_
  try simp only [List.getElem_toArray, List.getElem_cons_zero, List.getElem_cons_succ, Act.put, List.setIfInBounds_toArray, List.set_cons_zero, List.set_cons_succ]
  refine wpAnyH_take (i := 1) (v := .pointer (some ⟨a.s, 0, none⟩)) rfl (by kernel_rfl) (by kernel_rfl) (by kernel_rfl) (fun _ _ _ h => h) (Or.inl ⟨by rfl, fun W hSw => by (try dsimp only at hSw); go_simp⟩) (by assumption) ?_
  try simp only [List.getElem_toArray, List.getElem_cons_zero, List.getElem_cons_succ, Act.put, List.setIfInBounds_toArray, List.set_cons_zero, List.set_cons_succ]
  refine wpAnyH_take (i := 2) (v := .pointer (some ⟨a.s, 0, none⟩)) rfl (by kernel_rfl) (by kernel_rfl) (by kernel_rfl) (fun _ _ _ h => h) (Or.inl ⟨by rfl, fun W hSw => by (try dsimp only at hSw); go_simp⟩) (by assumption) ?_
  try simp only [List.getElem_toArray, List.getElem_cons_zero, List.getElem_cons_succ, Act.put, List.setIfInBounds_toArray, List.set_cons_zero, List.set_cons_succ]
  refine wpAnyH_take (i := 3) (v := .pointer (some ⟨a.v, 0, none⟩)) rfl (by kernel_rfl) (by kernel_rfl) (by kernel_rfl) (fun _ _ _ h => h) (Or.inl ⟨by rfl, fun W hSw => by (try dsimp only at hSw); (have z := hSw.1.c0; go_simp)⟩) (by assumption) ?_
  try simp only [List.getElem_toArray, List.getElem_cons_zero, List.getElem_cons_succ, Act.put, List.setIfInBounds_toArray, List.set_cons_zero, List.set_cons_succ]
  refine wpAnyH_take (i := 4) (v := .int .u32 ino) rfl (by kernel_rfl) (by kernel_rfl) (by kernel_rfl) (fun _ _ _ h => h) (Or.inl ⟨by rfl, fun W hSw => by (try dsimp only at hSw); go_simp⟩) (by assumption) ?_
  try simp only [List.getElem_toArray, List.getElem_cons_zero, List.getElem_cons_succ, Act.put, List.setIfInBounds_toArray, List.set_cons_zero, List.set_cons_succ]
  refine wpAnyH_take (i := 6) (v := .int .i64 sum) rfl (by kernel_rfl) (by kernel_rfl) (by kernel_rfl) (fun _ _ _ h => h) (Or.inl ⟨by rfl, fun W hSw => by (try dsimp only at hSw); go_simp⟩) (by assumption) ?_
  try simp only [List.getElem_toArray, List.getElem_cons_zero, List.getElem_cons_succ, Act.put, List.setIfInBounds_toArray, List.set_cons_zero, List.set_cons_succ]
  refine wpAnyH_take (i := 7) (v := .agg #[.int .i64 jk, .int .i64 jm, .int .i64 jl, .int .i64 jz]) rfl (by kernel_rfl) (by kernel_rfl) (by kernel_rfl) (fun _ _ _ h => h) (yields_load (by rfl) _ _ rfl _ rfl _ lJ) (by assumption) ?_
  try simp only [List.getElem_toArray, List.getElem_cons_zero, List.getElem_cons_succ, Act.put, List.setIfInBounds_toArray, List.set_cons_zero, List.set_cons_succ]
  have cr := irec_any w7.drew ino
  refine wpAnyH_ready (rs := [5]) (by kernel_rfl) (by simp) ?_
  refine AllReadyH.cons rfl (fun K hK => ?_) AllReadyH.nil
  go_simp
  go_wp2_with (go_at_call 36; refine cr.mono ?_; rintro e w8 ⟨rfl, hb8⟩)
  refine hK.out _ _ ⟨hHeld.1.below hb8, hHeld.2.below hb8⟩ (fun hHeld2 => ?_)
  clear hK K cr
  try simp only [List.getElem_toArray, List.getElem_cons_zero, List.getElem_cons_succ, Act.put, List.setIfInBounds_toArray, List.set_cons_zero, List.set_cons_succ]
  refine wpAnyH_take (i := 8) (v := .agg (cgC (fieldsC (recP ino) sum jk jm jl jz))) rfl (by kernel_rfl) (by kernel_rfl) (by kernel_rfl) (fun _ _ _ h => h) (yields_build (by rfl) 94 _ rfl [(0, plV (recP ino)), (3, .int .i64 sum), (4, .agg #[.int .i64 jk, .int .i64 jm, .int .i64 jl, .int .i64 jz])] (by kernel_rfl) _ (bt_fields (recP ino) sum jk jm jl jz)) (by assumption) ?_
  try simp only [List.getElem_toArray, List.getElem_cons_zero, List.getElem_cons_succ, Act.put, List.setIfInBounds_toArray, List.set_cons_zero, List.set_cons_succ]
  have cp := (HS7.out.below hb8).put (fieldsC (recP ino) sum jk jm jl jz) HCG.out HL.out.1 HL.out.2.1
  refine wpAnyH_ready (rs := [9]) (by kernel_rfl) (by simp) ?_
  refine AllReadyH.cons rfl (fun K hK => ?_) AllReadyH.nil
  go_simp
  go_wp2_with (go_at_call 35; refine cp.mono ?_; rintro e w9 ⟨rfl, ho9⟩)
  have HO9 : Hid (SgOut B w1 a Xz { S1 with d := putS S1.d (fieldsC (recP ino) sum jk jm jl jz) } w9) := SgOut.pre (HB7.out.drew.trans (hb8.mono (Nat.le_trans HB7.out.size (Nat.le_refl _)))) ho9
  refine hK.out _ _ ⟨ho9.srow, hHeld2.2.sole ho9.sole (fun e => by have := HXz.out _ e; have := HG.out; omega)⟩ (fun hHeld3 => ?_)
  clear hK K cp
  try simp only [List.getElem_toArray, List.getElem_cons_zero, List.getElem_cons_succ, Act.put, List.setIfInBounds_toArray, List.set_cons_zero, List.set_cons_succ]
  refine wpAnyH_take (i := 10) (v := .int .i64 (putX S1.d (fieldsC (recP ino) sum jk jm jl jz)).2) rfl (by kernel_rfl) (by kernel_rfl) (by kernel_rfl) (fun _ _ _ h => h) (Or.inl ⟨by rfl, fun W hSw => by (try dsimp only at hSw); go_simp⟩) (by assumption) ?_
  try simp only [List.getElem_toArray, List.getElem_cons_zero, List.getElem_cons_succ, Act.put, List.setIfInBounds_toArray, List.set_cons_zero, List.set_cons_succ]
  refine wpAnyH_done (by kernel_rfl) ?_ _
  refine NoPanic.normal ?_
  clear hHeld hHeld2 hHeld3 ho9 hb8 lJ hS0 HS7 HB7 HCG
  generalize putX S1.d (fieldsC (recP ino) sum jk jm jl jz) = PX at *
  generalize putS S1.d (fieldsC (recP ino) sum jk jm jl jz) = PS at *
  obtain ⟨pc, pe⟩ := PX
  dsimp only at HE0 ⊢
  by_cases hpe : pe = 0
  case neg =>
    have hpb : (pe != 0) = true := by simpa using hpe
    have HE : Hid (R = ({ S1 with d := PS }, pe)) := by unfold Hid; rw [← HE0.out, if_pos hpe]
    clear HE0
    go_wp2
    go_ret
    exact ⟨by rw [HE.out]; first | done | rfl, by rw [HE.out]; exact SgOut.then HZ2.out HZ3.out (HO9.out)⟩
  subst hpe
  have HE : Hid (R = ({ S1 with d := PS, U := addK S1.U ino (kindsL sum) }, 0)) := by unfold Hid; rw [← HE0.out, if_neg (by simp)]
  clear HE0
  obtain ⟨X9, hx1, hx2, hx3⟩ := HO9.out
  have HX1 : Hid (SgIn B w9.drew a X9 { S1 with d := PS }) := hx1.drew
  have hS9 : SRow w9.drew a := HX1.out.row
  clear hx1
  go_wp2_with fail
  refine wp_region_noPanic ?_
  refine wp_region_held_drew (S := fun W => SRow W a) (by kernel_rfl) hS9 (fun hHeld => ?_)
  refine wpAnyH_take (i := 0) (v := .pointer (some ⟨a.s, 0, none⟩)) rfl (by kernel_rfl) (by kernel_rfl) (by kernel_rfl) (fun _ _ _ h => h) (Or.inl ⟨by rfl, fun W hSw => by (try dsimp only at hSw); go_simp⟩) (by assumption) ?_
  try simp only [List.getElem_toArray, List.getElem_cons_zero, List.getElem_cons_succ, Act.put, List.setIfInBounds_toArray, List.set_cons_zero, List.set_cons_succ]
  refine wpAnyH_take (i := 1) (v := .pointer (some ⟨a.s, 0, none⟩)) rfl (by kernel_rfl) (by kernel_rfl) (by kernel_rfl) (fun _ _ _ h => h) (Or.inl ⟨by rfl, fun W hSw => by (try dsimp only at hSw); go_simp⟩) (by assumption) ?_
  try simp only [List.getElem_toArray, List.getElem_cons_zero, List.getElem_cons_succ, Act.put, List.setIfInBounds_toArray, List.set_cons_zero, List.set_cons_succ]
  refine wpAnyH_take (i := 2) (v := .pointer (some ⟨a.s, 2, none⟩)) rfl (by kernel_rfl) (by kernel_rfl) (by kernel_rfl) (fun _ _ _ h => h) (Or.inl ⟨by rfl, fun W hSw => by (try dsimp only at hSw); go_simp⟩) (by assumption) ?_
  try simp only [List.getElem_toArray, List.getElem_cons_zero, List.getElem_cons_succ, Act.put, List.setIfInBounds_toArray, List.set_cons_zero, List.set_cons_succ]
  refine wpAnyH_take (i := 3) (v := .pointer (some ⟨a.u, 0, none⟩)) rfl (by kernel_rfl) (by kernel_rfl) (by kernel_rfl) (fun _ _ _ h => h) (Or.inl ⟨by rfl, fun W hSw => by (try dsimp only at hSw); (have z := SRow.c2 hSw; go_simp)⟩) (by assumption) ?_
  try simp only [List.getElem_toArray, List.getElem_cons_zero, List.getElem_cons_succ, Act.put, List.setIfInBounds_toArray, List.set_cons_zero, List.set_cons_succ]
  refine wpAnyH_take (i := 4) (v := .int .u32 ino) rfl (by kernel_rfl) (by kernel_rfl) (by kernel_rfl) (fun _ _ _ h => h) (Or.inl ⟨by rfl, fun W hSw => by (try dsimp only at hSw); go_simp⟩) (by assumption) ?_
  try simp only [List.getElem_toArray, List.getElem_cons_zero, List.getElem_cons_succ, Act.put, List.setIfInBounds_toArray, List.set_cons_zero, List.set_cons_succ]
  refine wpAnyH_take (i := 5) (v := .int .i64 sum) rfl (by kernel_rfl) (by kernel_rfl) (by kernel_rfl) (fun _ _ _ h => h) (Or.inl ⟨by rfl, fun W hSw => by (try dsimp only at hSw); go_simp⟩) (by assumption) ?_
  try simp only [List.getElem_toArray, List.getElem_cons_zero, List.getElem_cons_succ, Act.put, List.setIfInBounds_toArray, List.set_cons_zero, List.set_cons_succ]
  have ck := kindsOf_any w9.drew sum
  refine wpAnyH_ready (rs := [6]) (by kernel_rfl) (by simp) ?_
  refine AllReadyH.cons rfl (fun K hK => ?_) AllReadyH.nil
  go_simp
  go_wp2_with (go_at_call 96; refine ck.mono ?_; rintro e w10 ⟨ka, kc, rfl, hko, hb10⟩)
  refine hK.out _ _ (SRow.below hHeld hb10) (fun hHeld2 => ?_)
  clear hK K ck
  try simp only [List.getElem_toArray, List.getElem_cons_zero, List.getElem_cons_succ, Act.put, List.setIfInBounds_toArray, List.set_cons_zero, List.set_cons_succ]
  have ct := (HX1.out.below hb10).touchU ino h0 h1 _ _ _ _ (rdKs_own hko) (kindsL_ok sum) (Nat.le_trans (kindsL_len sum) (by decide)) HL.out.2.2
  refine wpAnyH_ready (rs := [7]) (by kernel_rfl) (by simp) ?_
  refine AllReadyH.cons rfl (fun K hK => ?_) AllReadyH.nil
  go_simp
  go_wp2_with (go_at_call 44; refine ct.mono ?_; rintro e w11 ⟨rfl, ho11⟩)
  have HO11 : Hid (SgOut B w1 a Xz { S1 with d := PS, U := addK S1.U ino (kindsL sum) } w11) := SgOut.then hx2 hx3 (SgOut.pre (w1 := w10) ((Below.refl _ w9).drew.trans (hb10.mono (Nat.le_refl _))) ho11)
  refine hK.out _ _ ho11.srow (fun hHeld3 => ?_)
  clear hK K ct
  try simp only [List.getElem_toArray, List.getElem_cons_zero, List.getElem_cons_succ, Act.put, List.setIfInBounds_toArray, List.set_cons_zero, List.set_cons_succ]
  refine wpAnyH_done (by kernel_rfl) ?_ _
  refine NoPanic.normal ?_
  clear hHeld hHeld2 hHeld3 ho11 hb10 hko HX1 hS9 hx2 hx3
  go_wp2
  go_ret
  exact ⟨by rw [HE.out]; first | done | rfl, by rw [HE.out]; exact SgOut.then HZ2.out HZ3.out (HO11.out)⟩

end Go.Proofs.YtjjhfginmamlkaaGreat.L
