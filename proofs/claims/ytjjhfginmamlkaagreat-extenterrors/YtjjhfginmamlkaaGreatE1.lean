/- ExL, ExR: in one text. -/
import Derived.Test.YtjjhfginmamlkaaGreatExP
import Derived.Test.YtjjhfginmamlkaaGreatP3
import Derived.Test.YtjjhfginmamlkaaGreatPtOf
import Derived.Test.YtjjhfginmamlkaaGreatT3
import Derived.Deep.CutRange
import Derived.Deep.CutBlock
namespace Go.Proofs.YtjjhfginmamlkaaGreat
open Go.RowKit
set_option linter.unusedVariables false
set_option linter.unusedSimpArgs false
set_option maxRecDepth 4000

open Go.RowKit Go.Maps
set_option maxRecDepth 100000

theorem bt_dataP (p : Pl) {q : Pt} (hq : q.bytes.length = 32) : Tryz.prog.built 94 [(0, plV p), (6, .agg (ptC q))] = some (cgC (dataC p q)) := bt_data p hq
theorem bt_goneP (p : Pl) : Tryz.prog.built 94 [(0, plV p), (1, .bool true)] = some (cgC (goneC p)) := bt_gone p
/-- A part of what reads as xs, with no spare room. -/
theorem Rd.cut3 {w : World} {b off n cap : Nat} {xs : List Int} (h : Rd w (.slice (some ⟨b, off, none⟩) n cap) xs) (i k : Nat) (hk : i + k ≤ n) (hp : 0 < k) : Rd w (.slice (some ⟨b, off + i, none⟩) k k) ((xs.drop i).take k) := by
  have hl := rd_length h
  obtain ⟨a, c, e, h1, h2, h3, h4⟩ := h
  simp only [Value.slice.injEq] at e
  obtain ⟨rfl, e2, rfl⟩ := e
  have hdl : ((xs.drop i).take k).length = k := by simp; omega
  refine ⟨_, _, by rw [hdl], by rw [hdl]; exact Nat.le_refl _, by omega, (by intro e; cases e), fun _ => ?_⟩
  obtain ⟨b', off', e', hlt, hc⟩ := h4 (by intro e; subst e; simp at hl; omega)
  simp only [Option.some.injEq, Addr.mk.injEq] at e'
  obtain ⟨rfl, rfl, _⟩ := e'
  refine ⟨_, _, rfl, hlt, fun j hj => ?_⟩
  rw [hdl] at hj
  have := hc (i + j) (by omega)
  rw [show off + i + j = off + (i + j) from by omega, this]
  simp [hj]
theorem Rd.sole {w w' : World} {b off n cap : Nat} {xs : List Int} {X : List Nat} (h : Rd w (.slice (some ⟨b, off, none⟩) n cap) xs) (hs : Sole X w w') (hb : b ∉ X) : Rd w' (.slice (some ⟨b, off, none⟩) n cap) xs := by
  obtain ⟨a, c, e, h1, h2, h3, h4⟩ := h
  simp only [Value.slice.injEq] at e
  obtain ⟨rfl, rfl, rfl⟩ := e
  refine ⟨_, _, rfl, h1, h2, h3, fun hn => ?_⟩
  obtain ⟨b', off', e', hlt, hc⟩ := h4 hn
  simp only [Option.some.injEq, Addr.mk.injEq] at e'
  obtain ⟨rfl, rfl, _⟩ := e'
  refine ⟨_, _, rfl, Nat.lt_of_lt_of_le hlt hs.size, fun j hj => ?_⟩
  rw [← hc j hj]
  simp [World.cell?, hs.block _ hlt hb]
theorem pc_cells {w : World} {b0 o0 b off n c : Nat} {l : List Pc3} (h : RdZ 3 (pcE b0 o0) w (.slice (some ⟨b, off, none⟩) n c) l) {i : Nat} {p : Pc3} (hx : l[i]? = some p) :
    w.cell? ⟨b, off + i * 3, none⟩ = some (.int .i64 (p.c : Int)) ∧ w.cell? ⟨b, off + i * 3 + 1, none⟩ = some (.int .i64 (p.at_ : Int)) ∧ w.cell? ⟨b, off + i * 3 + 2, none⟩ = some (.slice (some ⟨b0, o0 + p.o, none⟩) p.n p.n) := by
  obtain ⟨⟨a', c', e, h1, h2, h3⟩, _⟩ := h
  simp only [Value.slice.injEq] at e
  obtain ⟨rfl, rfl, rfl⟩ := e
  obtain ⟨b', off', e, hlt, hc⟩ := h3 (by intro e; subst e; simp at hx)
  simp only [Option.some.injEq, Addr.mk.injEq] at e
  obtain ⟨rfl, rfl, _⟩ := e
  exact ⟨hc i p 0 _ hx rfl, hc i p 1 _ hx rfl, hc i p 2 _ hx rfl⟩
/-- A piece in a variable of its own. -/
def PcRow (w : World) (g c at_ b o n : Nat) : Prop := w.heap[g]? = some (.cells #[.int .i64 (c : Int), .int .i64 (at_ : Int), .slice (some ⟨b, o, none⟩) n n] 146 (0, 0))
theorem PcRow.c0 {w : World} {g c at_ b o n : Nat} (h : PcRow w g c at_ b o n) : w.cell? ⟨g, 0, none⟩ = some (.int .i64 (c : Int)) := by rw [cell_of_row _ _ _ _ _ (0, 0) h]; rfl
theorem PcRow.c1 {w : World} {g c at_ b o n : Nat} (h : PcRow w g c at_ b o n) : w.cell? ⟨g, 1, none⟩ = some (.int .i64 (at_ : Int)) := by rw [cell_of_row _ _ _ _ _ (0, 0) h]; rfl
theorem PcRow.c2 {w : World} {g c at_ b o n : Nat} (h : PcRow w g c at_ b o n) : w.cell? ⟨g, 2, none⟩ = some (.slice (some ⟨b, o, none⟩) n n) := by rw [cell_of_row _ _ _ _ _ (0, 0) h]; rfl
theorem PcRow.below {w w' : World} {g c at_ b o n : Nat} (h : PcRow w g c at_ b o n) (hb : Below w.heap.size w w') : PcRow w' g c at_ b o n := (hb.block _ (lt_of_row h)).trans h
theorem PcRow.sole {w w' : World} {g c at_ b o n : Nat} {X : List Nat} (h : PcRow w g c at_ b o n) (hs : Sole X w w') (hn : g ∉ X) : PcRow w' g c at_ b o n := hs.row h hn
theorem PtAt.sole {w w' : World} {g : Nat} {p : Pt} {X : List Nat} (h : PtAt w g p) (hs : Sole X w w') (hn : g ∉ X) : PtAt w' g p := ⟨hs.row h.row hn⟩
/-- A change of a chunk that is put in. -/
theorem dataC_ok {ino : Int} (h0 : 0 ≤ ino) (h1 : ino ≤ 4294967295) {c : Nat} (hc : c ≤ 1000) {q : Pt} (hq : PtOk q) : CgOk (dataC (datP ino (c : Int)) q) := ⟨datP_ok h0 h1 (by omega), by simp [dataC], by simp [dataC], ⟨by simp [dataC], by simp [dataC], by simp [dataC], by simp [dataC], by simp [dataC], by simp [dataC], by simp [dataC], by simp [dataC]⟩, by simp [dataC], by simp [dataC], hq⟩

set_option maxHeartbeats 8000000 in
theorem lay_g {G : Sgt} (g : G.Ok) {B : Nat} {w : World} {a : Sa} {X : List Nat} {s : G.S} {N : Nat} (h : G.In B w a X s) (ino : Int) (h0 : 0 ≤ ino) (h1 : ino ≤ 4294967295) (off : Nat) (data : ByteArray) (hd0 : 0 < data.size) (hd1 : data.size ≤ 64) (ho : off + data.size ≤ 512) (hk : G.Sk s N) (hN : N ≤ 3900) :
    Calls Tryz.prog 38 #[.pointer (some ⟨a.s, 0, none⟩), .int .u32 ino, .int .i64 (off : Int), .string data] w fun e w' =>
    e = .returned (.int .i64 (exPut G s ((pcsL off data.size).map (layC ino (strB data)))).2) ∧ G.Out B w a X (exPut G s ((pcsL off data.size).map (layC ino (strB data)))).1 w' := by
  obtain ⟨dv, w1, hcv, hrd1, hb1⟩ := conv_bytes w data (by omega)
  have hxl := strB_length data
  obtain ⟨b, o0, cap, rfl⟩ := hrd1.opened data.size hxl hd0
  have hn1 := Rd.cap hrd1
  have hn2 : cap ≤ maxLen := by obtain ⟨a', c', e, _, h2, _⟩ := hrd1; simp only [Value.slice.injEq] at e; obtain ⟨_, _, rfl⟩ := e; exact h2
  have hbb : ∃ cs fr, w1.heap[b]? = some (.cells cs 5 fr) := by
    have e := run_bytes_of_string (P := Tryz.prog) w 9 42 5 data Tryz.underlying9 Tryz.underlying42 Tryz.underlying5
    rw [hcv] at e
    simp only [Result.ok.injEq, Value.slice.injEq, Option.some.injEq, Addr.mk.injEq] at e
    obtain ⟨⟨⟨rfl, _⟩, _⟩, rfl⟩ := e
    exact ⟨_, _, heap_alloc_new w.drew _⟩
  have cp := pieces_any w1 b o0 data.size cap hn1 hn2 hd1 off (by omega)
  have HD : Hid (Rd w1 (.slice (some ⟨b, o0, none⟩) data.size cap) (strB data)) := hrd1
  have HBB : Hid (∃ cs fr, w1.heap[b]? = some (.cells cs 5 fr)) := hbb
  have HPC : Hid (∀ p ∈ pcsL off data.size, 0 < p.n ∧ p.at_ + p.n ≤ 32 ∧ p.o + p.n ≤ data.size ∧ 32 * p.c + p.at_ = off + p.o) := fun p hp => pcsL_mem hp
  have HPL : Hid ((pcsL off data.size).length ≤ 64) := pcsL_len3 hd1
  have HXB : Hid (Byt (strB data)) := strB_byt data
  have HH : Hid (G.In B w1 a X s) := g.below h hb1
  have HB1 : Hid (Below w.heap.size w w1) := hb1
  have HK : Hid (G.Sk s N) := hk
  have HDS : Hid (off + data.size ≤ 512) := ho
  obtain ⟨xs, hxs⟩ : ∃ xs, strB data = xs := ⟨_, rfl⟩
  rw [hxs] at HD HXB hxl ⊢
  have HXL : Hid (xs.length = data.size) := hxl
  obtain ⟨P, hP⟩ : ∃ P, pcsL off data.size = P := ⟨_, rfl⟩
  rw [hP] at cp HPC HPL ⊢
  obtain ⟨R, hR⟩ : ∃ R, exPut G s (P.map (layC ino xs)) = R := ⟨_, rfl⟩
  rw [hR]
  have HF : Hid (exPut G s (P.map (layC ino xs)) = R) := hR
  clear h hb1 hbb hrd1 hn1 hn2 hk hd0 hd1 ho hxs hxl hP hR
  go_enter Tryz.func38, Tryz.ntmps38
  go_wp2_with fail
  refine cp.mono ?_
  rintro e w3 ⟨pa, pc, rfl, hpo, hb3⟩
  clear cp hcv
  obtain ⟨n, hn⟩ : ∃ n, P.length = n := ⟨_, rfl⟩
  have HNL : Hid (P.length = n) := hn
  have HN64 : Hid (n ≤ 64) := by unfold Hid; rw [← hn]; exact HPL.out
  have hrd : RdZ 3 (pcE b o0) w3 (.slice pa n pc) P := by rw [← hn]; exact rdZ_own (pc_len b o0) hpo
  rw [hn] at hpo ⊢
  have HS3 : Hid (G.In B w3 a X s) := g.below HH.out hb3
  have HB3 : Hid (Below w.heap.size w w3) := thenB HB1.out hb3
  have HD3 : Hid (Rd w3 (.slice (some ⟨b, o0, none⟩) data.size cap) xs) := HD.out.below hb3
  have HBB3 : Hid (∃ cs fr, w3.heap[b]? = some (.cells cs 5 fr)) := by
    obtain ⟨cs, fr, e⟩ := HBB.out
    exact ⟨cs, fr, (hb3.block _ (lt_of_row e)).trans e⟩
  have HG3 : Hid (∀ g0 off', pa = some ⟨g0, off', none⟩ → 0 < n → ∃ cs, w3.heap[g0]? = some (.cells cs 146 (0, 0))) := by
    intro g0 off' e hpos
    have h := hpo
    unfold OwnL at h
    subst e
    exact own_row h rfl
  have HRD : Hid (RdZ 3 (pcE b o0) w3 (.slice pa n pc) P) := hrd
  clear hpo hb3 hrd hn HD HBB HH
  go_wp2
  go_loopg [19] n (fun kx s19 wr => ∃ (i : Nat) (s' : G.S), s19 = .int .i64 i ∧ i ≤ n ∧ n - i ≤ kx ∧ Hid (G.Out B w3 a X s' wr ∧ RdZ 3 (pcE b o0) wr (.slice pa n pc) P ∧ Rd wr (.slice (some ⟨b, o0, none⟩) data.size cap) xs ∧ exPut G s' ((P.drop i).map (layC ino xs)) = R ∧ G.Sk s' (N + i) ∧
      (∃ cs fr, wr.heap[b]? = some (.cells cs 5 fr)) ∧ (∀ g0 off', pa = some ⟨g0, off', none⟩ → 0 < n → ∃ cs, wr.heap[g0]? = some (.cells cs 146 (0, 0)))))
  case atStart => exact ⟨0, s, rfl, Nat.zero_le _, by omega, g.out HS3.out (Below.refl _ _), HRD.out, HD3.out, HF.out, HK.out, HBB3.out, HG3.out⟩
  case round =>
    obtain ⟨i, s', rfl, hin, hkx, HW⟩ := hrel
    by_cases hlt : i < n
    · obtain ⟨p, hy⟩ : ∃ y, P[i]? = some y := ⟨_, List.getElem?_eq_getElem (by have := HNL.out; omega)⟩
      obtain ⟨hw1, hw2, hw3, hw4, hw5, hw6, hw7⟩ := HW.out
      obtain ⟨pb, poff, rfl⟩ : ∃ pb poff, pa = some ⟨pb, poff, none⟩ := by
        obtain ⟨⟨a', c', e, h1, h2, h3⟩, _⟩ := hw2
        simp only [Value.slice.injEq] at e
        obtain ⟨rfl, _, _⟩ := e
        obtain ⟨b', off', e, _⟩ := h3 (by intro e; subst e; simp at hy)
        exact ⟨b', off', e⟩
      obtain ⟨q0, q1, q2⟩ := pc_cells hw2 hy
      have HPM : Hid (0 < p.n ∧ p.at_ + p.n ≤ 32 ∧ p.o + p.n ≤ data.size ∧ 32 * p.c + p.at_ = off + p.o) := HPC.out p (List.mem_of_getElem? hy)
      have HDR : Hid (exPut G s' (layC ino xs p :: (P.drop (i + 1)).map (layC ino xs)) = R) := by
        have hl : i < P.length := by have := HNL.out; omega
        have e := List.drop_eq_getElem_cons hl
        rw [List.getElem?_eq_getElem hl] at hy
        cases hy
        unfold Hid
        rw [← hw4, e, List.map_cons]
      have HP8 : Hid (PcRow (wr.alloc (.cells #[.int .i64 (p.c : Int), .int .i64 (p.at_ : Int), .slice (some ⟨b, o0 + p.o, none⟩) p.n p.n] 146)) wr.heap.size p.c p.at_ b (o0 + p.o) p.n) := heap_alloc_new wr _
      have HB8 : Hid (Below wr.heap.size wr (wr.alloc (.cells #[.int .i64 (p.c : Int), .int .i64 (p.at_ : Int), .slice (some ⟨b, o0 + p.o, none⟩) p.n p.n] 146))) := bel1 wr _
      obtain ⟨w8, hw8⟩ : ∃ w8, wr.alloc (.cells #[.int .i64 (p.c : Int), .int .i64 (p.at_ : Int), .slice (some ⟨b, o0 + p.o, none⟩) p.n p.n] 146) = w8 := ⟨_, rfl⟩
      rw [hw8] at HP8 HB8
      have c1 := HP8.out.c1
      have c2 := HP8.out.c2
      have hcv : (convert 42 9 (.slice (some ⟨b, o0 + p.o, none⟩) p.n p.n)).run Tryz.prog w8 = .ok (.string (strOfNums ((xs.drop p.o).take p.n))) w8 := by
        refine (Rd.cut3 (hw3.below HB8.out) p.o p.n HPM.out.2.2.1 HPM.out.1).conv
      have hyl : ((xs.drop p.o).take p.n).length = p.n := by have := HXL.out; have := HPM.out; rw [List.length_take, List.length_drop]; omega
      have co := of_any w8 (p.at_ : Int) (strOfNums ((xs.drop p.o).take p.n)) (WalkArith.wf_i64 ⟨by omega, by have := HPM.out; omega⟩) (by rw [strOfNums_size, hyl]; have := HPM.out; unfold maxLen; omega)
      have hofr : ofR (p.at_ : Int) (strOfNums ((xs.drop p.o).take p.n)) = ofP p.at_ ((xs.drop p.o).take p.n) := by
        unfold ofR
        rw [if_neg (by rw [strOfNums_size, hyl]; have := HPM.out; omega), strB_strOf ((HXB.out.drop _).take _)]
        rfl
      rw [hofr] at co
      have HQ : Hid (PtOk (ofP p.at_ ((xs.drop p.o).take p.n))) := ofP_ok ((HXB.out.drop _).take _) (by rw [hyl]; exact HPM.out.2.1)
      have HCE : Hid (layC ino xs p = dataC (datP ino p.c) (ofP p.at_ ((xs.drop p.o).take p.n))) := rfl
      generalize ofE (p.at_ : Int) (strOfNums ((xs.drop p.o).take p.n)) = oe at *
      generalize strOfNums ((xs.drop p.o).take p.n) = ys at *
      generalize ofP p.at_ ((xs.drop p.o).take p.n) = Q at *
      have HW1 : Hid (G.Out B w3 a X s' wr) := hw1
      have HW2 : Hid (RdZ 3 (pcE b o0) wr (.slice (some ⟨pb, poff, none⟩) n pc) P) := hw2
      have HW3 : Hid (Rd wr (.slice (some ⟨b, o0, none⟩) data.size cap) xs) := hw3
      have HW5 : Hid (G.Sk s' (N + i)) := hw5
      have HW6 : Hid (∃ cs fr, wr.heap[b]? = some (.cells cs 5 fr)) := hw6
      have HW7 : Hid (∃ cs, wr.heap[pb]? = some (.cells cs 146 (0, 0))) := hw7 pb poff rfl (by omega)
      have HPO : Hid (∀ (W : World) (c : Nat), c ≤ 1000 → Calls Tryz.prog 69 #[.int .u32 ino, .int .i64 (c : Int)] W fun e w' => e = .returned (plV (datP ino c)) ∧ Below W.heap.size W w') := fun W c hc => placeOf_any W ino c hc
      have hiI : (i : Int) < (n : Int) := by omega
      have hib : (i : Int) + 1 ≤ 1001 := by have := HN64.out; omega
      clear hw1 hw2 hw3 hw4 hw5 hw6 hw7 hy HW hyl hofr
      have HZ : Hid (pt0.bytes.length = 32) := ch_zero.1
      have hz := zeroPt
      go_wp2_with fail
      try rw [hw8]
      refine co.mono ?_
      rintro e w9 ⟨rfl, hb9⟩
      clear co hcv c1 c2 q0 q1 q2 hw8
      have HB9 : Hid (Below wr.heap.size wr w9) := thenB HB8.out hb9
      have HP9 : Hid (PcRow w9 wr.heap.size p.c p.at_ b (o0 + p.o) p.n) := HP8.out.below hb9
      have hp10 := PtAt.laid w9 pt0
      have hb10 := bel1 w9 (.cells (ptC pt0) 92)
      obtain ⟨w10, hw10⟩ : ∃ w10, w9.alloc (.cells (ptC pt0) 92) = w10 := ⟨_, rfl⟩
      rw [hw10] at hp10 hb10
      have HP11 : Hid (PtAt (w10.setRow w9.heap.size (ptC Q)) w9.heap.size Q) := hp10.setRow Q
      have HB11 : Hid (Below w9.heap.size w9 (w10.setRow w9.heap.size (ptC Q))) := below_setRow hb10 (Nat.le_refl _) _
      clear hb9 hb10 HP8 HB8
      go_wp2_with (refine wpList_storeP rfl _ _ rfl w9.heap.size Q pt0 rfl rfl HQ.out.ch.1 HZ.out hp10 ?_)
      clear hp10 hw10
      obtain ⟨w11, hw11⟩ : ∃ w11, w10.setRow w9.heap.size (ptC Q) = w11 := ⟨_, rfl⟩
      rw [hw11] at HP11 HB11 ⊢
      clear hw11 hz
      obtain ⟨X1, hx1, hx2, hx3⟩ := g.post HW1.out (thenB HB9.out HB11.out)
      have HX1 : Hid (G.In B w11.drew a X1 s') := g.drew hx1
      have HX2 : Hid (Sole X w3 w11) := hx2
      have HX3 : Hid (∀ k ∈ X1, k ∈ X ∨ w3.heap.size ≤ k) := hx3
      have HNP : Hid (wr.heap.size ∉ X1) := g.other hx1 (HP9.out.below HB11.out) (by decide) (by decide) (by decide) (by decide) (by decide) (by decide)
      have HNQ : Hid (w9.heap.size ∉ X1) := g.other hx1 HP11.out.row (by decide) (by decide) (by decide) (by decide) (by decide) (by decide)
      have HNB : Hid (b ∉ X1) := by
        obtain ⟨cs, fr, e⟩ := HW6.out
        exact g.other hx1 (((thenB HB9.out HB11.out).block _ (lt_of_row e)).trans e) (by decide) (by decide) (by decide) (by decide) (by decide) (by decide)
      have HNG : Hid (pb ∉ X1) := by
        obtain ⟨cs, e⟩ := HW7.out
        exact g.other hx1 (((thenB HB9.out HB11.out).block _ (lt_of_row e)).trans e) (by decide) (by decide) (by decide) (by decide) (by decide) (by decide)
      have HBr : Hid (Below wr.heap.size wr w11) := thenB HB9.out HB11.out
      have hS0 : SRow w11.drew a ∧ PcRow w11.drew wr.heap.size p.c p.at_ b (o0 + p.o) p.n ∧ PtAt w11.drew w9.heap.size Q := ⟨g.srow HX1.out, (HP9.out.below HB11.out).below (Below.refl _ _).drew, ⟨HP11.out.row⟩⟩
      have lJ : ∀ W, (SRow W a ∧ PcRow W wr.heap.size p.c p.at_ b (o0 + p.o) p.n ∧ PtAt W w9.heap.size Q) → (Instr.loadAt 92 (.pointer (some ⟨w9.heap.size, 0, none⟩))).run Tryz.prog W = .ok (.agg (ptC Q)) W := fun W h => h.2.2.load HQ.out.ch.1
      have HCG : Hid (CgOk (dataC (datP ino p.c) Q)) := dataC_ok h0 h1 (by have := HPM.out; have := HDS.out; omega) HQ.out
      clear hx1 hx2 hx3
      go_wp2_with fail
      refine wp_region_noPanic ?_
      refine wp_region_held_drew (S := fun W => SRow W a ∧ PcRow W wr.heap.size p.c p.at_ b (o0 + p.o) p.n ∧ PtAt W w9.heap.size Q) (by kernel_rfl) hS0 (fun hHeld => ?_)
      refine wpAnyH_take (i := 0) (v := .pointer (some ⟨a.s, 0, none⟩)) rfl (by kernel_rfl) (by kernel_rfl) (by kernel_rfl) (fun _ _ _ h => h) (Or.inl ⟨by rfl, fun W hSw => by (try dsimp only at hSw); go_simp⟩) (by assumption) ?_
      try simp only [List.getElem_toArray, List.getElem_cons_zero, List.getElem_cons_succ, Act.put, List.setIfInBounds_toArray, List.set_cons_zero, List.set_cons_succ]
      refine wpAnyH_take (i := 1) (v := .pointer (some ⟨a.s, 0, none⟩)) rfl (by kernel_rfl) (by kernel_rfl) (by kernel_rfl) (fun _ _ _ h => h) (Or.inl ⟨by rfl, fun W hSw => by (try dsimp only at hSw); go_simp⟩) (by assumption) ?_
      try simp only [List.getElem_toArray, List.getElem_cons_zero, List.getElem_cons_succ, Act.put, List.setIfInBounds_toArray, List.set_cons_zero, List.set_cons_succ]
      refine wpAnyH_take (i := 2) (v := .pointer (some ⟨a.s, 0, none⟩)) rfl (by kernel_rfl) (by kernel_rfl) (by kernel_rfl) (fun _ _ _ h => h) (Or.inl ⟨by rfl, fun W hSw => by (try dsimp only at hSw); go_simp⟩) (by assumption) ?_
      try simp only [List.getElem_toArray, List.getElem_cons_zero, List.getElem_cons_succ, Act.put, List.setIfInBounds_toArray, List.set_cons_zero, List.set_cons_succ]
      refine wpAnyH_take (i := 3) (v := .pointer (some ⟨a.v, 0, none⟩)) rfl (by kernel_rfl) (by kernel_rfl) (by kernel_rfl) (fun _ _ _ h => h) (Or.inl ⟨by rfl, fun W hSw => by (try dsimp only at hSw); (have z := hSw.1.c0; go_simp)⟩) (by assumption) ?_
      try simp only [List.getElem_toArray, List.getElem_cons_zero, List.getElem_cons_succ, Act.put, List.setIfInBounds_toArray, List.set_cons_zero, List.set_cons_succ]
      refine wpAnyH_take (i := 4) (v := .int .u32 ino) rfl (by kernel_rfl) (by kernel_rfl) (by kernel_rfl) (fun _ _ _ h => h) (Or.inl ⟨by rfl, fun W hSw => by (try dsimp only at hSw); go_simp⟩) (by assumption) ?_
      try simp only [List.getElem_toArray, List.getElem_cons_zero, List.getElem_cons_succ, Act.put, List.setIfInBounds_toArray, List.set_cons_zero, List.set_cons_succ]
      refine wpAnyH_take (i := 5) (v := .pointer (some ⟨wr.heap.size, 0, none⟩)) rfl (by kernel_rfl) (by kernel_rfl) (by kernel_rfl) (fun _ _ _ h => h) (Or.inl ⟨by rfl, fun W hSw => by (try dsimp only at hSw); go_simp⟩) (by assumption) ?_
      try simp only [List.getElem_toArray, List.getElem_cons_zero, List.getElem_cons_succ, Act.put, List.setIfInBounds_toArray, List.set_cons_zero, List.set_cons_succ]
      refine wpAnyH_take (i := 6) (v := .int .i64 (p.c : Int)) rfl (by kernel_rfl) (by kernel_rfl) (by kernel_rfl) (fun _ _ _ h => h) (Or.inl ⟨by rfl, fun W hSw => by (try dsimp only at hSw); (have z := hSw.2.1.c0; go_simp)⟩) (by assumption) ?_
      try simp only [List.getElem_toArray, List.getElem_cons_zero, List.getElem_cons_succ, Act.put, List.setIfInBounds_toArray, List.set_cons_zero, List.set_cons_succ]
      refine wpAnyH_take (i := 8) (v := .agg (ptC Q)) rfl (by kernel_rfl) (by kernel_rfl) (by kernel_rfl) (fun _ _ _ h => h) (yields_load (by rfl) _ _ rfl _ rfl _ lJ) (by assumption) ?_
      try simp only [List.getElem_toArray, List.getElem_cons_zero, List.getElem_cons_succ, Act.put, List.setIfInBounds_toArray, List.set_cons_zero, List.set_cons_succ]
      have cr := HPO.out w11.drew p.c (by have := HPM.out; have := HDS.out; omega)
      refine wpAnyH_ready (rs := [7]) (by kernel_rfl) (by simp) ?_
      refine AllReadyH.cons rfl (fun K hK => ?_) AllReadyH.nil
      go_simp
      go_wp2_with (go_at_call 69; refine cr.mono ?_; rintro e w12 ⟨rfl, hb12⟩)
      refine hK.out _ _ ⟨hHeld.1.below hb12, hHeld.2.1.below hb12, hHeld.2.2.below hb12⟩ (fun hHeld2 => ?_)
      clear hK K cr
      try simp only [List.getElem_toArray, List.getElem_cons_zero, List.getElem_cons_succ, Act.put, List.setIfInBounds_toArray, List.set_cons_zero, List.set_cons_succ]
      refine wpAnyH_take (i := 9) (v := .agg (cgC (dataC (datP ino p.c) Q))) rfl (by kernel_rfl) (by kernel_rfl) (by kernel_rfl) (fun _ _ _ h => h) (yields_build (by rfl) 94 _ rfl [(0, plV (datP ino p.c)), (6, .agg (ptC Q))] (by kernel_rfl) _ (bt_dataP (datP ino p.c) HQ.out.ch.1)) (by assumption) ?_
      try simp only [List.getElem_toArray, List.getElem_cons_zero, List.getElem_cons_succ, Act.put, List.setIfInBounds_toArray, List.set_cons_zero, List.set_cons_succ]
      have cp := g.puts (g.below HX1.out hb12) (dataC (datP ino p.c) Q) HCG.out HW5.out (by have := HN64.out; omega)
      refine wpAnyH_ready (rs := [10]) (by kernel_rfl) (by simp) ?_
      refine AllReadyH.cons rfl (fun K hK => ?_) AllReadyH.nil
      go_simp
      go_wp2_with (go_at_call 35; refine cp.mono ?_; rintro e w13 ⟨rfl, ho13⟩)
      have HO13 : Hid (G.Out B w11 a X1 (G.putS s' (dataC (datP ino p.c) Q)) w13) := Sgt.Out.pre (w1 := w12) ((Below.refl _ w11).drew.trans (hb12.mono (Nat.le_refl _))) ho13
      refine hK.out _ _ ⟨by obtain ⟨X2, k1, _⟩ := ho13; exact g.srow k1, hHeld2.2.1.sole ho13.sole HNP.out, hHeld2.2.2.sole ho13.sole HNQ.out⟩ (fun hHeld3 => ?_)
      clear hK K cp
      try simp only [List.getElem_toArray, List.getElem_cons_zero, List.getElem_cons_succ, Act.put, List.setIfInBounds_toArray, List.set_cons_zero, List.set_cons_succ]
      refine wpAnyH_take (i := 11) (v := .int .i64 (G.putE s' (dataC (datP ino p.c) Q))) rfl (by kernel_rfl) (by kernel_rfl) (by kernel_rfl) (fun _ _ _ h => h) (Or.inl ⟨by rfl, fun W hSw => by (try dsimp only at hSw); go_simp⟩) (by assumption) ?_
      try simp only [List.getElem_toArray, List.getElem_cons_zero, List.getElem_cons_succ, Act.put, List.setIfInBounds_toArray, List.set_cons_zero, List.set_cons_succ]
      refine wpAnyH_done (by kernel_rfl) ?_ _
      refine NoPanic.normal ?_
      clear hHeld hHeld2 hHeld3 ho13 hb12 lJ hS0 HX1 HCG
      have HR2 : Hid ((if G.putE s' (dataC (datP ino p.c) Q) ≠ 0 then (G.putS s' (dataC (datP ino p.c) Q), G.putE s' (dataC (datP ino p.c) Q)) else exPut G (G.putS s' (dataC (datP ino p.c) Q)) ((P.drop (i + 1)).map (layC ino xs))) = R) := by
        have := HDR.out
        rw [HCE.out] at this
        exact this
      have HSK : Hid (G.Sk (G.putS s' (dataC (datP ino p.c) Q)) (N + i + 1)) := g.skP HW5.out _
      generalize G.putE s' (dataC (datP ino p.c) Q) = PE at *
      generalize G.putS s' (dataC (datP ino p.c) Q) = PS at *
      clear HDR HCE
      have HOW : Hid (G.Out B w3 a X PS w13) := Sgt.Out.then HX2.out HX3.out HO13.out
      by_cases hpe : PE = 0
      case neg =>
        have hpb : (PE != 0) = true := by simpa using hpe
        have HE : Hid (R = (PS, PE)) := by have := HR2.out; rw [if_pos hpe] at this; exact this.symm
        clear HR2
        have HO : Hid (G.Out B w a X PS w13) := Sgt.Out.pre HB3.out HOW.out
        go_wp2
        go_ret
        exact ⟨by rw [HE.out]; first | done | rfl, by rw [HE.out]; exact HO.out⟩
      subst hpe
      have HE : Hid (exPut G PS ((P.drop (i + 1)).map (layC ino xs)) = R) := by have := HR2.out; rw [if_neg (by simp)] at this; exact this
      clear HR2
      go_wp2
      go_roundg (n - (i + 1))
      case measure => omega
      case rel =>
        have hs13 := HO13.out.sole
        refine ⟨i + 1, PS, by rw [show ((i : Int) + 1) = ((i + 1 : Nat) : Int) by omega], by omega, by omega, HOW.out, ?_, ?_, HE.out, by rw [← Nat.add_assoc]; exact HSK.out, ?_, ?_⟩
        · exact (HW2.out.below HBr.out).sole hs13 HNG.out
        · exact (HW3.out.below HBr.out).sole hs13 HNB.out
        · obtain ⟨cs, fr, e⟩ := HW6.out
          exact ⟨cs, fr, hs13.row ((HBr.out.block _ (lt_of_row e)).trans e) HNB.out⟩
        · intro g0 off' e _
          simp only [Option.some.injEq, Addr.mk.injEq] at e
          obtain ⟨rfl, rfl, _⟩ := e
          obtain ⟨cs, e⟩ := HW7.out
          exact ⟨cs, hs13.row ((HBr.out.block _ (lt_of_row e)).trans e) HNG.out⟩
    · obtain rfl : n = i := by omega
      obtain ⟨hw1, _, _, hw4, _⟩ := HW.out
      rw [List.drop_of_length_le (by have := HNL.out; omega)] at hw4
      have HE : Hid (R = (s', 0)) := hw4.symm
      have HO : Hid (G.Out B w a X s' wr) := Sgt.Out.pre HB3.out hw1
      clear hw1 hw4 HW
      go_wp2
      go_ret
      exact ⟨by rw [HE.out]; first | done | rfl, by rw [HE.out]; exact HO.out⟩

set_option maxHeartbeats 8000000 in
theorem wipe_g {G : Sgt} (g : G.Ok) {B : Nat} {w : World} {a : Sa} {X : List Nat} {s : G.S} {N : Nat} (h : G.In B w a X s) (ino : Int) (h0 : 0 ≤ ino) (h1 : ino ≤ 4294967295) (lo hi : Nat) (hlh : lo < hi) (hh5 : hi ≤ 512) (hk : G.Sk s N) (hN : N ≤ 3900) :
    Calls Tryz.prog 41 #[.pointer (some ⟨a.s, 0, none⟩), .int .u32 ino, .int .i64 (lo : Int), .int .i64 (hi : Int)] w fun e w' =>
    e = .returned (.int .i64 (exPut G s (wipeC ino lo hi)).2) ∧ G.Out B w a X (exPut G s (wipeC ino lo hi)).1 w' := by
  obtain ⟨R, hR⟩ : ∃ R, exPut G s (wipeC ino lo hi) = R := ⟨_, rfl⟩
  rw [hR]
  have HF : Hid (exPut G s (wipe0 ino lo ++ wipe1 ino lo hi) = R) := hR
  obtain ⟨q, hq⟩ : ∃ q, lo / 32 = q := ⟨_, rfl⟩
  obtain ⟨r, hrr⟩ : ∃ r, lo % 32 = r := ⟨_, rfl⟩
  obtain ⟨E, hE⟩ : ∃ E, (hi + 31) / 32 = E := ⟨_, rfl⟩
  obtain ⟨c0, hc0⟩ : ∃ c0, (lo + 31) / 32 = c0 := ⟨_, rfl⟩
  have hq' : (lo : Int) / 32 = (q : Int) := by omega
  have hr' : (lo : Int) % 32 = (r : Int) := by omega
  have hl0 : (0 : Int) ≤ (lo : Int) := by omega
  have hl1 : (lo : Int) ≤ 512 := by omega
  have HN : Hid (c0 ≤ E ∧ E ≤ 16 ∧ q ≤ 15 ∧ r ≤ 31 ∧ (hi + 31) / 32 = E ∧ (r = 0 → q = c0) ∧ (0 < r → q + 1 = c0)) := ⟨by omega, by omega, by omega, by omega, hE, by omega, by omega⟩
  have HW1 : Hid (wipe1 ino lo hi = (List.range' c0 (E - c0)).map fun (c : Nat) => goneC (datP ino c)) := by unfold Hid wipe1; rw [hE, hc0]
  have HW0 : Hid (wipe0 ino lo = if 0 < r then [dataC (datP ino (q : Int)) ⟨false, runM r (32 - r), zeroC⟩] else []) := by unfold Hid wipe0; rw [hq, hrr]
  have HH : Hid (G.In B w a X s) := h
  have HK : Hid (G.Sk s N) := hk
  have HNN : Hid (N ≤ 3900) := hN
  have HHI : Hid (hi ≤ 512) := hh5
  have HPO : Hid (∀ (W : World) (c : Nat), c ≤ 1000 → Calls Tryz.prog 69 #[.int .u32 ino, .int .i64 (c : Int)] W fun e w' => e = .returned (plV (datP ino c)) ∧ Below W.heap.size W w') := fun W c hc => placeOf_any W ino c hc
  generalize wipe0 ino lo = A0 at *
  generalize wipe1 ino lo hi = A1 at *
  clear h hk hN hh5 hE hc0 hq hrr hR
  go_enter Tryz.func41, Tryz.ntmps41
  go_upto_if 20 with fail
  rw [hr']
  try simp only [show ((0 : Int) < (r : Int)) = (0 < r) from propext (by omega)]
  obtain ⟨bb, hbb⟩ : ∃ bb, decide (0 < r) = bb := ⟨_, rfl⟩
  rw [hbb]
  have HBB : Hid (bb = decide (0 < r)) := hbb.symm
  clear hbb
  go_cut [9, 11, 12, 13] from 21 to 40 (fun s9 s11 s12 s13 wx => ∃ s1 : G.S, s9 = .int .i64 (c0 : Int) ∧ Hid (G.Out B w a X s1 wx) ∧ Hid (exPut G s1 A1 = R) ∧ Hid (G.Sk s1 (N + 1)))
  case first =>
    by_cases hr0 : r = 0
    · subst hr0
      have HE1 : Hid (exPut G s A1 = R) := by
        have := HF.out
        rw [HW0.out, if_neg (by omega)] at this
        exact this
      have hqc : q = c0 := HN.out.2.2.2.2.2.1 rfl
      subst hqc
      obtain rfl : bb = false := by rw [HBB.out]; rfl
      go_wp2
      go_meet
      case rel => exact ⟨s, rfl, g.out HH.out (Below.refl _ _), HE1.out, g.skm HK.out (by omega)⟩
    · have hrp : 0 < r := by omega
      have hrI : (0 : Int) < (r : Int) := by omega
      obtain rfl : bb = true := by rw [HBB.out]; simpa using hrp
      have hz := zeroPt
      have HZ : Hid (pt0.bytes.length = 32) := ch_zero.1
      have cz := zero_any w (r : Int)
      have hzz : zeroP (r : Int) = ⟨false, runM r (32 - r), zeroC⟩ := by unfold zeroP; have := HN.out; rw [if_neg (by omega)]; rfl
      have HQ : Hid (PtOk ⟨false, runM r (32 - r), zeroC⟩) := by have := zeroP_ok (r : Int); rw [hzz] at this; exact this
      rw [hzz] at cz
      have HE1 : Hid (exPut G s (dataC (datP ino (q : Int)) ⟨false, runM r (32 - r), zeroC⟩ :: A1) = R) := by
        have := HF.out
        rw [HW0.out, if_pos hrp] at this
        exact this
      generalize zeroE (r : Int) = ze at *
      generalize (⟨false, runM r (32 - r), zeroC⟩ : Pt) = Q at *
      clear HF HW0 HW1 hzz
      go_wp2_with fail
      refine cz.mono ?_
      rintro e w9 ⟨rfl, hb9⟩
      clear cz
      have HB9 : Hid (Below w.heap.size w w9) := hb9
      have hp10 := PtAt.laid w9 pt0
      have hb10 := bel1 w9 (.cells (ptC pt0) 92)
      obtain ⟨w10, hw10⟩ : ∃ w10, w9.alloc (.cells (ptC pt0) 92) = w10 := ⟨_, rfl⟩
      rw [hw10] at hp10 hb10
      have HP11 : Hid (PtAt (w10.setRow w9.heap.size (ptC Q)) w9.heap.size Q) := hp10.setRow Q
      have HB11 : Hid (Below w9.heap.size w9 (w10.setRow w9.heap.size (ptC Q))) := below_setRow hb10 (Nat.le_refl _) _
      clear hb9 hb10
      go_wp2_with (refine wpList_storeP rfl _ _ rfl w9.heap.size Q pt0 rfl rfl HQ.out.ch.1 HZ.out hp10 ?_)
      clear hp10 hw10
      obtain ⟨w11, hw11⟩ : ∃ w11, w10.setRow w9.heap.size (ptC Q) = w11 := ⟨_, rfl⟩
      rw [hw11] at HP11 HB11 ⊢
      clear hw11 hz
      have hx1 := g.below HH.out (thenB HB9.out HB11.out)
      have HX1 : Hid (G.In B w11.drew a X s) := g.drew hx1
      have HNQ : Hid (w9.heap.size ∉ X) := g.other hx1 HP11.out.row (by decide) (by decide) (by decide) (by decide) (by decide) (by decide)
      have hS0 : SRow w11.drew a ∧ PtAt w11.drew w9.heap.size Q := ⟨g.srow HX1.out, ⟨HP11.out.row⟩⟩
      have lJ : ∀ W, (SRow W a ∧ PtAt W w9.heap.size Q) → (Instr.loadAt 92 (.pointer (some ⟨w9.heap.size, 0, none⟩))).run Tryz.prog W = .ok (.agg (ptC Q)) W := fun W h => h.2.load HQ.out.ch.1
      have HCG : Hid (CgOk (dataC (datP ino q) Q)) := dataC_ok h0 h1 (by have := HN.out; omega) HQ.out
      clear hx1
      go_wp2_with fail
      refine wp_region_noPanic ?_
      refine wp_region_held_drew (S := fun W => SRow W a ∧ PtAt W w9.heap.size Q) (by kernel_rfl) hS0 (fun hHeld => ?_)
      refine wpAnyH_take (i := 0) (v := .pointer (some ⟨a.s, 0, none⟩)) rfl (by kernel_rfl) (by kernel_rfl) (by kernel_rfl) (fun _ _ _ h => h) (Or.inl ⟨by rfl, fun W hSw => by (try dsimp only at hSw); go_simp⟩) (by assumption) ?_
      try simp only [List.getElem_toArray, List.getElem_cons_zero, List.getElem_cons_succ, Act.put, List.setIfInBounds_toArray, List.set_cons_zero, List.set_cons_succ]
      refine wpAnyH_take (i := 1) (v := .pointer (some ⟨a.s, 0, none⟩)) rfl (by kernel_rfl) (by kernel_rfl) (by kernel_rfl) (fun _ _ _ h => h) (Or.inl ⟨by rfl, fun W hSw => by (try dsimp only at hSw); go_simp⟩) (by assumption) ?_
      try simp only [List.getElem_toArray, List.getElem_cons_zero, List.getElem_cons_succ, Act.put, List.setIfInBounds_toArray, List.set_cons_zero, List.set_cons_succ]
      refine wpAnyH_take (i := 2) (v := .pointer (some ⟨a.s, 0, none⟩)) rfl (by kernel_rfl) (by kernel_rfl) (by kernel_rfl) (fun _ _ _ h => h) (Or.inl ⟨by rfl, fun W hSw => by (try dsimp only at hSw); go_simp⟩) (by assumption) ?_
      try simp only [List.getElem_toArray, List.getElem_cons_zero, List.getElem_cons_succ, Act.put, List.setIfInBounds_toArray, List.set_cons_zero, List.set_cons_succ]
      refine wpAnyH_take (i := 3) (v := .pointer (some ⟨a.v, 0, none⟩)) rfl (by kernel_rfl) (by kernel_rfl) (by kernel_rfl) (fun _ _ _ h => h) (Or.inl ⟨by rfl, fun W hSw => by (try dsimp only at hSw); (have z := hSw.1.c0; go_simp)⟩) (by assumption) ?_
      try simp only [List.getElem_toArray, List.getElem_cons_zero, List.getElem_cons_succ, Act.put, List.setIfInBounds_toArray, List.set_cons_zero, List.set_cons_succ]
      refine wpAnyH_take (i := 4) (v := .int .u32 ino) rfl (by kernel_rfl) (by kernel_rfl) (by kernel_rfl) (fun _ _ _ h => h) (Or.inl ⟨by rfl, fun W hSw => by (try dsimp only at hSw); go_simp⟩) (by assumption) ?_
      try simp only [List.getElem_toArray, List.getElem_cons_zero, List.getElem_cons_succ, Act.put, List.setIfInBounds_toArray, List.set_cons_zero, List.set_cons_succ]
      refine wpAnyH_take (i := 5) (v := .int .i64 (q : Int)) rfl (by kernel_rfl) (by kernel_rfl) (by kernel_rfl) (fun _ _ _ h => h) (Or.inl ⟨by rfl, fun W hSw => by (try dsimp only at hSw); go_simp⟩) (by assumption) ?_
      try simp only [List.getElem_toArray, List.getElem_cons_zero, List.getElem_cons_succ, Act.put, List.setIfInBounds_toArray, List.set_cons_zero, List.set_cons_succ]
      refine wpAnyH_take (i := 7) (v := .agg (ptC Q)) rfl (by kernel_rfl) (by kernel_rfl) (by kernel_rfl) (fun _ _ _ h => h) (yields_load (by rfl) _ _ rfl _ rfl _ lJ) (by assumption) ?_
      try simp only [List.getElem_toArray, List.getElem_cons_zero, List.getElem_cons_succ, Act.put, List.setIfInBounds_toArray, List.set_cons_zero, List.set_cons_succ]
      have cr := HPO.out w11.drew q (by have := HN.out; omega)
      refine wpAnyH_ready (rs := [6]) (by kernel_rfl) (by simp) ?_
      refine AllReadyH.cons rfl (fun K hK => ?_) AllReadyH.nil
      go_simp
      go_wp2_with (go_at_call 69; refine cr.mono ?_; rintro e w12 ⟨rfl, hb12⟩)
      refine hK.out _ _ ⟨hHeld.1.below hb12, hHeld.2.below hb12⟩ (fun hHeld2 => ?_)
      clear hK K cr
      try simp only [List.getElem_toArray, List.getElem_cons_zero, List.getElem_cons_succ, Act.put, List.setIfInBounds_toArray, List.set_cons_zero, List.set_cons_succ]
      refine wpAnyH_take (i := 8) (v := .agg (cgC (dataC (datP ino q) Q))) rfl (by kernel_rfl) (by kernel_rfl) (by kernel_rfl) (fun _ _ _ h => h) (yields_build (by rfl) 94 _ rfl [(0, plV (datP ino q)), (6, .agg (ptC Q))] (by kernel_rfl) _ (bt_dataP (datP ino q) HQ.out.ch.1)) (by assumption) ?_
      try simp only [List.getElem_toArray, List.getElem_cons_zero, List.getElem_cons_succ, Act.put, List.setIfInBounds_toArray, List.set_cons_zero, List.set_cons_succ]
      have cp := g.puts (g.below HX1.out hb12) (dataC (datP ino q) Q) HCG.out HK.out (by have := HNN.out; omega)
      refine wpAnyH_ready (rs := [9]) (by kernel_rfl) (by simp) ?_
      refine AllReadyH.cons rfl (fun K hK => ?_) AllReadyH.nil
      go_simp
      go_wp2_with (go_at_call 35; refine cp.mono ?_; rintro e w13 ⟨rfl, ho13⟩)
      have HO13 : Hid (G.Out B w a X (G.putS s (dataC (datP ino q) Q)) w13) := Sgt.Out.pre (w1 := w12) ((thenB HB9.out HB11.out).drew.trans (hb12.mono (thenB HB9.out HB11.out).drew.size)) ho13
      refine hK.out _ _ ⟨by obtain ⟨X2, k1, _⟩ := ho13; exact g.srow k1, hHeld2.2.sole ho13.sole HNQ.out⟩ (fun hHeld3 => ?_)
      clear hK K cp
      try simp only [List.getElem_toArray, List.getElem_cons_zero, List.getElem_cons_succ, Act.put, List.setIfInBounds_toArray, List.set_cons_zero, List.set_cons_succ]
      refine wpAnyH_take (i := 10) (v := .int .i64 (G.putE s (dataC (datP ino q) Q))) rfl (by kernel_rfl) (by kernel_rfl) (by kernel_rfl) (fun _ _ _ h => h) (Or.inl ⟨by rfl, fun W hSw => by (try dsimp only at hSw); go_simp⟩) (by assumption) ?_
      try simp only [List.getElem_toArray, List.getElem_cons_zero, List.getElem_cons_succ, Act.put, List.setIfInBounds_toArray, List.set_cons_zero, List.set_cons_succ]
      refine wpAnyH_done (by kernel_rfl) ?_ _
      refine NoPanic.normal ?_
      clear hHeld hHeld2 hHeld3 ho13 hb12 lJ hS0 HX1 HCG
      have HR2 : Hid ((if G.putE s (dataC (datP ino q) Q) ≠ 0 then (G.putS s (dataC (datP ino q) Q), G.putE s (dataC (datP ino q) Q)) else exPut G (G.putS s (dataC (datP ino q) Q)) A1) = R) := HE1.out
      have HSK : Hid (G.Sk (G.putS s (dataC (datP ino q) Q)) (N + 1)) := g.skP HK.out _
      generalize G.putE s (dataC (datP ino q) Q) = PE at *
      generalize G.putS s (dataC (datP ino q) Q) = PS at *
      clear HE1
      by_cases hpe : PE = 0
      case neg =>
        have hpb : (PE != 0) = true := by simpa using hpe
        have HE : Hid (R = (PS, PE)) := by have := HR2.out; rw [if_pos hpe] at this; exact this.symm
        clear HR2
        go_wp2
        go_ret
        exact ⟨by rw [HE.out]; first | done | rfl, by rw [HE.out]; exact HO13.out⟩
      subst hpe
      have HE : Hid (exPut G PS A1 = R) := by have := HR2.out; rw [if_neg (by simp)] at this; exact this
      have hqc : q + 1 = c0 := HN.out.2.2.2.2.2.2 hrp
      have hqcI : (q : Int) + 1 = (c0 : Int) := by omega
      have hq1000 : (q : Int) ≤ 1000 := by have := HN.out; omega
      clear HR2
      go_wp2
      go_meet
      case rel => exact ⟨PS, rfl, HO13.out, HE.out, HSK.out⟩
  case rest =>
    obtain ⟨s1, rfl, HO1, HE1, HK1⟩ := hcut
    obtain ⟨w5, rfl⟩ : ∃ w5, w5 = wc := ⟨_, rfl⟩
    clear HF HW0 hq' hr'
    have HA : Hid (exPut G s1 ((List.range' c0 (E - c0)).map fun (c : Nat) => goneC (datP ino c)) = R) := by rw [← HW1.out]; exact HE1.out
    clear HE1 HW1
    go_wp2
    go_loopg [9, 14] (E - c0) (fun kx s9 s14 wr => ∃ (c L : Nat) (s' : G.S), s9 = .int .i64 (c : Int) ∧ c + L = E ∧ L ≤ kx ∧ Hid (G.Out B w a X s' wr ∧ exPut G s' ((List.range' c L).map fun (c : Nat) => goneC (datP ino c)) = R ∧ G.Sk s' (N + 1 + c)))
    case atStart => exact ⟨c0, E - c0, s1, rfl, by have := HN.out; omega, by omega, HO1.out, HA.out, g.skm HK1.out (by omega)⟩
    case round =>
      obtain ⟨c, L, s', rfl, hcL, hkx, HW⟩ := hrel
      have hc16 : c ≤ 16 := by have := HN.out; omega
      by_cases hL : 0 < L
      · obtain ⟨L', rfl⟩ : ∃ L', L = L' + 1 := ⟨L - 1, by omega⟩
        have hltI : (c : Int) * 32 < (hi : Int) := by have := HN.out; omega
        obtain ⟨hw1, hw2, hw3⟩ := HW.out
        have HE2 : Hid ((if G.putE s' (goneC (datP ino c)) ≠ 0 then (G.putS s' (goneC (datP ino c)), G.putE s' (goneC (datP ino c))) else exPut G (G.putS s' (goneC (datP ino c))) ((List.range' (c + 1) L').map fun (c : Nat) => goneC (datP ino c))) = R) := by
          rw [List.range'_succ, List.map_cons] at hw2
          exact hw2
        obtain ⟨X1, hx1, hx2, hx3⟩ := hw1
        have HX1 : Hid (G.In B wr.drew a X1 s') := g.drew hx1
        have HX2 : Hid (Sole X w wr) := hx2
        have HX3 : Hid (∀ k ∈ X1, k ∈ X ∨ w.heap.size ≤ k) := hx3
        have HSK3 : Hid (G.Sk s' (N + 1 + c)) := hw3
        have hS0 : SRow wr.drew a := g.srow HX1.out
        have HCG : Hid (CgOk (goneC (datP ino c))) := gone_ok (datP_ok h0 h1 (by omega))
        have hcI : (c : Int) ≤ 16 := by omega
        clear hw2 hw3 hx1 hx2 hx3 HW
        go_wp2_with fail
        refine wp_region_noPanic ?_
        refine wp_region_held_drew (S := fun W => SRow W a) (by kernel_rfl) hS0 (fun hHeld => ?_)
        refine wpAnyH_take (i := 0) (v := .pointer (some ⟨a.s, 0, none⟩)) rfl (by kernel_rfl) (by kernel_rfl) (by kernel_rfl) (fun _ _ _ h => h) (Or.inl ⟨by rfl, fun W hSw => by (try dsimp only at hSw); go_simp⟩) (by assumption) ?_
        try simp only [List.getElem_toArray, List.getElem_cons_zero, List.getElem_cons_succ, Act.put, List.setIfInBounds_toArray, List.set_cons_zero, List.set_cons_succ]
        refine wpAnyH_take (i := 1) (v := .pointer (some ⟨a.s, 0, none⟩)) rfl (by kernel_rfl) (by kernel_rfl) (by kernel_rfl) (fun _ _ _ h => h) (Or.inl ⟨by rfl, fun W hSw => by (try dsimp only at hSw); go_simp⟩) (by assumption) ?_
        try simp only [List.getElem_toArray, List.getElem_cons_zero, List.getElem_cons_succ, Act.put, List.setIfInBounds_toArray, List.set_cons_zero, List.set_cons_succ]
        refine wpAnyH_take (i := 2) (v := .pointer (some ⟨a.s, 0, none⟩)) rfl (by kernel_rfl) (by kernel_rfl) (by kernel_rfl) (fun _ _ _ h => h) (Or.inl ⟨by rfl, fun W hSw => by (try dsimp only at hSw); go_simp⟩) (by assumption) ?_
        try simp only [List.getElem_toArray, List.getElem_cons_zero, List.getElem_cons_succ, Act.put, List.setIfInBounds_toArray, List.set_cons_zero, List.set_cons_succ]
        refine wpAnyH_take (i := 3) (v := .pointer (some ⟨a.v, 0, none⟩)) rfl (by kernel_rfl) (by kernel_rfl) (by kernel_rfl) (fun _ _ _ h => h) (Or.inl ⟨by rfl, fun W hSw => by (try dsimp only at hSw); (have z := hSw.c0; go_simp)⟩) (by assumption) ?_
        try simp only [List.getElem_toArray, List.getElem_cons_zero, List.getElem_cons_succ, Act.put, List.setIfInBounds_toArray, List.set_cons_zero, List.set_cons_succ]
        refine wpAnyH_take (i := 4) (v := .int .u32 ino) rfl (by kernel_rfl) (by kernel_rfl) (by kernel_rfl) (fun _ _ _ h => h) (Or.inl ⟨by rfl, fun W hSw => by (try dsimp only at hSw); go_simp⟩) (by assumption) ?_
        try simp only [List.getElem_toArray, List.getElem_cons_zero, List.getElem_cons_succ, Act.put, List.setIfInBounds_toArray, List.set_cons_zero, List.set_cons_succ]
        refine wpAnyH_take (i := 5) (v := .int .i64 (c : Int)) rfl (by kernel_rfl) (by kernel_rfl) (by kernel_rfl) (fun _ _ _ h => h) (Or.inl ⟨by rfl, fun W hSw => by (try dsimp only at hSw); go_simp⟩) (by assumption) ?_
        try simp only [List.getElem_toArray, List.getElem_cons_zero, List.getElem_cons_succ, Act.put, List.setIfInBounds_toArray, List.set_cons_zero, List.set_cons_succ]
        have cr := HPO.out wr.drew c (by omega)
        refine wpAnyH_ready (rs := [6]) (by kernel_rfl) (by simp) ?_
        refine AllReadyH.cons rfl (fun K hK => ?_) AllReadyH.nil
        go_simp
        go_wp2_with (go_at_call 69; refine cr.mono ?_; rintro e w12 ⟨rfl, hb12⟩)
        refine hK.out _ _ (hHeld.below hb12) (fun hHeld2 => ?_)
        clear hK K cr
        try simp only [List.getElem_toArray, List.getElem_cons_zero, List.getElem_cons_succ, Act.put, List.setIfInBounds_toArray, List.set_cons_zero, List.set_cons_succ]
        refine wpAnyH_take (i := 7) (v := .agg (cgC (goneC (datP ino c)))) rfl (by kernel_rfl) (by kernel_rfl) (by kernel_rfl) (fun _ _ _ h => h) (yields_build (by rfl) 94 _ rfl [(0, plV (datP ino c)), (1, .bool true)] (by kernel_rfl) _ (bt_goneP (datP ino c))) (by assumption) ?_
        try simp only [List.getElem_toArray, List.getElem_cons_zero, List.getElem_cons_succ, Act.put, List.setIfInBounds_toArray, List.set_cons_zero, List.set_cons_succ]
        have cp := g.puts (g.below HX1.out hb12) (goneC (datP ino c)) HCG.out HSK3.out (by have := HNN.out; omega)
        refine wpAnyH_ready (rs := [8]) (by kernel_rfl) (by simp) ?_
        refine AllReadyH.cons rfl (fun K hK => ?_) AllReadyH.nil
        go_simp
        go_wp2_with (go_at_call 35; refine cp.mono ?_; rintro e w13 ⟨rfl, ho13⟩)
        have HO13 : Hid (G.Out B w a X (G.putS s' (goneC (datP ino c))) w13) := Sgt.Out.then HX2.out HX3.out (Sgt.Out.pre (w1 := w12) ((Below.refl _ wr).drew.trans (hb12.mono (Nat.le_refl _))) ho13)
        refine hK.out _ _ (by obtain ⟨X2, k1, _⟩ := ho13; exact g.srow k1) (fun hHeld3 => ?_)
        clear hK K cp
        try simp only [List.getElem_toArray, List.getElem_cons_zero, List.getElem_cons_succ, Act.put, List.setIfInBounds_toArray, List.set_cons_zero, List.set_cons_succ]
        refine wpAnyH_take (i := 9) (v := .int .i64 (G.putE s' (goneC (datP ino c)))) rfl (by kernel_rfl) (by kernel_rfl) (by kernel_rfl) (fun _ _ _ h => h) (Or.inl ⟨by rfl, fun W hSw => by (try dsimp only at hSw); go_simp⟩) (by assumption) ?_
        try simp only [List.getElem_toArray, List.getElem_cons_zero, List.getElem_cons_succ, Act.put, List.setIfInBounds_toArray, List.set_cons_zero, List.set_cons_succ]
        refine wpAnyH_done (by kernel_rfl) ?_ _
        refine NoPanic.normal ?_
        clear hHeld hHeld2 hHeld3 ho13 hb12 hS0 HX1 HCG
        have HSK : Hid (G.Sk (G.putS s' (goneC (datP ino c))) (N + 1 + c + 1)) := g.skP HSK3.out _
        generalize G.putE s' (goneC (datP ino c)) = PE at *
        generalize G.putS s' (goneC (datP ino c)) = PS at *
        by_cases hpe : PE = 0
        case neg =>
          have hpb : (PE != 0) = true := by simpa using hpe
          have HE : Hid (R = (PS, PE)) := by have := HE2.out; rw [if_pos hpe] at this; exact this.symm
          clear HE2
          go_wp2
          go_ret
          exact ⟨by rw [HE.out]; first | done | rfl, by rw [HE.out]; exact HO13.out⟩
        subst hpe
        have HE : Hid (exPut G PS ((List.range' (c + 1) L').map fun (c : Nat) => goneC (datP ino c)) = R) := by have := HE2.out; rw [if_neg (by simp)] at this; exact this
        clear HE2
        go_wp2
        go_roundg L'
        case measure => omega
        case rel => exact ⟨c + 1, L', PS, by rw [show ((c : Int) + 1) = ((c + 1 : Nat) : Int) by omega], by omega, by omega, HO13.out, HE.out, by rw [← Nat.add_assoc]; exact HSK.out⟩
      · obtain rfl : L = 0 := by omega
        have hltI : ¬ (c : Int) * 32 < (hi : Int) := by have := HN.out; omega
        obtain ⟨hw1, hw2, _⟩ := HW.out
        have HE : Hid (R = (s', 0)) := hw2.symm
        have HO : Hid (G.Out B w a X s' wr) := hw1
        clear hw1 hw2 HW
        go_wp2
        go_ret
        exact ⟨by rw [HE.out]; first | done | rfl, by rw [HE.out]; exact HO.out⟩

open Go.RowKit Go.Maps
set_option maxRecDepth 100000

theorem soleRow {w : World} {k : Nat} {cs : Array Value} : Sole [k] w (w.setRow k cs) := ⟨rfl, rfl, rfl, by simp [World.setRow], fun i hi hn => setRow_other _ _ _ _ (by simpa using hn)⟩
theorem ItAt.sole {T : TypeId} {w w' : World} {g : Nat} {x : It} {X : List Nat} (h : ItAt T w g x) (hs : Sole X w w') (hn : g ∉ X) : ItAt T w' g x := ⟨hs.row h.row hn⟩
theorem it_byte {T : TypeId} {w : World} {g : Nat} {x : It} (h : ItAt T w g x) (hl : x.bytes.length = 32) {i : Nat} (hi : i < 32) : w.cell? ⟨g, 5 + i, none⟩ = some (.int .u8 (x.bytes.getD i 0)) := by
  rw [cell_of_row _ _ _ _ _ (0, 0) h.row]
  unfold itC
  rw [show (5 + i) = i + 5 by omega]
  simp [hi, hl]
/-- 'copy' of bytes of a chunk into a row that is known whole. -/
theorem copy_chunk {T : TypeId} {w : World} {g : Nat} {x : It} (h : ItAt T w g x) (hl : x.bytes.length = 32) (hch : Byt x.bytes) (at_ n : Nat) (hn : at_ + n ≤ 32) (hp : 0 < n) (b o : Nat) (L : List Int) (ho : o + n ≤ L.length) (hb : w.heap[b]? = some (.cells (L.map (Value.int .u8)).toArray 5 (0, 0))) :
    (Builtin.copy_ #[42, 42] 3 #[.slice (some ⟨b, o, none⟩) n n, .slice (some ⟨g, 5 + at_, none⟩) (32 - at_) (32 - at_)]).run Tryz.prog w =
      .ok (goInt n) (w.setRow b ((L.take o ++ (x.bytes.drop at_).take n ++ L.drop (o + n)).map (Value.int .u8)).toArray) := by
  have hcl : (((x.bytes.drop at_).take n).map (Value.int .u8)).length = n := by rw [List.length_map, List.length_take, List.length_drop]; omega
  have hr := run_copy_row Tryz.prog w 42 42 3 5 b o n n ⟨g, 5 + at_, none⟩ (32 - at_) (32 - at_) (L.map (Value.int .u8)).toArray 5 (((x.bytes.drop at_).take n).map (Value.int .u8)) Tryz.underlying42 (by kernel_rfl) hb (by rw [hcl]; exact (Nat.min_eq_right (by omega)).symm)
    (fun j u hj => by
      have hj' : j < n := by
        rcases Nat.lt_or_ge j n with h | h
        · exact h
        · rw [List.getElem?_eq_none (by rw [hcl]; exact h)] at hj; cases hj
      have hadd : (⟨g, 5 + at_, none⟩ : Addr).add j = ⟨g, 5 + (at_ + j), none⟩ := by unfold Addr.add; split <;> simp_all [Nat.add_assoc]
      rw [hadd, it_byte h hl (by omega), ← hj, List.getElem?_map, List.getElem?_take, if_pos hj', List.getElem?_drop, List.getD_eq_getElem?_getD, List.getElem?_eq_getElem (by omega)]
      rfl) (by rw [hcl]; simpa using ho) (ints_oneCell _ _)
  rw [hr, hcl]
  congr 2
  simp
theorem strOfNums_nil : strOfNums ([] : List Int) = ⟨#[]⟩ := by rfl

set_option maxHeartbeats 8000000 in
theorem bytesOf_g {G : Sgt} (g : G.Ok) {B : Nat} {w : World} {a : Sa} {X : List Nat} {s : G.S} {N : Nat} (h : G.In B w a X s) (ino : Int) (h0 : 0 ≤ ino) (h1 : ino ≤ 4294967295) (off n : Nat) (hn0 : 0 < n) (hn1 : n ≤ 64) (ho : off + n ≤ 512) (hk : G.Sk s N) (hN : N ≤ 3900) :
    Calls Tryz.prog 42 #[.pointer (some ⟨a.s, 0, none⟩), .int .u32 ino, .int .i64 (off : Int), .int .i64 (n : Int)] w fun e w' =>
    e = .returned (.tuple #[.string (exOut G (exGet G ino s (pcsL off n))).2.1, .int .i64 (exOut G (exGet G ino s (pcsL off n))).2.2]) ∧ G.Out B w a X (exOut G (exGet G ino s (pcsL off n))).1 w' := by
  have hmk := make_bytes w (n : Int) n rfl (by omega)
  obtain ⟨b, hb⟩ : ∃ b, w.heap.size = b := ⟨_, rfl⟩
  have HBN : Hid (w.heap.size = b) := hb
  have hrow1 := heap_alloc_new w (.cells (List.replicate n (Value.int .u8 0)).toArray 5)
  have hb1 := bel1 w (.cells (List.replicate n (Value.int .u8 0)).toArray 5)
  obtain ⟨w1, hw1⟩ : ∃ w1, w.alloc (.cells (List.replicate n (Value.int .u8 0)).toArray 5) = w1 := ⟨_, rfl⟩
  rw [hw1] at hmk hrow1 hb1
  rw [hb] at hmk hrow1
  have cp := pieces_any w1 b 0 n n (Nat.le_refl _) (by unfold maxLen; omega) hn1 off (by omega)
  have HR1 : Hid (w1.heap[b]? = some (.cells ((List.replicate n (0 : Int)).map (Value.int .u8)).toArray 5 (0, 0))) := by unfold Hid; rw [hrow1, List.map_replicate]
  have HPC : Hid (∀ p ∈ pcsL off n, 0 < p.n ∧ p.at_ + p.n ≤ 32 ∧ p.o + p.n ≤ n ∧ 32 * p.c + p.at_ = off + p.o) := fun p hp => pcsL_mem hp
  have HPL : Hid ((pcsL off n).length ≤ 64) := pcsL_len3 hn1
  have HB1 : Hid (Below w.heap.size w w1) := hb1
  have HH : Hid (G.In B w1 a X s) := g.below h hb1
  have HX0 : Hid (B ≤ w.heap.size ∧ ∀ k ∈ X, k < w.heap.size) := ⟨g.le h, g.lt h⟩
  have HK : Hid (G.Sk s N) := hk
  have HNN : Hid (N ≤ 3900 ∧ off + n ≤ 512 ∧ 0 < n) := ⟨hN, ho, hn0⟩
  have HPF : Hid (pcsL off n = pcsF n 0 off n) := rfl
  obtain ⟨P, hP⟩ : ∃ P, pcsL off n = P := ⟨_, rfl⟩
  rw [hP] at cp HPC HPL HPF ⊢
  obtain ⟨R, hR⟩ : ∃ R, exGet G ino s P = R := ⟨_, rfl⟩
  rw [hR]
  have HF : Hid (exGet G ino s P = R) := hR
  have HPO : Hid (∀ (W : World) (c : Nat), c ≤ 1000 → Calls Tryz.prog 69 #[.int .u32 ino, .int .i64 (c : Int)] W fun e w' => e = .returned (plV (datP ino c)) ∧ Below W.heap.size W w') := fun W c hc => placeOf_any W ino c hc
  clear h hb1 hk hn0 hn1 hN hP hR hrow1 hb hw1 ho
  go_enter Tryz.func42, Tryz.ntmps42
  go_wp2_with fail
  refine cp.mono ?_
  rintro e w3 ⟨pa, pc, rfl, hpo, hb3⟩
  clear cp hmk
  obtain ⟨m, hm⟩ : ∃ m, P.length = m := ⟨_, rfl⟩
  have HNL : Hid (P.length = m) := hm
  have HN64 : Hid (m ≤ 64) := by unfold Hid; rw [← hm]; exact HPL.out
  have hrd : RdZ 3 (pcE b 0) w3 (.slice pa m pc) P := by rw [← hm]; exact rdZ_own (pc_len b 0) hpo
  rw [hm] at hpo ⊢
  have HB3 : Hid (Below w.heap.size w w3) := thenB HB1.out hb3
  have HO3 : Hid (G.Out B w a X s w3) := Sgt.Out.pre HB1.out (g.out HH.out hb3)
  have HR3 : Hid (w3.heap[b]? = some (.cells ((List.replicate n (0 : Int)).map (Value.int .u8)).toArray 5 (0, 0))) := (hb3.block _ (lt_of_row HR1.out)).trans HR1.out
  have HG3 : Hid (∀ g0 off', pa = some ⟨g0, off', none⟩ → 0 < m → ∃ cs, w3.heap[g0]? = some (.cells cs 146 (0, 0))) := by
    intro g0 off' e hpos
    have h := hpo
    unfold OwnL at h
    subst e
    exact own_row h rfl
  have HRD : Hid (RdZ 3 (pcE b 0) w3 (.slice pa m pc) P) := hrd
  clear hpo hb3 hrd hm HR1 HH
  go_wp2
  go_loopg [22] m (fun kx s22 wr => ∃ (i : Nat) (s' : G.S) (ys : List Int), s22 = .int .i64 i ∧ i ≤ m ∧ m - i ≤ kx ∧ Hid (G.Out B w a X s' wr ∧ RdZ 3 (pcE b 0) wr (.slice pa m pc) P ∧ ys.length ≤ n ∧ Byt ys ∧
      wr.heap[b]? = some (.cells ((ys ++ List.replicate (n - ys.length) (0 : Int)).map (Value.int .u8)).toArray 5 (0, 0)) ∧ P.drop i = pcsF n ys.length (off + ys.length) (n - ys.length) ∧
      R = ((exGet G ino s' (P.drop i)).1, ys ++ (exGet G ino s' (P.drop i)).2.1, (exGet G ino s' (P.drop i)).2.2) ∧ G.Sk s' N ∧
      (∀ g0 off', pa = some ⟨g0, off', none⟩ → 0 < m → ∃ cs, wr.heap[g0]? = some (.cells cs 146 (0, 0)))))
  case atStart =>
    refine ⟨0, s, [], rfl, Nat.zero_le _, by omega, HO3.out, HRD.out, Nat.zero_le _, Byt.nil, ?_, ?_, ?_, HK.out, HG3.out⟩
    · simpa using HR3.out
    · simpa using HPF.out
    · rw [List.drop_zero, HF.out]
      obtain ⟨r1, r2, r3⟩ := R
      rfl
  case round =>
    obtain ⟨i, s', ys, rfl, hin, hkx, HW⟩ := hrel
    by_cases hlt : i < m
    · obtain ⟨p, hy⟩ : ∃ y, P[i]? = some y := ⟨_, List.getElem?_eq_getElem (by have := HNL.out; omega)⟩
      obtain ⟨hw1, hw2, hw3, hw4, hw5, hw6, hw7, hw8, hw9⟩ := HW.out
      obtain ⟨pb, poff, rfl⟩ : ∃ pb poff, pa = some ⟨pb, poff, none⟩ := by
        obtain ⟨⟨a', c', e, h1, h2, h3⟩, _⟩ := hw2
        simp only [Value.slice.injEq] at e
        obtain ⟨rfl, _, _⟩ := e
        obtain ⟨b', off', e, _⟩ := h3 (by intro e; subst e; simp at hy)
        exact ⟨b', off', e⟩
      obtain ⟨q0, q1, q2⟩ := pc_cells hw2 hy
      simp only [Nat.zero_add] at q0 q1 q2
      have HPM : Hid (0 < p.n ∧ p.at_ + p.n ≤ 32 ∧ p.o + p.n ≤ n ∧ 32 * p.c + p.at_ = off + p.o) := HPC.out p (List.mem_of_getElem? hy)
      have HDD : Hid (P.drop i = p :: P.drop (i + 1)) := by
        have hl : i < P.length := by have := HNL.out; omega
        have e := List.drop_eq_getElem_cons hl
        rw [List.getElem?_eq_getElem hl] at hy
        cases hy
        exact e
      have HPN : Hid (p.o = ys.length ∧ P.drop (i + 1) = pcsF n (ys.length + p.n) (off + (ys.length + p.n)) (n - (ys.length + p.n))) := by
        have e := hw6
        rw [HDD.out] at e
        by_cases hz : n - ys.length = 0
        · rw [hz] at e
          have : pcsF n ys.length (off + ys.length) 0 = [] := by cases n <;> rfl
          rw [this] at e
          cases e
        · rw [pcsF_next (by omega) (by omega)] at e
          simp only [List.cons.injEq] at e
          obtain ⟨rfl, e⟩ := e
          refine ⟨rfl, ?_⟩
          rw [e]
          dsimp only
          rw [show off + ys.length + pcN (off + ys.length) (n - ys.length) = off + (ys.length + pcN (off + ys.length) (n - ys.length)) by omega, show n - ys.length - pcN (off + ys.length) (n - ys.length) = n - (ys.length + pcN (off + ys.length) (n - ys.length)) by omega]
      have HP8 : Hid (PcRow (wr.alloc (.cells #[.int .i64 (p.c : Int), .int .i64 (p.at_ : Int), .slice (some ⟨b, p.o, none⟩) p.n p.n] 146)) wr.heap.size p.c p.at_ b p.o p.n) := heap_alloc_new wr _
      have HB8 : Hid (Below wr.heap.size wr (wr.alloc (.cells #[.int .i64 (p.c : Int), .int .i64 (p.at_ : Int), .slice (some ⟨b, p.o, none⟩) p.n p.n] 146))) := bel1 wr _
      obtain ⟨w8, hw8'⟩ : ∃ w8, wr.alloc (.cells #[.int .i64 (p.c : Int), .int .i64 (p.at_ : Int), .slice (some ⟨b, p.o, none⟩) p.n p.n] 146) = w8 := ⟨_, rfl⟩
      rw [hw8'] at HP8 HB8
      obtain ⟨X1, hx1, hx2, hx3⟩ := g.post hw1 HB8.out
      have HX1 : Hid (G.In B w8 a X1 s') := hx1
      have HX2 : Hid (Sole X w w8) := hx2
      have HX3 : Hid (∀ k ∈ X1, k ∈ X ∨ w.heap.size ≤ k) := hx3
      have HLX : Hid (∀ k ∈ X1, k < w8.heap.size) := g.lt hx1
      have HNP : Hid (wr.heap.size ∉ X1) := g.other hx1 HP8.out (by decide) (by decide) (by decide) (by decide) (by decide) (by decide)
      have HRB : Hid (w8.heap[b]? = some (.cells ((ys ++ List.replicate (n - ys.length) (0 : Int)).map (Value.int .u8)).toArray 5 (0, 0))) := (HB8.out.block _ (lt_of_row hw5)).trans hw5
      have HNB : Hid (b ∉ X1) := g.other hx1 HRB.out (by decide) (by decide) (by decide) (by decide) (by decide) (by decide)
      have HRG : Hid (∃ cs, w8.heap[pb]? = some (.cells cs 146 (0, 0))) := by
        obtain ⟨cs, e⟩ := hw9 pb poff rfl (by omega)
        exact ⟨cs, (HB8.out.block _ (lt_of_row e)).trans e⟩
      have HNG : Hid (pb ∉ X1) := by
        obtain ⟨cs, e⟩ := HRG.out
        exact g.other hx1 e (by decide) (by decide) (by decide) (by decide) (by decide) (by decide)
      have HW2 : Hid (RdZ 3 (pcE b 0) w8 (.slice (some ⟨pb, poff, none⟩) m pc) P) := hw2.below HB8.out
      have HYL : Hid (ys.length ≤ n ∧ Byt ys) := ⟨hw3, hw4⟩
      have HSK : Hid (G.Sk s' N) := hw8
      have HRE : Hid (R = ((exGet G ino s' (p :: P.drop (i + 1))).1, ys ++ (exGet G ino s' (p :: P.drop (i + 1))).2.1, (exGet G ino s' (p :: P.drop (i + 1))).2.2)) := by rw [← HDD.out]; exact hw7
      have hiI : (i : Int) < (m : Int) := by omega
      have hib : (i : Int) + 1 ≤ 1001 := by have := HN64.out; omega
      have hpl : PlOk (datP ino p.c) := datP_ok h0 h1 (by have := HPM.out; have := HNN.out; omega)
      have HCH : Hid (Ch (G.get s' (datP ino p.c)).1.bytes) := g.getO hx1 _
      have HGE : Hid (R = if (G.get s' (datP ino p.c)).2.2 ≠ 0 then (G.getS s' (datP ino p.c), ys, (G.get s' (datP ino p.c)).2.2) else
          ((exGet G ino (G.getS s' (datP ino p.c)) (P.drop (i + 1))).1, (ys ++ ((G.get s' (datP ino p.c)).1.bytes.drop p.at_).take p.n) ++ (exGet G ino (G.getS s' (datP ino p.c)) (P.drop (i + 1))).2.1, (exGet G ino (G.getS s' (datP ino p.c)) (P.drop (i + 1))).2.2)) := by
        have e := HRE.out
        have e2 : exGet G ino s' (p :: P.drop (i + 1)) = if (G.get s' (datP ino p.c)).2.2 ≠ 0 then (G.getS s' (datP ino p.c), [], (G.get s' (datP ino p.c)).2.2) else
          ((exGet G ino (G.getS s' (datP ino p.c)) (P.drop (i + 1))).1, ((G.get s' (datP ino p.c)).1.bytes.drop p.at_).take p.n ++ (exGet G ino (G.getS s' (datP ino p.c)) (P.drop (i + 1))).2.1, (exGet G ino (G.getS s' (datP ino p.c)) (P.drop (i + 1))).2.2) := rfl
        rw [e2] at e
        unfold Hid
        by_cases he : (G.get s' (datP ino p.c)).2.2 ≠ 0
        · rw [if_pos he] at e ⊢; rw [e]; simp
        · rw [if_neg he] at e ⊢; rw [e]; simp
      have HGS : Hid (G.Sk (G.getS s' (datP ino p.c)) N) := g.skG hw8 _
      have cg : ∀ W, G.In B W a X1 s' → Calls Tryz.prog 73 #[.pointer (some ⟨a.v, 0, none⟩), plV (datP ino p.c)] W fun e w' => e = .returned (.tuple #[.agg (itC (G.get s' (datP ino p.c)).1), .bool (G.get s' (datP ino p.c)).2.1, .int .i64 (G.get s' (datP ino p.c)).2.2]) ∧ G.Out B W a X1 (G.getS s' (datP ino p.c)) w' := fun W hW => g.gets hW _ hpl
      generalize G.getS s' (datP ino p.c) = S2 at *
      generalize G.get s' (datP ino p.c) = V at *
      obtain ⟨x, is, er⟩ := V
      dsimp only at cg HCH HGE
      have hz := zeroItem
      have len0 := ch_zero.1
      clear hw1 hw2 hw3 hw4 hw5 hw6 hw7 hw8 hw9 hy HW hx1 hx2 hx3 hpl HRE HDD
      go_upto_region 5 with fail
      try rw [hw8']
      clear q0 q1 q2 hw8'
      go_cut [13, 14, 15] from 26 to 38 (fun s13 s14 s15 wx => ∃ gi, s13 = .pointer (some ⟨gi, 0, none⟩) ∧ s14 = .bool is ∧ s15 = .int .i64 er ∧ Hid (ItAt 150 wx gi x) ∧ Hid (w8.heap.size ≤ gi) ∧ Hid (G.Out B w8 a X1 S2 wx))
      case first =>
        have hS0 : SRow w8.drew a ∧ PcRow w8.drew wr.heap.size p.c p.at_ b p.o p.n := ⟨g.srow (g.drew HX1.out), HP8.out.below (Below.refl _ _).drew⟩
        go_wp2_with fail
        refine wp_region_noPanic ?_
        refine wp_region_held_drew (S := fun W => SRow W a ∧ PcRow W wr.heap.size p.c p.at_ b p.o p.n) (by kernel_rfl) hS0 (fun hHeld => ?_)
        refine wpAnyH_take (i := 0) (v := .pointer (some ⟨a.s, 0, none⟩)) rfl (by kernel_rfl) (by kernel_rfl) (by kernel_rfl) (fun _ _ _ h => h) (Or.inl ⟨by rfl, fun W hSw => by (try dsimp only at hSw); go_simp⟩) (by assumption) ?_
        try simp only [List.getElem_toArray, List.getElem_cons_zero, List.getElem_cons_succ, Act.put, List.setIfInBounds_toArray, List.set_cons_zero, List.set_cons_succ]
        refine wpAnyH_take (i := 1) (v := .pointer (some ⟨a.s, 0, none⟩)) rfl (by kernel_rfl) (by kernel_rfl) (by kernel_rfl) (fun _ _ _ h => h) (Or.inl ⟨by rfl, fun W hSw => by (try dsimp only at hSw); go_simp⟩) (by assumption) ?_
        try simp only [List.getElem_toArray, List.getElem_cons_zero, List.getElem_cons_succ, Act.put, List.setIfInBounds_toArray, List.set_cons_zero, List.set_cons_succ]
        refine wpAnyH_take (i := 2) (v := .pointer (some ⟨a.s, 0, none⟩)) rfl (by kernel_rfl) (by kernel_rfl) (by kernel_rfl) (fun _ _ _ h => h) (Or.inl ⟨by rfl, fun W hSw => by (try dsimp only at hSw); go_simp⟩) (by assumption) ?_
        try simp only [List.getElem_toArray, List.getElem_cons_zero, List.getElem_cons_succ, Act.put, List.setIfInBounds_toArray, List.set_cons_zero, List.set_cons_succ]
        refine wpAnyH_take (i := 3) (v := .pointer (some ⟨a.v, 0, none⟩)) rfl (by kernel_rfl) (by kernel_rfl) (by kernel_rfl) (fun _ _ _ h => h) (Or.inl ⟨by rfl, fun W hSw => by (try dsimp only at hSw); (have z := hSw.1.c0; go_simp)⟩) (by assumption) ?_
        try simp only [List.getElem_toArray, List.getElem_cons_zero, List.getElem_cons_succ, Act.put, List.setIfInBounds_toArray, List.set_cons_zero, List.set_cons_succ]
        refine wpAnyH_take (i := 4) (v := .int .u32 ino) rfl (by kernel_rfl) (by kernel_rfl) (by kernel_rfl) (fun _ _ _ h => h) (Or.inl ⟨by rfl, fun W hSw => by (try dsimp only at hSw); go_simp⟩) (by assumption) ?_
        try simp only [List.getElem_toArray, List.getElem_cons_zero, List.getElem_cons_succ, Act.put, List.setIfInBounds_toArray, List.set_cons_zero, List.set_cons_succ]
        refine wpAnyH_take (i := 5) (v := .pointer (some ⟨wr.heap.size, 0, none⟩)) rfl (by kernel_rfl) (by kernel_rfl) (by kernel_rfl) (fun _ _ _ h => h) (Or.inl ⟨by rfl, fun W hSw => by (try dsimp only at hSw); go_simp⟩) (by assumption) ?_
        try simp only [List.getElem_toArray, List.getElem_cons_zero, List.getElem_cons_succ, Act.put, List.setIfInBounds_toArray, List.set_cons_zero, List.set_cons_succ]
        refine wpAnyH_take (i := 6) (v := .int .i64 (p.c : Int)) rfl (by kernel_rfl) (by kernel_rfl) (by kernel_rfl) (fun _ _ _ h => h) (Or.inl ⟨by rfl, fun W hSw => by (try dsimp only at hSw); (have z := hSw.2.c0; go_simp)⟩) (by assumption) ?_
        try simp only [List.getElem_toArray, List.getElem_cons_zero, List.getElem_cons_succ, Act.put, List.setIfInBounds_toArray, List.set_cons_zero, List.set_cons_succ]
        have hi0 := g.drew HX1.out
        have hs0 : Below w8.heap.size w8 w8.drew := (Below.refl _ _).drew
        obtain ⟨wA, hwA⟩ : ∃ wA, wA = w8.drew := ⟨_, rfl⟩
        rw [← hwA] at hHeld hi0 hs0 ⊢
        clear hwA hS0
        refine wpAnyH_ready (rs := [7, 13]) (by kernel_rfl) (by simp) ?_
        refine AllReadyH.cons rfl (fun K hK => ?_) (AllReadyH.cons rfl (fun K hK => ?_) AllReadyH.nil)
        · skip
          have cr := HPO.out wA p.c (by have := HPM.out; have := HNN.out; omega)
          go_simp
          go_wp2_with (go_at_call 69; refine cr.mono ?_; rintro e wB ⟨rfl, hbP⟩)
          have hHeldN := And.intro (SRow.below hHeld.1 hbP) (PcRow.below hHeld.2 hbP)
          clear hHeld
          refine hK.out _ _ hHeldN (fun hHeld => ?_)
          clear hK K cr hHeldN
          try simp only [List.getElem_toArray, List.getElem_cons_zero, List.getElem_cons_succ, Act.put, List.setIfInBounds_toArray, List.set_cons_zero, List.set_cons_succ]
          have hi1 := g.below hi0 hbP
          have hs1 := hs0.trans (hbP.mono hs0.size)
          refine wpAnyH_ready (rs := [8, 13]) (by kernel_rfl) (by simp) ?_
          refine AllReadyH.cons rfl (fun K hK => ?_) (AllReadyH.cons rfl (fun K hK => ?_) AllReadyH.nil)
          · skip
            go_simp
            go_wp2_with (go_at_call 73; refine (cg _ hi1).mono ?_; rintro e wG ⟨rfl, hoG⟩)
            have hsG := hoG.sole
            have hHeldN : SRow wG a ∧ PcRow wG wr.heap.size p.c p.at_ b p.o p.n := ⟨by obtain ⟨X2, k1, _⟩ := hoG; exact g.srow k1, hHeld.2.sole hsG HNP.out⟩
            clear hHeld
            refine hK.out _ _ hHeldN (fun hHeld => ?_)
            clear hK K hHeldN
            try simp only [List.getElem_toArray, List.getElem_cons_zero, List.getElem_cons_succ, Act.put, List.setIfInBounds_toArray, List.set_cons_zero, List.set_cons_succ]
            refine wpAnyH_take (i := 9) (v := .tuple #[.agg (itC x), .bool is, .int .i64 er]) rfl (by kernel_rfl) (by kernel_rfl) (by kernel_rfl) (fun _ _ _ h => h) (Or.inl ⟨by rfl, fun W hSw => by (try dsimp only at hSw); go_simp⟩) (by assumption) ?_
            try simp only [List.getElem_toArray, List.getElem_cons_zero, List.getElem_cons_succ, Act.put, List.setIfInBounds_toArray, List.set_cons_zero, List.set_cons_succ]
            refine wpAnyH_take (i := 10) (v := .agg (itC x)) rfl (by kernel_rfl) (by kernel_rfl) (by kernel_rfl) (fun _ _ _ h => h) (Or.inl ⟨by rfl, fun W hSw => by (try dsimp only at hSw); go_simp⟩) (by assumption) ?_
            try simp only [List.getElem_toArray, List.getElem_cons_zero, List.getElem_cons_succ, Act.put, List.setIfInBounds_toArray, List.set_cons_zero, List.set_cons_succ]
            refine wpAnyH_take (i := 11) (v := .bool is) rfl (by kernel_rfl) (by kernel_rfl) (by kernel_rfl) (fun _ _ _ h => h) (Or.inl ⟨by rfl, fun W hSw => by (try dsimp only at hSw); go_simp⟩) (by assumption) ?_
            try simp only [List.getElem_toArray, List.getElem_cons_zero, List.getElem_cons_succ, Act.put, List.setIfInBounds_toArray, List.set_cons_zero, List.set_cons_succ]
            refine wpAnyH_take (i := 12) (v := .int .i64 er) rfl (by kernel_rfl) (by kernel_rfl) (by kernel_rfl) (fun _ _ _ h => h) (Or.inl ⟨by rfl, fun W hSw => by (try dsimp only at hSw); go_simp⟩) (by assumption) ?_
            try simp only [List.getElem_toArray, List.getElem_cons_zero, List.getElem_cons_succ, Act.put, List.setIfInBounds_toArray, List.set_cons_zero, List.set_cons_succ]
            refine wpAnyH_ready (rs := [13]) (by kernel_rfl) (by simp) ?_
            refine AllReadyH.cons rfl (fun K hK => ?_) AllReadyH.nil
            go_simp
            go_wp2
            have hat := ItAt.laid 150 wG it0
            have hba := bel1 wG (.cells (itC it0) 150)
            obtain ⟨GI, hg0⟩ : ∃ G0, wG.heap.size = G0 := ⟨_, rfl⟩
            have hHeldN := And.intro (SRow.below hHeld.1 hba) (PcRow.below hHeld.2 hba)
            clear hHeld
            refine hK.out _ _ hHeldN (fun hHeld => ?_)
            clear hK K
            obtain ⟨wH, hnw⟩ : ∃ wz, wG.alloc (.cells (itC it0) 150) = wz := ⟨_, rfl⟩
            rw [hnw] at hat hba hHeld ⊢
            rw [hg0] at hat ⊢
            try simp only [List.getElem_toArray, List.getElem_cons_zero, List.getElem_cons_succ, Act.put, List.setIfInBounds_toArray, List.set_cons_zero, List.set_cons_succ]
            clear hHeldN hnw
            have hgi : w8.heap.size ≤ GI := by rw [← hg0]; exact Nat.le_trans hs1.size hsG.size
            have hO := g.post (Sgt.Out.pre hs1 hoG) hba
            refine wpAnyH_ready (rs := [14]) (by kernel_rfl) (by simp) ?_
            refine AllReadyH.cons rfl (fun K hK => ?_) AllReadyH.nil
            rw [if_pos (by rfl)]
            refine wp_stI _ _ rfl GI x it0 rfl rfl HCH.out.1 len0 hat ?_
            have HFI : Hid (G.Out B w8 a X1 S2 (wH.setRow GI (itC x))) := g.fin (g.le HX1.out) hO hgi hat.row (by decide) (by decide) (by decide) (by decide) (by decide) (by decide) (by decide) (by decide) soleRow
            have HAI : Hid (ItAt 150 (wH.setRow GI (itC x)) GI x) := hat.setRow x
            have hne : wr.heap.size ≠ GI := by have := lt_of_row HP8.out; omega
            have hne2 : a.s ≠ GI := by intro e; have := lt_of_row (g.srow HX1.out); omega
            refine hK.out _ _ ⟨(setRow_other _ _ _ _ hne2).trans hHeld.1, (setRow_other _ _ _ _ hne).trans hHeld.2⟩ (fun hHeld9 => ?_)
            clear hK K
            try simp only [List.getElem_toArray, List.getElem_cons_zero, List.getElem_cons_succ, Act.put, List.setIfInBounds_toArray, List.set_cons_zero, List.set_cons_succ]
            refine wpAnyH_take (i := 15) (v := .bool is) rfl (by kernel_rfl) (by kernel_rfl) (by kernel_rfl) (fun _ _ _ h => h) (Or.inl ⟨by rfl, fun W hSw => by (try dsimp only at hSw); go_simp⟩) (by assumption) ?_
            try simp only [List.getElem_toArray, List.getElem_cons_zero, List.getElem_cons_succ, Act.put, List.setIfInBounds_toArray, List.set_cons_zero, List.set_cons_succ]
            refine wpAnyH_take (i := 16) (v := .int .i64 er) rfl (by kernel_rfl) (by kernel_rfl) (by kernel_rfl) (fun _ _ _ h => h) (Or.inl ⟨by rfl, fun W hSw => by (try dsimp only at hSw); go_simp⟩) (by assumption) ?_
            try simp only [List.getElem_toArray, List.getElem_cons_zero, List.getElem_cons_succ, Act.put, List.setIfInBounds_toArray, List.set_cons_zero, List.set_cons_succ]
            refine wpAnyH_done (by kernel_rfl) ?_ _
            refine NoPanic.normal ?_
            clear hHeld hHeld9
            go_wp2_with fail
            go_meet
            case rel => exact ⟨GI, rfl, rfl, rfl, HAI, hgi, HFI⟩
          · skip
            go_simp
            go_wp2
            have hat := ItAt.laid 150 wB it0
            have hba := bel1 wB (.cells (itC it0) 150)
            obtain ⟨GI, hg0⟩ : ∃ G0, wB.heap.size = G0 := ⟨_, rfl⟩
            have hHeldN := And.intro (SRow.below hHeld.1 hba) (PcRow.below hHeld.2 hba)
            clear hHeld
            refine hK.out _ _ hHeldN (fun hHeld => ?_)
            clear hK K
            obtain ⟨wH, hnw⟩ : ∃ wz, wB.alloc (.cells (itC it0) 150) = wz := ⟨_, rfl⟩
            rw [hnw] at hat hba hHeld ⊢
            rw [hg0] at hat ⊢
            try simp only [List.getElem_toArray, List.getElem_cons_zero, List.getElem_cons_succ, Act.put, List.setIfInBounds_toArray, List.set_cons_zero, List.set_cons_succ]
            clear hHeldN hnw
            have hgi : w8.heap.size ≤ GI := by rw [← hg0]; exact hs1.size
            have hi2 := g.below hi1 hba
            refine wpAnyH_ready (rs := [8]) (by kernel_rfl) (by simp) ?_
            refine AllReadyH.cons rfl (fun K hK => ?_) AllReadyH.nil
            go_simp
            go_wp2_with (go_at_call 73; refine (cg _ hi2).mono ?_; rintro e wG ⟨rfl, hoG⟩)
            have hsG := hoG.sole
            have hHeldN : SRow wG a ∧ PcRow wG wr.heap.size p.c p.at_ b p.o p.n := ⟨by obtain ⟨X2, k1, _⟩ := hoG; exact g.srow k1, hHeld.2.sole hsG HNP.out⟩
            clear hHeld
            refine hK.out _ _ hHeldN (fun hHeld => ?_)
            clear hK K hHeldN
            try simp only [List.getElem_toArray, List.getElem_cons_zero, List.getElem_cons_succ, Act.put, List.setIfInBounds_toArray, List.set_cons_zero, List.set_cons_succ]
            refine wpAnyH_take (i := 9) (v := .tuple #[.agg (itC x), .bool is, .int .i64 er]) rfl (by kernel_rfl) (by kernel_rfl) (by kernel_rfl) (fun _ _ _ h => h) (Or.inl ⟨by rfl, fun W hSw => by (try dsimp only at hSw); go_simp⟩) (by assumption) ?_
            try simp only [List.getElem_toArray, List.getElem_cons_zero, List.getElem_cons_succ, Act.put, List.setIfInBounds_toArray, List.set_cons_zero, List.set_cons_succ]
            refine wpAnyH_take (i := 10) (v := .agg (itC x)) rfl (by kernel_rfl) (by kernel_rfl) (by kernel_rfl) (fun _ _ _ h => h) (Or.inl ⟨by rfl, fun W hSw => by (try dsimp only at hSw); go_simp⟩) (by assumption) ?_
            try simp only [List.getElem_toArray, List.getElem_cons_zero, List.getElem_cons_succ, Act.put, List.setIfInBounds_toArray, List.set_cons_zero, List.set_cons_succ]
            refine wpAnyH_take (i := 11) (v := .bool is) rfl (by kernel_rfl) (by kernel_rfl) (by kernel_rfl) (fun _ _ _ h => h) (Or.inl ⟨by rfl, fun W hSw => by (try dsimp only at hSw); go_simp⟩) (by assumption) ?_
            try simp only [List.getElem_toArray, List.getElem_cons_zero, List.getElem_cons_succ, Act.put, List.setIfInBounds_toArray, List.set_cons_zero, List.set_cons_succ]
            refine wpAnyH_take (i := 12) (v := .int .i64 er) rfl (by kernel_rfl) (by kernel_rfl) (by kernel_rfl) (fun _ _ _ h => h) (Or.inl ⟨by rfl, fun W hSw => by (try dsimp only at hSw); go_simp⟩) (by assumption) ?_
            try simp only [List.getElem_toArray, List.getElem_cons_zero, List.getElem_cons_succ, Act.put, List.setIfInBounds_toArray, List.set_cons_zero, List.set_cons_succ]
            have hat := hat.sole hsG (fun e => by have := HLX.out _ e; omega)
            have hO := Sgt.Out.pre (hs1.trans (hba.mono hs1.size)) hoG
            refine wpAnyH_ready (rs := [14]) (by kernel_rfl) (by simp) ?_
            refine AllReadyH.cons rfl (fun K hK => ?_) AllReadyH.nil
            rw [if_pos (by rfl)]
            refine wp_stI _ _ rfl GI x it0 rfl rfl HCH.out.1 len0 hat ?_
            have HFI : Hid (G.Out B w8 a X1 S2 (wG.setRow GI (itC x))) := g.fin (g.le HX1.out) hO hgi hat.row (by decide) (by decide) (by decide) (by decide) (by decide) (by decide) (by decide) (by decide) soleRow
            have HAI : Hid (ItAt 150 (wG.setRow GI (itC x)) GI x) := hat.setRow x
            have hne : wr.heap.size ≠ GI := by have := lt_of_row HP8.out; omega
            have hne2 : a.s ≠ GI := by intro e; have := lt_of_row (g.srow HX1.out); omega
            refine hK.out _ _ ⟨(setRow_other _ _ _ _ hne2).trans hHeld.1, (setRow_other _ _ _ _ hne).trans hHeld.2⟩ (fun hHeld9 => ?_)
            clear hK K
            try simp only [List.getElem_toArray, List.getElem_cons_zero, List.getElem_cons_succ, Act.put, List.setIfInBounds_toArray, List.set_cons_zero, List.set_cons_succ]
            refine wpAnyH_take (i := 15) (v := .bool is) rfl (by kernel_rfl) (by kernel_rfl) (by kernel_rfl) (fun _ _ _ h => h) (Or.inl ⟨by rfl, fun W hSw => by (try dsimp only at hSw); go_simp⟩) (by assumption) ?_
            try simp only [List.getElem_toArray, List.getElem_cons_zero, List.getElem_cons_succ, Act.put, List.setIfInBounds_toArray, List.set_cons_zero, List.set_cons_succ]
            refine wpAnyH_take (i := 16) (v := .int .i64 er) rfl (by kernel_rfl) (by kernel_rfl) (by kernel_rfl) (fun _ _ _ h => h) (Or.inl ⟨by rfl, fun W hSw => by (try dsimp only at hSw); go_simp⟩) (by assumption) ?_
            try simp only [List.getElem_toArray, List.getElem_cons_zero, List.getElem_cons_succ, Act.put, List.setIfInBounds_toArray, List.set_cons_zero, List.set_cons_succ]
            refine wpAnyH_done (by kernel_rfl) ?_ _
            refine NoPanic.normal ?_
            clear hHeld hHeld9
            go_wp2_with fail
            go_meet
            case rel => exact ⟨GI, rfl, rfl, rfl, HAI, hgi, HFI⟩
        · skip
          go_simp
          go_wp2
          have hat := ItAt.laid 150 wA it0
          have hba := bel1 wA (.cells (itC it0) 150)
          obtain ⟨GI, hg0⟩ : ∃ G0, wA.heap.size = G0 := ⟨_, rfl⟩
          have hHeldN := And.intro (SRow.below hHeld.1 hba) (PcRow.below hHeld.2 hba)
          clear hHeld
          refine hK.out _ _ hHeldN (fun hHeld => ?_)
          clear hK K
          obtain ⟨wH, hnw⟩ : ∃ wz, wA.alloc (.cells (itC it0) 150) = wz := ⟨_, rfl⟩
          rw [hnw] at hat hba hHeld ⊢
          rw [hg0] at hat ⊢
          try simp only [List.getElem_toArray, List.getElem_cons_zero, List.getElem_cons_succ, Act.put, List.setIfInBounds_toArray, List.set_cons_zero, List.set_cons_succ]
          clear hHeldN hnw
          have hgi : w8.heap.size ≤ GI := by rw [← hg0]; exact hs0.size
          have hi2 := g.below hi0 hba
          have hs2 := hs0.trans (hba.mono hs0.size)
          refine wpAnyH_ready (rs := [7]) (by kernel_rfl) (by simp) ?_
          refine AllReadyH.cons rfl (fun K hK => ?_) AllReadyH.nil
          have cr := HPO.out wH p.c (by have := HPM.out; have := HNN.out; omega)
          go_simp
          go_wp2_with (go_at_call 69; refine cr.mono ?_; rintro e wB ⟨rfl, hbP⟩)
          have hHeldN := And.intro (SRow.below hHeld.1 hbP) (PcRow.below hHeld.2 hbP)
          clear hHeld
          refine hK.out _ _ hHeldN (fun hHeld => ?_)
          clear hK K cr hHeldN
          try simp only [List.getElem_toArray, List.getElem_cons_zero, List.getElem_cons_succ, Act.put, List.setIfInBounds_toArray, List.set_cons_zero, List.set_cons_succ]
          have hi1 := g.below hi2 hbP
          have hs1 := hs2.trans (hbP.mono hs2.size)
          have hat := hat.below hbP
          refine wpAnyH_ready (rs := [8]) (by kernel_rfl) (by simp) ?_
          refine AllReadyH.cons rfl (fun K hK => ?_) AllReadyH.nil
          go_simp
          go_wp2_with (go_at_call 73; refine (cg _ hi1).mono ?_; rintro e wG ⟨rfl, hoG⟩)
          have hsG := hoG.sole
          have hHeldN : SRow wG a ∧ PcRow wG wr.heap.size p.c p.at_ b p.o p.n := ⟨by obtain ⟨X2, k1, _⟩ := hoG; exact g.srow k1, hHeld.2.sole hsG HNP.out⟩
          clear hHeld
          refine hK.out _ _ hHeldN (fun hHeld => ?_)
          clear hK K hHeldN
          try simp only [List.getElem_toArray, List.getElem_cons_zero, List.getElem_cons_succ, Act.put, List.setIfInBounds_toArray, List.set_cons_zero, List.set_cons_succ]
          refine wpAnyH_take (i := 9) (v := .tuple #[.agg (itC x), .bool is, .int .i64 er]) rfl (by kernel_rfl) (by kernel_rfl) (by kernel_rfl) (fun _ _ _ h => h) (Or.inl ⟨by rfl, fun W hSw => by (try dsimp only at hSw); go_simp⟩) (by assumption) ?_
          try simp only [List.getElem_toArray, List.getElem_cons_zero, List.getElem_cons_succ, Act.put, List.setIfInBounds_toArray, List.set_cons_zero, List.set_cons_succ]
          refine wpAnyH_take (i := 10) (v := .agg (itC x)) rfl (by kernel_rfl) (by kernel_rfl) (by kernel_rfl) (fun _ _ _ h => h) (Or.inl ⟨by rfl, fun W hSw => by (try dsimp only at hSw); go_simp⟩) (by assumption) ?_
          try simp only [List.getElem_toArray, List.getElem_cons_zero, List.getElem_cons_succ, Act.put, List.setIfInBounds_toArray, List.set_cons_zero, List.set_cons_succ]
          refine wpAnyH_take (i := 11) (v := .bool is) rfl (by kernel_rfl) (by kernel_rfl) (by kernel_rfl) (fun _ _ _ h => h) (Or.inl ⟨by rfl, fun W hSw => by (try dsimp only at hSw); go_simp⟩) (by assumption) ?_
          try simp only [List.getElem_toArray, List.getElem_cons_zero, List.getElem_cons_succ, Act.put, List.setIfInBounds_toArray, List.set_cons_zero, List.set_cons_succ]
          refine wpAnyH_take (i := 12) (v := .int .i64 er) rfl (by kernel_rfl) (by kernel_rfl) (by kernel_rfl) (fun _ _ _ h => h) (Or.inl ⟨by rfl, fun W hSw => by (try dsimp only at hSw); go_simp⟩) (by assumption) ?_
          try simp only [List.getElem_toArray, List.getElem_cons_zero, List.getElem_cons_succ, Act.put, List.setIfInBounds_toArray, List.set_cons_zero, List.set_cons_succ]
          have hat := hat.sole hsG (fun e => by have := HLX.out _ e; omega)
          have hO := Sgt.Out.pre hs1 hoG
          refine wpAnyH_ready (rs := [14]) (by kernel_rfl) (by simp) ?_
          refine AllReadyH.cons rfl (fun K hK => ?_) AllReadyH.nil
          rw [if_pos (by rfl)]
          refine wp_stI _ _ rfl GI x it0 rfl rfl HCH.out.1 len0 hat ?_
          have HFI : Hid (G.Out B w8 a X1 S2 (wG.setRow GI (itC x))) := g.fin (g.le HX1.out) hO hgi hat.row (by decide) (by decide) (by decide) (by decide) (by decide) (by decide) (by decide) (by decide) soleRow
          have HAI : Hid (ItAt 150 (wG.setRow GI (itC x)) GI x) := hat.setRow x
          have hne : wr.heap.size ≠ GI := by have := lt_of_row HP8.out; omega
          have hne2 : a.s ≠ GI := by intro e; have := lt_of_row (g.srow HX1.out); omega
          refine hK.out _ _ ⟨(setRow_other _ _ _ _ hne2).trans hHeld.1, (setRow_other _ _ _ _ hne).trans hHeld.2⟩ (fun hHeld9 => ?_)
          clear hK K
          try simp only [List.getElem_toArray, List.getElem_cons_zero, List.getElem_cons_succ, Act.put, List.setIfInBounds_toArray, List.set_cons_zero, List.set_cons_succ]
          refine wpAnyH_take (i := 15) (v := .bool is) rfl (by kernel_rfl) (by kernel_rfl) (by kernel_rfl) (fun _ _ _ h => h) (Or.inl ⟨by rfl, fun W hSw => by (try dsimp only at hSw); go_simp⟩) (by assumption) ?_
          try simp only [List.getElem_toArray, List.getElem_cons_zero, List.getElem_cons_succ, Act.put, List.setIfInBounds_toArray, List.set_cons_zero, List.set_cons_succ]
          refine wpAnyH_take (i := 16) (v := .int .i64 er) rfl (by kernel_rfl) (by kernel_rfl) (by kernel_rfl) (fun _ _ _ h => h) (Or.inl ⟨by rfl, fun W hSw => by (try dsimp only at hSw); go_simp⟩) (by assumption) ?_
          try simp only [List.getElem_toArray, List.getElem_cons_zero, List.getElem_cons_succ, Act.put, List.setIfInBounds_toArray, List.set_cons_zero, List.set_cons_succ]
          refine wpAnyH_done (by kernel_rfl) ?_ _
          refine NoPanic.normal ?_
          clear hHeld hHeld9
          go_wp2_with fail
          go_meet
          case rel => exact ⟨GI, rfl, rfl, rfl, HAI, hgi, HFI⟩
      case rest =>
        obtain ⟨gi, rfl, rfl, rfl, HI5, HGI, HO5⟩ := hcut
        obtain ⟨w16, rfl⟩ : ∃ w16, w16 = wc := ⟨_, rfl⟩
        have HS5 : Hid (Sole X1 w8 w16) := HO5.out.sole
        have HP16 : Hid (PcRow w16 wr.heap.size p.c p.at_ b p.o p.n) := HP8.out.sole HS5.out HNP.out
        have HR16 : Hid (w16.heap[b]? = some (.cells ((ys ++ List.replicate (n - ys.length) (0 : Int)).map (Value.int .u8)).toArray 5 (0, 0))) := HS5.out.row HRB.out HNB.out
        have HOW : Hid (G.Out B w a X S2 w16) := Sgt.Out.then HX2.out HX3.out HO5.out
        clear cg hz
        by_cases he : er = 0
        case neg =>
          have heb : (er != 0) = true := by simpa using he
          have HE : Hid (R = (S2, ys, er)) := by have := HGE.out; rw [if_pos he] at this; exact this
          have HE2 : Hid (exOut G R = (S2, ⟨#[]⟩, er)) := by unfold Hid exOut; rw [HE.out]; dsimp only; rw [if_pos he]
          clear HGE HE
          go_wp2
          go_ret2
          exact ⟨by rw [HE2.out]; first | done | rfl, by rw [HE2.out]; exact HOW.out⟩
        subst he
        have HE : Hid (R = ((exGet G ino S2 (P.drop (i + 1))).1, (ys ++ (x.bytes.drop p.at_).take p.n) ++ (exGet G ino S2 (P.drop (i + 1))).2.1, (exGet G ino S2 (P.drop (i + 1))).2.2)) := by have := HGE.out; rw [if_neg (by simp)] at this; exact this
        clear HGE
        have hcpy := copy_chunk (w := w16.drew) (g := gi) (x := x) ⟨HI5.out.row⟩ HCH.out.1 HCH.out.2 p.at_ p.n HPM.out.2.1 HPM.out.1 b p.o (ys ++ List.replicate (n - ys.length) (0 : Int)) (by have := HPM.out; have := HYL.out; simp; omega) HR16.out
        have HL2 : Hid ((ys ++ List.replicate (n - ys.length) (0 : Int)).take p.o ++ (x.bytes.drop p.at_).take p.n ++ (ys ++ List.replicate (n - ys.length) (0 : Int)).drop (p.o + p.n) = (ys ++ (x.bytes.drop p.at_).take p.n) ++ List.replicate (n - (ys ++ (x.bytes.drop p.at_).take p.n).length) (0 : Int)) := by
          have h1 := HPN.out.1
          have h2 := HCH.out.1
          have h3 := HPM.out
          have hl : ((x.bytes.drop p.at_).take p.n).length = p.n := by rw [List.length_take, List.length_drop]; omega
          unfold Hid
          rw [h1, List.take_left, List.drop_append, List.drop_of_length_le (by omega : ys.length ≤ ys.length + p.n), List.nil_append, List.drop_replicate, List.length_append, hl]
          congr 2
          omega
        rw [HL2.out] at hcpy
        have HYS : Hid ((ys ++ (x.bytes.drop p.at_).take p.n).length = ys.length + p.n) := by
          have h2 := HCH.out.1
          have h3 := HPM.out
          unfold Hid
          rw [List.length_append, List.length_take, List.length_drop]; omega
        have HYB : Hid (Byt (ys ++ (x.bytes.drop p.at_).take p.n)) := HYL.out.2.append ((HCH.out.2.drop _).take _)
        generalize (ys ++ (x.bytes.drop p.at_).take p.n) = ys2 at *
        have hat : (p.at_ : Int) ≤ 32 := by have := HPM.out; omega
        have hatN : p.at_ < 32 := by have := HPM.out; omega
        have hat32 : ¬ 32 = p.at_ := by omega
        clear HL2
        obtain ⟨w17, hw17⟩ : ∃ w17, w16.drew.setRow b ((ys2 ++ List.replicate (n - ys2.length) (0 : Int)).map (Value.int .u8)).toArray = w17 := ⟨_, rfl⟩
        have hs17 : Sole [b] w16 w17 := by rw [← hw17]; exact (Sole.drew w16 [b]).trans soleRow
        have hr17 : w17.heap[b]? = some (.cells ((ys2 ++ List.replicate (n - ys2.length) (0 : Int)).map (Value.int .u8)).toArray 5 (0, 0)) := by rw [← hw17]; exact setRow_heap _ _ _ _ _ _ HR16.out
        rw [hw17] at hcpy
        have hP17 : PcRow w17 wr.heap.size p.c p.at_ b p.o p.n := HP16.out.sole hs17 (by have := lt_of_row HR16.out; have := HBN.out; intro e; rw [List.mem_singleton] at e; exact absurd rfl (ne_of_type (e ▸ HP16.out) HR16.out (by decide)))
        have HS17 : Hid (Sole [b] w16 w17) := hs17
        have HR17 : Hid (w17.heap[b]? = some (.cells ((ys2 ++ List.replicate (n - ys2.length) (0 : Int)).map (Value.int .u8)).toArray 5 (0, 0))) := hr17
        have HP17 : Hid (PcRow w17 wr.heap.size p.c p.at_ b p.o p.n) := hP17
        clear hs17 hr17 hP17 hw17
        go_wp2_with fail
        refine wp_region_noPanic ?_
        refine wp_region_held_drew (S := fun W => PcRow W wr.heap.size p.c p.at_ b p.o p.n) (by kernel_rfl) (HP16.out.below (Below.refl _ _).drew) (fun hHeld => ?_)
        refine wpAnyH_take (i := 0) (v := .pointer (some ⟨wr.heap.size, 2, none⟩)) rfl (by kernel_rfl) (by kernel_rfl) (by kernel_rfl) (fun _ _ _ h => h) (Or.inl ⟨by rfl, fun W hSw => by (try dsimp only at hSw); go_simp⟩) (by assumption) ?_
        try simp only [List.getElem_toArray, List.getElem_cons_zero, List.getElem_cons_succ, Act.put, List.setIfInBounds_toArray, List.set_cons_zero, List.set_cons_succ]
        refine wpAnyH_take (i := 1) (v := .slice (some ⟨b, p.o, none⟩) p.n p.n) rfl (by kernel_rfl) (by kernel_rfl) (by kernel_rfl) (fun _ _ _ h => h) (Or.inl ⟨by rfl, fun W hSw => by (try dsimp only at hSw); (have z := hSw.c2; go_simp)⟩) (by assumption) ?_
        try simp only [List.getElem_toArray, List.getElem_cons_zero, List.getElem_cons_succ, Act.put, List.setIfInBounds_toArray, List.set_cons_zero, List.set_cons_succ]
        refine wpAnyH_take (i := 2) (v := .pointer (some ⟨gi, 5, none⟩)) rfl (by kernel_rfl) (by kernel_rfl) (by kernel_rfl) (fun _ _ _ h => h) (Or.inl ⟨by rfl, fun W hSw => by (try dsimp only at hSw); go_simp⟩) (by assumption) ?_
        try simp only [List.getElem_toArray, List.getElem_cons_zero, List.getElem_cons_succ, Act.put, List.setIfInBounds_toArray, List.set_cons_zero, List.set_cons_succ]
        refine wpAnyH_take (i := 3) (v := .pointer (some ⟨wr.heap.size, 1, none⟩)) rfl (by kernel_rfl) (by kernel_rfl) (by kernel_rfl) (fun _ _ _ h => h) (Or.inl ⟨by rfl, fun W hSw => by (try dsimp only at hSw); go_simp⟩) (by assumption) ?_
        try simp only [List.getElem_toArray, List.getElem_cons_zero, List.getElem_cons_succ, Act.put, List.setIfInBounds_toArray, List.set_cons_zero, List.set_cons_succ]
        refine wpAnyH_take (i := 4) (v := .int .i64 (p.at_ : Int)) rfl (by kernel_rfl) (by kernel_rfl) (by kernel_rfl) (fun _ _ _ h => h) (Or.inl ⟨by rfl, fun W hSw => by (try dsimp only at hSw); (have z := hSw.c1; go_simp)⟩) (by assumption) ?_
        try simp only [List.getElem_toArray, List.getElem_cons_zero, List.getElem_cons_succ, Act.put, List.setIfInBounds_toArray, List.set_cons_zero, List.set_cons_succ]
        refine wpAnyH_take (i := 5) (v := .slice (some ⟨gi, 5 + p.at_, none⟩) (32 - p.at_) (32 - p.at_)) rfl (by kernel_rfl) (by kernel_rfl) (by kernel_rfl) (fun _ _ _ h => h) (Or.inl ⟨by rfl, fun W hSw => by (try dsimp only at hSw); go_simp⟩) (by assumption) ?_
        try simp only [List.getElem_toArray, List.getElem_cons_zero, List.getElem_cons_succ, Act.put, List.setIfInBounds_toArray, List.set_cons_zero, List.set_cons_succ]
        refine wpAnyH_ready (rs := [6]) (by kernel_rfl) (by simp) ?_
        refine AllReadyH.cons rfl (fun K hK => ?_) AllReadyH.nil
        go_simp
        refine hK.out _ _ HP17.out (fun hHeld2 => ?_)
        clear hK K
        try simp only [List.getElem_toArray, List.getElem_cons_zero, List.getElem_cons_succ, Act.put, List.setIfInBounds_toArray, List.set_cons_zero, List.set_cons_succ]
        refine wpAnyH_done (by kernel_rfl) ?_ _
        refine NoPanic.normal ?_
        clear hHeld hHeld2 hcpy hat hatN hat32
        have HFO : Hid (G.Out B w a X S2 w17) := g.fin HX0.out.1 HOW.out (by rw [HBN.out]; exact Nat.le_refl _) HR16.out (by decide) (by decide) (by decide) (by decide) (by decide) (by decide) (by decide) (by decide) HS17.out
        go_wp2
        go_roundg (m - (i + 1))
        case measure => omega
        case rel =>
          have hbg : pb ≠ b := by
            obtain ⟨cs, e⟩ := HRG.out
            exact ne_of_type e HRB.out (by decide)
          refine ⟨i + 1, S2, ys2, by rw [show ((i : Int) + 1) = ((i + 1 : Nat) : Int) by omega], by omega, by omega, HFO.out, ?_, ?_, HYB.out, HR17.out, ?_, HE.out, HGS.out, ?_⟩
          · exact (HW2.out.sole HS5.out HNG.out).sole HS17.out (by simpa using hbg)
          · rw [HYS.out]; have := HPM.out; have := HPN.out.1; omega
          · rw [HYS.out]; exact HPN.out.2
          · intro g0 off' e _
            simp only [Option.some.injEq, Addr.mk.injEq] at e
            obtain ⟨rfl, rfl, _⟩ := e
            obtain ⟨cs, e⟩ := HRG.out
            exact ⟨cs, HS17.out.row (HS5.out.row e HNG.out) (by simpa using hbg)⟩
    · obtain rfl : m = i := by omega
      obtain ⟨hw1, _, hw3, hw4, hw5, hw6, hw7, _⟩ := HW.out
      rw [List.drop_of_length_le (by have := HNL.out; omega)] at hw6 hw7
      have hyn : n - ys.length = 0 := by
        cases hz : n - ys.length with
        | zero => rfl
        | succ t =>
          rw [pcsF_next (by omega) (by omega)] at hw6
          cases hw6
      have HE : Hid (R = (s', ys, 0)) := by
        unfold Hid; rw [hw7]; unfold exGet; simp
      rw [hyn, List.replicate_zero, List.append_nil] at hw5
      have hrd : Rd wr (.slice (some ⟨b, 0, none⟩) n n) ys := by
        refine ⟨_, _, by rw [show n = ys.length by omega], Nat.le_refl _, ?_, (by intro e; cases e), fun _ => ⟨b, 0, rfl, lt_of_row hw5, fun j hj => ?_⟩⟩
        · unfold maxLen; have := HNN.out; omega
        · rw [Nat.zero_add, cell_of_row _ _ j _ _ (0, 0) hw5]
          simp [hj]
      have hcv := hrd.conv
      have HE2 : Hid (exOut G R = (s', strOfNums ys, 0)) := by unfold Hid exOut; rw [HE.out]; rfl
      have HO : Hid (G.Out B w a X s' wr) := hw1
      generalize strOfNums ys = out at *
      clear hw1 hw3 hw4 hw5 hw6 hw7 hrd HW
      go_wp2
      go_ret2
      exact ⟨by rw [HE2.out]; first | done | rfl, by rw [HE2.out]; exact HO.out⟩

end Go.Proofs.YtjjhfginmamlkaaGreat
