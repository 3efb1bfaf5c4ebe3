/- The contracts of extent.lay and wipe. -/
import Derived.Test.YtiplhhaehbjghaaGreatM1
import Derived.Test.YtiplhhaehbjghaaGreatExP
import Derived.Test.YtiplhhaehbjghaaGreatP3
import Derived.Test.YtiplhhaehbjghaaGreatPF
import Derived.Test.YtiplhhaehbjghaaGreatT3
import Derived.Deep.CutRange
import Derived.Deep.CutBlock
namespace Go.Proofs.YtiplhhaehbjghaaGreat
open Go.RowKit Go.Maps
set_option linter.unusedVariables false
set_option maxHeartbeats 32000000
set_option maxRecDepth 100000
set_option linter.unusedSimpArgs false
theorem bt_dataP (p : Pl) {q : Pt} (hq : q.bytes.length = 32) : Tryz.prog.built 119 [(0, plV p), (6, .agg (ptC q))] = some (cgC (dataC p q)) := bt_data p hq
theorem bt_goneP (p : Pl) : Tryz.prog.built 119 [(0, plV p), (1, .bool true)] = some (cgC (goneC p)) := bt_gone p
theorem Rd.cut3 {w : World} {b off n cap : Nat} {xs : List Int} (h : Rd w (.slice (some ⟨b, off, none⟩) n cap) xs) (i k : Nat) (hk : i + k ≤ n) (hp : 0 < k) : Rd w (.slice (some ⟨b, off + i, none⟩) k k) ((xs.drop i).take k) := by
 have hl := rd_length h
 obtain ⟨a, c, e, h1, h2, h3, h4⟩ := h
 simp only [Value.slice.injEq] at e
 obtain ⟨rfl, e2, rfl⟩ := e
 have hdl : ((xs.drop i).take k).length = k := by simp; omega
 refine ⟨_, _, by rw [hdl], by rw [hdl]; exact Nat.le_refl _, by omega, (by intro e; cases e), fun _ => ?_⟩
 obtain ⟨b', off', e', hlt, hc⟩ := h4 (by intro e; subst e; simp at hl; omega)
 simp only [Option.some.injEq, Addr.mk.injEq] at e'
 obtain ⟨rfl, rfl, _⟩ := e'
 refine ⟨_, _, rfl, hlt, fun j hj => ?_⟩
 rw [hdl] at hj
 have := hc (i + j) (by omega)
 rw [show off + i + j = off + (i + j) from by omega, this]
 simp [hj]
theorem Rd.sole {w w' : World} {b off n cap : Nat} {xs : List Int} {X : List Nat} (h : Rd w (.slice (some ⟨b, off, none⟩) n cap) xs) (hs : Sole X w w') (hb : b ∉ X) : Rd w' (.slice (some ⟨b, off, none⟩) n cap) xs := by
 obtain ⟨a, c, e, h1, h2, h3, h4⟩ := h
 simp only [Value.slice.injEq] at e
 obtain ⟨rfl, rfl, rfl⟩ := e
 refine ⟨_, _, rfl, h1, h2, h3, fun hn => ?_⟩
 obtain ⟨b', off', e', hlt, hc⟩ := h4 hn
 simp only [Option.some.injEq, Addr.mk.injEq] at e'
 obtain ⟨rfl, rfl, _⟩ := e'
 refine ⟨_, _, rfl, Nat.lt_of_lt_of_le hlt hs.size, fun j hj => ?_⟩
 rw [← hc j hj]
 simp [World.cell?, hs.block _ hlt hb]
theorem pc_cells {w : World} {b0 o0 b off n c : Nat} {l : List Pc3} (h : RdZ 3 (pcE b0 o0) w (.slice (some ⟨b, off, none⟩) n c) l) {i : Nat} {p : Pc3} (hx : l[i]? = some p) :
  w.cell? ⟨b, off + i * 3, none⟩ = some (.int .i64 (p.c : Int)) ∧ w.cell? ⟨b, off + i * 3 + 1, none⟩ = some (.int .i64 (p.at_ : Int)) ∧ w.cell? ⟨b, off + i * 3 + 2, none⟩ = some (.slice (some ⟨b0, o0 + p.o, none⟩) p.n p.n) := by
 obtain ⟨⟨a', c', e, h1, h2, h3⟩, _⟩ := h
 simp only [Value.slice.injEq] at e
 obtain ⟨rfl, rfl, rfl⟩ := e
 obtain ⟨b', off', e, hlt, hc⟩ := h3 (by intro e; subst e; simp at hx)
 simp only [Option.some.injEq, Addr.mk.injEq] at e
 obtain ⟨rfl, rfl, _⟩ := e
 exact ⟨hc i p 0 _ hx rfl, hc i p 1 _ hx rfl, hc i p 2 _ hx rfl⟩
def PcRow (w : World) (g c at_ b o n : Nat) : Prop := w.heap[g]? = some (.cells #[.int .i64 (c : Int), .int .i64 (at_ : Int), .slice (some ⟨b, o, none⟩) n n] 242 (0, 0))
theorem PcRow.c0 {w : World} {g c at_ b o n : Nat} (h : PcRow w g c at_ b o n) : w.cell? ⟨g, 0, none⟩ = some (.int .i64 (c : Int)) := by rw [cell_of_row _ _ _ _ _ (0, 0) h]; rfl
theorem PcRow.c1 {w : World} {g c at_ b o n : Nat} (h : PcRow w g c at_ b o n) : w.cell? ⟨g, 1, none⟩ = some (.int .i64 (at_ : Int)) := by rw [cell_of_row _ _ _ _ _ (0, 0) h]; rfl
theorem PcRow.c2 {w : World} {g c at_ b o n : Nat} (h : PcRow w g c at_ b o n) : w.cell? ⟨g, 2, none⟩ = some (.slice (some ⟨b, o, none⟩) n n) := by rw [cell_of_row _ _ _ _ _ (0, 0) h]; rfl
theorem PcRow.below {w w' : World} {g c at_ b o n : Nat} (h : PcRow w g c at_ b o n) (hb : Below w.heap.size w w') : PcRow w' g c at_ b o n := (hb.block _ (lt_of_row h)).trans h
theorem PcRow.sole {w w' : World} {g c at_ b o n : Nat} {X : List Nat} (h : PcRow w g c at_ b o n) (hs : Sole X w w') (hn : g ∉ X) : PcRow w' g c at_ b o n := hs.row h hn
theorem PtAt.sole {w w' : World} {g : Nat} {p : Pt} {X : List Nat} (h : PtAt w g p) (hs : Sole X w w') (hn : g ∉ X) : PtAt w' g p := ⟨hs.row h.row hn⟩
theorem dataC_ok {ino : Int} (h0 : 0 ≤ ino) (h1 : ino ≤ 4294967295) {c : Nat} (hc : c ≤ 1000) {q : Pt} (hq : PtOk q) : CgOk (dataC (datP ino (c : Int)) q) := ⟨datP_ok h0 h1 (by omega), by simp [dataC], by simp [dataC], ⟨by simp [dataC], by simp [dataC], by simp [dataC], by simp [dataC], by simp [dataC], by simp [dataC], by simp [dataC], by simp [dataC]⟩, by simp [dataC], by simp [dataC], hq⟩
theorem lay_g {G : Sgt} (g : G.Ok) {B : Nat} {w : World} {a : Sa} {X : List Nat} {s : G.S} {N : Nat} (h : G.In B w a X s) (ino : Int) (h0 : 0 ≤ ino) (h1 : ino ≤ 4294967295) (off : Nat) (data : ByteArray) (hd0 : 0 < data.size) (hd1 : data.size ≤ 64) (ho : off + data.size ≤ 512) (hk : G.Sk s N) (hN : N ≤ 3900) :
  Calls Tryz.prog 105 #[.pointer (some ⟨a.s, 0, none⟩), .int .u32 ino, .int .i64 (off : Int), .string data] w fun e w' =>
  e = .returned (.int .i64 (exPut G s ((pcsL off data.size).map (layC ino (strB data)))).2) ∧ G.Out B w a X (exPut G s ((pcsL off data.size).map (layC ino (strB data)))).1 w' := by
 obtain ⟨dv, w1, hcv, hrd1, hb1⟩ := conv_bytes w data (by omega)
 have hxl := strB_length data
 obtain ⟨b, o0, cap, rfl⟩ := hrd1.opened data.size hxl hd0
 have hn1 := Rd.cap hrd1
 have hn2 : cap ≤ maxLen := by obtain ⟨a', c', e, _, h2, _⟩ := hrd1; simp only [Value.slice.injEq] at e; obtain ⟨_, _, rfl⟩ := e; exact h2
 have hbb : ∃ cs fr, w1.heap[b]? = some (.cells cs 5 fr) := by
  have e := run_bytes_of_string (P := Tryz.prog) w 9 188 5 data Tryz.underlying9 Tryz.underlying188 Tryz.underlying5
  rw [hcv] at e
  simp only [Result.ok.injEq, Value.slice.injEq, Option.some.injEq, Addr.mk.injEq] at e
  obtain ⟨⟨⟨rfl, _⟩, _⟩, rfl⟩ := e
  exact ⟨_, _, heap_alloc_new w.drew _⟩
 have cp := pieces_any w1 b o0 data.size cap hn1 hn2 hd1 off (by omega)
 have HD : Hid (Rd w1 (.slice (some ⟨b, o0, none⟩) data.size cap) (strB data)) := hrd1
 have HBB : Hid (∃ cs fr, w1.heap[b]? = some (.cells cs 5 fr)) := hbb
 have HPC : Hid (∀ p ∈ pcsL off data.size, 0 < p.n ∧ p.at_ + p.n ≤ 32 ∧ p.o + p.n ≤ data.size ∧ 32 * p.c + p.at_ = off + p.o) := fun p hp => pcsL_mem hp
 have HPL : Hid ((pcsL off data.size).length ≤ 64) := pcsL_len3 hd1
 have HXB : Hid (Byt (strB data)) := strB_byt data
 have HH : Hid (G.In B w1 a X s) := g.below h hb1
 have HB1 : Hid (Below w.heap.size w w1) := hb1
 have HK : Hid (G.Sk s N) := hk
 have HDS : Hid (off + data.size ≤ 512) := ho
 obtain ⟨xs, hxs⟩ : ∃ xs, strB data = xs := ⟨_, rfl⟩
 rw [hxs] at HD HXB hxl ⊢
 have HXL : Hid (xs.length = data.size) := hxl
 obtain ⟨P, hP⟩ : ∃ P, pcsL off data.size = P := ⟨_, rfl⟩
 rw [hP] at cp HPC HPL ⊢
 obtain ⟨R, hR⟩ : ∃ R, exPut G s (P.map (layC ino xs)) = R := ⟨_, rfl⟩
 rw [hR]
 have HF : Hid (exPut G s (P.map (layC ino xs)) = R) := hR
 clear h hb1 hbb hrd1 hn1 hn2 hk hd0 hd1 ho hxs hxl hP hR
 go_enter Tryz.func105, Tryz.ntmps105
 go_wp2_with fail
 refine cp.mono ?_
 rintro e w3 ⟨pa, pc, rfl, hpo, hb3⟩
 clear cp hcv
 obtain ⟨n, hn⟩ : ∃ n, P.length = n := ⟨_, rfl⟩
 have HNL : Hid (P.length = n) := hn
 have HN64 : Hid (n ≤ 64) := by unfold Hid; rw [← hn]; exact HPL.out
 have hrd : RdZ 3 (pcE b o0) w3 (.slice pa n pc) P := by rw [← hn]; exact rdZ_own (pc_len b o0) hpo
 rw [hn] at hpo ⊢
 have HS3 : Hid (G.In B w3 a X s) := g.below HH.out hb3
 have HB3 : Hid (Below w.heap.size w w3) := thenB HB1.out hb3
 have HD3 : Hid (Rd w3 (.slice (some ⟨b, o0, none⟩) data.size cap) xs) := HD.out.below hb3
 have HBB3 : Hid (∃ cs fr, w3.heap[b]? = some (.cells cs 5 fr)) := by
  obtain ⟨cs, fr, e⟩ := HBB.out
  exact ⟨cs, fr, (hb3.block _ (lt_of_row e)).trans e⟩
 have HG3 : Hid (∀ g0 off', pa = some ⟨g0, off', none⟩ → 0 < n → ∃ cs, w3.heap[g0]? = some (.cells cs 242 (0, 0))) := by
  intro g0 off' e hpos
  have h := hpo
  unfold OwnL at h
  subst e
  exact own_row h rfl
 have HRD : Hid (RdZ 3 (pcE b o0) w3 (.slice pa n pc) P) := hrd
 clear hpo hb3 hrd hn HD HBB HH
 go_wp2
 go_loopg [19] n (fun kx s19 wr => ∃ (i : Nat) (s' : G.S), s19 = .int .i64 i ∧ i ≤ n ∧ n - i ≤ kx ∧ Hid (G.Out B w3 a X s' wr ∧ RdZ 3 (pcE b o0) wr (.slice pa n pc) P ∧ Rd wr (.slice (some ⟨b, o0, none⟩) data.size cap) xs ∧ exPut G s' ((P.drop i).map (layC ino xs)) = R ∧ G.Sk s' (N + i) ∧
   (∃ cs fr, wr.heap[b]? = some (.cells cs 5 fr)) ∧ (∀ g0 off', pa = some ⟨g0, off', none⟩ → 0 < n → ∃ cs, wr.heap[g0]? = some (.cells cs 242 (0, 0)))))
 case atStart => exact ⟨0, s, rfl, Nat.zero_le _, by omega, g.out HS3.out (Below.refl _ _), HRD.out, HD3.out, HF.out, HK.out, HBB3.out, HG3.out⟩
 case round =>
  obtain ⟨i, s', rfl, hin, hkx, HW⟩ := hrel
  by_cases hlt : i < n
  ·obtain ⟨p, hy⟩ : ∃ y, P[i]? = some y := ⟨_, List.getElem?_eq_getElem (by have := HNL.out; omega)⟩
   obtain ⟨hw1, hw2, hw3, hw4, hw5, hw6, hw7⟩ := HW.out
   obtain ⟨pb, poff, rfl⟩ : ∃ pb poff, pa = some ⟨pb, poff, none⟩ := by
    obtain ⟨⟨a', c', e, h1, h2, h3⟩, _⟩ := hw2
    simp only [Value.slice.injEq] at e
    obtain ⟨rfl, _, _⟩ := e
    obtain ⟨b', off', e, _⟩ := h3 (by intro e; subst e; simp at hy)
    exact ⟨b', off', e⟩
   obtain ⟨q0, q1, q2⟩ := pc_cells hw2 hy
   have HPM : Hid (0 < p.n ∧ p.at_ + p.n ≤ 32 ∧ p.o + p.n ≤ data.size ∧ 32 * p.c + p.at_ = off + p.o) := HPC.out p (List.mem_of_getElem? hy)
   have HDR : Hid (exPut G s' (layC ino xs p :: (P.drop (i + 1)).map (layC ino xs)) = R) := by
    have hl : i < P.length := by have := HNL.out; omega
    have e := List.drop_eq_getElem_cons hl
    rw [List.getElem?_eq_getElem hl] at hy
    cases hy
    unfold Hid
    rw [← hw4, e, List.map_cons]
   have HP8 : Hid (PcRow (wr.alloc (.cells #[.int .i64 (p.c : Int), .int .i64 (p.at_ : Int), .slice (some ⟨b, o0 + p.o, none⟩) p.n p.n] 242)) wr.heap.size p.c p.at_ b (o0 + p.o) p.n) := heap_alloc_new wr _
   have HB8 : Hid (Below wr.heap.size wr (wr.alloc (.cells #[.int .i64 (p.c : Int), .int .i64 (p.at_ : Int), .slice (some ⟨b, o0 + p.o, none⟩) p.n p.n] 242))) := bel1 wr _
   obtain ⟨w8, hw8⟩ : ∃ w8, wr.alloc (.cells #[.int .i64 (p.c : Int), .int .i64 (p.at_ : Int), .slice (some ⟨b, o0 + p.o, none⟩) p.n p.n] 242) = w8 := ⟨_, rfl⟩
   rw [hw8] at HP8 HB8
   have c1 := HP8.out.c1
   have c2 := HP8.out.c2
   have hcv : (convert 188 9 (.slice (some ⟨b, o0 + p.o, none⟩) p.n p.n)).run Tryz.prog w8 = .ok (.string (strOfNums ((xs.drop p.o).take p.n))) w8 := by
    refine (Rd.cut3 (hw3.below HB8.out) p.o p.n HPM.out.2.2.1 HPM.out.1).conv
   have hyl : ((xs.drop p.o).take p.n).length = p.n := by have := HXL.out; have := HPM.out; rw [List.length_take, List.length_drop]; omega
   have co := of_any w8 (p.at_ : Int) (strOfNums ((xs.drop p.o).take p.n)) (WalkArith.wf_i64 ⟨by omega, by have := HPM.out; omega⟩) (by rw [strOfNums_size, hyl]; have := HPM.out; unfold maxLen; omega)
   have hofr : ofR (p.at_ : Int) (strOfNums ((xs.drop p.o).take p.n)) = ofP p.at_ ((xs.drop p.o).take p.n) := by
    unfold ofR
    rw [if_neg (by rw [strOfNums_size, hyl]; have := HPM.out; omega), strB_strOf ((HXB.out.drop _).take _)]
    rfl
   rw [hofr] at co
   have HQ : Hid (PtOk (ofP p.at_ ((xs.drop p.o).take p.n))) := ofP_ok ((HXB.out.drop _).take _) (by rw [hyl]; exact HPM.out.2.1)
   have HCE : Hid (layC ino xs p = dataC (datP ino p.c) (ofP p.at_ ((xs.drop p.o).take p.n))) := rfl
   generalize ofE (p.at_ : Int) (strOfNums ((xs.drop p.o).take p.n)) = oe at *
   generalize strOfNums ((xs.drop p.o).take p.n) = ys at *
   generalize ofP p.at_ ((xs.drop p.o).take p.n) = Q at *
   have HW1 : Hid (G.Out B w3 a X s' wr) := hw1
   have HW2 : Hid (RdZ 3 (pcE b o0) wr (.slice (some ⟨pb, poff, none⟩) n pc) P) := hw2
   have HW3 : Hid (Rd wr (.slice (some ⟨b, o0, none⟩) data.size cap) xs) := hw3
   have HW5 : Hid (G.Sk s' (N + i)) := hw5
   have HW6 : Hid (∃ cs fr, wr.heap[b]? = some (.cells cs 5 fr)) := hw6
   have HW7 : Hid (∃ cs, wr.heap[pb]? = some (.cells cs 242 (0, 0))) := hw7 pb poff rfl (by omega)
   have HPO : Hid (∀ (W : World) (c : Nat), c ≤ 1000 → Calls Tryz.prog 154 #[.int .u32 ino, .int .i64 (c : Int)] W fun e w' => e = .returned (plV (datP ino c)) ∧ Below W.heap.size W w') := fun W c hc => placeOf_any W ino c hc
   have hiI : (i : Int) < (n : Int) := by omega
   have hib : (i : Int) + 1 ≤ 1001 := by have := HN64.out; omega
   clear hw1 hw2 hw3 hw4 hw5 hw6 hw7 hy HW hyl hofr
   have HZ : Hid (pt0.bytes.length = 32) := ch_zero.1
   have hz := zeroPt
   go_wp2_with fail
   try rw [hw8]
   refine co.mono ?_
   rintro e w9 ⟨rfl, hb9⟩
   clear co hcv c1 c2 q0 q1 q2 hw8
   have HB9 : Hid (Below wr.heap.size wr w9) := thenB HB8.out hb9
   have HP9 : Hid (PcRow w9 wr.heap.size p.c p.at_ b (o0 + p.o) p.n) := HP8.out.below hb9
   have hp10 := PtAt.laid w9 pt0
   have hb10 := bel1 w9 (.cells (ptC pt0) 117)
   obtain ⟨w10, hw10⟩ : ∃ w10, w9.alloc (.cells (ptC pt0) 117) = w10 := ⟨_, rfl⟩
   rw [hw10] at hp10 hb10
   have HP11 : Hid (PtAt (w10.setRow w9.heap.size (ptC Q)) w9.heap.size Q) := hp10.setRow Q
   have HB11 : Hid (Below w9.heap.size w9 (w10.setRow w9.heap.size (ptC Q))) := below_setRow hb10 (Nat.le_refl _) _
   clear hb9 hb10 HP8 HB8
   go_wp2_with (refine wpList_storeP rfl _ _ rfl w9.heap.size Q pt0 rfl rfl HQ.out.ch.1 HZ.out hp10 ?_)
   clear hp10 hw10
   obtain ⟨w11, hw11⟩ : ∃ w11, w10.setRow w9.heap.size (ptC Q) = w11 := ⟨_, rfl⟩
   rw [hw11] at HP11 HB11 ⊢
   clear hw11 hz
   obtain ⟨X1, hx1, hx2, hx3⟩ := g.post HW1.out (thenB HB9.out HB11.out)
   have HX1 : Hid (G.In B w11.drew a X1 s') := g.drew hx1
   have HX2 : Hid (Sole X w3 w11) := hx2
   have HX3 : Hid (∀ k ∈ X1, k ∈ X ∨ w3.heap.size ≤ k) := hx3
   have HNP : Hid (wr.heap.size ∉ X1) := g.other hx1 (HP9.out.below HB11.out) (by decide) (by decide) (by decide) (by decide) (by decide) (by decide)
   have HNQ : Hid (w9.heap.size ∉ X1) := g.other hx1 HP11.out.row (by decide) (by decide) (by decide) (by decide) (by decide) (by decide)
   have HNB : Hid (b ∉ X1) := by
    obtain ⟨cs, fr, e⟩ := HW6.out
    exact g.other hx1 (((thenB HB9.out HB11.out).block _ (lt_of_row e)).trans e) (by decide) (by decide) (by decide) (by decide) (by decide) (by decide)
   have HNG : Hid (pb ∉ X1) := by
    obtain ⟨cs, e⟩ := HW7.out
    exact g.other hx1 (((thenB HB9.out HB11.out).block _ (lt_of_row e)).trans e) (by decide) (by decide) (by decide) (by decide) (by decide) (by decide)
   have HBr : Hid (Below wr.heap.size wr w11) := thenB HB9.out HB11.out
   have hS0 : SRow w11.drew a ∧ PcRow w11.drew wr.heap.size p.c p.at_ b (o0 + p.o) p.n ∧ PtAt w11.drew w9.heap.size Q := ⟨g.srow HX1.out, (HP9.out.below HB11.out).below (Below.refl _ _).drew, ⟨HP11.out.row⟩⟩
   have lJ : ∀ W, (SRow W a ∧ PcRow W wr.heap.size p.c p.at_ b (o0 + p.o) p.n ∧ PtAt W w9.heap.size Q) → (Instr.loadAt 117 (.pointer (some ⟨w9.heap.size, 0, none⟩))).run Tryz.prog W = .ok (.agg (ptC Q)) W := fun W h => h.2.2.load HQ.out.ch.1
   have HCG : Hid (CgOk (dataC (datP ino p.c) Q)) := dataC_ok h0 h1 (by have := HPM.out; have := HDS.out; omega) HQ.out
   clear hx1 hx2 hx3
   go_wp2_with fail
   refine wp_region_noPanic ?_
   refine wp_region_held_drew (S := fun W => SRow W a ∧ PcRow W wr.heap.size p.c p.at_ b (o0 + p.o) p.n ∧ PtAt W w9.heap.size Q) (by kernel_rfl) hS0 (fun hHeld => ?_)
   refine tk 0 (.pointer (some ⟨a.s, 0, none⟩)) rfl ?_
   try simp only [nz]
   refine tk 1 (.pointer (some ⟨a.s, 0, none⟩)) rfl ?_
   try simp only [nz]
   refine tk 2 (.pointer (some ⟨a.s, 0, none⟩)) rfl ?_
   try simp only [nz]
   refine tk 3 (.pointer (some ⟨a.v, 0, none⟩)) rfl ?_ (fun W hSw => by (try dsimp only at hSw); (have z := hSw.1.c0; go_simp))
   try simp only [nz]
   refine tk 4 (.int .u32 ino) rfl ?_
   try simp only [nz]
   refine tk 5 (.pointer (some ⟨wr.heap.size, 0, none⟩)) rfl ?_
   try simp only [nz]
   refine tk 6 (.int .i64 (p.c : Int)) rfl ?_ (fun W hSw => by (try dsimp only at hSw); (have z := hSw.2.1.c0; go_simp))
   try simp only [nz]
   refine wpAnyH_take (i := 8) (v := .agg (ptC Q)) rfl (by kernel_rfl) (by kernel_rfl) (by kernel_rfl) (fun _ _ _ h => h) (yields_load (by rfl) _ _ rfl _ rfl _ lJ) (by assumption) ?_
   try simp only [nz]
   have cr := HPO.out w11.drew p.c (by have := HPM.out; have := HDS.out; omega)
   refine rd 7 rfl (fun K hK => ?_)
   go_simp
   go_wp2_with (go_at_call 154; refine cr.mono ?_; rintro e w12 ⟨rfl, hb12⟩)
   refine hK.out _ _ ⟨hHeld.1.below hb12, hHeld.2.1.below hb12, hHeld.2.2.below hb12⟩ (fun hHeld2 => ?_)
   clear hK K cr
   try simp only [nz]
   refine wpAnyH_take (i := 9) (v := .agg (cgC (dataC (datP ino p.c) Q))) rfl (by kernel_rfl) (by kernel_rfl) (by kernel_rfl) (fun _ _ _ h => h) (yields_build (by rfl) 119 _ rfl [(0, plV (datP ino p.c)), (6, .agg (ptC Q))] (by kernel_rfl) _ (bt_dataP (datP ino p.c) HQ.out.ch.1)) (by assumption) ?_
   try simp only [nz]
   have cp := g.puts (g.below HX1.out hb12) (dataC (datP ino p.c) Q) HCG.out HW5.out (by have := HN64.out; omega)
   refine rd 10 rfl (fun K hK => ?_)
   go_simp
   go_wp2_with (go_at_call 85; refine cp.mono ?_; rintro e w13 ⟨rfl, ho13⟩)
   have HO13 : Hid (G.Out B w11 a X1 (G.putS s' (dataC (datP ino p.c) Q)) w13) := Sgt.Out.pre (w1 := w12) ((Below.refl _ w11).drew.trans (hb12.mono (Nat.le_refl _))) ho13
   refine hK.out _ _ ⟨by obtain ⟨X2, k1, _⟩ := ho13; exact g.srow k1, hHeld2.2.1.sole ho13.sole HNP.out, hHeld2.2.2.sole ho13.sole HNQ.out⟩ (fun hHeld3 => ?_)
   clear hK K cp
   try simp only [nz]
   refine tk 11 (.int .i64 (G.putE s' (dataC (datP ino p.c) Q))) rfl ?_
   try simp only [nz]
   refine wpAnyH_done (by kernel_rfl) ?_ _
   refine NoPanic.normal ?_
   clear hHeld hHeld2 hHeld3 ho13 hb12 lJ hS0 HX1 HCG
   have HR2 : Hid ((if G.putE s' (dataC (datP ino p.c) Q) ≠ 0 then (G.putS s' (dataC (datP ino p.c) Q), G.putE s' (dataC (datP ino p.c) Q)) else exPut G (G.putS s' (dataC (datP ino p.c) Q)) ((P.drop (i + 1)).map (layC ino xs))) = R) := by
    have := HDR.out
    rw [HCE.out] at this
    exact this
   have HSK : Hid (G.Sk (G.putS s' (dataC (datP ino p.c) Q)) (N + i + 1)) := g.skP HW5.out _
   generalize G.putE s' (dataC (datP ino p.c) Q) = PE at *
   generalize G.putS s' (dataC (datP ino p.c) Q) = PS at *
   clear HDR HCE
   have HOW : Hid (G.Out B w3 a X PS w13) := Sgt.Out.then HX2.out HX3.out HO13.out
   by_cases hpe : PE = 0
   case neg =>
    have hpb : (PE != 0) = true := by simpa using hpe
    have HE : Hid (R = (PS, PE)) := by have := HR2.out; rw [if_pos hpe] at this; exact this.symm
    clear HR2
    have HO : Hid (G.Out B w a X PS w13) := Sgt.Out.pre HB3.out HOW.out
    go_wp2
    go_ret
    exact ⟨by rw [HE.out]; first | done | rfl, by rw [HE.out]; exact HO.out⟩
   subst hpe
   have HE : Hid (exPut G PS ((P.drop (i + 1)).map (layC ino xs)) = R) := by have := HR2.out; rw [if_neg (by simp)] at this; exact this
   clear HR2
   go_wp2
   go_roundg (n - (i + 1))
   case measure => omega
   case rel =>
    have hs13 := HO13.out.sole
    refine ⟨i + 1, PS, by rw [show ((i : Int) + 1) = ((i + 1 : Nat) : Int) by omega], by omega, by omega, HOW.out, ?_, ?_, HE.out, by rw [← Nat.add_assoc]; exact HSK.out, ?_, ?_⟩
    ·exact (HW2.out.below HBr.out).sole hs13 HNG.out
    ·exact (HW3.out.below HBr.out).sole hs13 HNB.out
    ·obtain ⟨cs, fr, e⟩ := HW6.out
     exact ⟨cs, fr, hs13.row ((HBr.out.block _ (lt_of_row e)).trans e) HNB.out⟩
    ·intro g0 off' e _
     simp only [Option.some.injEq, Addr.mk.injEq] at e
     obtain ⟨rfl, rfl, _⟩ := e
     obtain ⟨cs, e⟩ := HW7.out
     exact ⟨cs, hs13.row ((HBr.out.block _ (lt_of_row e)).trans e) HNG.out⟩
  ·obtain rfl : n = i := by omega
   obtain ⟨hw1, _, _, hw4, _⟩ := HW.out
   rw [List.drop_of_length_le (by have := HNL.out; omega)] at hw4
   have HE : Hid (R = (s', 0)) := hw4.symm
   have HO : Hid (G.Out B w a X s' wr) := Sgt.Out.pre HB3.out hw1
   clear hw1 hw4 HW
   go_wp2
   go_ret
   exact ⟨by rw [HE.out]; first | done | rfl, by rw [HE.out]; exact HO.out⟩
theorem wipe_g {G : Sgt} (g : G.Ok) {B : Nat} {w : World} {a : Sa} {X : List Nat} {s : G.S} {N : Nat} (h : G.In B w a X s) (ino : Int) (h0 : 0 ≤ ino) (h1 : ino ≤ 4294967295) (lo hi : Nat) (hlh : lo < hi) (hh5 : hi ≤ 512) (hk : G.Sk s N) (hN : N ≤ 3900) :
  Calls Tryz.prog 109 #[.pointer (some ⟨a.s, 0, none⟩), .int .u32 ino, .int .i64 (lo : Int), .int .i64 (hi : Int)] w fun e w' =>
  e = .returned (.int .i64 (exPut G s (wipeC ino lo hi)).2) ∧ G.Out B w a X (exPut G s (wipeC ino lo hi)).1 w' := by
 obtain ⟨R, hR⟩ : ∃ R, exPut G s (wipeC ino lo hi) = R := ⟨_, rfl⟩
 rw [hR]
 have HF : Hid (exPut G s (wipe0 ino lo ++ wipe1 ino lo hi) = R) := hR
 obtain ⟨q, hq⟩ : ∃ q, lo / 32 = q := ⟨_, rfl⟩
 obtain ⟨r, hrr⟩ : ∃ r, lo % 32 = r := ⟨_, rfl⟩
 obtain ⟨E, hE⟩ : ∃ E, (hi + 31) / 32 = E := ⟨_, rfl⟩
 obtain ⟨c0, hc0⟩ : ∃ c0, (lo + 31) / 32 = c0 := ⟨_, rfl⟩
 have hq' : (lo : Int) / 32 = (q : Int) := by omega
 have hr' : (lo : Int) % 32 = (r : Int) := by omega
 have hl0 : (0 : Int) ≤ (lo : Int) := by omega
 have hl1 : (lo : Int) ≤ 512 := by omega
 have HN : Hid (c0 ≤ E ∧ E ≤ 16 ∧ q ≤ 15 ∧ r ≤ 31 ∧ (hi + 31) / 32 = E ∧ (r = 0 → q = c0) ∧ (0 < r → q + 1 = c0)) := ⟨by omega, by omega, by omega, by omega, hE, by omega, by omega⟩
 have HW1 : Hid (wipe1 ino lo hi = (List.range' c0 (E - c0)).map fun (c : Nat) => goneC (datP ino c)) := by unfold Hid wipe1; rw [hE, hc0]
 have HW0 : Hid (wipe0 ino lo = if 0 < r then [dataC (datP ino (q : Int)) ⟨false, runM r (32 - r), zeroC⟩] else []) := by unfold Hid wipe0; rw [hq, hrr]
 have HH : Hid (G.In B w a X s) := h
 have HK : Hid (G.Sk s N) := hk
 have HNN : Hid (N ≤ 3900) := hN
 have HHI : Hid (hi ≤ 512) := hh5
 have HPO : Hid (∀ (W : World) (c : Nat), c ≤ 1000 → Calls Tryz.prog 154 #[.int .u32 ino, .int .i64 (c : Int)] W fun e w' => e = .returned (plV (datP ino c)) ∧ Below W.heap.size W w') := fun W c hc => placeOf_any W ino c hc
 generalize wipe0 ino lo = A0 at *
 generalize wipe1 ino lo hi = A1 at *
 clear h hk hN hh5 hE hc0 hq hrr hR
 go_enter Tryz.func109, Tryz.ntmps109
 go_upto_if 20 with fail
 rw [hr']
 try simp only [show ((0 : Int) < (r : Int)) = (0 < r) from propext (by omega)]
 obtain ⟨bb, hbb⟩ : ∃ bb, decide (0 < r) = bb := ⟨_, rfl⟩
 rw [hbb]
 have HBB : Hid (bb = decide (0 < r)) := hbb.symm
 clear hbb
 go_cut [9, 11, 12, 13] from 21 to 40 (fun s9 s11 s12 s13 wx => ∃ s1 : G.S, s9 = .int .i64 (c0 : Int) ∧ Hid (G.Out B w a X s1 wx) ∧ Hid (exPut G s1 A1 = R) ∧ Hid (G.Sk s1 (N + 1)))
 case first =>
  by_cases hr0 : r = 0
  ·subst hr0
   have HE1 : Hid (exPut G s A1 = R) := by
    have := HF.out
    rw [HW0.out, if_neg (by omega)] at this
    exact this
   have hqc : q = c0 := HN.out.2.2.2.2.2.1 rfl
   subst hqc
   obtain rfl : bb = false := by rw [HBB.out]; rfl
   go_wp2
   go_meet
   case rel => exact ⟨s, rfl, g.out HH.out (Below.refl _ _), HE1.out, g.skm HK.out (by omega)⟩
  ·have hrp : 0 < r := by omega
   have hrI : (0 : Int) < (r : Int) := by omega
   obtain rfl : bb = true := by rw [HBB.out]; simpa using hrp
   have hz := zeroPt
   have HZ : Hid (pt0.bytes.length = 32) := ch_zero.1
   have cz := zero_any w (r : Int)
   have hzz : zeroP (r : Int) = ⟨false, runM r (32 - r), zeroC⟩ := by unfold zeroP; have := HN.out; rw [if_neg (by omega)]; rfl
   have HQ : Hid (PtOk ⟨false, runM r (32 - r), zeroC⟩) := by have := zeroP_ok (r : Int); rw [hzz] at this; exact this
   rw [hzz] at cz
   have HE1 : Hid (exPut G s (dataC (datP ino (q : Int)) ⟨false, runM r (32 - r), zeroC⟩ :: A1) = R) := by
    have := HF.out
    rw [HW0.out, if_pos hrp] at this
    exact this
   generalize zeroE (r : Int) = ze at *
   generalize (⟨false, runM r (32 - r), zeroC⟩ : Pt) = Q at *
   clear HF HW0 HW1 hzz
   go_wp2_with fail
   refine cz.mono ?_
   rintro e w9 ⟨rfl, hb9⟩
   clear cz
   have HB9 : Hid (Below w.heap.size w w9) := hb9
   have hp10 := PtAt.laid w9 pt0
   have hb10 := bel1 w9 (.cells (ptC pt0) 117)
   obtain ⟨w10, hw10⟩ : ∃ w10, w9.alloc (.cells (ptC pt0) 117) = w10 := ⟨_, rfl⟩
   rw [hw10] at hp10 hb10
   have HP11 : Hid (PtAt (w10.setRow w9.heap.size (ptC Q)) w9.heap.size Q) := hp10.setRow Q
   have HB11 : Hid (Below w9.heap.size w9 (w10.setRow w9.heap.size (ptC Q))) := below_setRow hb10 (Nat.le_refl _) _
   clear hb9 hb10
   go_wp2_with (refine wpList_storeP rfl _ _ rfl w9.heap.size Q pt0 rfl rfl HQ.out.ch.1 HZ.out hp10 ?_)
   clear hp10 hw10
   obtain ⟨w11, hw11⟩ : ∃ w11, w10.setRow w9.heap.size (ptC Q) = w11 := ⟨_, rfl⟩
   rw [hw11] at HP11 HB11 ⊢
   clear hw11 hz
   have hx1 := g.below HH.out (thenB HB9.out HB11.out)
   have HX1 : Hid (G.In B w11.drew a X s) := g.drew hx1
   have HNQ : Hid (w9.heap.size ∉ X) := g.other hx1 HP11.out.row (by decide) (by decide) (by decide) (by decide) (by decide) (by decide)
   have hS0 : SRow w11.drew a ∧ PtAt w11.drew w9.heap.size Q := ⟨g.srow HX1.out, ⟨HP11.out.row⟩⟩
   have lJ : ∀ W, (SRow W a ∧ PtAt W w9.heap.size Q) → (Instr.loadAt 117 (.pointer (some ⟨w9.heap.size, 0, none⟩))).run Tryz.prog W = .ok (.agg (ptC Q)) W := fun W h => h.2.load HQ.out.ch.1
   have HCG : Hid (CgOk (dataC (datP ino q) Q)) := dataC_ok h0 h1 (by have := HN.out; omega) HQ.out
   clear hx1
   go_wp2_with fail
   refine wp_region_noPanic ?_
   refine wp_region_held_drew (S := fun W => SRow W a ∧ PtAt W w9.heap.size Q) (by kernel_rfl) hS0 (fun hHeld => ?_)
   refine tk 0 (.pointer (some ⟨a.s, 0, none⟩)) rfl ?_
   try simp only [nz]
   refine tk 1 (.pointer (some ⟨a.s, 0, none⟩)) rfl ?_
   try simp only [nz]
   refine tk 2 (.pointer (some ⟨a.s, 0, none⟩)) rfl ?_
   try simp only [nz]
   refine tk 3 (.pointer (some ⟨a.v, 0, none⟩)) rfl ?_ (fun W hSw => by (try dsimp only at hSw); (have z := hSw.1.c0; go_simp))
   try simp only [nz]
   refine tk 4 (.int .u32 ino) rfl ?_
   try simp only [nz]
   refine tk 5 (.int .i64 (q : Int)) rfl ?_
   try simp only [nz]
   refine wpAnyH_take (i := 7) (v := .agg (ptC Q)) rfl (by kernel_rfl) (by kernel_rfl) (by kernel_rfl) (fun _ _ _ h => h) (yields_load (by rfl) _ _ rfl _ rfl _ lJ) (by assumption) ?_
   try simp only [nz]
   have cr := HPO.out w11.drew q (by have := HN.out; omega)
   refine rd 6 rfl (fun K hK => ?_)
   go_simp
   go_wp2_with (go_at_call 154; refine cr.mono ?_; rintro e w12 ⟨rfl, hb12⟩)
   refine hK.out _ _ ⟨hHeld.1.below hb12, hHeld.2.below hb12⟩ (fun hHeld2 => ?_)
   clear hK K cr
   try simp only [nz]
   refine wpAnyH_take (i := 8) (v := .agg (cgC (dataC (datP ino q) Q))) rfl (by kernel_rfl) (by kernel_rfl) (by kernel_rfl) (fun _ _ _ h => h) (yields_build (by rfl) 119 _ rfl [(0, plV (datP ino q)), (6, .agg (ptC Q))] (by kernel_rfl) _ (bt_dataP (datP ino q) HQ.out.ch.1)) (by assumption) ?_
   try simp only [nz]
   have cp := g.puts (g.below HX1.out hb12) (dataC (datP ino q) Q) HCG.out HK.out (by have := HNN.out; omega)
   refine rd 9 rfl (fun K hK => ?_)
   go_simp
   go_wp2_with (go_at_call 85; refine cp.mono ?_; rintro e w13 ⟨rfl, ho13⟩)
   have HO13 : Hid (G.Out B w a X (G.putS s (dataC (datP ino q) Q)) w13) := Sgt.Out.pre (w1 := w12) ((thenB HB9.out HB11.out).drew.trans (hb12.mono (thenB HB9.out HB11.out).drew.size)) ho13
   refine hK.out _ _ ⟨by obtain ⟨X2, k1, _⟩ := ho13; exact g.srow k1, hHeld2.2.sole ho13.sole HNQ.out⟩ (fun hHeld3 => ?_)
   clear hK K cp
   try simp only [nz]
   refine tk 10 (.int .i64 (G.putE s (dataC (datP ino q) Q))) rfl ?_
   try simp only [nz]
   refine wpAnyH_done (by kernel_rfl) ?_ _
   refine NoPanic.normal ?_
   clear hHeld hHeld2 hHeld3 ho13 hb12 lJ hS0 HX1 HCG
   have HR2 : Hid ((if G.putE s (dataC (datP ino q) Q) ≠ 0 then (G.putS s (dataC (datP ino q) Q), G.putE s (dataC (datP ino q) Q)) else exPut G (G.putS s (dataC (datP ino q) Q)) A1) = R) := HE1.out
   have HSK : Hid (G.Sk (G.putS s (dataC (datP ino q) Q)) (N + 1)) := g.skP HK.out _
   generalize G.putE s (dataC (datP ino q) Q) = PE at *
   generalize G.putS s (dataC (datP ino q) Q) = PS at *
   clear HE1
   by_cases hpe : PE = 0
   case neg =>
    have hpb : (PE != 0) = true := by simpa using hpe
    have HE : Hid (R = (PS, PE)) := by have := HR2.out; rw [if_pos hpe] at this; exact this.symm
    clear HR2
    go_wp2
    go_ret
    exact ⟨by rw [HE.out]; first | done | rfl, by rw [HE.out]; exact HO13.out⟩
   subst hpe
   have HE : Hid (exPut G PS A1 = R) := by have := HR2.out; rw [if_neg (by simp)] at this; exact this
   have hqc : q + 1 = c0 := HN.out.2.2.2.2.2.2 hrp
   have hqcI : (q : Int) + 1 = (c0 : Int) := by omega
   have hq1000 : (q : Int) ≤ 1000 := by have := HN.out; omega
   clear HR2
   go_wp2
   go_meet
   case rel => exact ⟨PS, rfl, HO13.out, HE.out, HSK.out⟩
 case rest =>
  obtain ⟨s1, rfl, HO1, HE1, HK1⟩ := hcut
  obtain ⟨w5, rfl⟩ : ∃ w5, w5 = wc := ⟨_, rfl⟩
  clear HF HW0 hq' hr'
  have HA : Hid (exPut G s1 ((List.range' c0 (E - c0)).map fun (c : Nat) => goneC (datP ino c)) = R) := by rw [← HW1.out]; exact HE1.out
  clear HE1 HW1
  go_wp2
  go_loopg [9, 14] (E - c0) (fun kx s9 s14 wr => ∃ (c L : Nat) (s' : G.S), s9 = .int .i64 (c : Int) ∧ c + L = E ∧ L ≤ kx ∧ Hid (G.Out B w a X s' wr ∧ exPut G s' ((List.range' c L).map fun (c : Nat) => goneC (datP ino c)) = R ∧ G.Sk s' (N + 1 + c)))
  case atStart => exact ⟨c0, E - c0, s1, rfl, by have := HN.out; omega, by omega, HO1.out, HA.out, g.skm HK1.out (by omega)⟩
  case round =>
   obtain ⟨c, L, s', rfl, hcL, hkx, HW⟩ := hrel
   have hc16 : c ≤ 16 := by have := HN.out; omega
   by_cases hL : 0 < L
   ·obtain ⟨L', rfl⟩ : ∃ L', L = L' + 1 := ⟨L - 1, by omega⟩
    have hltI : (c : Int) * 32 < (hi : Int) := by have := HN.out; omega
    obtain ⟨hw1, hw2, hw3⟩ := HW.out
    have HE2 : Hid ((if G.putE s' (goneC (datP ino c)) ≠ 0 then (G.putS s' (goneC (datP ino c)), G.putE s' (goneC (datP ino c))) else exPut G (G.putS s' (goneC (datP ino c))) ((List.range' (c + 1) L').map fun (c : Nat) => goneC (datP ino c))) = R) := by
     rw [List.range'_succ, List.map_cons] at hw2
     exact hw2
    obtain ⟨X1, hx1, hx2, hx3⟩ := hw1
    have HX1 : Hid (G.In B wr.drew a X1 s') := g.drew hx1
    have HX2 : Hid (Sole X w wr) := hx2
    have HX3 : Hid (∀ k ∈ X1, k ∈ X ∨ w.heap.size ≤ k) := hx3
    have HSK3 : Hid (G.Sk s' (N + 1 + c)) := hw3
    have hS0 : SRow wr.drew a := g.srow HX1.out
    have HCG : Hid (CgOk (goneC (datP ino c))) := gone_ok (datP_ok h0 h1 (by omega))
    have hcI : (c : Int) ≤ 16 := by omega
    clear hw2 hw3 hx1 hx2 hx3 HW
    go_wp2_with fail
    refine wp_region_noPanic ?_
    refine wp_region_held_drew (S := fun W => SRow W a) (by kernel_rfl) hS0 (fun hHeld => ?_)
    refine tk 0 (.pointer (some ⟨a.s, 0, none⟩)) rfl ?_
    try simp only [nz]
    refine tk 1 (.pointer (some ⟨a.s, 0, none⟩)) rfl ?_
    try simp only [nz]
    refine tk 2 (.pointer (some ⟨a.s, 0, none⟩)) rfl ?_
    try simp only [nz]
    refine tk 3 (.pointer (some ⟨a.v, 0, none⟩)) rfl ?_ (fun W hSw => by (try dsimp only at hSw); (have z := hSw.c0; go_simp))
    try simp only [nz]
    refine tk 4 (.int .u32 ino) rfl ?_
    try simp only [nz]
    refine tk 5 (.int .i64 (c : Int)) rfl ?_
    try simp only [nz]
    have cr := HPO.out wr.drew c (by omega)
    refine rd 6 rfl (fun K hK => ?_)
    go_simp
    go_wp2_with (go_at_call 154; refine cr.mono ?_; rintro e w12 ⟨rfl, hb12⟩)
    refine hK.out _ _ (hHeld.below hb12) (fun hHeld2 => ?_)
    clear hK K cr
    try simp only [nz]
    refine wpAnyH_take (i := 7) (v := .agg (cgC (goneC (datP ino c)))) rfl (by kernel_rfl) (by kernel_rfl) (by kernel_rfl) (fun _ _ _ h => h) (yields_build (by rfl) 119 _ rfl [(0, plV (datP ino c)), (1, .bool true)] (by kernel_rfl) _ (bt_goneP (datP ino c))) (by assumption) ?_
    try simp only [nz]
    have cp := g.puts (g.below HX1.out hb12) (goneC (datP ino c)) HCG.out HSK3.out (by have := HNN.out; omega)
    refine rd 8 rfl (fun K hK => ?_)
    go_simp
    go_wp2_with (go_at_call 85; refine cp.mono ?_; rintro e w13 ⟨rfl, ho13⟩)
    have HO13 : Hid (G.Out B w a X (G.putS s' (goneC (datP ino c))) w13) := Sgt.Out.then HX2.out HX3.out (Sgt.Out.pre (w1 := w12) ((Below.refl _ wr).drew.trans (hb12.mono (Nat.le_refl _))) ho13)
    refine hK.out _ _ (by obtain ⟨X2, k1, _⟩ := ho13; exact g.srow k1) (fun hHeld3 => ?_)
    clear hK K cp
    try simp only [nz]
    refine tk 9 (.int .i64 (G.putE s' (goneC (datP ino c)))) rfl ?_
    try simp only [nz]
    refine wpAnyH_done (by kernel_rfl) ?_ _
    refine NoPanic.normal ?_
    clear hHeld hHeld2 hHeld3 ho13 hb12 hS0 HX1 HCG
    have HSK : Hid (G.Sk (G.putS s' (goneC (datP ino c))) (N + 1 + c + 1)) := g.skP HSK3.out _
    generalize G.putE s' (goneC (datP ino c)) = PE at *
    generalize G.putS s' (goneC (datP ino c)) = PS at *
    by_cases hpe : PE = 0
    case neg =>
     have hpb : (PE != 0) = true := by simpa using hpe
     have HE : Hid (R = (PS, PE)) := by have := HE2.out; rw [if_pos hpe] at this; exact this.symm
     clear HE2
     go_wp2
     go_ret
     exact ⟨by rw [HE.out]; first | done | rfl, by rw [HE.out]; exact HO13.out⟩
    subst hpe
    have HE : Hid (exPut G PS ((List.range' (c + 1) L').map fun (c : Nat) => goneC (datP ino c)) = R) := by have := HE2.out; rw [if_neg (by simp)] at this; exact this
    clear HE2
    go_wp2
    go_roundg L'
    case measure => omega
    case rel => exact ⟨c + 1, L', PS, by rw [show ((c : Int) + 1) = ((c + 1 : Nat) : Int) by omega], by omega, by omega, HO13.out, HE.out, by rw [← Nat.add_assoc]; exact HSK.out⟩
   ·obtain rfl : L = 0 := by omega
    have hltI : ¬ (c : Int) * 32 < (hi : Int) := by have := HN.out; omega
    obtain ⟨hw1, hw2, _⟩ := HW.out
    have HE : Hid (R = (s', 0)) := hw2.symm
    have HO : Hid (G.Out B w a X s' wr) := hw1
    clear hw1 hw2 HW
    go_wp2
    go_ret
    exact ⟨by rw [HE.out]; first | done | rfl, by rw [HE.out]; exact HO.out⟩
end Go.Proofs.YtiplhhaehbjghaaGreat
