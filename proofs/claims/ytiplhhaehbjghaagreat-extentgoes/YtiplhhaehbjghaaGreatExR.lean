/- The contract of extent.bytesOf (written by tools/laws/ExR_gen.py). -/
import Derived.Test.YtiplhhaehbjghaaGreatM1
import Derived.Test.YtiplhhaehbjghaaGreatExL
namespace Go.Proofs.YtiplhhaehbjghaaGreat
open Go.RowKit Go.Maps
set_option linter.unusedVariables false
set_option maxHeartbeats 32000000
set_option maxRecDepth 100000
set_option linter.unusedSimpArgs false
theorem soleRow {w : World} {k : Nat} {cs : Array Value} : Sole [k] w (w.setRow k cs) := ⟨rfl, rfl, rfl, by simp [World.setRow], fun i hi hn => setRow_other _ _ _ _ (by simpa using hn)⟩
theorem ItAt.sole {T : TypeId} {w w' : World} {g : Nat} {x : It} {X : List Nat} (h : ItAt T w g x) (hs : Sole X w w') (hn : g ∉ X) : ItAt T w' g x := ⟨hs.row h.row hn⟩
theorem it_byte {T : TypeId} {w : World} {g : Nat} {x : It} (h : ItAt T w g x) (hl : x.bytes.length = 32) {i : Nat} (hi : i < 32) : w.cell? ⟨g, 5 + i, none⟩ = some (.int .u8 (x.bytes.getD i 0)) := by
 rw [cell_of_row _ _ _ _ _ (0, 0) h.row]
 unfold itC
 rw [show (5 + i) = i + 5 by omega]
 simp [hi, hl]
theorem copy_chunk {T : TypeId} {w : World} {g : Nat} {x : It} (h : ItAt T w g x) (hl : x.bytes.length = 32) (hch : Byt x.bytes) (at_ n : Nat) (hn : at_ + n ≤ 32) (hp : 0 < n) (b o : Nat) (L : List Int) (ho : o + n ≤ L.length) (hb : w.heap[b]? = some (.cells (L.map (Value.int .u8)).toArray 5 (0, 0))) :
  (Builtin.copy_ #[188, 188] 3 #[.slice (some ⟨b, o, none⟩) n n, .slice (some ⟨g, 5 + at_, none⟩) (32 - at_) (32 - at_)]).run Tryz.prog w =
   .ok (goInt n) (w.setRow b ((L.take o ++ (x.bytes.drop at_).take n ++ L.drop (o + n)).map (Value.int .u8)).toArray) := by
 have hcl : (((x.bytes.drop at_).take n).map (Value.int .u8)).length = n := by rw [List.length_map, List.length_take, List.length_drop]; omega
 have hr := run_copy_row Tryz.prog w 188 188 3 5 b o n n ⟨g, 5 + at_, none⟩ (32 - at_) (32 - at_) (L.map (Value.int .u8)).toArray 5 (((x.bytes.drop at_).take n).map (Value.int .u8)) Tryz.underlying188 (by kernel_rfl) hb (by rw [hcl]; exact (Nat.min_eq_right (by omega)).symm)
  (fun j u hj => by
   have hj' : j < n := by
    rcases Nat.lt_or_ge j n with h | h
    ·exact h
    ·rw [List.getElem?_eq_none (by rw [hcl]; exact h)] at hj; cases hj
   have hadd : (⟨g, 5 + at_, none⟩ : Addr).add j = ⟨g, 5 + (at_ + j), none⟩ := by unfold Addr.add; split <;> simp_all [Nat.add_assoc]
   rw [hadd, it_byte h hl (by omega), ← hj, List.getElem?_map, List.getElem?_take, if_pos hj', List.getElem?_drop, List.getD_eq_getElem?_getD, List.getElem?_eq_getElem (by omega)]
   rfl) (by rw [hcl]; simpa using ho) (ints_oneCell _ _)
 rw [hr, hcl]
 congr 2
 simp
theorem bytesOf_g {G : Sgt} (g : G.Ok) {B : Nat} {w : World} {a : Sa} {X : List Nat} {s : G.S} {N : Nat} (h : G.In B w a X s) (ino : Int) (h0 : 0 ≤ ino) (h1 : ino ≤ 4294967295) (off n : Nat) (hn0 : 0 < n) (hn1 : n ≤ 64) (ho : off + n ≤ 512) (hk : G.Sk s N) (hN : N ≤ 3900) :
  Calls Tryz.prog 108 #[.pointer (some ⟨a.s, 0, none⟩), .int .u32 ino, .int .i64 (off : Int), .int .i64 (n : Int)] w fun e w' =>
  e = .returned (.tuple #[.string (exOut G (exGet G ino s (pcsL off n))).2.1, .int .i64 (exOut G (exGet G ino s (pcsL off n))).2.2]) ∧ G.Out B w a X (exOut G (exGet G ino s (pcsL off n))).1 w' := by
 have hmk := make_bytes w (n : Int) n rfl (by omega)
 obtain ⟨b, hb⟩ : ∃ b, w.heap.size = b := ⟨_, rfl⟩
 have HBN : Hid (w.heap.size = b) := hb
 have hrow1 := heap_alloc_new w (.cells (List.replicate n (Value.int .u8 0)).toArray 5)
 have hb1 := bel1 w (.cells (List.replicate n (Value.int .u8 0)).toArray 5)
 obtain ⟨w1, hw1⟩ : ∃ w1, w.alloc (.cells (List.replicate n (Value.int .u8 0)).toArray 5) = w1 := ⟨_, rfl⟩
 rw [hw1] at hmk hrow1 hb1
 rw [hb] at hmk hrow1
 have cp := pieces_any w1 b 0 n n (Nat.le_refl _) (by unfold maxLen; omega) hn1 off (by omega)
 have HR1 : Hid (w1.heap[b]? = some (.cells ((List.replicate n (0 : Int)).map (Value.int .u8)).toArray 5 (0, 0))) := by unfold Hid; rw [hrow1, List.map_replicate]
 have HPC : Hid (∀ p ∈ pcsL off n, 0 < p.n ∧ p.at_ + p.n ≤ 32 ∧ p.o + p.n ≤ n ∧ 32 * p.c + p.at_ = off + p.o) := fun p hp => pcsL_mem hp
 have HPL : Hid ((pcsL off n).length ≤ 64) := pcsL_len3 hn1
 have HB1 : Hid (Below w.heap.size w w1) := hb1
 have HH : Hid (G.In B w1 a X s) := g.below h hb1
 have HX0 : Hid (B ≤ w.heap.size ∧ ∀ k ∈ X, k < w.heap.size) := ⟨g.le h, g.lt h⟩
 have HK : Hid (G.Sk s N) := hk
 have HNN : Hid (N ≤ 3900 ∧ off + n ≤ 512 ∧ 0 < n) := ⟨hN, ho, hn0⟩
 have HPF : Hid (pcsL off n = pcsF n 0 off n) := rfl
 obtain ⟨P, hP⟩ : ∃ P, pcsL off n = P := ⟨_, rfl⟩
 rw [hP] at cp HPC HPL HPF ⊢
 obtain ⟨R, hR⟩ : ∃ R, exGet G ino s P = R := ⟨_, rfl⟩
 rw [hR]
 have HF : Hid (exGet G ino s P = R) := hR
 have HPO : Hid (∀ (W : World) (c : Nat), c ≤ 1000 → Calls Tryz.prog 154 #[.int .u32 ino, .int .i64 (c : Int)] W fun e w' => e = .returned (plV (datP ino c)) ∧ Below W.heap.size W w') := fun W c hc => placeOf_any W ino c hc
 clear h hb1 hk hn0 hn1 hN hP hR hrow1 hb hw1 ho
 go_enter Tryz.func108, Tryz.ntmps108
 go_wp2_with fail
 refine cp.mono ?_
 rintro e w3 ⟨pa, pc, rfl, hpo, hb3⟩
 clear cp hmk
 obtain ⟨m, hm⟩ : ∃ m, P.length = m := ⟨_, rfl⟩
 have HNL : Hid (P.length = m) := hm
 have HN64 : Hid (m ≤ 64) := by unfold Hid; rw [← hm]; exact HPL.out
 have hrd : RdZ 3 (pcE b 0) w3 (.slice pa m pc) P := by rw [← hm]; exact rdZ_own (pc_len b 0) hpo
 rw [hm] at hpo ⊢
 have HB3 : Hid (Below w.heap.size w w3) := thenB HB1.out hb3
 have HO3 : Hid (G.Out B w a X s w3) := Sgt.Out.pre HB1.out (g.out HH.out hb3)
 have HR3 : Hid (w3.heap[b]? = some (.cells ((List.replicate n (0 : Int)).map (Value.int .u8)).toArray 5 (0, 0))) := (hb3.block _ (lt_of_row HR1.out)).trans HR1.out
 have HG3 : Hid (∀ g0 off', pa = some ⟨g0, off', none⟩ → 0 < m → ∃ cs, w3.heap[g0]? = some (.cells cs 242 (0, 0))) := by
  intro g0 off' e hpos
  have h := hpo
  unfold OwnL at h
  subst e
  exact own_row h rfl
 have HRD : Hid (RdZ 3 (pcE b 0) w3 (.slice pa m pc) P) := hrd
 clear hpo hb3 hrd hm HR1 HH
 go_wp2
 go_loopg [22] m (fun kx s22 wr => ∃ (i : Nat) (s' : G.S) (ys : List Int), s22 = .int .i64 i ∧ i ≤ m ∧ m - i ≤ kx ∧ Hid (G.Out B w a X s' wr ∧ RdZ 3 (pcE b 0) wr (.slice pa m pc) P ∧ ys.length ≤ n ∧ Byt ys ∧
   wr.heap[b]? = some (.cells ((ys ++ List.replicate (n - ys.length) (0 : Int)).map (Value.int .u8)).toArray 5 (0, 0)) ∧ P.drop i = pcsF n ys.length (off + ys.length) (n - ys.length) ∧
   R = ((exGet G ino s' (P.drop i)).1, ys ++ (exGet G ino s' (P.drop i)).2.1, (exGet G ino s' (P.drop i)).2.2) ∧ G.Sk s' N ∧
   (∀ g0 off', pa = some ⟨g0, off', none⟩ → 0 < m → ∃ cs, wr.heap[g0]? = some (.cells cs 242 (0, 0)))))
 case atStart =>
  refine ⟨0, s, [], rfl, Nat.zero_le _, by omega, HO3.out, HRD.out, Nat.zero_le _, Byt.nil, ?_, ?_, ?_, HK.out, HG3.out⟩
  ·simpa using HR3.out
  ·simpa using HPF.out
  ·rw [List.drop_zero, HF.out]
   obtain ⟨r1, r2, r3⟩ := R
   rfl
 case round =>
  obtain ⟨i, s', ys, rfl, hin, hkx, HW⟩ := hrel
  by_cases hlt : i < m
  ·obtain ⟨p, hy⟩ : ∃ y, P[i]? = some y := ⟨_, List.getElem?_eq_getElem (by have := HNL.out; omega)⟩
   obtain ⟨hw1, hw2, hw3, hw4, hw5, hw6, hw7, hw8, hw9⟩ := HW.out
   obtain ⟨pb, poff, rfl⟩ : ∃ pb poff, pa = some ⟨pb, poff, none⟩ := by
    obtain ⟨⟨a', c', e, h1, h2, h3⟩, _⟩ := hw2
    simp only [Value.slice.injEq] at e
    obtain ⟨rfl, _, _⟩ := e
    obtain ⟨b', off', e, _⟩ := h3 (by intro e; subst e; simp at hy)
    exact ⟨b', off', e⟩
   obtain ⟨q0, q1, q2⟩ := pc_cells hw2 hy
   simp only [Nat.zero_add] at q0 q1 q2
   have HPM : Hid (0 < p.n ∧ p.at_ + p.n ≤ 32 ∧ p.o + p.n ≤ n ∧ 32 * p.c + p.at_ = off + p.o) := HPC.out p (List.mem_of_getElem? hy)
   have HDD : Hid (P.drop i = p :: P.drop (i + 1)) := by
    have hl : i < P.length := by have := HNL.out; omega
    have e := List.drop_eq_getElem_cons hl
    rw [List.getElem?_eq_getElem hl] at hy
    cases hy
    exact e
   have HPN : Hid (p.o = ys.length ∧ P.drop (i + 1) = pcsF n (ys.length + p.n) (off + (ys.length + p.n)) (n - (ys.length + p.n))) := by
    have e := hw6
    rw [HDD.out] at e
    by_cases hz : n - ys.length = 0
    ·rw [hz] at e
     have : pcsF n ys.length (off + ys.length) 0 = [] := by cases n <;> rfl
     rw [this] at e
     cases e
    ·rw [pcsF_next (by omega) (by omega)] at e
     simp only [List.cons.injEq] at e
     obtain ⟨rfl, e⟩ := e
     refine ⟨rfl, ?_⟩
     rw [e]
     dsimp only
     rw [show off + ys.length + pcN (off + ys.length) (n - ys.length) = off + (ys.length + pcN (off + ys.length) (n - ys.length)) by omega, show n - ys.length - pcN (off + ys.length) (n - ys.length) = n - (ys.length + pcN (off + ys.length) (n - ys.length)) by omega]
   have HP8 : Hid (PcRow (wr.alloc (.cells #[.int .i64 (p.c : Int), .int .i64 (p.at_ : Int), .slice (some ⟨b, p.o, none⟩) p.n p.n] 242)) wr.heap.size p.c p.at_ b p.o p.n) := heap_alloc_new wr _
   have HB8 : Hid (Below wr.heap.size wr (wr.alloc (.cells #[.int .i64 (p.c : Int), .int .i64 (p.at_ : Int), .slice (some ⟨b, p.o, none⟩) p.n p.n] 242))) := bel1 wr _
   obtain ⟨w8, hw8'⟩ : ∃ w8, wr.alloc (.cells #[.int .i64 (p.c : Int), .int .i64 (p.at_ : Int), .slice (some ⟨b, p.o, none⟩) p.n p.n] 242) = w8 := ⟨_, rfl⟩
   rw [hw8'] at HP8 HB8
   obtain ⟨X1, hx1, hx2, hx3⟩ := g.post hw1 HB8.out
   have HX1 : Hid (G.In B w8 a X1 s') := hx1
   have HX2 : Hid (Sole X w w8) := hx2
   have HX3 : Hid (∀ k ∈ X1, k ∈ X ∨ w.heap.size ≤ k) := hx3
   have HLX : Hid (∀ k ∈ X1, k < w8.heap.size) := g.lt hx1
   have HNP : Hid (wr.heap.size ∉ X1) := g.other hx1 HP8.out (by decide) (by decide) (by decide) (by decide) (by decide) (by decide)
   have HRB : Hid (w8.heap[b]? = some (.cells ((ys ++ List.replicate (n - ys.length) (0 : Int)).map (Value.int .u8)).toArray 5 (0, 0))) := (HB8.out.block _ (lt_of_row hw5)).trans hw5
   have HNB : Hid (b ∉ X1) := g.other hx1 HRB.out (by decide) (by decide) (by decide) (by decide) (by decide) (by decide)
   have HRG : Hid (∃ cs, w8.heap[pb]? = some (.cells cs 242 (0, 0))) := by
    obtain ⟨cs, e⟩ := hw9 pb poff rfl (by omega)
    exact ⟨cs, (HB8.out.block _ (lt_of_row e)).trans e⟩
   have HNG : Hid (pb ∉ X1) := by
    obtain ⟨cs, e⟩ := HRG.out
    exact g.other hx1 e (by decide) (by decide) (by decide) (by decide) (by decide) (by decide)
   have HW2 : Hid (RdZ 3 (pcE b 0) w8 (.slice (some ⟨pb, poff, none⟩) m pc) P) := hw2.below HB8.out
   have HYL : Hid (ys.length ≤ n ∧ Byt ys) := ⟨hw3, hw4⟩
   have HSK : Hid (G.Sk s' N) := hw8
   have HRE : Hid (R = ((exGet G ino s' (p :: P.drop (i + 1))).1, ys ++ (exGet G ino s' (p :: P.drop (i + 1))).2.1, (exGet G ino s' (p :: P.drop (i + 1))).2.2)) := by rw [← HDD.out]; exact hw7
   have hiI : (i : Int) < (m : Int) := by omega
   have hib : (i : Int) + 1 ≤ 1001 := by have := HN64.out; omega
   have hpl : PlOk (datP ino p.c) := datP_ok h0 h1 (by have := HPM.out; have := HNN.out; omega)
   have HCH : Hid (Ch (G.get s' (datP ino p.c)).1.bytes) := g.getO hx1 _
   have HGE : Hid (R = if (G.get s' (datP ino p.c)).2.2 ≠ 0 then (G.getS s' (datP ino p.c), ys, (G.get s' (datP ino p.c)).2.2) else
     ((exGet G ino (G.getS s' (datP ino p.c)) (P.drop (i + 1))).1, (ys ++ ((G.get s' (datP ino p.c)).1.bytes.drop p.at_).take p.n) ++ (exGet G ino (G.getS s' (datP ino p.c)) (P.drop (i + 1))).2.1, (exGet G ino (G.getS s' (datP ino p.c)) (P.drop (i + 1))).2.2)) := by
    have e := HRE.out
    have e2 : exGet G ino s' (p :: P.drop (i + 1)) = if (G.get s' (datP ino p.c)).2.2 ≠ 0 then (G.getS s' (datP ino p.c), [], (G.get s' (datP ino p.c)).2.2) else
     ((exGet G ino (G.getS s' (datP ino p.c)) (P.drop (i + 1))).1, ((G.get s' (datP ino p.c)).1.bytes.drop p.at_).take p.n ++ (exGet G ino (G.getS s' (datP ino p.c)) (P.drop (i + 1))).2.1, (exGet G ino (G.getS s' (datP ino p.c)) (P.drop (i + 1))).2.2) := rfl
    rw [e2] at e
    unfold Hid
    by_cases he : (G.get s' (datP ino p.c)).2.2 ≠ 0
    ·rw [if_pos he] at e ⊢; rw [e]; simp
    ·rw [if_neg he] at e ⊢; rw [e]; simp
   have HGS : Hid (G.Sk (G.getS s' (datP ino p.c)) N) := g.skG hw8 _
   have cg : ∀ W, G.In B W a X1 s' → Calls Tryz.prog 139 #[.pointer (some ⟨a.v, 0, none⟩), plV (datP ino p.c)] W fun e w' => e = .returned (.tuple #[.agg (itC (G.get s' (datP ino p.c)).1), .bool (G.get s' (datP ino p.c)).2.1, .int .i64 (G.get s' (datP ino p.c)).2.2]) ∧ G.Out B W a X1 (G.getS s' (datP ino p.c)) w' := fun W hW => g.gets hW _ hpl
   generalize G.getS s' (datP ino p.c) = S2 at *
   generalize G.get s' (datP ino p.c) = V at *
   obtain ⟨x, is, er⟩ := V
   dsimp only at cg HCH HGE
   have hz := zeroItem
   have len0 := ch_zero.1
   clear hw1 hw2 hw3 hw4 hw5 hw6 hw7 hw8 hw9 hy HW hx1 hx2 hx3 hpl HRE HDD
   go_upto_region 5 with fail
   try rw [hw8']
   clear q0 q1 q2 hw8'
   go_cut [13, 14, 15] from 26 to 38 (fun s13 s14 s15 wx => ∃ gi, s13 = .pointer (some ⟨gi, 0, none⟩) ∧ s14 = .bool is ∧ s15 = .int .i64 er ∧ Hid (ItAt 223 wx gi x) ∧ Hid (w8.heap.size ≤ gi) ∧ Hid (G.Out B w8 a X1 S2 wx))
   case first =>
    have hS0 : SRow w8.drew a ∧ PcRow w8.drew wr.heap.size p.c p.at_ b p.o p.n := ⟨g.srow (g.drew HX1.out), HP8.out.below (Below.refl _ _).drew⟩
    go_wp2_with fail
    refine wp_region_noPanic ?_
    refine wp_region_held_drew (S := fun W => SRow W a ∧ PcRow W wr.heap.size p.c p.at_ b p.o p.n) (by kernel_rfl) hS0 (fun hHeld => ?_)
    refine tk 0 (.pointer (some ⟨a.s, 0, none⟩)) rfl ?_
    try simp only [nz]
    refine tk 1 (.pointer (some ⟨a.s, 0, none⟩)) rfl ?_
    try simp only [nz]
    refine tk 2 (.pointer (some ⟨a.s, 0, none⟩)) rfl ?_
    try simp only [nz]
    refine tk 3 (.pointer (some ⟨a.v, 0, none⟩)) rfl ?_ (fun W hSw => by (try dsimp only at hSw); (have z := hSw.1.c0; go_simp))
    try simp only [nz]
    refine tk 4 (.int .u32 ino) rfl ?_
    try simp only [nz]
    refine tk 5 (.pointer (some ⟨wr.heap.size, 0, none⟩)) rfl ?_
    try simp only [nz]
    refine tk 6 (.int .i64 (p.c : Int)) rfl ?_ (fun W hSw => by (try dsimp only at hSw); (have z := hSw.2.c0; go_simp))
    try simp only [nz]
    have hi0 := g.drew HX1.out
    have hs0 : Below w8.heap.size w8 w8.drew := (Below.refl _ _).drew
    obtain ⟨wA, hwA⟩ : ∃ wA, wA = w8.drew := ⟨_, rfl⟩
    rw [← hwA] at hHeld hi0 hs0 ⊢
    clear hwA hS0
    refine wpAnyH_ready (rs := [7, 13]) (by kernel_rfl) (by simp) ?_
    refine AllReadyH.cons rfl (fun K hK => ?_) (AllReadyH.cons rfl (fun K hK => ?_) AllReadyH.nil)
    ·skip
     have cr := HPO.out wA p.c (by have := HPM.out; have := HNN.out; omega)
     go_simp
     go_wp2_with (go_at_call 154; refine cr.mono ?_; rintro e wB ⟨rfl, hbP⟩)
     have hHeldN := And.intro (SRow.below hHeld.1 hbP) (PcRow.below hHeld.2 hbP)
     clear hHeld
     refine hK.out _ _ hHeldN (fun hHeld => ?_)
     clear hK K cr hHeldN
     try simp only [nz]
     have hi1 := g.below hi0 hbP
     have hs1 := hs0.trans (hbP.mono hs0.size)
     refine wpAnyH_ready (rs := [8, 13]) (by kernel_rfl) (by simp) ?_
     refine AllReadyH.cons rfl (fun K hK => ?_) (AllReadyH.cons rfl (fun K hK => ?_) AllReadyH.nil)
     ·skip
      go_simp
      go_wp2_with (go_at_call 139; refine (cg _ hi1).mono ?_; rintro e wG ⟨rfl, hoG⟩)
      have hsG := hoG.sole
      have hHeldN : SRow wG a ∧ PcRow wG wr.heap.size p.c p.at_ b p.o p.n := ⟨by obtain ⟨X2, k1, _⟩ := hoG; exact g.srow k1, hHeld.2.sole hsG HNP.out⟩
      clear hHeld
      refine hK.out _ _ hHeldN (fun hHeld => ?_)
      clear hK K hHeldN
      try simp only [nz]
      refine tk 9 (.tuple #[.agg (itC x), .bool is, .int .i64 er]) rfl ?_
      try simp only [nz]
      refine tk 10 (.agg (itC x)) rfl ?_
      try simp only [nz]
      refine tk 11 (.bool is) rfl ?_
      try simp only [nz]
      refine tk 12 (.int .i64 er) rfl ?_
      try simp only [nz]
      refine rd 13 rfl (fun K hK => ?_)
      go_simp
      go_wp2
      have hat := ItAt.laid 223 wG it0
      have hba := bel1 wG (.cells (itC it0) 223)
      obtain ⟨GI, hg0⟩ : ∃ G0, wG.heap.size = G0 := ⟨_, rfl⟩
      have hHeldN := And.intro (SRow.below hHeld.1 hba) (PcRow.below hHeld.2 hba)
      clear hHeld
      refine hK.out _ _ hHeldN (fun hHeld => ?_)
      clear hK K
      obtain ⟨wH, hnw⟩ : ∃ wz, wG.alloc (.cells (itC it0) 223) = wz := ⟨_, rfl⟩
      rw [hnw] at hat hba hHeld ⊢
      rw [hg0] at hat ⊢
      try simp only [nz]
      clear hHeldN hnw
      have hgi : w8.heap.size ≤ GI := by rw [← hg0]; exact Nat.le_trans hs1.size hsG.size
      have hO := g.post (Sgt.Out.pre hs1 hoG) hba
      refine rd 14 rfl (fun K hK => ?_)
      rw [if_pos (by rfl)]
      refine wp_stI _ _ rfl GI x it0 rfl rfl HCH.out.1 len0 hat ?_
      have HFI : Hid (G.Out B w8 a X1 S2 (wH.setRow GI (itC x))) := g.fin (g.le HX1.out) hO hgi hat.row (by decide) (by decide) (by decide) (by decide) (by decide) (by decide) (by decide) (by decide) soleRow
      have HAI : Hid (ItAt 223 (wH.setRow GI (itC x)) GI x) := hat.setRow x
      have hne : wr.heap.size ≠ GI := by have := lt_of_row HP8.out; omega
      have hne2 : a.s ≠ GI := by intro e; have := lt_of_row (g.srow HX1.out); omega
      refine hK.out _ _ ⟨(setRow_other _ _ _ _ hne2).trans hHeld.1, (setRow_other _ _ _ _ hne).trans hHeld.2⟩ (fun hHeld9 => ?_)
      clear hK K
      try simp only [nz]
      refine tk 15 (.bool is) rfl ?_
      try simp only [nz]
      refine tk 16 (.int .i64 er) rfl ?_
      try simp only [nz]
      refine wpAnyH_done (by kernel_rfl) ?_ _
      refine NoPanic.normal ?_
      clear hHeld hHeld9
      go_wp2_with fail
      go_meet
      case rel => exact ⟨GI, rfl, rfl, rfl, HAI, hgi, HFI⟩
     ·skip
      go_simp
      go_wp2
      have hat := ItAt.laid 223 wB it0
      have hba := bel1 wB (.cells (itC it0) 223)
      obtain ⟨GI, hg0⟩ : ∃ G0, wB.heap.size = G0 := ⟨_, rfl⟩
      have hHeldN := And.intro (SRow.below hHeld.1 hba) (PcRow.below hHeld.2 hba)
      clear hHeld
      refine hK.out _ _ hHeldN (fun hHeld => ?_)
      clear hK K
      obtain ⟨wH, hnw⟩ : ∃ wz, wB.alloc (.cells (itC it0) 223) = wz := ⟨_, rfl⟩
      rw [hnw] at hat hba hHeld ⊢
      rw [hg0] at hat ⊢
      try simp only [nz]
      clear hHeldN hnw
      have hgi : w8.heap.size ≤ GI := by rw [← hg0]; exact hs1.size
      have hi2 := g.below hi1 hba
      refine rd 8 rfl (fun K hK => ?_)
      go_simp
      go_wp2_with (go_at_call 139; refine (cg _ hi2).mono ?_; rintro e wG ⟨rfl, hoG⟩)
      have hsG := hoG.sole
      have hHeldN : SRow wG a ∧ PcRow wG wr.heap.size p.c p.at_ b p.o p.n := ⟨by obtain ⟨X2, k1, _⟩ := hoG; exact g.srow k1, hHeld.2.sole hsG HNP.out⟩
      clear hHeld
      refine hK.out _ _ hHeldN (fun hHeld => ?_)
      clear hK K hHeldN
      try simp only [nz]
      refine tk 9 (.tuple #[.agg (itC x), .bool is, .int .i64 er]) rfl ?_
      try simp only [nz]
      refine tk 10 (.agg (itC x)) rfl ?_
      try simp only [nz]
      refine tk 11 (.bool is) rfl ?_
      try simp only [nz]
      refine tk 12 (.int .i64 er) rfl ?_
      try simp only [nz]
      have hat := hat.sole hsG (fun e => by have := HLX.out _ e; omega)
      have hO := Sgt.Out.pre (hs1.trans (hba.mono hs1.size)) hoG
      refine rd 14 rfl (fun K hK => ?_)
      rw [if_pos (by rfl)]
      refine wp_stI _ _ rfl GI x it0 rfl rfl HCH.out.1 len0 hat ?_
      have HFI : Hid (G.Out B w8 a X1 S2 (wG.setRow GI (itC x))) := g.fin (g.le HX1.out) hO hgi hat.row (by decide) (by decide) (by decide) (by decide) (by decide) (by decide) (by decide) (by decide) soleRow
      have HAI : Hid (ItAt 223 (wG.setRow GI (itC x)) GI x) := hat.setRow x
      have hne : wr.heap.size ≠ GI := by have := lt_of_row HP8.out; omega
      have hne2 : a.s ≠ GI := by intro e; have := lt_of_row (g.srow HX1.out); omega
      refine hK.out _ _ ⟨(setRow_other _ _ _ _ hne2).trans hHeld.1, (setRow_other _ _ _ _ hne).trans hHeld.2⟩ (fun hHeld9 => ?_)
      clear hK K
      try simp only [nz]
      refine tk 15 (.bool is) rfl ?_
      try simp only [nz]
      refine tk 16 (.int .i64 er) rfl ?_
      try simp only [nz]
      refine wpAnyH_done (by kernel_rfl) ?_ _
      refine NoPanic.normal ?_
      clear hHeld hHeld9
      go_wp2_with fail
      go_meet
      case rel => exact ⟨GI, rfl, rfl, rfl, HAI, hgi, HFI⟩
    ·skip
     go_simp
     go_wp2
     have hat := ItAt.laid 223 wA it0
     have hba := bel1 wA (.cells (itC it0) 223)
     obtain ⟨GI, hg0⟩ : ∃ G0, wA.heap.size = G0 := ⟨_, rfl⟩
     have hHeldN := And.intro (SRow.below hHeld.1 hba) (PcRow.below hHeld.2 hba)
     clear hHeld
     refine hK.out _ _ hHeldN (fun hHeld => ?_)
     clear hK K
     obtain ⟨wH, hnw⟩ : ∃ wz, wA.alloc (.cells (itC it0) 223) = wz := ⟨_, rfl⟩
     rw [hnw] at hat hba hHeld ⊢
     rw [hg0] at hat ⊢
     try simp only [nz]
     clear hHeldN hnw
     have hgi : w8.heap.size ≤ GI := by rw [← hg0]; exact hs0.size
     have hi2 := g.below hi0 hba
     have hs2 := hs0.trans (hba.mono hs0.size)
     refine rd 7 rfl (fun K hK => ?_)
     have cr := HPO.out wH p.c (by have := HPM.out; have := HNN.out; omega)
     go_simp
     go_wp2_with (go_at_call 154; refine cr.mono ?_; rintro e wB ⟨rfl, hbP⟩)
     have hHeldN := And.intro (SRow.below hHeld.1 hbP) (PcRow.below hHeld.2 hbP)
     clear hHeld
     refine hK.out _ _ hHeldN (fun hHeld => ?_)
     clear hK K cr hHeldN
     try simp only [nz]
     have hi1 := g.below hi2 hbP
     have hs1 := hs2.trans (hbP.mono hs2.size)
     have hat := hat.below hbP
     refine rd 8 rfl (fun K hK => ?_)
     go_simp
     go_wp2_with (go_at_call 139; refine (cg _ hi1).mono ?_; rintro e wG ⟨rfl, hoG⟩)
     have hsG := hoG.sole
     have hHeldN : SRow wG a ∧ PcRow wG wr.heap.size p.c p.at_ b p.o p.n := ⟨by obtain ⟨X2, k1, _⟩ := hoG; exact g.srow k1, hHeld.2.sole hsG HNP.out⟩
     clear hHeld
     refine hK.out _ _ hHeldN (fun hHeld => ?_)
     clear hK K hHeldN
     try simp only [nz]
     refine tk 9 (.tuple #[.agg (itC x), .bool is, .int .i64 er]) rfl ?_
     try simp only [nz]
     refine tk 10 (.agg (itC x)) rfl ?_
     try simp only [nz]
     refine tk 11 (.bool is) rfl ?_
     try simp only [nz]
     refine tk 12 (.int .i64 er) rfl ?_
     try simp only [nz]
     have hat := hat.sole hsG (fun e => by have := HLX.out _ e; omega)
     have hO := Sgt.Out.pre hs1 hoG
     refine rd 14 rfl (fun K hK => ?_)
     rw [if_pos (by rfl)]
     refine wp_stI _ _ rfl GI x it0 rfl rfl HCH.out.1 len0 hat ?_
     have HFI : Hid (G.Out B w8 a X1 S2 (wG.setRow GI (itC x))) := g.fin (g.le HX1.out) hO hgi hat.row (by decide) (by decide) (by decide) (by decide) (by decide) (by decide) (by decide) (by decide) soleRow
     have HAI : Hid (ItAt 223 (wG.setRow GI (itC x)) GI x) := hat.setRow x
     have hne : wr.heap.size ≠ GI := by have := lt_of_row HP8.out; omega
     have hne2 : a.s ≠ GI := by intro e; have := lt_of_row (g.srow HX1.out); omega
     refine hK.out _ _ ⟨(setRow_other _ _ _ _ hne2).trans hHeld.1, (setRow_other _ _ _ _ hne).trans hHeld.2⟩ (fun hHeld9 => ?_)
     clear hK K
     try simp only [nz]
     refine tk 15 (.bool is) rfl ?_
     try simp only [nz]
     refine tk 16 (.int .i64 er) rfl ?_
     try simp only [nz]
     refine wpAnyH_done (by kernel_rfl) ?_ _
     refine NoPanic.normal ?_
     clear hHeld hHeld9
     go_wp2_with fail
     go_meet
     case rel => exact ⟨GI, rfl, rfl, rfl, HAI, hgi, HFI⟩
   case rest =>
    obtain ⟨gi, rfl, rfl, rfl, HI5, HGI, HO5⟩ := hcut
    obtain ⟨w16, rfl⟩ : ∃ w16, w16 = wc := ⟨_, rfl⟩
    have HS5 : Hid (Sole X1 w8 w16) := HO5.out.sole
    have HP16 : Hid (PcRow w16 wr.heap.size p.c p.at_ b p.o p.n) := HP8.out.sole HS5.out HNP.out
    have HR16 : Hid (w16.heap[b]? = some (.cells ((ys ++ List.replicate (n - ys.length) (0 : Int)).map (Value.int .u8)).toArray 5 (0, 0))) := HS5.out.row HRB.out HNB.out
    have HOW : Hid (G.Out B w a X S2 w16) := Sgt.Out.then HX2.out HX3.out HO5.out
    clear cg hz
    by_cases he : er = 0
    case neg =>
     have heb : (er != 0) = true := by simpa using he
     have HE : Hid (R = (S2, ys, er)) := by have := HGE.out; rw [if_pos he] at this; exact this
     have HE2 : Hid (exOut G R = (S2, ⟨#[]⟩, er)) := by unfold Hid exOut; rw [HE.out]; dsimp only; rw [if_pos he]
     clear HGE HE
     go_wp2
     go_ret2
     exact ⟨by rw [HE2.out]; first | done | rfl, by rw [HE2.out]; exact HOW.out⟩
    subst he
    have HE : Hid (R = ((exGet G ino S2 (P.drop (i + 1))).1, (ys ++ (x.bytes.drop p.at_).take p.n) ++ (exGet G ino S2 (P.drop (i + 1))).2.1, (exGet G ino S2 (P.drop (i + 1))).2.2)) := by have := HGE.out; rw [if_neg (by simp)] at this; exact this
    clear HGE
    have hcpy := copy_chunk (w := w16.drew) (g := gi) (x := x) ⟨HI5.out.row⟩ HCH.out.1 HCH.out.2 p.at_ p.n HPM.out.2.1 HPM.out.1 b p.o (ys ++ List.replicate (n - ys.length) (0 : Int)) (by have := HPM.out; have := HYL.out; simp; omega) HR16.out
    have HL2 : Hid ((ys ++ List.replicate (n - ys.length) (0 : Int)).take p.o ++ (x.bytes.drop p.at_).take p.n ++ (ys ++ List.replicate (n - ys.length) (0 : Int)).drop (p.o + p.n) = (ys ++ (x.bytes.drop p.at_).take p.n) ++ List.replicate (n - (ys ++ (x.bytes.drop p.at_).take p.n).length) (0 : Int)) := by
     have h1 := HPN.out.1
     have h2 := HCH.out.1
     have h3 := HPM.out
     have hl : ((x.bytes.drop p.at_).take p.n).length = p.n := by rw [List.length_take, List.length_drop]; omega
     unfold Hid
     rw [h1, List.take_left, List.drop_append, List.drop_of_length_le (by omega : ys.length ≤ ys.length + p.n), List.nil_append, List.drop_replicate, List.length_append, hl]
     congr 2
     omega
    rw [HL2.out] at hcpy
    have HYS : Hid ((ys ++ (x.bytes.drop p.at_).take p.n).length = ys.length + p.n) := by
     have h2 := HCH.out.1
     have h3 := HPM.out
     unfold Hid
     rw [List.length_append, List.length_take, List.length_drop]; omega
    have HYB : Hid (Byt (ys ++ (x.bytes.drop p.at_).take p.n)) := HYL.out.2.append ((HCH.out.2.drop _).take _)
    generalize (ys ++ (x.bytes.drop p.at_).take p.n) = ys2 at *
    have hat : (p.at_ : Int) ≤ 32 := by have := HPM.out; omega
    have hatN : p.at_ < 32 := by have := HPM.out; omega
    have hat32 : ¬ 32 = p.at_ := by omega
    clear HL2
    obtain ⟨w17, hw17⟩ : ∃ w17, w16.drew.setRow b ((ys2 ++ List.replicate (n - ys2.length) (0 : Int)).map (Value.int .u8)).toArray = w17 := ⟨_, rfl⟩
    have hs17 : Sole [b] w16 w17 := by rw [← hw17]; exact (Sole.drew w16 [b]).trans soleRow
    have hr17 : w17.heap[b]? = some (.cells ((ys2 ++ List.replicate (n - ys2.length) (0 : Int)).map (Value.int .u8)).toArray 5 (0, 0)) := by rw [← hw17]; exact setRow_heap _ _ _ _ _ _ HR16.out
    rw [hw17] at hcpy
    have hP17 : PcRow w17 wr.heap.size p.c p.at_ b p.o p.n := HP16.out.sole hs17 (by have := lt_of_row HR16.out; have := HBN.out; intro e; rw [List.mem_singleton] at e; exact absurd rfl (ne_of_type (e ▸ HP16.out) HR16.out (by decide)))
    have HS17 : Hid (Sole [b] w16 w17) := hs17
    have HR17 : Hid (w17.heap[b]? = some (.cells ((ys2 ++ List.replicate (n - ys2.length) (0 : Int)).map (Value.int .u8)).toArray 5 (0, 0))) := hr17
    have HP17 : Hid (PcRow w17 wr.heap.size p.c p.at_ b p.o p.n) := hP17
    clear hs17 hr17 hP17 hw17
    go_wp2_with fail
    refine wp_region_noPanic ?_
    refine wp_region_held_drew (S := fun W => PcRow W wr.heap.size p.c p.at_ b p.o p.n) (by kernel_rfl) (HP16.out.below (Below.refl _ _).drew) (fun hHeld => ?_)
    refine tk 0 (.pointer (some ⟨wr.heap.size, 2, none⟩)) rfl ?_
    try simp only [nz]
    refine tk 1 (.slice (some ⟨b, p.o, none⟩) p.n p.n) rfl ?_ (fun W hSw => by (try dsimp only at hSw); (have z := hSw.c2; go_simp))
    try simp only [nz]
    refine tk 2 (.pointer (some ⟨gi, 5, none⟩)) rfl ?_
    try simp only [nz]
    refine tk 3 (.pointer (some ⟨wr.heap.size, 1, none⟩)) rfl ?_
    try simp only [nz]
    refine tk 4 (.int .i64 (p.at_ : Int)) rfl ?_ (fun W hSw => by (try dsimp only at hSw); (have z := hSw.c1; go_simp))
    try simp only [nz]
    refine tk 5 (.slice (some ⟨gi, 5 + p.at_, none⟩) (32 - p.at_) (32 - p.at_)) rfl ?_
    try simp only [nz]
    refine rd 6 rfl (fun K hK => ?_)
    go_simp
    refine hK.out _ _ HP17.out (fun hHeld2 => ?_)
    clear hK K
    try simp only [nz]
    refine wpAnyH_done (by kernel_rfl) ?_ _
    refine NoPanic.normal ?_
    clear hHeld hHeld2 hcpy hat hatN hat32
    have HFO : Hid (G.Out B w a X S2 w17) := g.fin HX0.out.1 HOW.out (by rw [HBN.out]; exact Nat.le_refl _) HR16.out (by decide) (by decide) (by decide) (by decide) (by decide) (by decide) (by decide) (by decide) HS17.out
    go_wp2
    go_roundg (m - (i + 1))
    case measure => omega
    case rel =>
     have hbg : pb ≠ b := by
      obtain ⟨cs, e⟩ := HRG.out
      exact ne_of_type e HRB.out (by decide)
     refine ⟨i + 1, S2, ys2, by rw [show ((i : Int) + 1) = ((i + 1 : Nat) : Int) by omega], by omega, by omega, HFO.out, ?_, ?_, HYB.out, HR17.out, ?_, HE.out, HGS.out, ?_⟩
     ·exact (HW2.out.sole HS5.out HNG.out).sole HS17.out (by simpa using hbg)
     ·rw [HYS.out]; have := HPM.out; have := HPN.out.1; omega
     ·rw [HYS.out]; exact HPN.out.2
     ·intro g0 off' e _
      simp only [Option.some.injEq, Addr.mk.injEq] at e
      obtain ⟨rfl, rfl, _⟩ := e
      obtain ⟨cs, e⟩ := HRG.out
      exact ⟨cs, HS17.out.row (HS5.out.row e HNG.out) (by simpa using hbg)⟩
  ·obtain rfl : m = i := by omega
   obtain ⟨hw1, _, hw3, hw4, hw5, hw6, hw7, _⟩ := HW.out
   rw [List.drop_of_length_le (by have := HNL.out; omega)] at hw6 hw7
   have hyn : n - ys.length = 0 := by
    cases hz : n - ys.length with
    | zero => rfl
    | succ t =>
     rw [pcsF_next (by omega) (by omega)] at hw6
     cases hw6
   have HE : Hid (R = (s', ys, 0)) := by
    unfold Hid; rw [hw7]; unfold exGet; simp
   rw [hyn, List.replicate_zero, List.append_nil] at hw5
   have hrd : Rd wr (.slice (some ⟨b, 0, none⟩) n n) ys := by
    refine ⟨_, _, by rw [show n = ys.length by omega], Nat.le_refl _, ?_, (by intro e; cases e), fun _ => ⟨b, 0, rfl, lt_of_row hw5, fun j hj => ?_⟩⟩
    ·unfold maxLen; have := HNN.out; omega
    ·rw [Nat.zero_add, cell_of_row _ _ j _ _ (0, 0) hw5]
     simp [hj]
   have hcv := hrd.conv
   have HE2 : Hid (exOut G R = (s', strOfNums ys, 0)) := by unfold Hid exOut; rw [HE.out]; rfl
   have HO : Hid (G.Out B w a X s' wr) := hw1
   generalize strOfNums ys = out at *
   clear hw1 hw3 hw4 hw5 hw6 hw7 hrd HW
   go_wp2
   go_ret2
   exact ⟨by rw [HE2.out]; first | done | rfl, by rw [HE2.out]; exact HO.out⟩
end Go.Proofs.YtiplhhaehbjghaaGreat
