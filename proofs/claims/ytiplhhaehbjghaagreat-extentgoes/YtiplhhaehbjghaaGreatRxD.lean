/- The contract of the law's do over extent: both tell the same (written by tools/laws/RxD_gen.py). -/
import Derived.Test.YtiplhhaehbjghaaGreatM1
import Derived.Test.YtiplhhaehbjghaaGreatRxT
import Derived.Test.YtiplhhaehbjghaaGreatRxR
import Derived.Test.YtiplhhaehbjghaaGreatID
import Derived.Test.YtiplhhaehbjghaaGreatExArg
namespace Go.Proofs.YtiplhhaehbjghaaGreat
open Go.RowKit Go.Maps
set_option linter.unusedVariables false
set_option maxHeartbeats 32000000
set_option maxRecDepth 100000
set_option linter.unusedSimpArgs false
theorem iv_sz {s : Sg} (h : Iv s) (ino : Int) : Iv (exSz SgP s ino).1 := by
 have e0 : exSz SgP s ino = if (fdR s ino).2 ≠ 0 then (s, 0, (fdR s ino).2) else if (fdR s ino).1.k = 2 then (s, 0, 193) else sizeR s ino := rfl
 rw [e0]
 split
 ·exact h
 split
 ·exact h
 ·exact h.size ino
theorem iv_put : ∀ (cs : List Cg) {s : Sg}, Iv s → (∀ c ∈ cs, CgOk c ∧ c.pl.part = 3) → Iv (exPut SgP s cs).1
 | [], s, h, hc => h
 | c :: cs, s, h, hc => by
  obtain ⟨h1, h2⟩ := hc c List.mem_cons_self
  have hp : Iv { s with d := putS s.d c } := h.put h1 (fun ino e => by rw [e] at h2; simp [recP] at h2)
  by_cases hq : (putX s.d c).2 = 0
  ·have e1 : exPut SgP s (c :: cs) = exPut SgP ({ s with d := putS s.d c } : Sg) cs := if_neg (show ¬ ((putX s.d c).2 ≠ 0) by simpa using hq)
   rw [e1]
   exact iv_put cs hp (fun d hd => hc d (List.mem_cons_of_mem _ hd))
  ·have e1 : exPut SgP s (c :: cs) = (({ s with d := putS s.d c } : Sg), (putX s.d c).2) := if_pos hq
   rw [e1]
   exact hp
theorem iv_set {s : Sg} (h : Iv s) {ino : Int} (h0 : 0 ≤ ino) (h1 : ino ≤ 4294967295) {z : Int} (hz0 : 0 ≤ z) (hz1 : z ≤ 512) : Iv (setR s ino [(4, z)]).1 := h.set ino h0 h1 _ (by intro f hf; simp at hf; subst hf; dsimp only; omega)
theorem iv_get : ∀ (ps : List Pc3) (s : Sg) (ino : Int), (exGet SgP ino s ps).1 = s
 | [], s, ino => rfl
 | p :: ps, s, ino => by
  have e : exGet SgP ino s (p :: ps) = if (vgR s.l s.d (datP ino p.c)).2.2 ≠ 0 then (s, [], (vgR s.l s.d (datP ino p.c)).2.2) else ((exGet SgP ino s ps).1, ((vgR s.l s.d (datP ino p.c)).1.bytes.drop p.at_).take p.n ++ (exGet SgP ino s ps).2.1, (exGet SgP ino s ps).2.2) := rfl
  rw [e]
  split
  ·rfl
  ·exact iv_get ps s ino
theorem iv_rd {s : Sg} (h : Iv s) (ino off n : Int) : Iv (rdX s ino off n).1 := by
 have hz := iv_sz h ino
 unfold rdX exRd
 split
 ·exact h
 generalize exSz SgP s ino = Z at *
 obtain ⟨S1, z, e⟩ := Z
 change Sg at S1
 unfold exRd1
 split
 ·exact hz
 unfold exRd2
 split
 ·exact hz
 ·have e1 : (exOut SgP (exGet SgP ino (SgP.rd S1 (tcB ino off (off + min n (z - off)))) (pcsL off.toNat (min n (z - off)).toNat))).1 = ({ S1 with R := addL S1.R (tcB ino off (off + min n (z - off))) } : Sg) := iv_get _ _ _
  have hz' : Iv S1 := hz
  show Iv (exOut SgP (exGet SgP ino (SgP.rd S1 (tcB ino off (off + min n (z - off)))) (pcsL off.toNat (min n (z - off)).toNat))).1
  rw [e1]
  exact hz'.same rfl rfl
theorem lay_all {ino : Int} (h0 : 0 ≤ ino) (h1 : ino ≤ 4294967295) {off len : Nat} (hb : off + len ≤ 512) {xs : List Int} (hx : Byt xs) (hl : xs.length = len) : ∀ c ∈ (pcsL off len).map (layC ino xs), CgOk c ∧ c.pl.part = 3 := by
 intro c hc
 obtain ⟨p, hp, rfl⟩ := List.mem_map.1 hc
 obtain ⟨a1, a2, a3, a4⟩ := pcsL_mem hp
 exact ⟨dataC_ok h0 h1 (by omega) (ofP_ok ((hx.drop _).take _) (by rw [List.length_take, List.length_drop]; omega)), rfl⟩
theorem wipe_all {ino : Int} (h0 : 0 ≤ ino) (h1 : ino ≤ 4294967295) {lo hi : Nat} (hb : hi ≤ 512) (hl : lo < hi) : ∀ c ∈ wipeC ino lo hi, CgOk c ∧ c.pl.part = 3 := by
 intro c hc
 unfold wipeC wipe0 wipe1 at hc
 rcases List.mem_append.1 hc with hc | hc
 ·split at hc
  ·rcases List.mem_singleton.1 hc with rfl
   refine ⟨dataC_ok h0 h1 (by omega) ?_, rfl⟩
   rw [← xzero_w (by omega)]
   exact zeroP_ok _
  ·exact absurd hc List.not_mem_nil
 ·obtain ⟨k, hk, rfl⟩ := List.mem_map.1 hc
  obtain ⟨j, hj, rfl⟩ := List.mem_range'.1 hk
  exact ⟨gone_ok (datP_ok h0 h1 (by omega)), rfl⟩
theorem iv_wr {s : Sg} (h : Iv s) {ino : Int} (h0 : 0 ≤ ino) (h1 : ino ≤ 4294967295) (off : Int) (data : ByteArray) : Iv (wrX s ino off data).1 := by
 have hz := iv_sz h ino
 unfold wrX exWr
 split
 ·exact h
 rename_i hc
 generalize exSz SgP s ino = Z at *
 obtain ⟨S1, z, e⟩ := Z
 change Sg at S1
 unfold exWr1
 split
 ·exact hz
 split
 ·exact hz
 split
 ·exact hz
 rename_i hb
 have hp := iv_put _ hz (lay_all h0 h1 (off := off.toNat) (len := data.size) (by omega) (strB_byt data) (strB_length data))
 generalize exPut SgP S1 ((pcsL off.toNat data.size).map (layC ino (strB data))) = T at *
 obtain ⟨S2, e2⟩ := T
 change Sg at S2
 unfold exWr2
 split
 ·exact hp
 unfold exWr3
 have hw : Iv { S2 with U := addL S2.U (tcB ino off (off + data.size)) } := Iv.same (s := S2) hp rfl rfl
 split
 ·exact hw
 ·exact iv_set hw h0 h1 (by omega) (by omega)
theorem iv_tr {s : Sg} (h : Iv s) {ino : Int} (h0 : 0 ≤ ino) (h1 : ino ≤ 4294967295) (size : Int) {N : Nat} (hk : Sk s N) : Iv (trX s ino size).1 := by
 have hz := iv_sz h ino
 have hle : (exSz SgP s ino).2.1 ≤ 512 := exSz_le h.d hk ino
 unfold trX exTr
 generalize exSz SgP s ino = Z at *
 obtain ⟨S1, z, e⟩ := Z
 change Sg at S1
 dsimp only at hle
 unfold exTr1
 split
 ·exact hz
 split
 ·exact hz
 rename_i hb
 split
 ·exact hz
 split
 ·rename_i hlt
  dsimp only at hlt
  have hp := iv_put _ hz (wipe_all h0 h1 (lo := size.toNat) (hi := z.toNat) (by omega) (by omega))
  generalize exPut SgP S1 (wipeC ino size.toNat z.toNat) = T at *
  obtain ⟨S2, e2⟩ := T
  change Sg at S2
  unfold exTr2
  split
  ·exact hp
  ·exact iv_set (s := { S2 with U := addL S2.U (tcB ino size z) }) (Iv.same (s := S2) hp rfl rfl) h0 h1 (by omega) (by omega)
 ·exact iv_set hz h0 h1 (by omega) (by omega)
def doE (s : Sg) (o : Eop) : Sg := if o.f0 = 0 then (rdX s o.ino o.off o.n).1 else if o.f0 = 1 then (wrX s o.ino o.off o.data).1 else if o.f0 = 2 then (trX s o.ino o.n).1 else s
theorem doE_iv {s : Sg} (h : Iv s) {N : Nat} (hk : Sk s N) {o : Eop} (ho : EopOk o) : Iv (doE s o) := by
 unfold doE
 split
 ·exact iv_rd h _ _ _
 split
 ·exact iv_wr h ho.a3.1 ho.a3.2 _ _
 split
 ·exact iv_tr h ho.a3.1 ho.a3.2 _ hk
 ·exact h
theorem doE_sk {s : Sg} (h : Iv s) {N : Nat} (hk : Sk s N) (o : Eop) : Sk (doE s o) (N + 30) := by
 unfold doE
 split
 ·exact (exk_rd hk _ _ _).mono (by omega)
 split
 ·exact (exk_wr hk _ _ _).mono (by omega)
 split
 ·exact (exk_tr h.d hk _ _).mono (by omega)
 ·exact hk.mono (by omega)
theorem doe_rd {B : Nat} {w0 w : World} {pp : Nat} {a : Sa} {x : Nat} {Z : List Nat} {s : Sg} (h : Bo B w0 w pp a x Z s s) (hiv : Iv s) {N : Nat} (hk : Sk s N) (hN : N ≤ 3700) {oo on oi : Int} {od : ByteArray} (ho : EopOk ⟨0, oo, on, oi, od⟩) :
  Calls Tryz.prog 15 #[.pointer (some ⟨pp, 0, none⟩), .agg (eopC ⟨0, oo, on, oi, od⟩)] w fun e w' => e = .returned (.bool true) ∧ Bo B w0 w' pp a x Z (rdX s oi oo on).1 (rdX s oi oo on).1 := by
 have hb1 := bel1 w (.cells (eopC ⟨0, oo, on, oi, od⟩) 36)
 have ho1 : EoRow (w.alloc (.cells (eopC ⟨0, oo, on, oi, od⟩) 36)) w.heap.size ⟨0, oo, on, oi, od⟩ := heap_alloc_new w _
 obtain ⟨w1, hw1⟩ : ∃ w1, w.alloc (.cells (eopC ⟨0, oo, on, oi, od⟩) 36) = w1 := ⟨_, rfl⟩
 rw [hw1] at hb1 ho1
 have h1 := h.add hb1 (Nat.le_refl _) (lt_of_row ho1)
 have hi0 := ho.a3.1
 have hi1 := ho.a3.2
 have ho9 := ho.a1.1
 have ho8 := ho.a1.2
 have hd9 := ho.a4
 dsimp only at hi0 hi1 ho9 ho8 hd9
 have HK : Hid (Sk s N) := hk
 have HIV : Hid (Iv s) := hiv
 have HN : Hid (N ≤ 3700) := hN
 have v0 : w1.cell? ⟨w.heap.size, 0, none⟩ = some (.int .i64 0) := ho1.c0
 have HS1 : Hid (Bo B w0 w1 pp a x (w.heap.size :: Z) s s) := h1
 have HO1 : Hid (EoRow w1 w.heap.size ⟨0, oo, on, oi, od⟩) := ho1
 have cmF : ∀ W, Bo B w0 W pp a x (w.heap.size :: Z) s s → Calls Tryz.prog 54 #[.pointer (some ⟨a.s, 0, none⟩), .int .u32 oi, .int .i64 oo, .int .i64 on] W fun e w' => e = .returned (.tuple #[.string (rdX s oi oo on).2.1, .int .i64 (rdX s oi oo on).2.2]) ∧ Bo B w0 w' pp a x (w.heap.size :: Z) (rdX s oi oo on).1 s ∧ KeepZ (w.heap.size :: Z) W w' := fun W hW => hW.callS (R := fun e => e = .returned (.tuple #[.string (rdX s oi oo on).2.1, .int .i64 (rdX s oi oo on).2.2])) (fun X hX => read_g SgP_ok (s := s) hX oi hi0 hi1 oo on ho9 ho8 hk (by omega))
 have cxF : ∀ W (t : Sg), Bo B w0 W pp a x (w.heap.size :: Z) t s → Calls Tryz.prog 56 #[.pointer (some ⟨x, 0, none⟩), .int .u32 oi, .int .i64 oo, .int .i64 on] W fun e w' => e = .returned (.tuple #[.string (rdX s oi oo on).2.1, .int .i64 (rdX s oi oo on).2.2]) ∧ Bo B w0 w' pp a x (w.heap.size :: Z) t (rdX s oi oo on).1 ∧ KeepZ (w.heap.size :: Z) W w' := fun W t hW => hW.callX (R := fun e => e = .returned (.tuple #[.string (rdX s oi oo on).2.1, .int .i64 (rdX s oi oo on).2.2])) (fun Y hY _ => xread hY hiv oi hi0 hi1 oo on ho9 ho8 (Nat.le_trans hk.R (by omega)))
 generalize rdX s oi oo on = RR at *
 obtain ⟨s', out, er⟩ := RR
 change Sg at s'
 dsimp only at cmF cxF ⊢
 unfold eopC at hw1 ⊢
 dsimp only at hw1 v0 ⊢
 clear h h1 hb1 ho1 hk hiv hN ho
 go_enter Tryz.func15, Tryz.ntmps15
 go_upto_region 3 with fail
 try rw [hw1]
 clear hw1 v0
 have hS0 : PrAt w1.drew pp a x ∧ EoRow w1.drew w.heap.size ⟨0, oo, on, oi, od⟩ := ⟨HS1.out.row, HO1.out⟩
 refine wp_region_noPanic ?_
 refine wp_region_held_drew (S := fun W => PrAt W pp a x ∧ EoRow W w.heap.size ⟨0, oo, on, oi, od⟩) (by kernel_rfl) hS0 (fun hHeld => ?_)
 refine tk 0 (.pointer (some ⟨pp, 0, none⟩)) rfl ?_
 try simp only [nz]
 refine tk 1 (.pointer (some ⟨pp, 0, none⟩)) rfl ?_
 try simp only [nz]
 refine tk 2 (.pointer (some ⟨pp, 0, none⟩)) rfl ?_
 try simp only [nz]
 refine tk 3 (.pointer (some ⟨a.s, 0, none⟩)) rfl ?_ (fun W hSw => by (try dsimp only at hSw); (have z := PrAt.c0 hSw.1; go_simp))
 try simp only [nz]
 refine tk 4 (.pointer (some ⟨w.heap.size, 3, none⟩)) rfl ?_
 try simp only [nz]
 refine tk 5 (.int .u32 oi) rfl ?_ (fun W hSw => by (try dsimp only at hSw); (have z := hSw.2.c3; go_simp))
 try simp only [nz]
 refine tk 6 (.pointer (some ⟨w.heap.size, 1, none⟩)) rfl ?_
 try simp only [nz]
 refine tk 7 (.int .i64 oo) rfl ?_ (fun W hSw => by (try dsimp only at hSw); (have z := hSw.2.c1; go_simp))
 try simp only [nz]
 refine tk 8 (.pointer (some ⟨w.heap.size, 2, none⟩)) rfl ?_
 try simp only [nz]
 refine tk 9 (.int .i64 on) rfl ?_ (fun W hSw => by (try dsimp only at hSw); (have z := hSw.2.c2; go_simp))
 try simp only [nz]
 refine rd 10 rfl (fun K hK => ?_)
 go_simp
 go_wp2_with (go_at_call 54; refine (cmF _ (HS1.out.below (Below.refl _ _).drew)).mono ?_; rintro e w2 ⟨rfl, hbo, hkz⟩)
 have HIOw2 : Hid (EoRow w2 w.heap.size ⟨0, oo, on, oi, od⟩) := (hkz w.heap.size List.mem_cons_self).trans (show w1.drew.heap[w.heap.size]? = _ from hHeld.2)
 have HBO2 : Hid (Bo B w0 w2 pp a x (w.heap.size :: Z) s' s) := hbo
 refine hK.out _ _ ⟨hbo.row, HIOw2.out⟩ (fun hHeld2 => ?_)
 clear hK K
 try simp only [nz]
 refine tk 11 (.tuple #[.string out, .int .i64 er]) rfl ?_
 try simp only [nz]
 refine tk 12 (.string out) rfl ?_
 try simp only [nz]
 refine tk 13 (.int .i64 er) rfl ?_
 try simp only [nz]
 refine tk 14 (.string out) rfl ?_
 try simp only [nz]
 refine tk 15 (.int .i64 er) rfl ?_
 try simp only [nz]
 refine wpAnyH_done (by kernel_rfl) ?_ _
 refine NoPanic.normal ?_
 clear hHeld hHeld2 hbo hkz hS0 cmF HS1 HO1
 go_upto_region 4 with fail
 have hS0 : PrAt w2.drew pp a x ∧ EoRow w2.drew w.heap.size ⟨0, oo, on, oi, od⟩ := ⟨HBO2.out.row, HIOw2.out⟩
 refine wp_region_noPanic ?_
 refine wp_region_held_drew (S := fun W => PrAt W pp a x ∧ EoRow W w.heap.size ⟨0, oo, on, oi, od⟩) (by kernel_rfl) hS0 (fun hHeld => ?_)
 refine tk 0 (.pointer (some ⟨pp, 0, none⟩)) rfl ?_
 try simp only [nz]
 refine tk 1 (.pointer (some ⟨pp, 0, none⟩)) rfl ?_
 try simp only [nz]
 refine tk 2 (.pointer (some ⟨pp, 2, none⟩)) rfl ?_
 try simp only [nz]
 refine tk 3 (.pointer (some ⟨x, 0, none⟩)) rfl ?_ (fun W hSw => by (try dsimp only at hSw); (have z := PrAt.cx hSw.1; go_simp))
 try simp only [nz]
 refine tk 4 (.pointer (some ⟨w.heap.size, 3, none⟩)) rfl ?_
 try simp only [nz]
 refine tk 5 (.int .u32 oi) rfl ?_ (fun W hSw => by (try dsimp only at hSw); (have z := hSw.2.c3; go_simp))
 try simp only [nz]
 refine tk 6 (.pointer (some ⟨w.heap.size, 1, none⟩)) rfl ?_
 try simp only [nz]
 refine tk 7 (.int .i64 oo) rfl ?_ (fun W hSw => by (try dsimp only at hSw); (have z := hSw.2.c1; go_simp))
 try simp only [nz]
 refine tk 8 (.pointer (some ⟨w.heap.size, 2, none⟩)) rfl ?_
 try simp only [nz]
 refine tk 9 (.int .i64 on) rfl ?_ (fun W hSw => by (try dsimp only at hSw); (have z := hSw.2.c2; go_simp))
 try simp only [nz]
 refine rd 10 rfl (fun K hK => ?_)
 go_simp
 go_wp2_with (go_at_call 56; refine (cxF _ _ (HBO2.out.below (Below.refl _ _).drew)).mono ?_; rintro e w3 ⟨rfl, hbo, hkz⟩)
 have HIOw3 : Hid (EoRow w3 w.heap.size ⟨0, oo, on, oi, od⟩) := (hkz w.heap.size List.mem_cons_self).trans (show w2.drew.heap[w.heap.size]? = _ from hHeld.2)
 have HBO3 : Hid (Bo B w0 w3 pp a x (w.heap.size :: Z) s' s') := hbo
 refine hK.out _ _ ⟨hbo.row, HIOw3.out⟩ (fun hHeld2 => ?_)
 clear hK K
 try simp only [nz]
 refine tk 11 (.tuple #[.string out, .int .i64 er]) rfl ?_
 try simp only [nz]
 refine tk 12 (.string out) rfl ?_
 try simp only [nz]
 refine tk 13 (.int .i64 er) rfl ?_
 try simp only [nz]
 refine tk 14 (.string out) rfl ?_
 try simp only [nz]
 refine tk 15 (.int .i64 er) rfl ?_
 try simp only [nz]
 refine wpAnyH_done (by kernel_rfl) ?_ _
 refine NoPanic.normal ?_
 clear hHeld hHeld2 hbo hkz hS0 cxF HIOw2 HBO2
 have HF : Hid (Bo B w0 w3 pp a x Z s' s') := HBO3.out.sub (fun k hk => List.mem_cons_of_mem _ hk)
 go_wp2
 go_ret
 exact ⟨rfl, HF.out⟩
theorem doe_wr {B : Nat} {w0 w : World} {pp : Nat} {a : Sa} {x : Nat} {Z : List Nat} {s : Sg} (h : Bo B w0 w pp a x Z s s) (hiv : Iv s) {N : Nat} (hk : Sk s N) (hN : N ≤ 3700) {oo on oi : Int} {od : ByteArray} (ho : EopOk ⟨1, oo, on, oi, od⟩) :
  Calls Tryz.prog 15 #[.pointer (some ⟨pp, 0, none⟩), .agg (eopC ⟨1, oo, on, oi, od⟩)] w fun e w' => e = .returned (.bool true) ∧ Bo B w0 w' pp a x Z (wrX s oi oo od).1 (wrX s oi oo od).1 := by
 have hb1 := bel1 w (.cells (eopC ⟨1, oo, on, oi, od⟩) 36)
 have ho1 : EoRow (w.alloc (.cells (eopC ⟨1, oo, on, oi, od⟩) 36)) w.heap.size ⟨1, oo, on, oi, od⟩ := heap_alloc_new w _
 obtain ⟨w1, hw1⟩ : ∃ w1, w.alloc (.cells (eopC ⟨1, oo, on, oi, od⟩) 36) = w1 := ⟨_, rfl⟩
 rw [hw1] at hb1 ho1
 have h1 := h.add hb1 (Nat.le_refl _) (lt_of_row ho1)
 have hi0 := ho.a3.1
 have hi1 := ho.a3.2
 have ho9 := ho.a1.1
 have ho8 := ho.a1.2
 have hd9 := ho.a4
 dsimp only at hi0 hi1 ho9 ho8 hd9
 have HK : Hid (Sk s N) := hk
 have HIV : Hid (Iv s) := hiv
 have HN : Hid (N ≤ 3700) := hN
 have v0 : w1.cell? ⟨w.heap.size, 0, none⟩ = some (.int .i64 1) := ho1.c0
 have cm := (h1.below (Below.refl _ _).drew).callS (R := fun e => e = .returned (.int .i64 (wrX s oi oo od).2)) (s' := (wrX s oi oo od).1) (fun X hX => write_g SgP_ok (s := s) hX oi hi0 hi1 oo od (by unfold maxLen at hd9; omega) hk (by omega))
 have cxF : ∀ W (t : Sg), Bo B w0 W pp a x (w.heap.size :: Z) t s → Calls Tryz.prog 57 #[.pointer (some ⟨x, 0, none⟩), .int .u32 oi, .int .i64 oo, .string od] W fun e w' => e = .returned (.int .i64 (wrX s oi oo od).2) ∧ Bo B w0 w' pp a x (w.heap.size :: Z) t (wrX s oi oo od).1 ∧ KeepZ (w.heap.size :: Z) W w' := fun W t hW => hW.callX (R := fun e => e = .returned (.int .i64 (wrX s oi oo od).2)) (fun Y hY _ => xwrite hY hiv oi hi0 hi1 oo ho9 ho8 od hk (by omega))
 have hS0 : PrAt w1.drew pp a x ∧ EoRow w1.drew w.heap.size ⟨1, oo, on, oi, od⟩ := ⟨h1.row, ho1⟩
 generalize (wrX s oi oo od) = RR at *
 obtain ⟨s', er⟩ := RR
 change Sg at s'
 dsimp only at cm cxF ⊢
 unfold eopC at hw1 ⊢
 dsimp only at hw1 v0 ⊢
 clear h h1 hb1 ho1 hk hiv hN ho
 go_enter Tryz.func15, Tryz.ntmps15
 go_wp2_with fail
 try rw [hw1]
 clear hw1 v0
 refine wp_region_noPanic ?_
 refine wp_region_held_drew (S := fun W => PrAt W pp a x ∧ EoRow W w.heap.size ⟨1, oo, on, oi, od⟩) (by kernel_rfl) hS0 (fun hHeld => ?_)
 refine tk 0 (.pointer (some ⟨pp, 0, none⟩)) rfl ?_
 try simp only [nz]
 refine tk 1 (.pointer (some ⟨pp, 0, none⟩)) rfl ?_
 try simp only [nz]
 refine tk 2 (.pointer (some ⟨pp, 0, none⟩)) rfl ?_
 try simp only [nz]
 refine tk 3 (.pointer (some ⟨a.s, 0, none⟩)) rfl ?_ (fun W hSw => by (try dsimp only at hSw); (have z := PrAt.c0 hSw.1; go_simp))
 try simp only [nz]
 refine tk 4 (.pointer (some ⟨w.heap.size, 3, none⟩)) rfl ?_
 try simp only [nz]
 refine tk 5 (.int .u32 oi) rfl ?_ (fun W hSw => by (try dsimp only at hSw); (have z := hSw.2.c3; go_simp))
 try simp only [nz]
 refine tk 6 (.pointer (some ⟨w.heap.size, 1, none⟩)) rfl ?_
 try simp only [nz]
 refine tk 7 (.int .i64 oo) rfl ?_ (fun W hSw => by (try dsimp only at hSw); (have z := hSw.2.c1; go_simp))
 try simp only [nz]
 refine tk 8 (.pointer (some ⟨w.heap.size, 4, none⟩)) rfl ?_
 try simp only [nz]
 refine tk 9 (.string od) rfl ?_ (fun W hSw => by (try dsimp only at hSw); (have z := hSw.2.c4; go_simp))
 try simp only [nz]
 refine tk 11 (.pointer (some ⟨pp, 0, none⟩)) rfl ?_
 try simp only [nz]
 refine tk 12 (.pointer (some ⟨pp, 0, none⟩)) rfl ?_
 try simp only [nz]
 refine tk 13 (.pointer (some ⟨pp, 2, none⟩)) rfl ?_
 try simp only [nz]
 refine tk 14 (.pointer (some ⟨x, 0, none⟩)) rfl ?_ (fun W hSw => by (try dsimp only at hSw); (have z := PrAt.cx hSw.1; go_simp))
 try simp only [nz]
 refine tk 15 (.pointer (some ⟨w.heap.size, 3, none⟩)) rfl ?_
 try simp only [nz]
 refine tk 16 (.int .u32 oi) rfl ?_ (fun W hSw => by (try dsimp only at hSw); (have z := hSw.2.c3; go_simp))
 try simp only [nz]
 refine tk 17 (.pointer (some ⟨w.heap.size, 1, none⟩)) rfl ?_
 try simp only [nz]
 refine tk 18 (.int .i64 oo) rfl ?_ (fun W hSw => by (try dsimp only at hSw); (have z := hSw.2.c1; go_simp))
 try simp only [nz]
 refine tk 19 (.pointer (some ⟨w.heap.size, 4, none⟩)) rfl ?_
 try simp only [nz]
 refine tk 20 (.string od) rfl ?_ (fun W hSw => by (try dsimp only at hSw); (have z := hSw.2.c4; go_simp))
 try simp only [nz]
 refine rd 10 rfl (fun K hK => ?_)
 go_simp
 go_wp2_with (go_at_call 53; refine cm.mono ?_; rintro e w2 ⟨rfl, hbo, hkz⟩)
 have HIOw2 : Hid (EoRow w2 w.heap.size ⟨1, oo, on, oi, od⟩) := (hkz w.heap.size List.mem_cons_self).trans (show w1.drew.heap[w.heap.size]? = _ from hHeld.2)
 have HBO2 : Hid (Bo B w0 w2 pp a x (w.heap.size :: Z) s' s) := hbo
 refine hK.out _ _ ⟨hbo.row, HIOw2.out⟩ (fun hHeld2 => ?_)
 clear hK K cm
 try simp only [nz]
 refine rd 21 rfl (fun K hK => ?_)
 go_simp
 go_wp2_with (go_at_call 57; refine (cxF _ _ HBO2.out).mono ?_; rintro e w3 ⟨rfl, hbo3, hkz3⟩)
 have HIOw3 : Hid (EoRow w3 w.heap.size ⟨1, oo, on, oi, od⟩) := (hkz3 w.heap.size List.mem_cons_self).trans HIOw2.out
 have HBO3 : Hid (Bo B w0 w3 pp a x (w.heap.size :: Z) s' s') := hbo3
 refine hK.out _ _ ⟨hbo3.row, HIOw3.out⟩ (fun hHeld3 => ?_)
 clear hK K
 try simp only [nz]
 refine tk 22 (.bool true) rfl ?_
 try simp only [nz]
 refine tk 23 (.bool true) rfl ?_
 try simp only [nz]
 refine wpAnyH_done (by kernel_rfl) ?_ _
 refine NoPanic.normal ?_
 have HF : Hid (Bo B w0 w3 pp a x Z s' s') := HBO3.out.sub (fun k hk => List.mem_cons_of_mem _ hk)
 clear hHeld hHeld2 hHeld3 hbo hkz hbo3 hkz3 hS0 HBO2 HIOw2 HIOw3 cxF
 go_wp2
 go_ret
 exact ⟨rfl, HF.out⟩
theorem doe_tr {B : Nat} {w0 w : World} {pp : Nat} {a : Sa} {x : Nat} {Z : List Nat} {s : Sg} (h : Bo B w0 w pp a x Z s s) (hiv : Iv s) {N : Nat} (hk : Sk s N) (hN : N ≤ 3700) {oo on oi : Int} {od : ByteArray} (ho : EopOk ⟨2, oo, on, oi, od⟩) :
  Calls Tryz.prog 15 #[.pointer (some ⟨pp, 0, none⟩), .agg (eopC ⟨2, oo, on, oi, od⟩)] w fun e w' => e = .returned (.bool true) ∧ Bo B w0 w' pp a x Z (trX s oi on).1 (trX s oi on).1 := by
 have hb1 := bel1 w (.cells (eopC ⟨2, oo, on, oi, od⟩) 36)
 have ho1 : EoRow (w.alloc (.cells (eopC ⟨2, oo, on, oi, od⟩) 36)) w.heap.size ⟨2, oo, on, oi, od⟩ := heap_alloc_new w _
 obtain ⟨w1, hw1⟩ : ∃ w1, w.alloc (.cells (eopC ⟨2, oo, on, oi, od⟩) 36) = w1 := ⟨_, rfl⟩
 rw [hw1] at hb1 ho1
 have h1 := h.add hb1 (Nat.le_refl _) (lt_of_row ho1)
 have hi0 := ho.a3.1
 have hi1 := ho.a3.2
 have ho9 := ho.a1.1
 have ho8 := ho.a1.2
 have hd9 := ho.a4
 dsimp only at hi0 hi1 ho9 ho8 hd9
 have HK : Hid (Sk s N) := hk
 have HIV : Hid (Iv s) := hiv
 have HN : Hid (N ≤ 3700) := hN
 have v0 : w1.cell? ⟨w.heap.size, 0, none⟩ = some (.int .i64 2) := ho1.c0
 have cm := (h1.below (Below.refl _ _).drew).callS (R := fun e => e = .returned (.int .i64 (trX s oi on).2)) (s' := (trX s oi on).1) (fun X hX => trunc_g SgP_ok (s := s) hX oi hi0 hi1 on hk (by omega))
 have cxF : ∀ W (t : Sg), Bo B w0 W pp a x (w.heap.size :: Z) t s → Calls Tryz.prog 58 #[.pointer (some ⟨x, 0, none⟩), .int .u32 oi, .int .i64 on] W fun e w' => e = .returned (.int .i64 (trX s oi on).2) ∧ Bo B w0 w' pp a x (w.heap.size :: Z) t (trX s oi on).1 ∧ KeepZ (w.heap.size :: Z) W w' := fun W t hW => hW.callX (R := fun e => e = .returned (.int .i64 (trX s oi on).2)) (fun Y hY _ => xtrunc hY hiv oi hi0 hi1 on hk (by omega))
 have hS0 : PrAt w1.drew pp a x ∧ EoRow w1.drew w.heap.size ⟨2, oo, on, oi, od⟩ := ⟨h1.row, ho1⟩
 generalize (trX s oi on) = RR at *
 obtain ⟨s', er⟩ := RR
 change Sg at s'
 dsimp only at cm cxF ⊢
 unfold eopC at hw1 ⊢
 dsimp only at hw1 v0 ⊢
 clear h h1 hb1 ho1 hk hiv hN ho
 go_enter Tryz.func15, Tryz.ntmps15
 go_wp2_with fail
 try rw [hw1]
 clear hw1 v0
 refine wp_region_noPanic ?_
 refine wp_region_held_drew (S := fun W => PrAt W pp a x ∧ EoRow W w.heap.size ⟨2, oo, on, oi, od⟩) (by kernel_rfl) hS0 (fun hHeld => ?_)
 refine tk 0 (.pointer (some ⟨pp, 0, none⟩)) rfl ?_
 try simp only [nz]
 refine tk 1 (.pointer (some ⟨pp, 0, none⟩)) rfl ?_
 try simp only [nz]
 refine tk 2 (.pointer (some ⟨pp, 0, none⟩)) rfl ?_
 try simp only [nz]
 refine tk 3 (.pointer (some ⟨a.s, 0, none⟩)) rfl ?_ (fun W hSw => by (try dsimp only at hSw); (have z := PrAt.c0 hSw.1; go_simp))
 try simp only [nz]
 refine tk 4 (.pointer (some ⟨w.heap.size, 3, none⟩)) rfl ?_
 try simp only [nz]
 refine tk 5 (.int .u32 oi) rfl ?_ (fun W hSw => by (try dsimp only at hSw); (have z := hSw.2.c3; go_simp))
 try simp only [nz]
 refine tk 6 (.pointer (some ⟨w.heap.size, 2, none⟩)) rfl ?_
 try simp only [nz]
 refine tk 7 (.int .i64 on) rfl ?_ (fun W hSw => by (try dsimp only at hSw); (have z := hSw.2.c2; go_simp))
 try simp only [nz]
 refine tk 9 (.pointer (some ⟨pp, 0, none⟩)) rfl ?_
 try simp only [nz]
 refine tk 10 (.pointer (some ⟨pp, 0, none⟩)) rfl ?_
 try simp only [nz]
 refine tk 11 (.pointer (some ⟨pp, 2, none⟩)) rfl ?_
 try simp only [nz]
 refine tk 12 (.pointer (some ⟨x, 0, none⟩)) rfl ?_ (fun W hSw => by (try dsimp only at hSw); (have z := PrAt.cx hSw.1; go_simp))
 try simp only [nz]
 refine tk 13 (.pointer (some ⟨w.heap.size, 3, none⟩)) rfl ?_
 try simp only [nz]
 refine tk 14 (.int .u32 oi) rfl ?_ (fun W hSw => by (try dsimp only at hSw); (have z := hSw.2.c3; go_simp))
 try simp only [nz]
 refine tk 15 (.pointer (some ⟨w.heap.size, 2, none⟩)) rfl ?_
 try simp only [nz]
 refine tk 16 (.int .i64 on) rfl ?_ (fun W hSw => by (try dsimp only at hSw); (have z := hSw.2.c2; go_simp))
 try simp only [nz]
 refine rd 8 rfl (fun K hK => ?_)
 go_simp
 go_wp2_with (go_at_call 55; refine cm.mono ?_; rintro e w2 ⟨rfl, hbo, hkz⟩)
 have HIOw2 : Hid (EoRow w2 w.heap.size ⟨2, oo, on, oi, od⟩) := (hkz w.heap.size List.mem_cons_self).trans (show w1.drew.heap[w.heap.size]? = _ from hHeld.2)
 have HBO2 : Hid (Bo B w0 w2 pp a x (w.heap.size :: Z) s' s) := hbo
 refine hK.out _ _ ⟨hbo.row, HIOw2.out⟩ (fun hHeld2 => ?_)
 clear hK K cm
 try simp only [nz]
 refine rd 17 rfl (fun K hK => ?_)
 go_simp
 go_wp2_with (go_at_call 58; refine (cxF _ _ HBO2.out).mono ?_; rintro e w3 ⟨rfl, hbo3, hkz3⟩)
 have HIOw3 : Hid (EoRow w3 w.heap.size ⟨2, oo, on, oi, od⟩) := (hkz3 w.heap.size List.mem_cons_self).trans HIOw2.out
 have HBO3 : Hid (Bo B w0 w3 pp a x (w.heap.size :: Z) s' s') := hbo3
 refine hK.out _ _ ⟨hbo3.row, HIOw3.out⟩ (fun hHeld3 => ?_)
 clear hK K
 try simp only [nz]
 refine tk 18 (.bool true) rfl ?_
 try simp only [nz]
 refine tk 19 (.bool true) rfl ?_
 try simp only [nz]
 refine wpAnyH_done (by kernel_rfl) ?_ _
 refine NoPanic.normal ?_
 have HF : Hid (Bo B w0 w3 pp a x Z s' s') := HBO3.out.sub (fun k hk => List.mem_cons_of_mem _ hk)
 clear hHeld hHeld2 hHeld3 hbo hkz hbo3 hkz3 hS0 HBO2 HIOw2 HIOw3 cxF
 go_wp2
 go_ret
 exact ⟨rfl, HF.out⟩
theorem doe_no {B : Nat} {w0 w : World} {pp : Nat} {a : Sa} {x : Nat} {Z : List Nat} {s : Sg} (h : Bo B w0 w pp a x Z s s) {ok oo on oi : Int} {od : ByteArray} (hd : ¬ (0 ≤ ok ∧ ok ≤ 2)) :
  Calls Tryz.prog 15 #[.pointer (some ⟨pp, 0, none⟩), .agg (eopC ⟨ok, oo, on, oi, od⟩)] w fun e w' => e = .returned (.bool true) ∧ Bo B w0 w' pp a x Z s s := by
 have hb1 := bel1 w (.cells (eopC ⟨ok, oo, on, oi, od⟩) 36)
 have ho1 : EoRow (w.alloc (.cells (eopC ⟨ok, oo, on, oi, od⟩) 36)) w.heap.size ⟨ok, oo, on, oi, od⟩ := heap_alloc_new w _
 obtain ⟨w1, hw1⟩ : ∃ w1, w.alloc (.cells (eopC ⟨ok, oo, on, oi, od⟩) 36) = w1 := ⟨_, rfl⟩
 rw [hw1] at hb1 ho1
 have HF : Hid (Bo B w0 w1 pp a x Z s s) := h.below hb1
 have v0 : w1.cell? ⟨w.heap.size, 0, none⟩ = some (.int .i64 ok) := ho1.c0
 have d0 : (ok == 0) = false := by simp; omega
 have d1 : (ok == 1) = false := by simp; omega
 have d2 : (ok == 2) = false := by simp; omega
 unfold eopC at hw1 ⊢
 dsimp only at hw1 ⊢
 clear h hb1 ho1
 go_enter Tryz.func15, Tryz.ntmps15
 go_wp2_with fail
 try rw [hw1]
 clear hw1 v0
 go_ret
 exact ⟨rfl, HF.out⟩
theorem xeop_load {w : World} {a : Option Addr} {n cap : Nat} {l : List Eop} (h : RdZ 5 eopE w (.slice a n cap) l) {i : Nat} {x : Eop} (hx : l[i]? = some x) :
  ∃ b off, a = some ⟨b, off, none⟩ ∧ (Instr.loadAt 36 (.pointer (some ⟨b, off + i * 5, none⟩))).run Tryz.prog w = .ok (.agg (eopC x)) w := by
 obtain ⟨⟨a', c, e, h1, h2, h3⟩, _⟩ := h
 simp only [Value.slice.injEq] at e
 obtain ⟨rfl, rfl, rfl⟩ := e
 obtain ⟨b, off, rfl, hlt, hc⟩ := h3 (by intro e; subst e; simp at hx)
 refine ⟨b, off, rfl, ?_⟩
 have hr : w.rangeAt b (off + i * 5) (eopE x) := fun j u hu => hc i x j u hx hu
 exact run_loadAt_mid (P := Tryz.prog) w b (off + i * 5) 36 _ _ hr Tryz.underlying36 rfl (by kernel_rfl)
theorem EoRow.xload {w : World} {g : Nat} {o : Eop} (h : EoRow w g o) : (Instr.loadAt 36 (.pointer (some ⟨g, 0, none⟩))).run Tryz.prog w = .ok (.agg (eopC o)) w := by
 have := run_loadAt_mid (P := Tryz.prog) w g 0 36 (eopC o).toList _ (fun j u hu => by rw [cell_of_row _ _ _ _ _ (0, 0) h, Nat.zero_add, ← Array.getElem?_toList]; exact hu) Tryz.underlying36 rfl (by kernel_rfl)
 simpa using this
theorem doe_any {B : Nat} {w0 w : World} {pp : Nat} {a : Sa} {x : Nat} {Z : List Nat} {s : Sg} (h : Bo B w0 w pp a x Z s s) (hiv : Iv s) {N : Nat} (hk : Sk s N) (hN : N ≤ 3700) {o : Eop} (ho : EopOk o) :
  Calls Tryz.prog 15 #[.pointer (some ⟨pp, 0, none⟩), .agg (eopC o)] w fun e w' => e = .returned (.bool true) ∧ Bo B w0 w' pp a x Z (doE s o) (doE s o) := by
 obtain ⟨d, oo, on, oi, od⟩ := o
 unfold doE
 dsimp only
 by_cases h0 : d = 0
 ·subst h0
  rw [if_pos rfl]
  exact doe_rd h hiv hk hN ho
 rw [if_neg h0]
 by_cases h1 : d = 1
 ·subst h1
  rw [if_pos rfl]
  exact doe_wr h hiv hk hN ho
 rw [if_neg h1]
 by_cases h2 : d = 2
 ·subst h2
  rw [if_pos rfl]
  exact doe_tr h hiv hk hN ho
 ·rw [if_neg h2]
  exact doe_no h (by omega)
end Go.Proofs.YtiplhhaehbjghaaGreat
