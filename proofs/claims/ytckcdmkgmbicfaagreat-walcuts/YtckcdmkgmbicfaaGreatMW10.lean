/- WApp, WAppB: in one text. -/
import Derived.Test.YtckcdmkgmbicfaaGreatMW8
namespace Go.Proofs.YtckcdmkgmbicfaaGreat
open Go.RowKit
set_option linter.unusedVariables false
set_option linter.unusedSimpArgs false
set_option maxRecDepth 4000

/-- What Append leaves of a log and of its disk. -/
structure AppMoves (base : Nat) (w w' : World) (q p bs bp : Nat) (f : Int) (N : Nat) (tv fv : Value) (l' : Lo) (s' : St) : Prop where
  at_ : ∃ tv' fv', LoAt base w' q p f N tv' fv' l' ∧ (∀ k, tv'.ownBlock = some k → tv.ownBlock = some k ∨ w.heap.size ≤ k) ∧ (∀ k, fv'.ownBlock = some k → fv.ownBlock = some k ∨ w.heap.size ≤ k)
  disk : DiskAt w' p bs bp s'
  sole : Sole ([p, bs, bp] ++ q :: (tv.ownBlock.toList ++ fv.ownBlock.toList)) w w'

/-- What Append tells and leaves, where there is room. -/
def AppDone (base : Nat) (w w' : World) (q p bs bp : Nat) (f : Int) (N : Nat) (tv fv : Value) (l : Lo) (xs : List Int) (s : St) (e : Ending) : Prop :=
  (wrS f (appL (if l.grown then 1 else 2) (tailS l.tail (l.free.take (piecesN xs.length))) l.next xs (l.free.take (piecesN xs.length))) s).1 ≠ 0 ∧ e = .returned (.tuple #[.int .u64 0, .int .i64 (wrS f (appL (if l.grown then 1 else 2) (tailS l.tail (l.free.take (piecesN xs.length))) l.next xs (l.free.take (piecesN xs.length))) s).1]) ∧ AppMoves base w w' q p bs bp f N tv fv l (wrS f (appL (if l.grown then 1 else 2) (tailS l.tail (l.free.take (piecesN xs.length))) l.next xs (l.free.take (piecesN xs.length))) s).2 ∨
  (wrS f (appL (if l.grown then 1 else 2) (tailS l.tail (l.free.take (piecesN xs.length))) l.next xs (l.free.take (piecesN xs.length))) s).1 = 0 ∧ e = .returned (.tuple #[.int .u64 l.next, .int .i64 0]) ∧ ∃ tm : Tm, tm.at_ = l.next ∧ tm.blocks = (l.free.take (piecesN xs.length)).map Sl.block ∧ AppMoves base w w' q p bs bp f N tv fv ⟨l.there ++ [tm], l.free.drop (piecesN xs.length), l.next + piecesN xs.length, tailS l.tail (l.free.take (piecesN xs.length)), true⟩ (wrS f (appL (if l.grown then 1 else 2) (tailS l.tail (l.free.take (piecesN xs.length))) l.next xs (l.free.take (piecesN xs.length))) s).2

set_option maxHeartbeats 1000000 in
theorem app_long {Bt : List Nat} {w : World} {q : Nat} {v : Value} {g : List ByteArray} (hr : RdT Bt w v g) (hsz : ∀ x ∈ g, x.size ≤ 140737488355328) (hlong : longB g = true) :
    Calls Tryz.prog 27 #[.pointer (some ⟨q, 0, none⟩), v] w fun e w' => e = .returned (.tuple #[.int .u64 0, .int .i64 2]) ∧ w' = w := by
  have cm := mayBe_any hr hsz
  rw [hlong] at cm
  obtain ⟨a, c, rfl, _⟩ := hr
  clear hsz hlong
  go_enter Tryz.func27, Tryz.ntmps27
  go_wp2_with fail
  refine cm.mono ?_
  rintro e1 w1 ⟨rfl, rfl⟩
  go_wp2
  go_ret2
  exact ⟨rfl, rfl⟩

set_option maxHeartbeats 1000000 in
theorem app_full {base : Nat} {Bt : List Nat} {w : World} {q p : Nat} {f : Int} {N : Nat} {tv fv : Value} {l : Lo} {v : Value} {g : List ByteArray} (h : LoAt base w q p f N tv fv l) (hN : N ≤ 1024) (hl : l.there.length ≤ 2000) (hb : ∀ x ∈ l.there, x.blocks.length ≤ 1000) (hr : RdT Bt w v g) (hg : g.length ≤ 255) (hsz : ∀ x ∈ g, x.size ≤ 140737488355328) (hlong : longB g = false) (hx : (layL g).length ≤ 70000) (hroom : ¬ piecesN (layL g).length + usedN l.there + 2 ≤ N) :
    Calls Tryz.prog 27 #[.pointer (some ⟨q, 0, none⟩), v] w fun e w' => e = .returned (.tuple #[.int .u64 0, .int .i64 5]) ∧ Below w.heap.size w w' := by
  have cm := mayBe_any hr hsz
  rw [hlong] at cm
  have cp := pieces_any hr hg (fun x hx => by have := hsz x hx; unfold maxLen; omega)
  obtain ⟨a, c, rfl, _⟩ := hr
  have H : Hid (LoAt base w q p f N tv fv l) := h
  have hn := piecesN_le hx
  generalize layL g = xs at *
  clear hsz hlong h
  obtain ⟨n, hnn⟩ : ∃ n, piecesN xs.length = n := ⟨_, rfl⟩
  rw [hnn] at cp hn hroom
  go_enter Tryz.func27, Tryz.ntmps27
  go_wp2_with fail
  refine cm.mono ?_
  rintro e1 w1 ⟨rfl, hw1⟩
  subst hw1
  clear cm
  go_wp2_with fail
  refine cp.mono ?_
  rintro e2 w2 ⟨g2, bv, rfl, _, _, _, hb2⟩
  clear cp
  have ch := hasRoom_any (H.out.below hb2) n (by omega) hN hl hb
  have hd : decide (n + usedN l.there + 2 ≤ N) = false := by simpa using hroom
  rw [hd] at ch
  clear hd hroom
  go_wp2_with fail
  refine ch.mono ?_
  rintro e3 w3 ⟨rfl, hb3⟩
  clear ch
  go_wp2
  go_ret2
  exact ⟨rfl, thenB hb2 hb3⟩

set_option maxRecDepth 100000 in
set_option maxHeartbeats 8000000 in
theorem app_done {base : Nat} {Bt : List Nat} {w : World} {q p bs bp : Nat} {f : Int} {N : Nat} {tv fv : Value} {l : Lo} {s : St} {v : Value} {G : List ByteArray} (h : LoAt base w q p f N tv fv l) (hbase : base ≤ w.heap.size) (hd : DiskAt w p bs bp s) (hN : N ≤ 1024) (hf0 : 0 ≤ f) (hf1 : f ≤ 1000000) (hl : l.there.length ≤ 2000) (hb : ∀ x ∈ l.there, x.blocks.length ≤ 1000) (hfb : ∀ x ∈ l.free, x.block < N ∧ x.fin ≤ 4611686018427387904) (hnx : l.next ≤ 4611686018427387904) (htl : tailS l.tail (l.free.take (piecesN (layL G).length)) ≤ 4611686018427387904) (hr : RdT Bt w v G) (hg : G.length ≤ 255) (hsz : ∀ x ∈ G, x.size ≤ 140737488355328) (hlong : longB G = false) (hx : (layL G).length ≤ 65535) (hbyt : Byt (layL G)) (hroom : piecesN (layL G).length + usedN l.there + 2 ≤ N) (hfl : piecesN (layL G).length ≤ l.free.length) :
    Calls Tryz.prog 27 #[.pointer (some ⟨q, 0, none⟩), v] w fun e w' => AppDone base w w' q p bs bp f N tv fv l (layL G) s e := by
  have cm := mayBe_any hr hsz
  rw [hlong] at cm
  have cp := pieces_any hr hg (fun x hx => by have := hsz x hx; unfold maxLen; omega)
  obtain ⟨a, c, rfl, _⟩ := hr
  have H : Hid (LoAt base w q p f N tv fv l) := h
  have HD0 : Hid (DiskAt w p bs bp s) := hd
  have hn := piecesN_le (L := (layL G).length) (by omega)
  have hn0 := piecesN_pos (layL G).length
  unfold AppDone
  generalize layL G = xs at *
  clear hsz hlong h hd
  obtain ⟨n, hnn⟩ : ∃ n, piecesN xs.length = n := ⟨_, rfl⟩
  obtain ⟨L, hL⟩ : ∃ L, xs.length = L := ⟨_, rfl⟩
  have HLL : Hid (xs.length = L) := hL
  rw [hnn] at cp hn hroom hfl hn0 htl ⊢
  rw [hL] at cp
  have hL1 : L ≤ 65535 := by omega
  clear hnn hL hx
  obtain ⟨S, hS⟩ : ∃ S, l.free.take n = S := ⟨_, rfl⟩
  have HS : Hid (l.free.take n = S) := hS
  have hSn : S.length = n := by rw [← hS, List.length_take]; omega
  have HSN : Hid (S.length = n) := hSn
  rw [hS] at htl ⊢
  obtain ⟨T, hT⟩ : ∃ T, tailS l.tail S = T := ⟨_, rfl⟩
  have HT : Hid (tailS l.tail S = T) := hT
  rw [hT] at htl ⊢
  obtain ⟨KI, hKI⟩ : ∃ KI : Nat, (if l.grown then 1 else 2 : Nat) = KI := ⟨_, rfl⟩
  have hKI2 : KI = 1 ∨ KI = 2 := by rw [← hKI]; cases l.grown <;> simp
  rw [hKI]
  have hKV : (if l.grown then (1 : Int) else 2) = (KI : Int) := by rw [← hKI]; cases l.grown <;> rfl
  obtain ⟨W, hW⟩ : ∃ W, appL KI T l.next xs S = W := ⟨_, rfl⟩
  have HW : Hid (appL KI T l.next xs S = W) := hW
  rw [hW]
  have HSB : Hid (∀ (i : Nat) (x : Sl), S[i]? = some x → x.block < N ∧ x.fin ≤ 4611686018427387904) := fun i x hx => hfb x (by have := List.mem_of_getElem? hx; rw [← hS] at this; exact List.mem_of_mem_take this)
  have HBY : Hid (Byt xs) := hbyt
  clear hS hT hKI hW hfb hSn hbyt
  go_enter Tryz.func27, Tryz.ntmps27
  go_wp2_with fail
  refine cm.mono ?_
  rintro e1 w1 ⟨rfl, hw1⟩
  subst hw1
  clear cm
  go_wp2_with fail
  refine cp.mono ?_
  rintro e2 w2 ⟨g, bv, rfl, hgw, hgc, hrd, hb2⟩
  clear cp
  have ch := hasRoom_any (H.out.below hb2) n (by omega) hN hl hb
  have hdec : decide (n + usedN l.there + 2 ≤ N) = true := by simpa using hroom
  rw [hdec] at ch
  clear hdec hroom
  go_wp2_with fail
  refine ch.mono ?_
  rintro e3 w3 ⟨rfl, hb3⟩
  clear ch
  have hB3 := thenB hb2 hb3
  have h3 := H.out.below hB3
  obtain ⟨aT, cT, rfl⟩ := own_shape h3.there
  obtain ⟨gF, cF, rfl, hcF1, hcF2, hgFb, hgFl, hcF⟩ := own_sls (n := 0) h3.free (by omega)
  have hcellS : ∀ i x, S[i]? = some x → w3.cell? ⟨gF, i * 2, none⟩ = some (.int .i64 x.block) ∧ w3.cell? ⟨gF, i * 2 + 1, none⟩ = some (.int .u64 x.fin) := fun i x hx => hcF i x (by
    have hi := (List.getElem?_eq_some_iff.1 hx).1
    rw [← HS.out, List.getElem?_take_of_lt (by have := HSN.out; omega)] at hx
    exact hx)
  have c4 : w3.cell? ⟨q, 4, none⟩ = some (.slice (some ⟨gF, 0, none⟩) l.free.length cF) := h3.cell 4 _ rfl
  have ct := tailBehind_any h3 gF cF S hgFl (by have := HSN.out; omega) hcF2 hcellS
  rw [HSN.out, HT.out] at ct
  unfold maxLen at hcF2
  have hnF : (n : Int) ≤ cF := by omega
  have hnc : n ≤ cF := by omega
  have H3 : Hid _ := h3
  have HB3 : Hid (Below w1.heap.size w1 w3) := hB3
  have HGC : Hid _ := hgc
  have HRD : Hid _ := hrd
  have Hb3 : Hid _ := hb3
  have HCS : Hid _ := hcellS
  have HGW : Hid (w1.heap.size ≤ g) := hgw
  clear hb2 hb3 hB3 h3 hgc hrd hcF hcellS hgw
  go_wp2_with fail
  refine ct.mono ?_
  rintro e4 w4 ⟨rfl, hb4⟩
  clear ct c4
  have hB4 := thenB HB3.out hb4
  have HL4 : Hid (LoAt base w4 q p f N (.slice aT l.there.length cT) (.slice (some ⟨gF, 0, none⟩) l.free.length cF) l) := H3.out.below hb4
  have HD4 : Hid (DiskAt w4 p bs bp s) := HD0.out.below hB4
  have HG4 : Hid (w4.heap[g]? = some (.cells (pieR n L bv n).toArray 82 (0, 0))) := by
    have h1 := (Array.getElem?_eq_some_iff.1 HGC.out).1
    exact (hb4.block g (Nat.lt_of_lt_of_le h1 Hb3.out.size)).trans ((Hb3.out.block g h1).trans HGC.out)
  have HR4 : Hid (∀ i, i < n → Rd w4 (.slice (bv i).a (bv i).n (bv i).d) ((xs.drop (i * 488)).take 488)) := fun i hi => ((HRD.out i hi).below Hb3.out).below hb4
  have HC4 : Hid (∀ i x, S[i]? = some x → w4.cell? ⟨gF, i * 2, none⟩ = some (.int .i64 x.block) ∧ w4.cell? ⟨gF, i * 2 + 1, none⟩ = some (.int .u64 x.fin)) := fun i x hx => ⟨(hb4.cell (p := ⟨gF, i * 2, none⟩) hgFl).trans (HCS.out i x hx).1, (hb4.cell (p := ⟨gF, i * 2 + 1, none⟩) hgFl).trans (HCS.out i x hx).2⟩
  have HB4 : Hid (Below w1.heap.size w1 w4) := hB4
  have hgl4 : g < w4.heap.size := (Array.getElem?_eq_some_iff.1 HG4.out).1
  have hql4 : q < w4.heap.size := (Array.getElem?_eq_some_iff.1 HL4.out.row).1
  have hgF4 : gF < w4.heap.size := Nat.lt_of_lt_of_le hgFl hb4.size
  have hgn : g ∉ [p, bs, bp] := not_disk HD4.out HG4.out (by decide)
  have hqn : q ∉ [p, bs, bp] := not_disk HD4.out HL4.out.row (by decide)
  have hFn : gF ∉ [p, bs, bp] := own_not_disk HD4.out HL4.out.free (by decide) gF rfl
  have hdl := HD4.out.lt
  clear hb4 hB4 HB3 HRD HGC Hb3 HCS H3 HD0 hgFl
  go_wp2
  go_loopw [9, 10, 11, 35] (fun _ _ _ t wr => ∃ (i : Nat) (si : St), i ≤ n ∧ t = .int .i64 i ∧ Hid (wrS f W s = wrS f (W.drop i) si) ∧ Hid (DiskAt wr p bs bp si) ∧ Hid (Sole [p, bs, bp] w4 wr)) (fun _ _ _ t _ => n - (RowKit.intOf t).toNat)
  case atStart => exact ⟨0, s, Nat.zero_le _, rfl, rfl, HD4, Sole.refl _ _⟩
  case round =>
    obtain ⟨i, si, hi, rfl, HWS, HDI, HSI⟩ := hrel
    have hsz4 := HSI.out.size
    by_cases hin : i < n
    · have hiI : (i : Int) < n := by omega
      have hgr := (HSI.out.block g hgl4 hgn).trans HG4.out
      have hpf : pieF L bv n i = [.int .u8 0, .int .u64 0, .int .u64 0, .int .i64 i, .int .i64 L, .slice (bv i).a (bv i).n (bv i).d] := by unfold pieF; rw [if_pos hin]
      obtain ⟨ba, bn, bd, hbv⟩ : ∃ ba bn bd, (bv i).a = ba ∧ (bv i).n = bn ∧ (bv i).d = bd := ⟨_, _, _, rfl, rfl, rfl⟩
      rw [hbv.1, hbv.2.1, hbv.2.2] at hpf
      have d0 : wr.cell? ⟨g, i * 6, none⟩ = some (.int .u8 0) := by have := pie_cell hgr hin 0 (by omega); rw [hpf] at this; exact this
      have d1 : wr.cell? ⟨g, i * 6 + 1, none⟩ = some (.int .u64 0) := by have := pie_cell hgr hin 1 (by omega); rw [hpf] at this; exact this
      have d2 : wr.cell? ⟨g, i * 6 + 2, none⟩ = some (.int .u64 0) := by have := pie_cell hgr hin 2 (by omega); rw [hpf] at this; exact this
      have d3 : wr.cell? ⟨g, i * 6 + 3, none⟩ = some (.int .i64 i) := by have := pie_cell hgr hin 3 (by omega); rw [hpf] at this; exact this
      have d4 : wr.cell? ⟨g, i * 6 + 4, none⟩ = some (.int .i64 L) := by have := pie_cell hgr hin 4 (by omega); rw [hpf] at this; exact this
      have d5 : wr.cell? ⟨g, i * 6 + 5, none⟩ = some (.slice ba bn bd) := by have := pie_cell hgr hin 5 (by omega); rw [hpf] at this; exact this
      have hRi := rd_sole HD4.out (HR4.out i hin) HSI.out
      rw [hbv.1, hbv.2.1, hbv.2.2] at hRi
      have HRI : Hid (Rd wr (.slice ba bn bd) ((xs.drop (i * 488)).take 488)) := hRi
      clear hRi
      obtain ⟨x, hx⟩ : ∃ x, S[i]? = some x := ⟨_, List.getElem?_eq_getElem (by have := HSN.out; omega)⟩
      have hxb := HSB.out i x hx
      have HX : Hid (S[i]? = some x) := hx
      obtain ⟨Z1, hZ1⟩ : ∃ Z1, wr.alloc (.cells #[.int .u8 0, .int .u64 0, .int .u64 0, .int .i64 i, .int .i64 L, .slice ba bn bd] 82) = Z1 := ⟨_, rfl⟩
      have hBZ : Below wr.heap.size wr Z1 := by rw [← hZ1]; exact (Below.refl _ wr).alloc (Nat.le_refl _) _
      have hgZ : Z1.heap[wr.heap.size]? = some (.cells #[.int .u8 0, .int .u64 0, .int .u64 0, .int .i64 i, .int .i64 L, .slice ba bn bd] 82 (0, 0)) := by rw [← hZ1]; exact heap_alloc_new wr _
      have hzZ : Z1.heap.size = wr.heap.size + 1 := by rw [← hZ1]; simp
      have hLr := HL4.out.disk HD4.out HSI.out
      have hLZ := (hLr.below hBZ).below (belowD Z1)
      have hqr : q < wr.heap.size := by omega
      have p5 : ∀ W, Sole [wr.heap.size] Z1 W → W.cell? ⟨q, 5, none⟩ = some (.int .u64 l.next) := fun W hW => by
        rw [cell_of_row _ _ 5 _ _ (0, 0) ((hW.block q (by omega) (by simp; omega)).trans (hLr.below hBZ).row)]; rfl
      have ck := lkind_any hLZ
      rw [hKV] at ck
      clear hbv hpf hgr hx
      go_wp2_with fail
      (try rw [hZ1])
      clear d0 d1 d2 d3 d4 d5 hZ1
      refine wp_region_noPanic ?_
      refine wp_region_held_drew (S := fun W => Sole [wr.heap.size] Z1 W) (by kernel_rfl) (Sole.drew _ _) (fun hHeld => ?_)
      refine wpAnyH_take (i := 0) (v := .pointer (some ⟨q, 0, none⟩)) rfl (by kernel_rfl) (by kernel_rfl) (by kernel_rfl) (fun _ _ _ h => h) (Or.inl ⟨by rfl, fun W hSw => by (try dsimp only at hSw); go_simp⟩) (by assumption) ?_
      simp only [List.getElem_toArray, List.getElem_cons_zero, List.getElem_cons_succ, Act.put, List.setIfInBounds_toArray, List.set_cons_zero, List.set_cons_succ]
      refine wpAnyH_take (i := 1) (v := .pointer (some ⟨q, 0, none⟩)) rfl (by kernel_rfl) (by kernel_rfl) (by kernel_rfl) (fun _ _ _ h => h) (Or.inl ⟨by rfl, fun W hSw => by (try dsimp only at hSw); go_simp⟩) (by assumption) ?_
      simp only [List.getElem_toArray, List.getElem_cons_zero, List.getElem_cons_succ, Act.put, List.setIfInBounds_toArray, List.set_cons_zero, List.set_cons_succ]
      refine wpAnyH_take (i := 2) (v := .pointer (some ⟨q, 5, none⟩)) rfl (by kernel_rfl) (by kernel_rfl) (by kernel_rfl) (fun _ _ _ h => h) (Or.inl ⟨by rfl, fun W hSw => by (try dsimp only at hSw); go_simp⟩) (by assumption) ?_
      simp only [List.getElem_toArray, List.getElem_cons_zero, List.getElem_cons_succ, Act.put, List.setIfInBounds_toArray, List.set_cons_zero, List.set_cons_succ]
      refine wpAnyH_take (i := 3) (v := .int .u64 l.next) rfl (by kernel_rfl) (by kernel_rfl) (by kernel_rfl) (fun _ _ _ h => h) (Or.inl ⟨by rfl, fun W hSw => by (try dsimp only at hSw); go_simp⟩) (by assumption) ?_
      simp only [List.getElem_toArray, List.getElem_cons_zero, List.getElem_cons_succ, Act.put, List.setIfInBounds_toArray, List.set_cons_zero, List.set_cons_succ]
      refine wpAnyH_take (i := 4) (v := .int .u64 T) rfl (by kernel_rfl) (by kernel_rfl) (by kernel_rfl) (fun _ _ _ h => h) (Or.inl ⟨by rfl, fun W hSw => by (try dsimp only at hSw); go_simp⟩) (by assumption) ?_
      simp only [List.getElem_toArray, List.getElem_cons_zero, List.getElem_cons_succ, Act.put, List.setIfInBounds_toArray, List.set_cons_zero, List.set_cons_succ]
      refine wpAnyH_take (i := 5) (v := .pointer (some ⟨q, 0, none⟩)) rfl (by kernel_rfl) (by kernel_rfl) (by kernel_rfl) (fun _ _ _ h => h) (Or.inl ⟨by rfl, fun W hSw => by (try dsimp only at hSw); go_simp⟩) (by assumption) ?_
      simp only [List.getElem_toArray, List.getElem_cons_zero, List.getElem_cons_succ, Act.put, List.setIfInBounds_toArray, List.set_cons_zero, List.set_cons_succ]
      refine wpAnyH_take (i := 7) (v := .pointer (some ⟨wr.heap.size, 2, none⟩)) rfl (by kernel_rfl) (by kernel_rfl) (by kernel_rfl) (fun _ _ _ h => h) (Or.inl ⟨by rfl, fun W hSw => by (try dsimp only at hSw); go_simp⟩) (by assumption) ?_
      simp only [List.getElem_toArray, List.getElem_cons_zero, List.getElem_cons_succ, Act.put, List.setIfInBounds_toArray, List.set_cons_zero, List.set_cons_succ]
      refine wpAnyH_ready (rs := [6]) (by kernel_rfl) (by simp) ?_
      refine AllReadyH.cons rfl (fun K hK => ?_) AllReadyH.nil
      go_simp
      go_wp2_with (go_at_call 45; refine ck.mono ?_; rintro e6 w6 ⟨rfl, rfl⟩)
      refine hK.out _ _ (by assumption) (fun hHeld2 => ?_)
      clear hK K
      try simp only [List.getElem_toArray, List.getElem_cons_zero, List.getElem_cons_succ, Act.put, List.setIfInBounds_toArray, List.set_cons_zero, List.set_cons_succ]
      have b0 : Z1.drew.heap[wr.heap.size]? = some (.cells #[.int .u8 0, .int .u64 0, .int .u64 0, .int .i64 i, .int .i64 L, .slice ba bn bd] 82 (0, 0)) := hgZ
      have hY0 : Below wr.heap.size wr Z1.drew := thenB hBZ (belowD _)
      have hz0 : Z1.drew.heap.size = wr.heap.size + 1 := hzZ
      clear hgZ ck hLZ
      generalize Z1.drew = Y0 at *
      have z2 : Y0.cell? ⟨wr.heap.size, 2, none⟩ = some (.int .u64 0) := by rw [cell_of_row _ _ 2 _ _ (0, 0) b0]; rfl
      have fz2 := frozen_of_row Y0 wr.heap.size 2 _ _ b0
      have b1 := heap_setCell_same Y0 wr.heap.size 2 _ _ (.int .u64 l.next) b0
      simp only [List.setIfInBounds_toArray, List.set_cons_zero, List.set_cons_succ] at b1
      obtain ⟨Y1, hY1⟩ : ∃ Y1, Y0.setCell ⟨wr.heap.size, 2, none⟩ (.int .u64 l.next) = Y1 := ⟨_, rfl⟩
      have s1 : Sole [wr.heap.size] Y0 Y1 := by rw [← hY1]; exact Sole.setCell _ _ (by simp)
      rw [hY1] at b1
      have z1 : Y1.cell? ⟨wr.heap.size, 1, none⟩ = some (.int .u64 0) := by rw [cell_of_row _ _ 1 _ _ (0, 0) b1]; rfl
      have fz1 := frozen_of_row Y1 wr.heap.size 1 _ _ b1
      have b2 := heap_setCell_same Y1 wr.heap.size 1 _ _ (.int .u64 T) b1
      simp only [List.setIfInBounds_toArray, List.set_cons_zero, List.set_cons_succ] at b2
      obtain ⟨Y2, hY2⟩ : ∃ Y2, Y1.setCell ⟨wr.heap.size, 1, none⟩ (.int .u64 T) = Y2 := ⟨_, rfl⟩
      have s2 : Sole [wr.heap.size] Y1 Y2 := by rw [← hY2]; exact Sole.setCell _ _ (by simp)
      rw [hY2] at b2
      have z0 : Y2.cell? ⟨wr.heap.size, 0, none⟩ = some (.int .u8 0) := by rw [cell_of_row _ _ 0 _ _ (0, 0) b2]; rfl
      have fz0 := frozen_of_row Y2 wr.heap.size 0 _ _ b2
      have b3 := heap_setCell_same Y2 wr.heap.size 0 _ _ (.int .u8 KI) b2
      simp only [List.setIfInBounds_toArray, List.set_cons_zero, List.set_cons_succ] at b3
      obtain ⟨Y3, hY3⟩ : ∃ Y3, Y2.setCell ⟨wr.heap.size, 0, none⟩ (.int .u8 KI) = Y3 := ⟨_, rfl⟩
      have s3 : Sole [wr.heap.size] Y2 Y3 := by rw [← hY3]; exact Sole.setCell _ _ (by simp)
      rw [hY3] at b3
      refine wpAnyH_ready (rs := [8]) (by kernel_rfl) (by simp) ?_
      refine AllReadyH.cons rfl (fun K hK => ?_) AllReadyH.nil
      go_simp
      go_wp2
      (try rw [hY1])
      refine hK.out _ _ (hHeld2.trans s1) (fun hHeld3 => ?_)
      clear hK K
      try simp only [List.getElem_toArray, List.getElem_cons_zero, List.getElem_cons_succ, Act.put, List.setIfInBounds_toArray, List.set_cons_zero, List.set_cons_succ]
      refine wpAnyH_take (i := 9) (v := .pointer (some ⟨wr.heap.size, 1, none⟩)) rfl (by kernel_rfl) (by kernel_rfl) (by kernel_rfl) (fun _ _ _ h => h) (Or.inl ⟨by rfl, fun W hSw => by (try dsimp only at hSw); go_simp⟩) (by assumption) ?_
      simp only [List.getElem_toArray, List.getElem_cons_zero, List.getElem_cons_succ, Act.put, List.setIfInBounds_toArray, List.set_cons_zero, List.set_cons_succ]
      refine wpAnyH_ready (rs := [10]) (by kernel_rfl) (by simp) ?_
      refine AllReadyH.cons rfl (fun K hK => ?_) AllReadyH.nil
      go_simp
      go_wp2
      (try rw [hY2])
      refine hK.out _ _ (hHeld3.trans s2) (fun hHeld4 => ?_)
      clear hK K
      try simp only [List.getElem_toArray, List.getElem_cons_zero, List.getElem_cons_succ, Act.put, List.setIfInBounds_toArray, List.set_cons_zero, List.set_cons_succ]
      refine wpAnyH_take (i := 11) (v := .pointer (some ⟨wr.heap.size, 0, none⟩)) rfl (by kernel_rfl) (by kernel_rfl) (by kernel_rfl) (fun _ _ _ h => h) (Or.inl ⟨by rfl, fun W hSw => by (try dsimp only at hSw); go_simp⟩) (by assumption) ?_
      simp only [List.getElem_toArray, List.getElem_cons_zero, List.getElem_cons_succ, Act.put, List.setIfInBounds_toArray, List.set_cons_zero, List.set_cons_succ]
      refine wpAnyH_ready (rs := [12]) (by kernel_rfl) (by simp) ?_
      refine AllReadyH.cons rfl (fun K hK => ?_) AllReadyH.nil
      go_simp
      go_wp2
      (try rw [hY3])
      refine hK.out _ _ (hHeld4.trans s3) (fun hHeld5 => ?_)
      clear hK K
      try simp only [List.getElem_toArray, List.getElem_cons_zero, List.getElem_cons_succ, Act.put, List.setIfInBounds_toArray, List.set_cons_zero, List.set_cons_succ]
      refine wpAnyH_done (by kernel_rfl) ?_ _
      refine NoPanic.normal ?_
      have hS3 : Sole [wr.heap.size] Y0 Y3 := (s1.trans s2).trans s3
      have hB3 : Below wr.heap.size wr Y3 := hS3.belowOf hY0 hY0.size (by simp)
      have hL3 : LoAt base Y3 q p f N (.slice aT l.there.length cT) (.slice (some ⟨gF, 0, none⟩) l.free.length cF) l := hLr.below hB3
      have hD3 : DiskAt Y3 p bs bp si := HDI.out.below hB3
      have hz3 : Y3.heap.size = wr.heap.size + 1 := by
        have e1 : Y1.heap.size = Y0.heap.size := by rw [← hY1]; simp [World.setCell]
        have e2 : Y2.heap.size = Y1.heap.size := by rw [← hY2]; simp [World.setCell]
        have e3 : Y3.heap.size = Y2.heap.size := by rw [← hY3]; simp [World.setCell]
        omega
      have HB3' : Hid (Below wr.heap.size wr Y3) := hB3
      have HL3 : Hid _ := hL3
      have HD3 : Hid _ := hD3
      have HB30 : Hid _ := b3
      have hbn : wr.heap.size ∉ [p, bs, bp] := not_disk hD3 b3 (by decide)
      have R0 : ∀ W, Sole [p, bs, bp] Y3 W → W.heap[q]? = some (.cells (loC p f N (.slice aT l.there.length cT) (.slice (some ⟨gF, 0, none⟩) l.free.length cF) l) 77 (0, 0)) := fun W hW => (hW.block q (by omega) hqn).trans HL3.out.row
      have q0 : ∀ W, Sole [p, bs, bp] Y3 W → W.cell? ⟨q, 0, none⟩ = some (.pointer (some ⟨p, 0, none⟩)) := fun W hW => by rw [cell_of_row _ _ 0 _ _ (0, 0) (R0 W hW)]; rfl
      have q1 : ∀ W, Sole [p, bs, bp] Y3 W → W.cell? ⟨q, 1, none⟩ = some (.int .i64 f) := fun W hW => by rw [cell_of_row _ _ 1 _ _ (0, 0) (R0 W hW)]; rfl
      have q2 : ∀ W, Sole [p, bs, bp] Y3 W → W.cell? ⟨q, 2, none⟩ = some (.int .i64 N) := fun W hW => by rw [cell_of_row _ _ 2 _ _ (0, 0) (R0 W hW)]; rfl
      have R1 : ∀ W, Sole [p, bs, bp] Y3 W → W.heap[wr.heap.size]? = some (.cells #[.int .u8 KI, .int .u64 T, .int .u64 l.next, .int .i64 i, .int .i64 L, .slice ba bn bd] 82 (0, 0)) := fun W hW => (hW.block _ (by omega) hbn).trans HB30.out
      have y0 : ∀ W, Sole [p, bs, bp] Y3 W → W.cell? ⟨wr.heap.size, 0, none⟩ = some (.int .u8 KI) := fun W hW => by rw [cell_of_row _ _ 0 _ _ (0, 0) (R1 W hW)]; rfl
      have y1 : ∀ W, Sole [p, bs, bp] Y3 W → W.cell? ⟨wr.heap.size, 1, none⟩ = some (.int .u64 T) := fun W hW => by rw [cell_of_row _ _ 1 _ _ (0, 0) (R1 W hW)]; rfl
      have y2 : ∀ W, Sole [p, bs, bp] Y3 W → W.cell? ⟨wr.heap.size, 2, none⟩ = some (.int .u64 l.next) := fun W hW => by rw [cell_of_row _ _ 2 _ _ (0, 0) (R1 W hW)]; rfl
      have y3 : ∀ W, Sole [p, bs, bp] Y3 W → W.cell? ⟨wr.heap.size, 3, none⟩ = some (.int .i64 i) := fun W hW => by rw [cell_of_row _ _ 3 _ _ (0, 0) (R1 W hW)]; rfl
      have y4 : ∀ W, Sole [p, bs, bp] Y3 W → W.cell? ⟨wr.heap.size, 4, none⟩ = some (.int .i64 L) := fun W hW => by rw [cell_of_row _ _ 4 _ _ (0, 0) (R1 W hW)]; rfl
      have y5 : ∀ W, Sole [p, bs, bp] Y3 W → W.cell? ⟨wr.heap.size, 5, none⟩ = some (.slice ba bn bd) := fun W hW => by rw [cell_of_row _ _ 5 _ _ (0, 0) (R1 W hW)]; rfl
      have x0 : ∀ W, Sole [p, bs, bp] Y3 W → W.cell? ⟨gF, i * 2, none⟩ = some (.int .i64 x.block) := fun W hW => by
        have e1 := (HC4.out i x HX.out).1
        have e2 : W.heap[gF]? = w4.heap[gF]? := (hW.block gF (by omega) hFn).trans ((HB3'.out.block gF (by omega)).trans (HSI.out.block gF hgF4 hFn))
        rw [← e1]
        unfold World.cell?
        rw [e2]
      have hpk : PcOk (appPc KI T l.next xs i) := ⟨by show KI < 256; omega, by show T < 18446744073709551616; omega, by show l.next < 18446744073709551616; omega, by show i < 256; omega, by show xs.length < 65536; have := HLL.out; omega, fun z hz => HBY.out z (List.mem_of_mem_drop (List.mem_of_mem_take hz)), by show ((xs.drop (i * 488)).take 488).length ≤ 488; rw [List.length_take]; omega⟩
      have cw := rwrite_any (hD3.below (belowD Y3)) f N x.block (by omega) (by omega) (appPc KI T l.next xs i) hpk (.slice ba bn bd) (Rd.below (Rd.below HRI.out hB3) (belowD Y3))
      unfold ringV pcV at cw
      have e0 : (appPc KI T l.next xs i).kind = KI := rfl
      have e1 : (appPc KI T l.next xs i).tail = T := rfl
      have e2 : (appPc KI T l.next xs i).at_ = l.next := rfl
      have e3 : (appPc KI T l.next xs i).index = i := rfl
      have e4 : (appPc KI T l.next xs i).length = L := HLL.out
      rw [e0, e1, e2, e3, e4] at cw
      obtain ⟨PP, hPP⟩ : ∃ PP, appPc KI T l.next xs i = PP := ⟨_, rfl⟩
      rw [hPP] at cw
      have HPP : Hid (appPc KI T l.next xs i = PP) := hPP
      have HXB : Hid _ := hxb
      have hix : ((i : Nat) : Int) < n := hiI
      clear hPP e0 e1 e2 e3 e4 hpk z0 z1 z2 fz0 fz1 fz2 b0 b1 b2 b3 hHeld hHeld2 hHeld3 hHeld4 hHeld5 p5 s1 s2 s3 hS3 hB3 hL3 hD3 hY0 R0 R1 hLr hY1 hY2 hY3 hBZ hxb
      unfold ptr at cw
      go_wp2_with fail
      refine wp_region_noPanic ?_
      refine wp_region_held_drew (S := fun W => Sole [p, bs, bp] Y3 W) (by kernel_rfl) (Sole.drew _ _) (fun hHeld => ?_)
      refine wpAnyH_take (i := 0) (v := .pointer (some ⟨q, 0, none⟩)) rfl (by kernel_rfl) (by kernel_rfl) (by kernel_rfl) (fun _ _ _ h => h) (Or.inl ⟨by rfl, fun W hSw => by (try dsimp only at hSw); go_simp⟩) (by assumption) ?_
      simp only [List.getElem_toArray, List.getElem_cons_zero, List.getElem_cons_succ, Act.put, List.setIfInBounds_toArray, List.set_cons_zero, List.set_cons_succ]
      refine wpAnyH_take (i := 1) (v := .pointer (some ⟨q, 0, none⟩)) rfl (by kernel_rfl) (by kernel_rfl) (by kernel_rfl) (fun _ _ _ h => h) (Or.inl ⟨by rfl, fun W hSw => by (try dsimp only at hSw); go_simp⟩) (by assumption) ?_
      simp only [List.getElem_toArray, List.getElem_cons_zero, List.getElem_cons_succ, Act.put, List.setIfInBounds_toArray, List.set_cons_zero, List.set_cons_succ]
      refine wpAnyH_take (i := 2) (v := .pointer (some ⟨q, 0, none⟩)) rfl (by kernel_rfl) (by kernel_rfl) (by kernel_rfl) (fun _ _ _ h => h) (Or.inl ⟨by rfl, fun W hSw => by (try dsimp only at hSw); go_simp⟩) (by assumption) ?_
      simp only [List.getElem_toArray, List.getElem_cons_zero, List.getElem_cons_succ, Act.put, List.setIfInBounds_toArray, List.set_cons_zero, List.set_cons_succ]
      refine wpAnyH_take (i := 3) (v := .agg #[.pointer (some ⟨p, 0, none⟩), .int .i64 f, .int .i64 N]) rfl (by kernel_rfl) (by kernel_rfl) (by kernel_rfl) (fun _ _ _ h => h) (Or.inl ⟨by rfl, fun W hSw => by (try dsimp only at hSw); go_simp⟩) (by assumption) ?_
      simp only [List.getElem_toArray, List.getElem_cons_zero, List.getElem_cons_succ, Act.put, List.setIfInBounds_toArray, List.set_cons_zero, List.set_cons_succ]
      refine wpAnyH_take (i := 4) (v := .slice (some ⟨gF, 0, none⟩) n cF) rfl (by kernel_rfl) (by kernel_rfl) (by kernel_rfl) (fun _ _ _ h => h) (Or.inl ⟨by rfl, fun W hSw => by (try dsimp only at hSw); go_simp⟩) (by assumption) ?_
      simp only [List.getElem_toArray, List.getElem_cons_zero, List.getElem_cons_succ, Act.put, List.setIfInBounds_toArray, List.set_cons_zero, List.set_cons_succ]
      refine wpAnyH_take (i := 5) (v := .int .i64 i) rfl (by kernel_rfl) (by kernel_rfl) (by kernel_rfl) (fun _ _ _ h => h) (Or.inl ⟨by rfl, fun W hSw => by (try dsimp only at hSw); go_simp⟩) (by assumption) ?_
      simp only [List.getElem_toArray, List.getElem_cons_zero, List.getElem_cons_succ, Act.put, List.setIfInBounds_toArray, List.set_cons_zero, List.set_cons_succ]
      refine wpAnyH_take (i := 6) (v := .pointer (some ⟨gF, i * 2, none⟩)) rfl (by kernel_rfl) (by kernel_rfl) (by kernel_rfl) (fun _ _ _ h => h) (Or.inl ⟨by rfl, fun W hSw => by (try dsimp only at hSw); go_simp⟩) (by assumption) ?_
      simp only [List.getElem_toArray, List.getElem_cons_zero, List.getElem_cons_succ, Act.put, List.setIfInBounds_toArray, List.set_cons_zero, List.set_cons_succ]
      refine wpAnyH_take (i := 7) (v := .pointer (some ⟨gF, i * 2, none⟩)) rfl (by kernel_rfl) (by kernel_rfl) (by kernel_rfl) (fun _ _ _ h => h) (Or.inl ⟨by rfl, fun W hSw => by (try dsimp only at hSw); go_simp⟩) (by assumption) ?_
      simp only [List.getElem_toArray, List.getElem_cons_zero, List.getElem_cons_succ, Act.put, List.setIfInBounds_toArray, List.set_cons_zero, List.set_cons_succ]
      refine wpAnyH_take (i := 8) (v := .int .i64 x.block) rfl (by kernel_rfl) (by kernel_rfl) (by kernel_rfl) (fun _ _ _ h => h) (Or.inl ⟨by rfl, fun W hSw => by (try dsimp only at hSw); go_simp⟩) (by assumption) ?_
      simp only [List.getElem_toArray, List.getElem_cons_zero, List.getElem_cons_succ, Act.put, List.setIfInBounds_toArray, List.set_cons_zero, List.set_cons_succ]
      refine wpAnyH_take (i := 9) (v := .agg #[.int .u8 KI, .int .u64 T, .int .u64 l.next, .int .i64 i, .int .i64 L, .slice ba bn bd]) rfl (by kernel_rfl) (by kernel_rfl) (by kernel_rfl) (fun _ _ _ h => h) (Or.inl ⟨by rfl, fun W hSw => by (try dsimp only at hSw); go_simp⟩) (by assumption) ?_
      simp only [List.getElem_toArray, List.getElem_cons_zero, List.getElem_cons_succ, Act.put, List.setIfInBounds_toArray, List.set_cons_zero, List.set_cons_succ]
      refine wpAnyH_ready (rs := [10]) (by kernel_rfl) (by simp) ?_
      refine AllReadyH.cons rfl (fun K hK => ?_) AllReadyH.nil
      go_simp
      go_wp2_with (go_at_call 31; refine cw.mono ?_; rintro e6 w6 ⟨rfl, hd6, hs6⟩)
      refine hK.out _ _ (keepT (by assumption) (by assumption)) (fun hHeld2 => ?_)
      clear hK K
      try simp only [List.getElem_toArray, List.getElem_cons_zero, List.getElem_cons_succ, Act.put, List.setIfInBounds_toArray, List.set_cons_zero, List.set_cons_succ]
      obtain ⟨E, hE⟩ : ∃ E, (writeOut si (f + x.block) (encP PP)).1 = E := ⟨_, rfl⟩
      rw [hE]
      have HE : Hid _ := hE
      refine wpAnyH_take (i := 11) (v := .int .i64 E) rfl (by kernel_rfl) (by kernel_rfl) (by kernel_rfl) (fun _ _ _ h => h) (Or.inl ⟨by rfl, fun W hSw => by (try dsimp only at hSw); go_simp⟩) (by assumption) ?_
      simp only [List.getElem_toArray, List.getElem_cons_zero, List.getElem_cons_succ, Act.put, List.setIfInBounds_toArray, List.set_cons_zero, List.set_cons_succ]
      refine wpAnyH_done (by kernel_rfl) ?_ _
      refine NoPanic.normal ?_
      have HD6 : Hid (DiskAt w6 p bs bp (writeOut si (f + x.block) (encP PP)).2) := hd6
      have HS6 : Hid (Sole [p, bs, bp] w4 w6) := (HSI.out.trans (Sole.of_below HB3'.out _)).trans hHeld2
      have HDR : Hid (W.drop i = (x.block, PP) :: W.drop (i + 1)) := by unfold Hid; rw [← HW.out, ← HPP.out]; exact appL_drop _ _ _ _ _ _ _ HX.out
      clear hE hd6 hs6 cw hHeld hHeld2 q0 q1 q2 y0 y1 y2 y3 y4 y5 x0
      by_cases hE0 : E = 0
      · subst hE0
        have HW2 : Hid (wrS f W s = wrS f (W.drop (i + 1)) (writeOut si (f + x.block) (encP PP)).2) := by
          unfold Hid; rw [HWS.out, HDR.out]; show (if _ = 0 then _ else _) = _; rw [if_pos HE.out]
        go_wp2
        go_roundw
        case rel => exact ⟨i + 1, _, by omega, by go_num, HW2, HD6, HS6⟩
        case measure => simp [RowKit.intOf]; omega
      · have HW2 : Hid (wrS f W s = writeOut si (f + x.block) (encP PP)) := by
          unfold Hid; rw [HWS.out, HDR.out]; show (if _ = 0 then _ else _) = _; rw [if_neg (by rw [HE.out]; exact hE0)]
        have HL6 : Hid (LoAt base w6 q p f N (.slice aT l.there.length cT) (.slice (some ⟨gF, 0, none⟩) l.free.length cF) l) := HL4.out.disk HD4.out HS6.out
        have HSO : Hid (Sole ([p, bs, bp] ++ q :: ((Value.slice aT l.there.length cT).ownBlock.toList ++ (Value.slice (some ⟨gF, 0, none⟩) l.free.length cF).ownBlock.toList)) w1 w6) := (Sole.of_below HB4.out _).trans (HS6.out.mono (fun k hk => List.mem_append_left _ hk))
        go_wp2
        go_ret2
        refine .inl ⟨by rw [HW2.out, HE.out]; exact hE0, by rw [HW2.out, HE.out]; rfl, ⟨⟨_, _, HL6.out, (fun k hk => .inl hk), fun k hk => .inl hk⟩, by rw [HW2.out]; exact HD6.out, HSO.out⟩⟩
    · have hiI : ¬ (i : Int) < n := by omega
      obtain ⟨wv, hwv⟩ : ∃ wv, wv = wr := ⟨_, rfl⟩
      subst hwv
      obtain ⟨iT, hiT, hy0, hy1, hy2⟩ := info_parts Tryz.infoTk
      have hWE : W.drop i = [] := by rw [← HW.out]; exact appL_end _ _ _ _ _ _ (by have := HSN.out; omega)
      have HWF : Hid (wrS f W s = (0, si)) := by unfold Hid; rw [HWS.out, hWE]; rfl
      have hLr := HL4.out.disk HD4.out HSI.out
      have HLR : Hid (LoAt base wv q p f N (.slice aT l.there.length cT) (.slice (some ⟨gF, 0, none⟩) l.free.length cF) l) := hLr
      have hql : q < wv.heap.size := by omega
      have hgFv : gF < wv.heap.size := by omega
      have r5 : wv.cell? ⟨q, 5, none⟩ = some (.int .u64 l.next) := hLr.cell 5 _ rfl
      have hO1 := hLr.there
      obtain ⟨RB, HRB⟩ : ∃ RB : List Nat, Hid (RB = (Value.slice aT l.there.length cT).ownBlock.toList) := ⟨_, rfl⟩
      have hRB : ∀ k ∈ RB, k ≠ q ∧ k < wv.heap.size ∧ k ≠ gF := fun k hk => by
        rw [HRB.out, Option.mem_toList] at hk
        exact ⟨fun e => row_apart (by decide) hLr.row hLr.there (by rw [hk, e]), (World.ownsRow.lt hLr.there k hk).2, fun e => types_apart (by decide) hLr.there hLr.free k hk (by rw [e]; rfl)⟩
      obtain ⟨m, hm⟩ : ∃ m, l.there.length = m := ⟨_, rfl⟩
      have HM : Hid (l.there.length = m) := hm
      rw [hm] at hO1
      have hrow := hLr.row
      unfold loC at hrow
      rw [hm] at hrow
      have pk : ∀ W, Sole RB wv W → W.heap[q]? = some (.cells #[.pointer (some ⟨p, 0, none⟩), .int .i64 f, .int .i64 N, .slice aT m cT, .slice (some ⟨gF, 0, none⟩) l.free.length cF, .int .u64 l.next, .int .u64 l.tail, .bool l.grown] 77 (0, 0)) := fun W hW => (hW.block q hql (fun e => (hRB q e).1 rfl)).trans hrow
      have p3 : ∀ W, Sole RB wv W → W.cell? ⟨q, 3, none⟩ = some (.slice aT m cT) := fun W hW => by rw [cell_of_row _ _ 3 _ _ (0, 0) (pk W hW)]; rfl
      have cbl := blocksOf_any wv.drew gF cF S hgFv (by have := HSN.out; omega) (by unfold maxLen; omega) (by have := HSN.out; omega) (fun i x hx => by
        have e2 : wv.drew.heap[gF]? = w4.heap[gF]? := HSI.out.block gF hgF4 hFn
        have e1 := HC4.out i x hx
        rw [← e1.1, ← e1.2]
        unfold World.cell?
        rw [e2]
        exact ⟨rfl, rfl⟩)
      rw [HSN.out] at cbl
      have HPK : Hid _ := pk
      have HO1 : Hid _ := hO1
      have hm2 : m ≤ 2000 := by omega
      clear hLr hrow pk hWE HWS hm hO1
      go_wp2_with fail
      clear r5
      refine wp_region_noPanic ?_
      refine wp_region_sink 13 (S := fun W => Sole RB wv W) (by kernel_rfl) (by kernel_rfl) (Sole.drew _ _) (fun hHeld => ?_)
      refine wpAnyH_take (i := 0) (v := .pointer (some ⟨q, 0, none⟩)) rfl (by kernel_rfl) (by kernel_rfl) (by kernel_rfl) (fun _ _ _ h => h) (Or.inl ⟨by rfl, fun W hSw => by (try dsimp only at hSw); go_simp⟩) (by assumption) ?_
      simp only [List.getElem_toArray, List.getElem_cons_zero, List.getElem_cons_succ, Act.put, List.setIfInBounds_toArray, List.set_cons_zero, List.set_cons_succ]
      refine wpAnyH_take (i := 1) (v := .pointer (some ⟨q, 0, none⟩)) rfl (by kernel_rfl) (by kernel_rfl) (by kernel_rfl) (fun _ _ _ h => h) (Or.inl ⟨by rfl, fun W hSw => by (try dsimp only at hSw); go_simp⟩) (by assumption) ?_
      simp only [List.getElem_toArray, List.getElem_cons_zero, List.getElem_cons_succ, Act.put, List.setIfInBounds_toArray, List.set_cons_zero, List.set_cons_succ]
      refine wpAnyH_take (i := 2) (v := .pointer (some ⟨q, 0, none⟩)) rfl (by kernel_rfl) (by kernel_rfl) (by kernel_rfl) (fun _ _ _ h => h) (Or.inl ⟨by rfl, fun W hSw => by (try dsimp only at hSw); go_simp⟩) (by assumption) ?_
      simp only [List.getElem_toArray, List.getElem_cons_zero, List.getElem_cons_succ, Act.put, List.setIfInBounds_toArray, List.set_cons_zero, List.set_cons_succ]
      refine wpAnyH_take (i := 3) (v := .pointer (some ⟨q, 3, none⟩)) rfl (by kernel_rfl) (by kernel_rfl) (by kernel_rfl) (fun _ _ _ h => h) (Or.inl ⟨by rfl, fun W hSw => by (try dsimp only at hSw); go_simp⟩) (by assumption) ?_
      simp only [List.getElem_toArray, List.getElem_cons_zero, List.getElem_cons_succ, Act.put, List.setIfInBounds_toArray, List.set_cons_zero, List.set_cons_succ]
      refine wpAnyH_take (i := 4) (v := .slice aT m cT) rfl (by kernel_rfl) (by kernel_rfl) (by kernel_rfl) (fun _ _ _ h => h) (Or.inl ⟨by rfl, fun W hSw => by (try dsimp only at hSw); go_simp⟩) (by assumption) ?_
      simp only [List.getElem_toArray, List.getElem_cons_zero, List.getElem_cons_succ, Act.put, List.setIfInBounds_toArray, List.set_cons_zero, List.set_cons_succ]
      refine wpAnyH_take (i := 5) (v := .int .u64 l.next) rfl (by kernel_rfl) (by kernel_rfl) (by kernel_rfl) (fun _ _ _ h => h) (Or.inl ⟨by rfl, fun W hSw => by (try dsimp only at hSw); go_simp⟩) (by assumption) ?_
      simp only [List.getElem_toArray, List.getElem_cons_zero, List.getElem_cons_succ, Act.put, List.setIfInBounds_toArray, List.set_cons_zero, List.set_cons_succ]
      refine wpAnyH_take (i := 6) (v := .slice (some ⟨gF, 0, none⟩) n cF) rfl (by kernel_rfl) (by kernel_rfl) (by kernel_rfl) (fun _ _ _ h => h) (Or.inl ⟨by rfl, fun W hSw => by (try dsimp only at hSw); go_simp⟩) (by assumption) ?_
      simp only [List.getElem_toArray, List.getElem_cons_zero, List.getElem_cons_succ, Act.put, List.setIfInBounds_toArray, List.set_cons_zero, List.set_cons_succ]
      refine wpAnyH_ready (rs := [7]) (by kernel_rfl) (by simp) ?_
      refine AllReadyH.cons rfl (fun K hK => ?_) AllReadyH.nil
      go_simp
      go_wp2_with (go_at_call 46; refine cbl.mono ?_; rintro e6 Z2 ⟨gb, rfl, hgb, hgbc, hB2⟩)
      refine hK.out _ _ (keepS (by assumption) (by assumption)) (fun hHeld2 => ?_)
      clear hK K cbl
      try simp only [List.getElem_toArray, List.getElem_cons_zero, List.getElem_cons_succ, Act.put, List.setIfInBounds_toArray, List.set_cons_zero, List.set_cons_succ]
      refine wpAnyH_take (i := 8) (v := .agg #[.int .u64 l.next, .slice (some ⟨gb, 0, none⟩) n n]) rfl (by kernel_rfl) (by kernel_rfl) (by kernel_rfl) (fun _ _ _ h => h) (Or.inl ⟨by rfl, fun W hSw => by (try dsimp only at hSw); go_simp⟩) (by assumption) ?_
      simp only [List.getElem_toArray, List.getElem_cons_zero, List.getElem_cons_succ, Act.put, List.setIfInBounds_toArray, List.set_cons_zero, List.set_cons_succ]
      refine wpAnyH_ready (rs := [9]) (by kernel_rfl) (by simp) ?_
      refine AllReadyH.cons rfl (fun K hK => ?_) AllReadyH.nil
      go_simp
      go_wp2
      have hb3 : Below Z2.heap.size Z2 (Z2.alloc (.cells #[.int .u64 l.next, .slice (some ⟨gb, 0, none⟩) n n] 94)) := (Below.refl _ Z2).alloc (Nat.le_refl _) _
      have hg3 := heap_alloc_new Z2 (.cells #[.int .u64 l.next, .slice (some ⟨gb, 0, none⟩) n n] 94)
      have hs3 : (Z2.alloc (.cells #[.int .u64 l.next, .slice (some ⟨gb, 0, none⟩) n n] 94)).heap.size = Z2.heap.size + 1 := by simp
      refine hK.out _ _ (keepS hb3 (by assumption)) (fun hHeld3 => ?_)
      clear hK K
      try simp only [List.getElem_toArray, List.getElem_cons_zero, List.getElem_cons_succ, Act.put, List.setIfInBounds_toArray, List.set_cons_zero, List.set_cons_succ]
      have hgb' : wv.heap.size ≤ gb := hgb
      have hgbl : gb < Z2.heap.size := (Array.getElem?_eq_some_iff.1 hgbc).1
      have hZ2 : Below wv.heap.size wv Z2 := thenB (belowD wv) hB2
      generalize Z2.alloc (.cells #[.int .u64 l.next, .slice (some ⟨gb, 0, none⟩) n n] 94) = Z3 at *
      have hZ3 : Below wv.heap.size wv Z3 := thenB hZ2 hb3
      have hO3 := own_keep HO1.out hZ3.size (fun k _ hl => hZ3.block k hl)
      have hzz := hZ2.size
      refine wpAnyH_ready (rs := [10]) (by kernel_rfl) (by simp) ?_
      refine AllReadyH.cons rfl (fun K hK => ?_) AllReadyH.nil
      rw [if_pos (by rfl)]
      obtain ⟨v4, Z4, hrun, h4o, h4g, _, h4a⟩ := run_append_own_at (P := Tryz.prog) Z3 base 74 74 94 iT _ 2 32 Tryz.underlying74 hiT hy0 hy1 hy2 rfl (by decide) (.slice aT m cT) m (l.there.flatMap tmC) hO3 ⟨Z2.heap.size, 0, none⟩ 1 1 [.int .u64 l.next, .slice (some ⟨gb, 0, none⟩) n n] rfl (rowAdd hg3) (by intro u hu; simp at hu; rcases hu with rfl | rfl <;> rfl) (by unfold maxLen; omega) (by omega) (by have := HB4.out.size; omega)
      obtain ⟨a4, c4, rfl⟩ := own_shape h4o
      refine wp_app _ _ 74 rfl _ _ rfl rfl hrun ?_
      have hS34 : Sole RB Z3 Z4 := ⟨h4g.os, h4g.tape, h4g.output, h4g.size, fun k hk hn => h4g.block k hk (fun e => hn (by rw [HRB.out, Option.mem_toList, HM.out]; exact e.symm))⟩
      have hS4 : Sole RB wv Z4 := hHeld3.trans hS34
      refine hK.out _ _ hS4 (fun hHeld4 => ?_)
      clear hK K
      try simp only [List.getElem_toArray, List.getElem_cons_zero, List.getElem_cons_succ, Act.put, List.setIfInBounds_toArray, List.set_cons_zero, List.set_cons_succ]
      refine wpAnyH_take (i := 11) (v := .pointer (some ⟨q, 0, none⟩)) rfl (by kernel_rfl) (by kernel_rfl) (by kernel_rfl) (fun _ _ _ h => h) (Or.inl ⟨by rfl, fun W hSw => by (try dsimp only at hSw); go_simp⟩) (by assumption) ?_
      simp only [List.getElem_toArray, List.getElem_cons_zero, List.getElem_cons_succ, Act.put, List.setIfInBounds_toArray, List.set_cons_zero, List.set_cons_succ]
      refine wpAnyH_take (i := 12) (v := .pointer (some ⟨q, 3, none⟩)) rfl (by kernel_rfl) (by kernel_rfl) (by kernel_rfl) (fun _ _ _ h => h) (Or.inl ⟨by rfl, fun W hSw => by (try dsimp only at hSw); go_simp⟩) (by assumption) ?_
      simp only [List.getElem_toArray, List.getElem_cons_zero, List.getElem_cons_succ, Act.put, List.setIfInBounds_toArray, List.set_cons_zero, List.set_cons_succ]
      have hG4 := HPK.out Z4 hS4
      have x43 := p3 Z4 hS4
      have f43 := frozen_of_row Z4 q 3 _ _ hG4
      have hG5 := heap_setCell_same Z4 q 3 _ _ (.slice a4 (m + 1) c4) hG4
      simp only [List.setIfInBounds_toArray, List.set_cons_zero, List.set_cons_succ] at hG5
      obtain ⟨Z5, hZ5⟩ : ∃ Z5, Z4.setCell ⟨q, 3, none⟩ (.slice a4 (m + 1) c4) = Z5 := ⟨_, rfl⟩
      have hS45 : Sole [q] Z4 Z5 := by rw [← hZ5]; exact Sole.setCell _ _ (by simp)
      rw [hZ5] at hG5
      refine wpAnyH_done (by kernel_rfl) ?_ _
      refine Behind.run (by rfl) ?_
      go_simp
      go_wp2
      refine NoPanic.normal ?_
      have hqF : q ≠ gF := fun e => row_apart (by decide) HLR.out.row HLR.out.free (by rw [e]; rfl)
      have hS5 : Sole (q :: RB) wv Z5 := (hS4.mono (fun k hk => List.mem_cons_of_mem _ hk)).trans (hS45.mono (fun k hk => by simp only [List.mem_singleton] at hk; subst hk; exact List.mem_cons_self))
      have hF5 : Z5.ownsRow base 84 2 (.slice (some ⟨gF, 0, none⟩) l.free.length cF) l.free.length (l.free.flatMap slC) := own_keep HLR.out.free hS5.size (fun k hk hl => hS5.block k hl (fun hmem => by
        cases hk
        rcases List.mem_cons.1 hmem with e | e
        · exact hqF e.symm
        · exact (hRB _ e).2.2 rfl))
      have hT5 : Z5.ownsRow base 94 2 (.slice a4 (m + 1) c4) (m + 1) (l.there.flatMap tmC ++ [.int .u64 l.next, .slice (some ⟨gb, 0, none⟩) n n]) := own_keep h4o hS45.size (fun k hk hl => hS45.block k hl (fun hmem => by
        simp only [List.mem_singleton] at hmem
        subst hmem
        exact row_apart (by decide) hG4 h4o hk))
      have hb5 : Z5.heap[gb]? = some (.cells (blkC (S.map Sl.block)).toArray 3 (0, 0)) := by
        have hgq : gb ∉ q :: RB := fun hmem => by
          rcases List.mem_cons.1 hmem with e | e
          · omega
          · have := (hRB _ e).2.1; omega
        have hgR : gb ∉ RB := fun e => hgq (List.mem_cons_of_mem _ e)
        exact (hS45.block gb (by have := hb3.size; have := hS34.size; omega) (by simp only [List.mem_singleton]; omega)).trans ((hS34.block gb (by omega) hgR).trans ((hb3.block gb hgbl).trans hgbc))
      have hFT5 : ∀ k, (Value.slice a4 (m + 1) c4).ownBlock = some k → k ≠ gF := fun k hk e => types_apart (by decide) hT5 hF5 k hk (by rw [e]; rfl)
      have y54 : Z5.cell? ⟨q, 4, none⟩ = some (.slice (some ⟨gF, 0, none⟩) l.free.length cF) := by rw [cell_of_row _ _ 4 _ _ (0, 0) hG5]; rfl
      have hfl2 : n ≤ l.free.length := hfl
      have cd := delSl_own hF5 n hfl2
      obtain ⟨fl, hfle⟩ : ∃ fl, l.free.length = fl := ⟨_, rfl⟩
      have HFL : Hid (l.free.length = fl) := hfle
      obtain ⟨fd, hfd⟩ : ∃ fd, fl - n = fd := ⟨_, rfl⟩
      rw [hfle] at y54 cd hG5
      rw [hfd] at cd
      have HFD : Hid (fl - n = fd) := hfd
      have HG5 : Hid _ := hG5
      have HT5 : Hid _ := hT5
      have HS5 : Hid (Sole (q :: RB) wv Z5) := hS5
      have HB5 : Hid _ := hb5
      have HTA : Hid (∀ k, (Value.slice a4 (m + 1) c4).ownBlock = some k → (Value.slice aT m cT).ownBlock = some k ∨ wv.heap.size ≤ k) := fun k hk => by
        rcases h4a with e | e
        · left; rw [← e]; exact hk
        · right; rw [hk] at e; simp only [Option.some.injEq] at e; have := hZ3.size; omega
      have HFT : Hid _ := hFT5
      have hgb5 : gb < Z5.heap.size := (Array.getElem?_eq_some_iff.1 hb5).1
      have hq5 : q < Z5.heap.size := (Array.getElem?_eq_some_iff.1 hG5).1
      clear hO3 hrun h4o h4g h4a hg3 hgbc hG4 x43 f43 hG5 hS4 hS34 hS45 hb3 hS5 hT5 hb5 hFT5 hHeld hHeld2 hHeld3 hHeld4 p3 HPK hB2 hZ2 hZ3 HO1 hfle hfd hF5 hZ5 hs3
      go_wp2_with fail
      refine cd.mono ?_
      rintro e7 w7 ⟨rfl, hO7, hS7⟩
      clear cd y54
      have hS7' : Sole [gF] Z5 w7 := hS7
      have hG7 := (hS7'.block q hq5 (by simpa using hqF)).trans HG5.out
      have y74 : w7.cell? ⟨q, 4, none⟩ = some (.slice (some ⟨gF, 0, none⟩) fl cF) := by rw [cell_of_row _ _ 4 _ _ (0, 0) hG7]; rfl
      have f74 := frozen_of_row w7 q 4 _ _ hG7
      have hG8 := heap_setCell_same w7 q 4 _ _ (.slice (some ⟨gF, 0, none⟩) fd cF) hG7
      simp only [List.setIfInBounds_toArray, List.set_cons_zero, List.set_cons_succ] at hG8
      obtain ⟨w8, hw8⟩ : ∃ w8, w7.setCell ⟨q, 4, none⟩ (.slice (some ⟨gF, 0, none⟩) fd cF) = w8 := ⟨_, rfl⟩
      have t8 : Sole [q] w7 w8 := by rw [← hw8]; exact Sole.setCell _ _ (by simp)
      rw [hw8] at hG8
      obtain ⟨NX, hNX⟩ : ∃ NX : Int, (l.next : Int) + n = NX := ⟨_, rfl⟩
      have hwn : IntKind.u64.wrap (n : Int) = (n : Int) := by rw [IntKind.wrap_u64]; omega
      have hwx : IntKind.u64.wrap ((l.next : Int) + n) = NX := by rw [IntKind.wrap_u64, hNX]; omega
      have HNX : Hid ((l.next : Int) + n = NX) := hNX
      clear hNX
      have y85 : w8.cell? ⟨q, 5, none⟩ = some (.int .u64 l.next) := by rw [cell_of_row _ _ 5 _ _ (0, 0) hG8]; rfl
      have f85 := frozen_of_row w8 q 5 _ _ hG8
      have hG9 := heap_setCell_same w8 q 5 _ _ (.int .u64 NX) hG8
      simp only [List.setIfInBounds_toArray, List.set_cons_zero, List.set_cons_succ] at hG9
      obtain ⟨w9, hw9⟩ : ∃ w9, w8.setCell ⟨q, 5, none⟩ (.int .u64 NX) = w9 := ⟨_, rfl⟩
      have t9 : Sole [q] w8 w9 := by rw [← hw9]; exact Sole.setCell _ _ (by simp)
      rw [hw9] at hG9
      have y96 : w9.cell? ⟨q, 6, none⟩ = some (.int .u64 l.tail) := by rw [cell_of_row _ _ 6 _ _ (0, 0) hG9]; rfl
      have f96 := frozen_of_row w9 q 6 _ _ hG9
      have hG10 := heap_setCell_same w9 q 6 _ _ (.int .u64 T) hG9
      simp only [List.setIfInBounds_toArray, List.set_cons_zero, List.set_cons_succ] at hG10
      obtain ⟨w10, hw10⟩ : ∃ w10, w9.setCell ⟨q, 6, none⟩ (.int .u64 T) = w10 := ⟨_, rfl⟩
      have t10 : Sole [q] w9 w10 := by rw [← hw10]; exact Sole.setCell _ _ (by simp)
      rw [hw10] at hG10
      have y107 : w10.cell? ⟨q, 7, none⟩ = some (.bool l.grown) := by rw [cell_of_row _ _ 7 _ _ (0, 0) hG10]; rfl
      have f107 := frozen_of_row w10 q 7 _ _ hG10
      have hG11 := heap_setCell_same w10 q 7 _ _ (.bool true) hG10
      simp only [List.setIfInBounds_toArray, List.set_cons_zero, List.set_cons_succ] at hG11
      obtain ⟨w11, hw11⟩ : ∃ w11, w10.setCell ⟨q, 7, none⟩ (.bool true) = w11 := ⟨_, rfl⟩
      have t11 : Sole [q] w10 w11 := by rw [← hw11]; exact Sole.setCell _ _ (by simp)
      rw [hw11] at hG11
      have t711 : Sole [q] w7 w11 := ((t8.trans t9).trans t10).trans t11
      have t511 : Sole [q, gF] Z5 w11 := (hS7'.mono (by simp)).trans (t711.mono (by simp))
      have HSF : Hid (Sole (q :: gF :: RB) wv w11) := (HS5.out.mono (fun k hk => by
        rcases List.mem_cons.1 hk with e | e
        · rw [e]; exact List.mem_cons_self
        · exact List.mem_cons_of_mem _ (List.mem_cons_of_mem _ e))).trans (t511.mono (fun k hk => by simp only [List.mem_cons, List.mem_nil_iff, or_false] at hk ⊢; rcases hk with e | e <;> simp [e]))
      have HO11 : Hid (w11.ownsRow base 84 2 (.slice (some ⟨gF, 0, none⟩) fd cF) (l.free.drop n).length ((l.free.drop n).flatMap slC)) := own_keep hO7 t711.size (fun k hk hl => t711.block k hl (fun hmem => by
        cases hk
        simp only [List.mem_singleton] at hmem
        exact hqF hmem.symm))
      have HT11 : Hid (w11.ownsRow base 94 2 (.slice a4 (m + 1) c4) (m + 1) (l.there.flatMap tmC ++ [.int .u64 l.next, .slice (some ⟨gb, 0, none⟩) n n])) := own_keep HT5.out t511.size (fun k hk hl => t511.block k hl (fun hmem => by
        simp only [List.mem_cons, List.mem_nil_iff, or_false] at hmem
        rcases hmem with e | e
        · exact row_apart (by decide) HG5.out HT5.out (by rw [hk, e])
        · exact HFT.out k hk e))
      have HB11 : Hid (w11.heap[gb]? = some (.cells (blkC (S.map Sl.block)).toArray 3 (0, 0))) := (t511.block gb hgb5 (by simp only [List.mem_cons, List.mem_nil_iff, or_false]; omega)).trans HB5.out
      have HR11 : Hid _ := hG11
      clear hG7 hG8 hG9 hG10 hG11 hO7 hS7 hS7' t8 t9 t10 t11 t711 t511
      go_wp2
      go_ret2
      have hfd : (l.free.drop n).length = fd := by rw [List.length_drop, HFL.out]; exact HFD.out
      have hml : (S.map Sl.block).length = n := by rw [List.length_map]; exact HSN.out
      refine .inr ⟨by rw [HWF.out], rfl, ⟨l.next, S.map Sl.block, some ⟨gb, 0, none⟩, n⟩, rfl, rfl, ⟨⟨.slice a4 (m + 1) c4, .slice (some ⟨gF, 0, none⟩) fd cF, ⟨?_, ?_, ?_, ?_⟩, (fun k hk => by
        have h1 := HTA.out k hk
        have h2 := HB4.out.size
        have h3 := HSI.out.size
        rcases h1 with h1 | h1
        · left; rw [← h1]; exact own_same _ _ _ _
        · right; omega), fun k hk => .inl hk⟩, ?_, ?_⟩⟩
      · rw [HR11.out]
        unfold loC
        rw [← HNX.out]
        rfl
      · show World.ownsRow _ base _ 2 _ (l.there ++ [_]).length ((l.there ++ [_]).flatMap tmC)
        rw [List.length_append, List.flatMap_append, HM.out]
        have e : ([(⟨l.next, S.map Sl.block, some ⟨gb, 0, none⟩, n⟩ : Tm)].flatMap tmC) = [.int .u64 l.next, .slice (some ⟨gb, 0, none⟩) n n] := by
          unfold tmC Tm.bv
          simp [hml]
        rw [e]
        exact HT11.out
      · show World.ownsRow _ base _ 2 _ (l.free.drop n).length _
        exact HO11.out
      · intro y hy
        have hy : y ∈ l.there ++ [(⟨l.next, S.map Sl.block, some ⟨gb, 0, none⟩, n⟩ : Tm)] := hy
        rcases List.mem_append.1 hy with hy | hy
        · refine own_keep (HLR.out.each y hy) HSF.out.size (fun k hk hl => HSF.out.block k hl (fun hmem => ?_))
          rcases List.mem_cons.1 hmem with e | e
          · exact row_apart (by decide) HLR.out.row (HLR.out.each y hy) (by rw [hk, e])
          · rcases List.mem_cons.1 e with e | e
            · exact types_apart (by decide) (HLR.out.each y hy) HLR.out.free k hk (by rw [e]; rfl)
            · rw [HRB.out, Option.mem_toList] at e
              exact types_apart (by decide) (HLR.out.each y hy) HLR.out.there k hk e
        · simp only [List.mem_singleton] at hy
          subst hy
          refine ⟨by show (blkC (S.map Sl.block)).length = (S.map Sl.block).length * 1; unfold blkC; simp, .inr ⟨gb, n, (blkC (S.map Sl.block)).toArray, by show Value.slice _ (S.map Sl.block).length n = _; rfl, by have := HB4.out.size; omega, HB11.out, by show (S.map Sl.block).length ≤ n; omega, by unfold maxLen; omega, by unfold blkC; simp [HSN.out], ?_⟩⟩
          show (blkC (S.map Sl.block)).toArray.toList.take ((S.map Sl.block).length * 1) = _
          rw [List.take_of_length_le (by unfold blkC; simp)]
      · rw [HWF.out]
        have hz : ∀ z ∈ [p, bs, bp], z ∉ q :: gF :: RB := fun z hz hmem => by
          rcases List.mem_cons.1 hmem with e | e
          · exact hqn (by rw [← e]; exact hz)
          · rcases List.mem_cons.1 e with e | e
            · exact hFn (by rw [← e]; exact hz)
            · rw [HRB.out, Option.mem_toList] at e
              exact own_not_disk HD4.out HL4.out.there (by decide) z e hz
        exact HDI.out.other HSF.out (hz p (by simp)) (hz bs (by simp)) (hz bp (by simp))
      · refine ((Sole.of_below HB4.out _).trans (HSI.out.mono (fun k hk => List.mem_append_left _ hk))).trans (HSF.out.mono (fun k hk => List.mem_append_right _ ?_))
        rcases List.mem_cons.1 hk with e | e
        · rw [e]; exact List.mem_cons_self
        · rcases List.mem_cons.1 e with e | e
          · rw [e]; exact List.mem_cons_of_mem _ (List.mem_append_right _ (by simp [Value.ownBlock]))
          · rw [HRB.out] at e; exact List.mem_cons_of_mem _ (List.mem_append_left _ e)

end Go.Proofs.YtckcdmkgmbicfaaGreat
