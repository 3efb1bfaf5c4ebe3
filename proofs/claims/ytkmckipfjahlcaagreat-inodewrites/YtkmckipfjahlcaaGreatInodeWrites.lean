/- Proved: what was changed of a record that was there is among what was written; what was set is told. -/
import Derived.Test.YtkmckipfjahlcaaGreatInW
import Derived.Test.YtkmckipfjahlcaaGreatInArg
import Derived.Test.YtkmckipfjahlcaaGreatVwRis
import Derived.Test.YtkmckipfjahlcaaGreatVwArg
import Derived.Deep.RegionHeld3
import Derived.BigQuiet
import Derived.Deep.QuietTactic
import Derived.WalkSmall
import Derived.ProofKit
import Derived.OpenShut
import Derived.ShutString
import Derived.ChangeOld
import Derived.Below
import Derived.Carry
import Derived.Deep.CutRange
import Derived.Deep.CutBlock
namespace Go.Proofs.YtkmckipfjahlcaaGreat.inodeWrites
open Go.ChangeShapes Go.WideShapes Go.ChangeAt Go.RowKit
open Go.ChangeMaps (open_string shut_string)
set_option linter.unusedVariables false
set_option linter.unusedSimpArgs false

theorem own : ownKnob Tryz.prog.godebug = none := by kernel_rfl
theorem laidOut : laidOutB Tryz.prog = true := by kernel_rfl

set_option maxRecDepth 100000 in
set_option maxHeartbeats 32000000 in
theorem walk (ad : Option Addr) (len cap : Nat) (l : List (ByteArray × ByteArray)) (ino : Int) (fa : Option Addr) (fn fc : Nat) (fs : List (Int × Int)) (w : World) (hl : RdK w ad len cap l) (hlo : KvsOk l) (hi : (Lit.int .u32 ino).wf = true) (hf : RdZ 2 fiE w (.slice fa fn fc) fs) (hfo : fiOk fs) : Calls Tryz.prog 5 #[.slice ad len cap, .int .u32 ino, .slice fa fn fc] w fun e w' => e = .returned (.bool true) ∧ Below w.heap.size w w' := by
  obtain ⟨i0, i1⟩ := bounds_u32 hi
  clear hi hlo
  obtain ⟨hfl, hfnc, hfcm⟩ := hf.len
  have HFL : Hid (fs.length = fn) := hfl
  have HF : Hid (RdZ 2 fiE w (.slice fa fn fc) fs) := hf
  have HFO : Hid (fiOk fs) := hfo
  have hmm := @run_makeMap Tryz.prog
  have HLB : Hid (∀ q, 0 < len → ad = some q → q.block < w.heap.size) := fun q hp e => by
    obtain ⟨b, off, e', hlt, _⟩ := hl.2.2.2 hp
    rw [e] at e'; cases e'; exact hlt
  have HL : Hid (RdK w ad len cap l) := hl
  clear hl hf hfo hfl hfcm hfnc
  go_enter Tryz.func5, Tryz.ntmps5
  have cv := live_any w
  go_wp2_with fail
  refine cv.mono ?_
  rintro e w1 ⟨rfl, hb1⟩
  clear cv
  have cr := rising_any w1 ad len cap l (HL.out.below hb1)
  have HB1 : Hid (Below w.heap.size w w1) := hb1
  clear hb1
  go_wp2_with fail
  refine cr.mono ?_
  rintro e w2 ⟨rv, rfl, ⟨rb, rfl, hris⟩, hb2⟩
  clear cr
  have HB2 : Hid (Below w.heap.size w w2) := thenB HB1.out hb2
  clear hris hb2
  cases rb
  · go_wp2
    go_ret
    exact ⟨rfl, HB2.out⟩
  by_cases hbig : 100 < fn
  · have hbg : (100 : Int) < (fn : Int) := by omega
    go_wp2
    go_ret
    exact ⟨rfl, HB2.out⟩
  have hbg : ¬ (100 : Int) < (fn : Int) := by omega
  have hfn1 : fn ≤ 100 := by omega
  clear hbig
  have cb := begin_in w2 ad len cap l (HL.out.below HB2.out) (B := w.heap.size) HB2.out.size HLB.out 64 (by decide) 100 (by decide) (by decide)
  go_wp2_with fail
  refine cb.mono ?_
  intro e w3 hbx
  have hbb : Below w2.heap.size w2 w3 := by obtain ⟨pp, a, x, X, rv, q, _, _, _, _, _, hb, _⟩ := hbx; exact hb
  obtain ⟨pp, a, rfl, hp3⟩ := Pr.of hbx HB2.out.size
  have HP3 : Hid (Pr w.heap.size w2 w3 pp a (sg0 l 64 100)) := hp3
  clear cb hbx hp3 hbb
  obtain ⟨S, hS⟩ : ∃ S, sg0 l 64 100 = S := ⟨_, rfl⟩
  have HK : Hid (Sk S 0) := by unfold Hid; rw [← hS]; exact sk0 _ _ _
  have HSE : Hid (S.d.L = [] ∧ S.U = []) := by unfold Hid; rw [← hS]; exact ⟨rfl, rfl⟩
  have HDL : Hid (DlOk S.d) := by unfold Hid; rw [← hS]; exact newS_ok (by decide)
  rw [hS] at HP3
  clear hS
  -- Stat
  have q0 := HP3.out.c0
  have cs := HP3.out.stat ino i0 i1 HK.out (by decide)
  obtain ⟨S1, hS1⟩ : ∃ S1, (statR S ino).1 = S1 := ⟨_, rfl⟩
  have HS1 : Hid (S1.d.L = [] ∧ S1.U = []) := by
    unfold Hid; rw [← hS1]; unfold statR; split <;> exact ⟨HSE.out.1, HSE.out.2⟩
  have HK1 : Hid (Sk S1 3) := by unfold Hid; rw [← hS1]; exact HK.out.stat ino
  have HFD : Hid (fdR S1 ino = fdR S ino) := by unfold Hid; rw [← hS1]; unfold statR; split <;> rfl
  have hst := stat_two S ino
  rw [hS1] at cs
  have hset := set_first (s := S1) HS1.out.1 ino fs
  rw [HFD.out] at hset
  rw [HS1.out.2] at hset
  have HSET : Hid _ := hset
  obtain ⟨W1, hW1⟩ : ∃ W1, (statR S ino).2 = W1 := ⟨_, rfl⟩
  rw [hW1] at cs hst
  have HST : Hid (W1 = if (fdR S ino).2 ≠ 0 then (in0, (fdR S ino).2) else ((fdR S ino).1, 0)) := hst
  generalize fdR S ino = F at *
  obtain ⟨⟨ak, am, al, az⟩, ae⟩ := W1
  unfold inV at cs
  dsimp only at cs
  clear hS1 hW1 hset hst
  go_wp2_with fail
  refine cs.mono ?_
  rintro e w4 ⟨rfl, hp4⟩
  clear cs q0 HP3
  have hb5 := bel1 w4 (.cells #[.int .i64 ak, .int .i64 am, .int .i64 al, .int .i64 az] 53)
  have hi5 : InRow (w4.alloc (.cells #[.int .i64 ak, .int .i64 am, .int .i64 al, .int .i64 az] 53)) w4.heap.size ak am al az := ⟨heap_alloc_new w4 _⟩
  obtain ⟨w5, hw5⟩ : ∃ w5, w4.alloc (.cells #[.int .i64 ak, .int .i64 am, .int .i64 al, .int .i64 az] 53) = w5 := ⟨_, rfl⟩
  rw [hw5] at hb5 hi5
  have HP5 : Hid (Pr w.heap.size w2 w5 pp a S1) := hp4.below hb5
  have HI5 : Hid (InRow w5 w4.heap.size ak am al az) := hi5
  have HF5 : Hid (Below w.heap.size w w5) := HB2.out.trans (hp4.below hb5).bel
  clear hp4 hb5 hi5
  -- Set
  have q0 := HP5.out.c0
  have cm := HP5.out.setI ino i0 i1 fa fn fc fs (HF.out.below HF5.out) (by omega) HFO.out HK1.out (by decide)
  obtain ⟨T, hT⟩ : ∃ T, (setR S1 ino fs).1 = T := ⟨_, rfl⟩
  obtain ⟨re, hre⟩ : ∃ re, (setR S1 ino fs).2 = re := ⟨_, rfl⟩
  have HSK : Hid (Sk (setR S1 ino fs).1 7) := HK1.out.set ino fs
  have HFT : Hid (T.l = S1.l ∨ True) := .inr trivial
  rw [hT, hre] at cm HSET
  rw [hT] at HSK
  have HTS : Hid (re ≠ 0 → fdR T ino = F) := fun h => by
    rcases HSET.out.2 with ⟨_, h3, h4, _⟩ | ⟨h2, _⟩
    · exact (fd_same h4 h3 ino).trans HFD.out
    · exact absurd h2 h
  clear hT hre HFT HFD
  go_wp2_with fail
  refine cm.mono ?_
  rintro e w6 ⟨rfl, hp6, hk6⟩
  clear cm q0
  have HP6 : Hid (Pr w.heap.size w2 w6 pp a T) := hp6
  have HI6 : Hid (InRow w6 w4.heap.size ak am al az) := HI5.out.keepI hk6
  clear hp6 hk6 HP5 HI5
  have q0 := HP6.out.c0
  have cs := HP6.out.statI ino i0 i1 HSK.out (by decide)
  have hst := stat_two T ino
  have hu : (statR T ino).1.U = T.U := by unfold statR; split <;> rfl
  obtain ⟨T1, hT1⟩ : ∃ T1, (statR T ino).1 = T1 := ⟨_, rfl⟩
  obtain ⟨W2, hW2⟩ : ∃ W2, (statR T ino).2 = W2 := ⟨_, rfl⟩
  rw [hT1] at hu
  rw [hW2] at hst
  rw [hT1, hW2] at cs
  have HST2 : Hid (W2 = if (fdR T ino).2 ≠ 0 then (in0, (fdR T ino).2) else ((fdR T ino).1, 0)) := hst
  have HTU : Hid (T1.U = T.U) := hu
  obtain ⟨⟨bk, bm, bl, bz⟩, be⟩ := W2
  unfold inV at cs
  dsimp only at cs
  clear hT1 hW2 hst hu
  go_wp2_with fail
  refine cs.mono ?_
  rintro e w7 ⟨rfl, hp7, hk7⟩
  clear cs q0
  have hb8 := bel1 w7 (.cells #[.int .i64 bk, .int .i64 bm, .int .i64 bl, .int .i64 bz] 53)
  have hi8 : InRow (w7.alloc (.cells #[.int .i64 bk, .int .i64 bm, .int .i64 bl, .int .i64 bz] 53)) w7.heap.size bk bm bl bz := ⟨heap_alloc_new w7 _⟩
  have hj8 := (HI6.out.keepI hk7).below hb8
  have hp8 := hp7.below hb8
  obtain ⟨w8, hw8⟩ : ∃ w8, w7.alloc (.cells #[.int .i64 bk, .int .i64 bm, .int .i64 bl, .int .i64 bz] 53) = w8 := ⟨_, rfl⟩
  rw [hw8] at hb8 hi8 hj8 hp8
  have HP8 : Hid (Pr w.heap.size w2 w8 pp a T1) := hp8
  have HI8 : Hid (InRow w8 w7.heap.size bk bm bl bz) := hi8
  have HJ8 : Hid (InRow w8 w4.heap.size ak am al az) := hj8
  have HF8 : Hid (Below w.heap.size w w8) := HB2.out.trans hp8.bel
  clear hp7 hk7 hb8 hi8 hj8 hp8 HP6 HI6
  by_cases hre : re = 0
  case neg =>
    have hrb : (re != 0) = true := by simpa using hre
    have e1 := HST2.out
    rw [HTS.out hre, ← HST.out] at e1
    simp only [Prod.mk.injEq, In4.mk.injEq] at e1
    obtain ⟨⟨rfl, rfl, rfl, rfl⟩, rfl⟩ := e1
    have lx : Hid _ := HI8.out.load
    have ly : Hid _ := HJ8.out.load
    have heq : ∀ W, (binOp .eql 53 (.agg #[.int .i64 bk, .int .i64 bm, .int .i64 bl, .int .i64 bz]) (.agg #[.int .i64 bk, .int .i64 bm, .int .i64 bl, .int .i64 bz])).run Tryz.prog W = .ok (.bool true) W := fun W => by rw [eq_inodes]; rw [show inoEq bk bm bl bz bk bm bl bz = true from inoEq_iff.2 ⟨rfl, rfl, rfl, rfl⟩]
    clear HST2 HTS HST HSET
    go_wp2_with (refine wpList_loadG rfl 53 _ rfl _ rfl _ (by first | exact lx.out | exact ly.out) ?_)
    go_ret
    exact ⟨rfl, HF8.out⟩
  subst hre
  obtain ⟨_, hcase⟩ := HSET.out
  rcases hcase with ⟨h, _⟩ | ⟨_, h3, j, sum, hS, h4, h5, h6⟩
  · exact absurd rfl h
  have hn0 : ino ≠ 0 := by
    rintro rfl
    have := congrArg Prod.snd h5
    unfold fdR fdF at this
    rw [if_pos rfl] at this
    cases this
  have e1 := HST.out
  rw [if_neg (by rw [h3]; decide)] at e1
  have e2 := HST2.out
  rw [h5, if_neg (by simp)] at e2
  have htold := wfR_told (i := F.1) (fs := fs) (by rw [h4])
  rw [h4] at htold
  dsimp only at htold e1 e2
  have e3 := congrArg Prod.fst e1
  have e4 := congrArg Prod.snd e1
  have e5 := congrArg Prod.fst e2
  have e6 := congrArg Prod.snd e2
  dsimp only at e3 e4 e5 e6
  rw [← e3] at htold e5
  rw [← e5] at htold
  unfold mixI at e5
  simp only [In4.mk.injEq] at e5
  obtain ⟨rfl, m1, m2, m3⟩ := e5
  subst e4 e6
  have HM : Hid ((bm = am ∨ 1 ∈ kindsL sum) ∧ (bl = al ∨ 2 ∈ kindsL sum) ∧ (bz = az ∨ 3 ∈ kindsL sum)) := by
    refine ⟨?_, ?_, ?_⟩
    · cases hb : bF sum 1 with
      | true => exact .inr (kindsL_mem.2 (.inl ⟨rfl, hb⟩))
      | false => rw [hb] at m1; exact .inl m1
    · cases hb : bF sum 2 with
      | true => exact .inr (kindsL_mem.2 (.inr (.inl ⟨rfl, hb⟩)))
      | false => rw [hb] at m2; exact .inl m2
    · cases hb : bF sum 4 with
      | true => exact .inr (kindsL_mem.2 (.inr (.inr ⟨rfl, hb⟩)))
      | false => rw [hb] at m3; exact .inl m3
  have HTOLD : Hid (∀ f ∈ fs, Told ⟨bk, bm, bl, bz⟩ f) := htold
  obtain ⟨wk1, wk2⟩ := wrote_kinds (f := sum) hn0
  have HU1 : Hid (T1.U = addK [] ino (kindsL sum)) := HTU.out.trans h6
  have hul : T1.U.length ≤ 3 := by rw [HU1.out]; have := addK_len [] ino (kindsL sum); have := kindsL_len sum; simp only [List.length_nil] at *; omega
  rw [← HU1.out] at wk1 wk2
  have HW1 : Hid (∀ t ∈ T1.U, t.ino = ino ∧ (t.kind = 1 ∨ t.kind = 2 ∨ t.kind = 3)) := wk1
  have HW2 : Hid (∀ k, k = 1 ∨ k = 2 ∨ k = 3 → k ∈ kindsL sum → k ∈ T1.U.map (·.kind)) := wk2
  clear h3 h4 h5 h6 hS htold e1 e2 e3 m1 m2 m3 wk1 wk2 HST2 HTS HST HSET HTU
  have hmk := BiAt.made w8
  have hb9 := bel1 w8 (.map #[] 0)
  obtain ⟨w9, hw9⟩ : ∃ w9, w8.alloc (.map #[] 0) = w9 := ⟨_, rfl⟩
  rw [hw9] at hmk hb9
  have HP9 : Hid (Pr w.heap.size w2 w9 pp a T1) := HP8.out.below hb9
  have HM9 : Hid (BiAt w9 w8.heap.size []) := hmk
  have HB9 : Hid (Below w8.heap.size w8 w9) := hb9
  have q0 := HP9.out.c0
  have q1 := HP9.out.u0
  have ca := HP9.out.allU (by omega)
  have HUL : Hid (T1.U.length ≤ 3) := hul
  clear hmk hb9 hul HP8
  go_wp2_with fail
  refine ca.mono ?_
  rintro e w10 ⟨u, rfl, hu, hb10⟩
  obtain ⟨ua, uc, rfl⟩ := own_shape hu
  clear ca q0 q1
  obtain ⟨M, hM⟩ : ∃ M, w8.heap.size = M := ⟨_, rfl⟩
  have hm10 := HM9.out.below hb10
  rw [hM] at hm10
  have hrd : RdZ 5 tcE w10 (.slice ua T1.U.length uc) T1.U := rdZ_own tc_len hu
  have HB10 : Hid (Below w8.heap.size w8 w10) := thenB HB9.out hb10
  have HBM : Hid (∀ (b o : Nat) (v : Value), w10.cell? ⟨b, o, none⟩ = some v → b ≠ M) := fun b o v hc e => by
    subst e
    obtain ⟨n, D, ⟨es, cl, h1, _⟩, _⟩ := hm10.ex
    unfold World.cell? at hc
    dsimp only at hc
    rw [h1] at hc
    cases hc
  have HRD : Hid (RdZ 5 tcE w10 (.slice ua T1.U.length uc) T1.U) := hrd
  have HM10 : Hid (BiAt w10 M []) := hm10
  have HMS : Hid (w8.heap.size = M) := hM
  obtain ⟨n, hn⟩ : ∃ n, T1.U.length = n := ⟨_, rfl⟩
  have HNL : Hid (T1.U.length = n) := hn
  have hn3 : n ≤ 3 := by rw [← hn]; exact HUL.out
  rw [hn] at HRD ⊢
  rw [hM]
  clear hM hm10 hrd hn hu hb10 HM9 HUL
  go_wp2_with fail
  go_loopg [82] n (fun kx s82 wr => ∃ i : Nat, s82 = .int .i64 i ∧ i ≤ n ∧ n - i ≤ kx ∧ Hid (Sole [M] w10 wr ∧ BiAt wr M ((T1.U.take i).map (·.kind))))
  case atStart => exact ⟨0, rfl, Nat.zero_le _, by omega, Sole.of_below (Below.refl _ _) _, HM10.out⟩
  case round =>
    obtain ⟨i, rfl, hin, hkx, HW⟩ := hrel
    by_cases hlt : i < n
    · obtain ⟨t, hy⟩ : ∃ y, T1.U[i]? = some y := ⟨_, List.getElem?_eq_getElem (by have := HNL.out; omega)⟩
      have HY : Hid (T1.U[i]? = some t) := hy
      obtain ⟨hti, htk⟩ := HW1.out t (List.mem_of_getElem? hy)
      obtain ⟨b0, o0, rfl, hb0, c0, c1, c2, c3, c4⟩ := tc_cells HRD.out hy
      have hbM := HBM.out _ _ _ c0
      have cc : ∀ o, wr.cell? ⟨b0, o, none⟩ = w10.cell? ⟨b0, o, none⟩ := fun o => by
        have := HW.out.1.block b0 hb0 (by simpa using hbM)
        simp [World.cell?, this]
      rw [← cc] at c0 c1 c2 c3 c4
      rw [hti] at c1
      have hA := bel1 wr (.cells #[.int .i64 t.kind, .int .u32 ino, .string t.name, .int .i64 t.lo, .int .i64 t.hi] 61)
      have hrow := heap_alloc_new wr (.cells #[.int .i64 t.kind, .int .u32 ino, .string t.name, .int .i64 t.lo, .int .i64 t.hi] 61)
      have hmA := HW.out.2.below hA
      obtain ⟨wA, hwA⟩ : ∃ wA, wr.alloc (.cells #[.int .i64 t.kind, .int .u32 ino, .string t.name, .int .i64 t.lo, .int .i64 t.hi] 61) = wA := ⟨_, rfl⟩
      rw [hwA] at hA hrow hmA
      have v0 : wA.cell? ⟨wr.heap.size, 0, none⟩ = some (.int .i64 t.kind) := by rw [cell_of_row _ _ _ _ _ (0, 0) hrow]; rfl
      have v1 : wA.cell? ⟨wr.heap.size, 1, none⟩ = some (.int .u32 ino) := by rw [cell_of_row _ _ _ _ _ (0, 0) hrow]; rfl
      obtain ⟨wB, hr, hmB, hsB⟩ := hmA.put (by simp only [List.length_map, List.length_take]; unfold maxLen; omega) (k := t.kind) (by rcases htk with h | h | h <;> omega) (by rcases htk with h | h | h <;> omega)
      have HN1 : Hid (Sole [M] w10 wB ∧ BiAt wB M ((T1.U.take (i + 1)).map (·.kind))) := ⟨(HW.out.1.trans (Sole.of_below hA _)).trans hsB, by rw [take_next HY.out, List.map_append]; exact hmB⟩
      have hiI : (i : Int) < (n : Int) := by omega
      have hib : (i : Int) + 1 ≤ 1001 := by omega
      clear hy hti htk hbM cc hA hrow hmA hmB hsB HW hb0
      go_wp2
      go_roundg (n - (i + 1))
      case measure => omega
      case rel => exact ⟨i + 1, by rw [show ((i : Int) + 1) = ((i + 1 : Nat) : Int) by omega], by omega, by omega, HN1.out⟩
    obtain rfl : n = i := by omega
    obtain ⟨hsL, hmL⟩ := HW.out
    rw [List.take_of_length_le (by have := HNL.out; omega)] at hmL
    have HML : Hid (BiAt wr M (T1.U.map (·.kind))) := hmL
    have keepM : ∀ {g : Nat} {k m l s : Int}, InRow w8 g k m l s → InRow wr g k m l s := fun {g k m l s} hi => by
      have h1 := hi.below HB10.out
      refine ⟨hsL.row h1.row (fun e => ?_)⟩
      rw [List.mem_singleton] at e
      have := hi.lt
      have := HMS.out
      omega
    have hil := keepM HI8.out
    have hjl := keepM HJ8.out
    have HIL : Hid (InRow wr w7.heap.size bk bm bl bz) := hil
    have HJL : Hid (InRow wr w4.heap.size bk am al az) := hjl
    have HFR : Hid (Below w.heap.size w wr) := by
      have h1 : Below w.heap.size w w10 := thenB HF8.out HB10.out
      exact h1.trans (hsL.belowX (fun k hk => by rw [List.mem_singleton] at hk; have := HMS.out; have := HF8.out.size; omega) h1.size)
    clear hsL hmL hil hjl keepM HW HB10 HI8 HJ8 HRD HBM HM10
    obtain ⟨wL, rfl⟩ : ∃ wL, wL = wr := ⟨wr, rfl⟩
    go_wp2_with fail
    go_loopg [96] fn (fun kx s96 wr => ∃ i : Nat, s96 = .int .i64 i ∧ i ≤ fn ∧ fn - i ≤ kx ∧ Hid (Below wL.heap.size wL wr))
    case atStart => exact ⟨0, rfl, Nat.zero_le _, by omega, Below.refl _ _⟩
    case round =>
      obtain ⟨i, rfl, hin2, hkx2, HW⟩ := hrel
      by_cases hlt2 : i < fn
      · obtain ⟨⟨fb, fv⟩, hy⟩ : ∃ y, fs[i]? = some y := ⟨_, List.getElem?_eq_getElem (by have := HFL.out; omega)⟩
        have htl := HTOLD.out _ (List.mem_of_getElem? hy)
        obtain ⟨b0, o0, rfl, hb0, c0, c1⟩ := fi_cells ((HF.out.below HFR.out).below HW.out) hy
        dsimp only at c0 c1
        have hA := bel1 wr (.cells #[.int .i64 fb, .int .i64 fv] 43)
        have hrow := heap_alloc_new wr (.cells #[.int .i64 fb, .int .i64 fv] 43)
        have hi2 := (HIL.out.below HW.out).below hA
        have HNW : Hid (Below wL.heap.size wL (wr.alloc (.cells #[.int .i64 fb, .int .i64 fv] 43))) := HW.out.trans (hA.mono HW.out.size)
        obtain ⟨wA, hwA⟩ : ∃ wA, wr.alloc (.cells #[.int .i64 fb, .int .i64 fv] 43) = wA := ⟨_, rfl⟩
        rw [hwA] at hA hrow hi2 HNW
        have v0 : wA.cell? ⟨wr.heap.size, 0, none⟩ = some (.int .i64 fb) := by rw [cell_of_row _ _ _ _ _ (0, 0) hrow]; rfl
        have v1 : wA.cell? ⟨wr.heap.size, 1, none⟩ = some (.int .i64 fv) := by rw [cell_of_row _ _ _ _ _ (0, 0) hrow]; rfl
        have y1 := hi2.cell 1 _ rfl
        have y2 := hi2.cell 2 _ rfl
        have y3 := hi2.cell 3 _ rfl
        have hiI : (i : Int) < (fn : Int) := by omega
        have hib : (i : Int) + 1 ≤ 1001 := by omega
        clear hy hb0 hA hrow hi2 HW
        rcases htl with ⟨h1, h2⟩ | ⟨h1, h2⟩ | ⟨h1, h2⟩
        all_goals
          dsimp only at h1 h2
          subst h1
          subst h2
          go_wp2
          go_roundg (fn - (i + 1))
          case measure => omega
          case rel => exact ⟨i + 1, by rw [show ((i : Int) + 1) = ((i + 1 : Nat) : Int) by omega], by omega, by omega, HNW.out⟩
      obtain rfl : fn = i := by omega
      have HFZ : Hid (Below w.heap.size w wr) := thenB HFR.out HW.out
      have hmz := HML.out.below HW.out
      have hiz := HIL.out.below HW.out
      have hjz := HJL.out.below HW.out
      have y1 := hiz.cell 1 _ rfl
      have y2 := hiz.cell 2 _ rfl
      have y3 := hiz.cell 3 _ rfl
      have x1 := hjz.cell 1 _ rfl
      have x2 := hjz.cell 2 _ rfl
      have x3 := hjz.cell 3 _ rfl
      have lk : ∀ k : Int, k = 1 ∨ k = 2 ∨ k = 3 → k ∈ kindsL sum → (Instr.lookup 57 (.map (some M)) (.int .i64 k) false).run Tryz.prog wr = .ok (.bool true) wr := fun k hk hm => by
        rw [hmz.look (by rcases hk with h | h | h <;> omega) (by rcases hk with h | h | h <;> omega), decide_eq_true (HW2.out k hk hm)]
      have g1 : bm = am ∨ (bm == am) = false ∧ (Instr.lookup 57 (.map (some M)) (.int .i64 1) false).run Tryz.prog wr = .ok (.bool true) wr := by
        by_cases e : bm = am
        · exact .inl e
        · exact .inr ⟨by simpa using e, lk 1 (.inl rfl) (HM.out.1.resolve_left e)⟩
      have g2 : bl = al ∨ (bl == al) = false ∧ (Instr.lookup 57 (.map (some M)) (.int .i64 2) false).run Tryz.prog wr = .ok (.bool true) wr := by
        by_cases e : bl = al
        · exact .inl e
        · exact .inr ⟨by simpa using e, lk 2 (.inr (.inl rfl)) (HM.out.2.1.resolve_left e)⟩
      have g3 : bz = az ∨ (bz == az) = false ∧ (Instr.lookup 57 (.map (some M)) (.int .i64 3) false).run Tryz.prog wr = .ok (.bool true) wr := by
        by_cases e : bz = az
        · exact .inl e
        · exact .inr ⟨by simpa using e, lk 3 (.inr (.inr rfl)) (HM.out.2.2.resolve_left e)⟩
      clear lk hmz hiz hjz HM HTOLD HW1 HW2 HW HIL HJL HML HFR
      rcases g1 with g1 | ⟨g1, r1⟩ <;> rcases g2 with g2 | ⟨g2, r2⟩ <;> rcases g3 with g3 | ⟨g3, r3⟩
      all_goals
        try rw [g1] at y1
        try rw [g2] at y2
        try rw [g3] at y3
        go_wp2
        go_ret
        exact ⟨rfl, HFZ.out⟩

/-! ### The row -/
set_option maxRecDepth 100000 in
theorem lifted (os : Os) (started : os.Started) (H : Type) (enc : TypeId × Value → H) :
    ReturnsInHanded {} Tryz.checked os 5 .any (Rows.inodeWritesSpec.pre6 enc Tryz.prog Tryz.f5 Rows.inodeWritesRow.domain false) (Rows.inodeWritesSpec.post enc Tryz.prog Tryz.f5 false true false false) := by
  refine returnsInHanded_of_change (C := Tryz.checked) own started (by kernel_rfl) Tryz.func5
    (ChangeSpec.witness6 (enc := enc) (C := Tryz.checked) false ⟨#[], #[.slice none 0 0, .int .u32 0, .slice none 0 0], []⟩ 8 (by kernel_rfl) (by kernel_rfl) (by kernel_rfl) (by kernel_rfl)) ?_
  intro W base args ds gs before hval0 hW hcnd _
  have hval : ∀ (j : Nat) t v, Tryz.f5.params[j]? = some t → args[j]? = some v → Value.okWide Tryz.prog W .any base t v := hval0
  have hW' := hW
  obtain ⟨p, q, hA0, hV, rfl, hfz, hnd⟩ := hW
  have hA : DataW.TrodAll enc Tryz.prog W 0 (fun _ => true) true Tryz.f5.params.toList args.toList ds p := hA0
  rw [Tryz.params5] at hA hval
  obtain ⟨v0, vs0, d0, ds0, p0, q0, hargs, rfl, rfl, h0, r0⟩ := trodAll_cons hA
  obtain ⟨v1, vs1, d1, ds1, p1, q1, rfl, rfl, rfl, h1, r1⟩ := trodAll_cons r0
  obtain ⟨v2, vs2, d2, ds2, p2, q2, rfl, rfl, rfl, h2, r2⟩ := trodAll_cons r1
  obtain ⟨rfl, rfl, rfl⟩ := trodAll_nil r2
  obtain rfl : args = #[v0, v1, v2] := by cases args; simp_all
  obtain ⟨rfl, rfl⟩ := trodVars_none hV
  obtain ⟨a0, len0, cap0, rfl⟩ := okWide_slice Tryz.underlying22 (hval 0 22 v0 rfl rfl)
  have k0 := h0
  have lt0 : ∀ x ∈ p0, x.block < W.heap.size := by obtain ⟨m, hm⟩ := k0; exact DataW.trod_lt m _ _ _ hm
  obtain ⟨o0, w0, ws0⟩ : ∃ os, RdK W a0 len0 cap0 os ∧ KvsOk os := by
    obtain ⟨fuel, hf⟩ := h0
    exact kvs_of hf
  obtain ⟨a1, rfl, rfl, rfl, w1⟩ := open_int Tryz.underlying23 (hval 1 23 v1 rfl rfl) h1
  obtain ⟨a2, len2, cap2, rfl⟩ := okWide_slice Tryz.underlying29 (hval 2 29 v2 rfl rfl)
  have k2 := h2
  have lt2 : ∀ x ∈ p2, x.block < W.heap.size := by obtain ⟨m, hm⟩ := k2; exact DataW.trod_lt m _ _ _ hm
  obtain ⟨o2, w2, ws2⟩ : ∃ os, RdZ 2 fiE W (.slice a2 len2 cap2) os ∧ fiOk os := by
    obtain ⟨fuel, hf⟩ := h2
    exact fis_of hf
  clear hA0 hval0
  refine (walk a0 len0 cap0 o0 a1 a2 len2 cap2 o2 W w0 ws0 w1 w2 ws2).mono fun e W' ⟨he, bel⟩ => ?_
  subst he
  exact ⟨_, rfl, _, _, _, [], _, [], hW', trodAll_mk1 (shut_bool Tryz.underlying4 _), (trodAll_cons_mk (Below.trod laidOut (by kernel_rfl) (of_decide_eq_true (by kernel_rfl)) k0 bel lt0) (trodAll_cons_mk (shut_int Tryz.underlying23 w1) (trodAll_cons_mk (Below.trod laidOut (by kernel_rfl) (of_decide_eq_true (by kernel_rfl)) k2 bel lt2) trodAll_mk0))), rfl, bel.frame _, fun h => by cases h⟩

theorem over : Rows.inodeWritesRow.holds Tryz.pinned (OpenSpec.ofChange Rows.inodeWritesSpec) :=
  OpenClaim.holds_of_wide 5 Tryz.f5 rfl rfl rfl rfl rfl rfl rfl ⟨rfl, rfl, rfl, rfl, rfl⟩ rfl rfl rfl rfl rfl (by kernel_rfl) Tryz.func5 (by kernel_rfl)
    (of_decide_eq_true (by kernel_rfl)) (by unfold Func.isWrapper; first | (rw [if_pos (by decide +kernel)]; kernel_rfl) | (rw [if_neg (by decide +kernel)]; exact ⟨rfl, rfl⟩))
    (fun os started H enc _ => lifted os started H enc)

end Go.Proofs.YtkmckipfjahlcaaGreat.inodeWrites

namespace Go.Proofs.YtkmckipfjahlcaaGreat
/-- The statement. -/
theorem inodeWrites_proved : Rows.InodeWritesSaid := inodeWrites.over
#print axioms inodeWrites_proved
end Go.Proofs.YtkmckipfjahlcaaGreat
