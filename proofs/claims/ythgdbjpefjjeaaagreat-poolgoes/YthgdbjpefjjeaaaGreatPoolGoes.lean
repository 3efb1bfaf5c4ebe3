/- Proved: whatever is done, a pool answers, and has, just what the document says -/
import Derived.Test.YthgdbjpefjjeaaaGreatMY2
import Derived.Test.YthgdbjpefjjeaaaGreatMY1
import Derived.Deep.RegionHeld3
import Derived.BigQuiet
import Derived.Deep.QuietTactic
import Derived.WalkSmall
import Derived.ProofKit
import Derived.OpenShut
import Derived.ShutString
import Derived.ChangeOld
import Derived.Below
import Derived.Carry
import Derived.SizedLaws
import Derived.Deep.CutRange
import Derived.Deep.CutBlock
namespace Go.Proofs.YthgdbjpefjjeaaaGreat.poolGoes
open Go.ChangeShapes Go.WideShapes Go.ChangeAt Go.RowKit
open Go.ChangeMaps (open_string shut_string)
set_option linter.unusedVariables false

theorem own : ownKnob Tryz.prog.godebug = none := by kernel_rfl
theorem laidOut : laidOutB Tryz.prog = true := by kernel_rfl

/-- Where both pools stand. -/
def GoesAt (w : World) (q : Nat) (xd : Xd) (W : World) : Prop := ∃ (b' : Ad) (P' : Pu) (S' : Rx), PuAt W b' P' ∧ XAt W xd S' ∧ Rel P' S' ∧ DOn P'.d ∧ b'.q = q ∧ Apart b' xd ∧ Below w.heap.size w W ∧ ∀ k ∈ b'.all, w.heap.size ≤ k

theorem nodeN_few {o : PopV} (hk : PopOk o) : (nodeN o).pairs.length ≤ 4398046511104 := by
  by_cases h6 : o.f0 = 6
  · have hn : nodeN o = o.nd := by unfold nodeN; rw [if_pos h6]
    rw [hn]; exact hk.few
  · have := (node_sizes (nodeE_small hk h6)).1
    omega

/-- Both tell the same of a Write, and still agree. -/
theorem both_write {w w' : World} {xd : Xd} {P : Pu} {S : Rx} {n : Nd} {e : Ending} (hR : Rel P S) (hok : PuOk P) (hd : DOn P.d) (hk : NdOk n) (h : XWr w xd S n e w') (hX : XAt w xd S) :
    e = .returned (.tuple #[.int .u32 (wrP P n).1, .int .i64 (wrP P n).2.1]) ∧ ∃ S', XAt w' xd S' ∧ Rel (wrP P n).2.2 S' ∧ Sole [xd.hm, xd.g, xd.f] w w' := by
  rcases h with ⟨h1, rfl, hX', hS⟩ | ⟨h1, hf, rfl, hX', hS⟩ | ⟨h1, j, en, hf, rfl, rfl, hX', hS⟩
  · rw [wrP_bad h1]
    exact ⟨rfl, S, hX', hR, hS⟩
  · have hj : firstR P.now.ks = none := first_unique (firstR_is _) (by rw [← hR.now]; exact hf)
    rw [wrP_none h1 hj]
    exact ⟨rfl, S, hX', hR, hS⟩
  · have hj : firstR P.now.ks = some j := first_unique (firstR_is _) (by rw [← hR.now]; exact hf)
    rw [wrP_some hok hd h1 hj]
    exact ⟨by rw [hR.now], writeX S j en, hX', hR.write hok hd hj (nodeE_ok h1) hk (by rw [hX.ok.e, hR.now]), hS⟩

theorem box4g {W : World} {B : Nat} {v0 v1 v2 v3 : Value} {t : TypeId} (h : W.heap[B]? = some (.cells #[v0, v1, v2, v3] t (0, 0))) :
    W.cell? ⟨B, 0, none⟩ = some v0 ∧ W.cell? ⟨B, 1, none⟩ = some v1 ∧ W.cell? ⟨B, 2, none⟩ = some v2 ∧ W.cell? ⟨B, 3, none⟩ = some v3 :=
  ⟨cell_of_row W _ 0 _ _ (0, 0) h, cell_of_row W _ 1 _ _ (0, 0) h, cell_of_row W _ 2 _ _ (0, 0) h, cell_of_row W _ 3 _ _ (0, 0) h⟩

set_option maxRecDepth 100000 in
set_option maxHeartbeats 16000000 in
theorem walk (bk fm : Int) (tv : Value) (tl : List Int) (x : Option Addr) (len cap : Nat) (os : List PopV) (w : World) (hbk : (Lit.int .i64 bk).wf = true) (hfm : (Lit.int .i64 fm).wf = true) (htr : RdI w tv tl) (htk : IntsOk tl) (ho : PopsAt w x len cap os) (hoz : ∀ o ∈ os, PopZ o) :
    Calls Tryz.prog 3 #[.int .i64 bk, .int .i64 fm, tv, .slice x len cap] w fun e w' => e = .returned (.bool true) ∧ Below w.heap.size w w' := by
  obtain ⟨hol, hlc, hcm, hok, hoc⟩ := id ho
  unfold maxLen at hcm
  obtain ⟨hb0, hb1⟩ := bounds_i64 hbk
  obtain ⟨hf0, hf1⟩ := bounds_i64 hfm
  clear hbk hfm
  obtain ⟨ta, tc, rfl, _⟩ := id htr
  obtain ⟨c, hc, hc1, hc2⟩ := mod_plus bk 30 hb0 hb1 (by omega) (by omega)
  have HC : Hid (wrap64 (1 + (wrap64 (bk.tmod 30 + 30)).tmod 30) = (c : Int)) := hc
  clear hc
  go_enter Tryz.func3, Tryz.ntmps3
  go_wp2_with fail
  refine (live_any w).mono ?_
  rintro e w1 ⟨rfl, hw1⟩
  have hz1 := hw1.size
  go_wp2_with fail
  rw [HC.out]
  have k0 := disk_New w1 (c : Int) (by omega) (by omega)
  unfold ptr at k0
  refine k0.mono ?_
  clear k0 HC
  rintro e w2 ⟨rfl, hd2, hb2, hs2⟩
  have hB2 : Below w.heap.size w w2 := hw1.trans (hb2.mono hz1)
  by_cases hbad : fm < 1 ∨ (c : Int) ≤ fm
  · have kA : Calls Tryz.prog 10 #[.pointer (some ⟨w1.heap.size + 2, 0, none⟩), .int .i64 fm, .slice ta tl.length tc] w2 fun e w' => e = .returned (.tuple #[.pointer none, .int .i64 1]) ∧ w' = w2 := by
      by_cases h1 : fm < 1
      · exact pnew_low w2 _ fm h1 _
      · exact pnew_high hd2 fm (by omega) (by show (c : Int) ≤ fm; omega) _
    have kB := xnew_arg w2 (c : Int) fm (.slice ta tl.length tc) hbad
    have kC := pnew_nil w2 1 (.slice none 0 0)
    clear hbad hoc hok
    go_wp2_with fail
    refine kA.mono ?_
    clear kA
    rintro e w3 ⟨rfl, rfl⟩
    go_wp2_with fail
    refine kB.mono ?_
    clear kB
    rintro e w4 ⟨rfl, rfl⟩
    go_wp2_with fail
    refine kC.mono ?_
    clear kC
    rintro e w5 ⟨rfl, rfl⟩
    go_wp2
    go_ret
    exact ⟨rfl, hB2⟩
  obtain ⟨lo, rfl⟩ : ∃ lo : Nat, fm = (lo : Int) := ⟨fm.toNat, by omega⟩
  obtain ⟨n, rfl⟩ : ∃ n : Nat, c = lo + n := ⟨c - lo, by omega⟩
  have kA := pnew_ok hd2 lo n (by omega) (by omega) rfl (.slice ta tl.length tc) tl (htr.below hB2)
  have kB := fun W (hW : Below w.heap.size w W) => xnew_ok W lo n (by omega) (by omega) (by omega) (.slice ta tl.length tc) tl (htr.below hW)
  have kC := fun W => pnew_nil W 1 (.slice none 0 0)
  unfold ptr at kA
  generalize hCI : ((lo + n : Nat) : Int) = CI at *
  have hCI1 : CI ≤ 1024 := by omega
  go_wp2_with fail
  refine kA.mono ?_
  clear kA
  rintro e w3 hA3
  have hB3 : Below w.heap.size w w3 := hB2.trans (hA3.1.mono hB2.size)
  have kB3 := kB w3 hB3
  clear kB
  rcases hA3 with ⟨hb3, ⟨x1, rfl⟩ | ⟨x1, x2, rfl⟩ | ⟨x1, ks, a, x2, rfl, hP3, ad, abs, abp, q1, q2, q3, q4, q5⟩⟩
  · have HX1 : Hid _ := x1
    clear x1 hoc hok
    go_wp2_with fail
    refine kB3.mono ?_
    clear kB3
    rintro e w4 ⟨hb4, ⟨y1, rfl⟩ | ⟨y1, _, rfl⟩ | ⟨y1, _⟩⟩
    · go_wp2_with fail
      refine (kC _).mono ?_
      clear kC
      rintro e w5 ⟨rfl, rfl⟩
      go_wp2
      go_ret
      exact ⟨rfl, hB3.trans (hb4.mono hB3.size)⟩
    · have := HX1.out; rw [y1] at this; cases this
    · have := HX1.out; rw [y1] at this; cases this
  · have HX1 : Hid _ := x1
    have HX2 : Hid _ := x2
    clear x1 x2 hoc hok
    go_wp2_with fail
    refine kB3.mono ?_
    clear kB3
    rintro e w4 ⟨hb4, ⟨y1, rfl⟩ | ⟨y1, _, rfl⟩ | ⟨y1, ks, ax, y2, _⟩⟩
    · have := HX1.out; rw [y1] at this; cases this
    · go_wp2_with fail
      refine (kC _).mono ?_
      clear kC
      rintro e w5 ⟨rfl, rfl⟩
      go_wp2
      go_ret
      exact ⟨rfl, hB3.trans (hb4.mono hB3.size)⟩
    · have := HX2.out; rw [y2] at this; cases this
  have HX1 : Hid _ := x1
  have HX2 : Hid _ := x2
  have hpa : ∀ k ∈ a.all, w.heap.size ≤ k := fun k hk => by
    simp only [Ad.all, List.mem_cons, List.not_mem_nil, or_false] at hk
    have := hB2.size
    omega
  clear x1 x2 ad abs abp q1 q2 q3 q4 q5 hd2
  unfold ptr
  go_wp2_with fail
  refine kB3.mono ?_
  clear kB3
  rintro e w4 ⟨hb4, ⟨y1, rfl⟩ | ⟨y1, y2, rfl⟩ | ⟨y1, ks', xd, y2, rfl, hX4, hxa⟩⟩
  · have := HX1.out; rw [y1] at this; cases this
  · have := HX2.out; rw [y2] at this; cases this
  obtain rfl : ks = ks' := Option.some.inj (HX2.out.symm.trans y2)
  have hkl : ks.length = n := by
    have := takeAll_len lo tl (List.replicate n 1) ks y2
    simpa using this
  have hP4 := hP3.below hb4
  have hB4 : Below w.heap.size w w4 := hB3.trans (hb4.mono hB3.size)
  have hap : Apart a xd := fun k hk hx => by
    have h1 := hP3.lt k hk
    have h2 := hxa k hx
    omega
  have hxw : ∀ k ∈ xd.all, w.heap.size ≤ k := fun k hk => Nat.le_trans hB3.size (hxa k hk)
  have hR0 : Rel ⟨freshSt CI, ⟨lo, ks⟩, ⟨lo, ks⟩⟩ (newX lo n ks) := Rel.start hkl hP3.ok.n
  have hD0 : DOn (freshSt CI) := ⟨rfl, rfl⟩
  clear hP3 hB3 hb4 hb3 y1 y2 HX1 HX2 hxa hB2
  unfold ptr
  go_wp2_with fail
  refine (kC _).mono ?_
  clear kC
  rintro e w5 ⟨rfl, rfl⟩
  by_cases hmany : 100 < len
  · have hmI : (100 : Int) < len := by omega
    clear hoc hok hP4 hX4 hR0
    go_wp2
    go_ret
    exact ⟨rfl, hB4⟩
  have hmI : ¬ (100 : Int) < len := by omega
  go_wp2_with fail
  go_loopw [85] (fun t wr => ∃ (k : Nat) (b : Ad) (P : Pu) (S : Rx), k ≤ len ∧ t = .int .i64 k ∧ Hid (PuAt wr b P) ∧ Hid (XAt wr xd S) ∧ Hid (Rel P S) ∧ DOn P.d ∧ b.q = a.q ∧ Apart b xd ∧ Below w.heap.size w wr ∧ ∀ k ∈ b.all, w.heap.size ≤ k) (fun t _ => len - (Go.RowKit.intOf t).toNat)
  case atStart => exact ⟨0, a, _, _, Nat.zero_le _, rfl, hP4, hX4, hR0, hD0, rfl, hap, hB4, hpa⟩
  case round =>
    obtain ⟨k, b, P, S, hk, rfl, HP, HX, HR, hon, hbq, hap', hbr, hba⟩ := hrel
    clear hP4 hX4 hR0 hD0 hap hB4 hpa
    by_cases hlt : k < len
    · have hltI : (k : Int) < len := by omega
      obtain ⟨g, off, rfl, hgl, hat⟩ := hoc (by omega)
      obtain ⟨o, ho'⟩ := at_some hol hlt
      have hA := hat k hlt
      rw [show os.getD k pop0 = o by rw [List.getD_eq_getElem?_getD, ho']; rfl] at hA
      have hoo := hok o (List.mem_of_getElem? ho')
      have hin0 := hA.inn
      have hoM := List.mem_of_getElem? ho'
      obtain ⟨c0, c1, c2, c3, c4, c5, c6, c7, hin⟩ := hA.same (hbr.block g hgl) (hA.inn.below hbr)
      clear hat hA hoc ho'
      have HB := (Below.refl wr.heap.size wr).alloc (Nat.le_refl _) (.cells o.cells 42)
      have hP1 := HP.out.below HB
      have hB1 : Below w.heap.size w (wr.alloc (.cells o.cells 42)) := hbr.trans (HB.mono hbr.size)
      have hX1 := HX.out.below HB
      have kNo := fun W (hW : Below w.heap.size w W) => gnode_any W o hoo (hoz o hoM) hin0 hW
      have hKp := hin.below HB
      have hloc := heap_alloc_new wr (.cells o.cells 42)
      obtain ⟨a3, k3, a5, k5, a6, k6, a7, k7, e3, e5, e6, e7⟩ := hin.slices
      have HOK : Hid (PopOk o) := hoo
      have HKp : Hid (RdU w o.v3 o.f3) := hin0.keep
      obtain ⟨i1, hi1⟩ : ∃ i : Nat, o.f1 = (i : Int) := ⟨o.f1.toNat, by have := hoo.a1.1; omega⟩
      have hi1b : i1 ≤ 4294967295 := by have := hoo.a1.2; omega
      have HI1 : Hid (o.f1 = (i1 : Int)) := hi1
      clear hi1
      clear hin hin0 hoo hKp
      unfold PopV.cells at *
      rw [e3] at c3 kNo HB hP1 hX1 hB1 hloc HKp
      rw [e5] at c5 kNo HB hP1 hX1 hB1 hloc
      rw [e6] at c6 kNo HB hP1 hX1 hB1 hloc
      rw [e7] at c7 kNo HB hP1 hX1 hB1 hloc
      generalize hlf : o.nd.leaf = lf at *
      generalize hn5 : o.nd.pairs.length = n5 at *
      generalize hn6 : o.nd.keys.length = n6 at *
      generalize hn7 : o.nd.kids.length = n7 at *
      generalize hn3 : o.f3.length = n3 at *
      have hsL : wr.heap.size < (wr.alloc (.cells #[.int .i64 o.f0, .int .u32 o.f1, .bool o.f2, .slice a3 n3 k3, .bool lf, .slice a5 n5 k5, .slice a6 n6 k6, .slice a7 n7 k7] 42)).heap.size := by simp
      have hlocb : wr.heap.size ∉ b.all := fun h => by have := HP.out.lt _ h; omega
      have hlocx : wr.heap.size ∉ xd.all := fun h => by have := (HX.out.blocks _ h).1; omega
      generalize hWL : wr.alloc (.cells #[.int .i64 o.f0, .int .u32 o.f1, .bool o.f2, .slice a3 n3 k3, .bool lf, .slice a5 n5 k5, .slice a6 n6 k6, .slice a7 n7 k7] 42) = WL at *
      generalize hOB : wr.heap.size = OB at *
      have HSE : ∀ W, Sole (b.all ++ xd.all) WL W → Below w.heap.size w W := fun W hS => Sole.belowOf hB1 hS hB1.size fun k hk => by
        rcases List.mem_append.1 hk with h | h
        · exact hba k h
        · exact hxw k h
      have hcW : ∀ W, Sole (b.all ++ xd.all) WL W → W.heap[OB]? = WL.heap[OB]? := fun W hS => hS.block OB hsL fun h => by
        rcases List.mem_append.1 h with h | h
        · exact hlocb h
        · exact hlocx h
      have hBox : ∀ W, Sole (b.all ++ xd.all) WL W → _ := fun W hS => box8 ((hcW W hS).trans hloc)
      have sG : ∀ (W W' : World), Sole (b.all ++ xd.all) WL W → Moves W W' b b → Sole (b.all ++ xd.all) WL W' := fun W W' h0 hM => h0.trans (hM.sole.mono fun k hk => List.mem_append_left _ hk)
      have sT : ∀ (W W' : World) (T : List Nat), Sole (b.all ++ xd.all) WL W → Sole T W W' → (∀ k ∈ T, k ∈ xd.all) → Sole (b.all ++ xd.all) WL W' := fun W W' T h0 hS hT => h0.trans (hS.mono fun k hk => List.mem_append_right _ (hT k hk))
      have hFIN : ∀ (W : World) (b' : Ad) (P' : Pu) (S' : Rx), PuAt W b' P' → XAt W xd S' → Rel P' S' → DOn P'.d → b'.q = b.q → Apart b' xd → Below w.heap.size w W → (∀ k ∈ b'.all, w.heap.size ≤ k) → GoesAt w a.q xd W := fun W b' P' S' h1 h2 h3 h4 h5 h6 h7 h8 => ⟨b', P', S', h1, h2, h3, h4, h5.trans hbq, h6, h7, h8⟩
      obtain ⟨y0, y1, y2, y3, y4, y5, y6, y7⟩ := box8 hloc
      have HF0 : Hid (o.f0 = o.f0) := rfl
      generalize hf0 : o.f0 = f0 at *
      clear hf0 HF0
      go_upto_block 2 with fail
      go_cut [20, 21, 22, 23, 24, 25] from 86 to 162 (fun ok _ _ _ _ _ wx => ok = .bool true ∧ GoesAt w a.q xd wx)
      case first =>
        clear c0 c1 c2 c3 c4 c5 c6 c7
        by_cases d0 : f0 = 0 ∨ f0 = 6
        · have kN1 := kNo WL hB1
          clear kNo HKp HSE hcW hBox sG sT
          rcases d0 with rfl | rfl
          all_goals
            go_wp2_with fail
            refine kN1.mono ?_
            clear kN1
            rintro e w2 ⟨b1, d1, b2, d2, b3, d3, rfl, hsrc, hb2⟩
            have hP2 := hP1.below hb2
            have hNB : w2.heap.size ∉ b.all := fun h => by have := hP2.lt _ h; omega
            have hb3 := (Below.refl w2.heap.size w2).alloc (Nat.le_refl _) (.cells #[.bool (nodeN o).leaf, .slice b1 (nodeN o).pairs.length d1, .slice b2 (nodeN o).keys.length d2, .slice b3 (nodeN o).kids.length d3] 40)
            have hbox := heap_alloc_new w2 (.cells #[.bool (nodeN o).leaf, .slice b1 (nodeN o).pairs.length d1, .slice b2 (nodeN o).keys.length d2, .slice b3 (nodeN o).kids.length d3] 40)
            have hNL : w2.heap.size < (w2.alloc (.cells #[.bool (nodeN o).leaf, .slice b1 (nodeN o).pairs.length d1, .slice b2 (nodeN o).keys.length d2, .slice b3 (nodeN o).kids.length d3] 40)).heap.size := by simp
            have hP3 := hP2.below hb3
            have hX3 := (hX1.below hb2).below hb3
            have hs3 := hsrc.below hb3
            have hB3 := (hB1.trans (hb2.mono hB1.size))
            have hB4 := hB3.trans (hb3.mono hB3.size)
            generalize hW3 : w2.alloc (.cells #[.bool (nodeN o).leaf, .slice b1 (nodeN o).pairs.length d1, .slice b2 (nodeN o).keys.length d2, .slice b3 (nodeN o).kids.length d3] 40) = W3 at *
            have kWr := pwrite_any hP3 _ _ (hs3.at (nodeN_few HOK.out)) (nodeN_ok HOK.out)
            have kXw : ∀ v4, Moves W3 v4 b b → Calls Tryz.prog 14 #[ptr xd.x, .agg #[.bool (nodeN o).leaf, .slice b1 (nodeN o).pairs.length d1, .slice b2 (nodeN o).keys.length d2, .slice b3 (nodeN o).kids.length d3]] v4 fun e w' => e = .returned (.tuple #[.int .u32 (wrP P (nodeN o)).1, .int .i64 (wrP P (nodeN o)).2.1]) ∧ ∃ S', XAt w' xd S' ∧ Rel (wrP P (nodeN o)).2.2 S' ∧ Sole [xd.hm, xd.g, xd.f] v4 w' := fun v4 hM => by
              have hX4 := (both_pool hP3 hX3 hap' hM).1
              have hs4 := hs3.sole hM.sole hP3.blocks hba
              refine (xwrite_any hX4 (hs4.at (nodeN_few HOK.out)) (nodeN_few HOK.out) (fun he W hS => (hs4.sole hS (fun k hk => by simp at hk; subst hk; exact (hX4.blocks _ (by simp [Xd.all])).2) (fun k hk => by simp at hk; subst hk; exact hxw _ (by simp [Xd.all]))).src he)).mono ?_
              intro e w' h
              exact both_write HR.out hP3.ok hon (nodeN_ok HOK.out) h hX4
            have hon' := wrP_on hP3.ok hon (nodeN o)
            have HF : ∀ v4 v5 S', Moves W3 v4 b b → PuAt v4 b (wrP P (nodeN o)).2.2 → XAt v5 xd S' → Rel (wrP P (nodeN o)).2.2 S' → Sole [xd.hm, xd.g, xd.f] v4 v5 → GoesAt w a.q xd v5 := fun v4 v5 S' hM h1 h2 h3 h4 =>
              hFIN v5 b _ S' (both_ref h1 hap' h4 (by simp [Xd.all])) h2 h3 hon' rfl hap' (Sole.belowOf (hM.under hB4 hB4.size hba).1 h4 (hM.under hB4 hB4.size hba).1.size fun k hk => hxw k ((by simp [Xd.all] : ∀ k ∈ [xd.hm, xd.g, xd.f], k ∈ xd.all) k hk)) hba
            have HBX : ∀ v4, Moves W3 v4 b b → v4.heap[w2.heap.size]? = W3.heap[w2.heap.size]? := fun v4 hM => (hM.out hNL hNB).2
            unfold ptr at kWr kXw
            rw [hbq] at kWr
            clear hP1 hX1 hP2 hP3 hX3 hsrc hs3 hFIN hon' y0 y1 y2 y3 y4 y5 y6 y7 hloc hb2 hb3
            generalize (wrP P (nodeN o)).1 = RA at *
            generalize (wrP P (nodeN o)).2.1 = RB at *
            generalize (wrP P (nodeN o)).2.2 = RP at *
            generalize (nodeN o).leaf = L0 at *
            generalize (nodeN o).pairs.length = L1 at *
            generalize (nodeN o).keys.length = L2 at *
            generalize (nodeN o).kids.length = L3 at *
            generalize hNBn : w2.heap.size = NB at *
            obtain ⟨z0, z1, z2, z3⟩ := box4g hbox
            go_wp2_with fail
            refine kWr.mono ?_
            clear kWr
            rintro e v4 ⟨rfl, hP4, hM4⟩
            obtain ⟨z0, z1, z2, z3⟩ := box4g ((HBX v4 hM4).trans hbox)
            go_wp2_with fail
            refine (kXw v4 hM4).mono ?_
            clear kXw
            rintro e v5 ⟨rfl, S', hX5, hR5, hS5⟩
            have HRR := HF v4 v5 S' hM4 hP4 hX5 hR5 hS5
            clear HF hP4 hX5 hR5 z0 z1 z2 z3 HBX hbox
            go_wp2_with fail
            go_meet
            exact ⟨rfl, HRR⟩
        by_cases d2 : f0 = 2
        · subst d2
          have hG : ∀ W, PuAt W b P → Calls Tryz.prog 15 #[.pointer (some ⟨a.q, 0, none⟩), .int .u32 o.f1] W fun e w' => e = .returned (.int .i64 (turnE P.now o.f1)) ∧ PuAt w' b (dropP P o.f1) ∧ Moves W w' b b := fun W HW => by
            have := drop_any HW o.f1 HOK.out.a1.1 HOK.out.a1.2
            unfold ptr at this
            rw [hbq] at this
            exact this
          have hT : ∀ W, XAt W xd S → Calls Tryz.prog 16 #[.pointer (some ⟨xd.x, 0, none⟩), .int .u32 o.f1] W fun e w' => e = .returned (.int .i64 (turnE P.now o.f1)) ∧ XAt w' xd (dropX S i1) ∧ Sole [xd.hm, xd.f, xd.l] W w' := fun W HW => by
            have := xdrop_any HW i1 hi1b
            unfold ptr at this
            rw [HR.out.now, ← HI1.out] at this
            exact this
          have hRD : Rel (dropP P o.f1) (dropX S i1) := by rw [HI1.out]; exact HR.out.drop hP1.ok i1
          have HQd : PuAt WL.drew b P := hP1.below (Below.refl _ _).drew
          have HQx : XAt WL.drew xd S := hX1.below (Below.refl _ _).drew
          have q1W : ∀ W, Sole (b.all ++ xd.all) WL W → W.cell? ⟨OB, 1, none⟩ = some (.int .u32 o.f1) := fun W hW => (hBox W hW).2.1
          have S0 : Sole (b.all ++ xd.all) WL WL.drew := Sole.drew _ _
          have oG : ∀ (W' : World), Moves WL.drew W' b b → XAt W' xd S := fun W' hM => (both_pool HQd HQx hap' hM).1
          have oT : ∀ (W W' : World), PuAt W b (dropP P o.f1) → Sole [xd.hm, xd.f, xd.l] W W' → PuAt W' b (dropP P o.f1) := fun W W' HW hS => both_ref HW hap' hS (by simp [Xd.all])
          have hFI : ∀ W, PuAt W b (dropP P o.f1) → XAt W xd (dropX S i1) → Sole (b.all ++ xd.all) WL W → GoesAt w a.q xd W := fun W h1 h2 h3 => hFIN W b _ _ h1 h2 hRD hon rfl hap' (HSE W h3) hba
          have hsx : ∀ k ∈ [xd.hm, xd.f, xd.l], k ∈ xd.all := by simp [Xd.all]
          generalize turnE P.now o.f1 = E at *
          clear hP1 hX1 HKp kNo hRD
          generalize dropP P o.f1 = PD at *
          generalize dropX S i1 = SD at *
          go_wp2_with fail
          clear hcW HSE hBox y0 y1 y2 y3 y4 y5 y6 y7
          refine wp_region_noPanic ?_
          go_region_held (fun W => Sole (b.all ++ xd.all) WL W) (first | assumption | exact Sole.drew _ _ | exact Sole.trans (by assumption) (by assumption))
            (first
              | (go_at_call 15; refine (hG _ HQd).mono ?_; rintro e wg ⟨rfl, HG, hMg⟩; have hSg2 := sG _ _ S0 hMg; have HRg := oG _ hMg)
              | (go_at_call 16; refine (hT _ HRg).mono ?_; rintro e wt ⟨rfl, HT, hSt⟩; have hSt2 := sT _ _ _ hSg2 hSt hsx; have HPt := oT _ _ HG hSt))
          all_goals
            refine NoPanic.normal ?_
            have HRR := hFI _ (by assumption) (by assumption) (by assumption)
            clear hG hT q1W HQd HQx oG oT sG sT hFIN hFI S0
            go_wp2_with fail
            go_meet
            exact ⟨rfl, HRR⟩
        by_cases d3 : f0 = 3
        · subst d3
          have kS := settle_any hP1
          have kX := fun W (hW : XAt W xd S) => xsettle_any hW
          unfold ptr at kS kX
          rw [hbq] at kS
          clear kNo
          go_wp2_with fail
          refine kS.mono ?_
          clear kS
          rintro e v3 ⟨rfl, b', hP3, hM3⟩
          obtain ⟨hX3, hap3⟩ := both_pool hP1 hX1 hap' hM3
          obtain ⟨hB3', hba3⟩ := hM3.under hB1 hB1.size hba
          go_wp2_with fail
          refine (kX _ hX3).mono ?_
          clear kX
          rintro e v4 ⟨rfl, hX4, hS4⟩
          have hP4 := both_ref hP3 hap3 hS4 (by simp [Xd.all])
          have hB4' : Below w.heap.size w v4 := Sole.belowOf hB3' hS4 hB3'.size fun k hk => hxw k ((by simp [Xd.all] : ∀ k ∈ [xd.f, xd.l], k ∈ xd.all) k hk)
          have HRR := hFIN v4 b' _ _ hP4 hX4 HR.out.settle hon hM3.q hap3 hB4' hba3
          clear hP4 hX4 hP3 hX3
          go_wp2_with fail
          go_meet
          exact ⟨rfl, HRR⟩
        by_cases d4 : f0 = 4
        · subst d4
          have kS := undo_any hP1
          have hfl := HR.out.fr.low
          have hll := HR.out.lt.low
          have hnw := HR.out.now
          have kX := fun W (hW : XAt W xd S) => xundo_any hW (fun i hi => by
            rw [hnw]
            refine Nat.le_of_not_lt fun hlt => ?_
            rw [hfl i hlt] at hi
            cases hi) (fun i hi => by
            rw [hnw]
            refine Nat.le_of_not_lt fun hlt => ?_
            rw [hll i hlt] at hi
            cases hi)
          unfold ptr at kS kX
          rw [hbq] at kS
          clear kNo hfl hll hnw
          go_wp2_with fail
          refine kS.mono ?_
          clear kS
          rintro e v3 ⟨rfl, b', hP3, hM3⟩
          obtain ⟨hX3, hap3⟩ := both_pool hP1 hX1 hap' hM3
          obtain ⟨hB3', hba3⟩ := hM3.under hB1 hB1.size hba
          go_wp2_with fail
          refine (kX _ hX3).mono ?_
          clear kX
          rintro e v4 ⟨rfl, hX4, hS4⟩
          have hP4 := both_ref hP3 hap3 hS4 (by simp [Xd.all])
          have hB4' : Below w.heap.size w v4 := Sole.belowOf hB3' hS4 hB3'.size fun k hk => hxw k ((by simp [Xd.all] : ∀ k ∈ [xd.hm, xd.f, xd.l], k ∈ xd.all) k hk)
          have HRR := hFIN v4 b' _ _ hP4 hX4 (HR.out.undo hP1.ok) hon hM3.q hap3 hB4' hba3
          clear hP4 hX4 hP3 hX3
          go_wp2_with fail
          go_meet
          exact ⟨rfl, HRR⟩
        by_cases d5 : f0 = 5
        · subst d5
          by_cases hmk : n3 ≤ 1000
          · have hmkI : (n3 : Int) ≤ 1000 := by omega
            have hlN : intsOf (o.f3.map Int.toNat) = o.f3 := by
              unfold intsOf
              rw [List.map_map]
              refine (List.map_congr_left fun k hk => ?_).trans (List.map_id _)
              have := (HOK.out.ku k hk).1
              show ((k.toNat : Nat) : Int) = k
              omega
            have hG : ∀ W, PuAt W b P → Sole (b.all ++ xd.all) WL W → Calls Tryz.prog 21 #[.pointer (some ⟨a.q, 0, none⟩), .slice a3 n3 k3] W fun e w' => e = .returned (.int .i64 (swept P.now o.f3)) ∧ PuAt w' b (sweepP P o.f3) ∧ Moves W w' b b := fun W HW hS => by
              have := psweep_any HW _ o.f3 (RdE.below HKp.out (HSE W hS)) HOK.out.keep HOK.out.ku
              unfold ptr at this
              rw [hbq] at this
              exact this
            have hT : ∀ W, XAt W xd S → Sole (b.all ++ xd.all) WL W → Calls Tryz.prog 22 #[.pointer (some ⟨xd.x, 0, none⟩), .slice a3 n3 k3] W fun e w' => e = .returned (.int .i64 (swept P.now o.f3)) ∧ XAt w' xd (sweepX S o.f3) ∧ Sole [xd.hm, xd.l] W w' := fun W HW hS => by
              have := xsweep_any HW a3 n3 k3 (o.f3.map Int.toNat) (by rw [hlN]; exact RdE.below HKp.out (HSE W hS)) (by rw [List.length_map]; exact hn3) hmk (fun k hk => by
                obtain ⟨q, hq, rfl⟩ := List.mem_map.1 hk
                have := HOK.out.ku q hq
                omega)
              unfold ptr at this
              rw [hlN, HR.out.now] at this
              exact this
            have hRD : Rel (sweepP P o.f3) (sweepX S o.f3) := HR.out.sweep hP1.ok o.f3
            have HQd : PuAt WL.drew b P := hP1.below (Below.refl _ _).drew
            have HQx : XAt WL.drew xd S := hX1.below (Below.refl _ _).drew
            have q3W : ∀ W, Sole (b.all ++ xd.all) WL W → W.cell? ⟨OB, 3, none⟩ = some (.slice a3 n3 k3) := fun W hW => (hBox W hW).2.2.2.1
            have S0 : Sole (b.all ++ xd.all) WL WL.drew := Sole.drew _ _
            have oG : ∀ (W' : World), Moves WL.drew W' b b → XAt W' xd S := fun W' hM => (both_pool HQd HQx hap' hM).1
            have oT : ∀ (W W' : World), PuAt W b (sweepP P o.f3) → Sole [xd.hm, xd.l] W W' → PuAt W' b (sweepP P o.f3) := fun W W' HW hS => both_ref HW hap' hS (by simp [Xd.all])
            have hFI : ∀ W, PuAt W b (sweepP P o.f3) → XAt W xd (sweepX S o.f3) → Sole (b.all ++ xd.all) WL W → GoesAt w a.q xd W := fun W h1 h2 h3 => hFIN W b _ _ h1 h2 hRD hon rfl hap' (HSE W h3) hba
            have hsx : ∀ k ∈ [xd.hm, xd.l], k ∈ xd.all := by simp [Xd.all]
            generalize swept P.now o.f3 = E at *
            clear hP1 hX1 HKp kNo hRD hlN
            generalize sweepP P o.f3 = PD at *
            generalize sweepX S o.f3 = SD at *
            go_wp2_with fail
            clear hcW HSE hBox y0 y1 y2 y3 y4 y5 y6 y7
            refine wp_region_noPanic ?_
            go_region_held (fun W => Sole (b.all ++ xd.all) WL W) (first | assumption | exact Sole.drew _ _ | exact Sole.trans (by assumption) (by assumption))
              (first
                | (go_at_call 21; refine (hG _ HQd S0).mono ?_; rintro e wg ⟨rfl, HG, hMg⟩; have hSg2 := sG _ _ S0 hMg; have HRg := oG _ hMg)
                | (go_at_call 22; refine (hT _ HRg hSg2).mono ?_; rintro e wt ⟨rfl, HT, hSt⟩; have hSt2 := sT _ _ _ hSg2 hSt hsx; have HPt := oT _ _ HG hSt))
            all_goals
              refine NoPanic.normal ?_
              have HRR := hFI _ (by assumption) (by assumption) (by assumption)
              clear hG hT q3W HQd HQx oG oT sG sT hFIN hFI S0
              go_wp2_with fail
              go_meet
              exact ⟨rfl, HRR⟩
          · have hmkI : ¬ (n3 : Int) ≤ 1000 := by omega
            have HRR := hFIN WL b _ _ hP1 hX1 HR.out hon rfl hap' hB1 hba
            clear hP1 hX1 HKp kNo hcW HSE hBox
            go_wp2_with fail
            go_meet
            exact ⟨rfl, HRR⟩
        · have HRR := hFIN WL b _ _ hP1 hX1 HR.out hon rfl hap' hB1 hba
          have d6a : ¬ f0 = 0 := fun h => d0 (.inl h)
          have d6b : ¬ f0 = 6 := fun h => d0 (.inr h)
          clear hP1 hX1 HKp kNo hcW HSE hBox d0
          go_wp2_with fail
          go_meet
          exact ⟨rfl, HRR⟩
      case rest =>
        clear kNo hP1 hX1 hB1 hlocb hlocx hloc y0 y1 y2 y3 y4 y5 y6 y7 c0 c1 c2 c3 c4 c5 c6 c7 HP HX HR hon hbq hbr hba HB hsL hWL HSE hcW hBox sG sT hFIN HKp hap'
        obtain ⟨rfl, b', P', S', hP', hX', hR', hon', hbq', hap2, hB', hba'⟩ := hcut
        have kS := samel_any hP' hX' hR' hon'
        have HP' : Hid _ := hP'
        have HX' : Hid _ := hX'
        have HR' : Hid _ := hR'
        unfold ptr at kS
        rw [hbq'] at kS
        clear hP' hX' hR'
        go_wp2_with fail
        refine kS.mono ?_
        clear kS
        rintro e v1 ⟨rfl, hbs⟩
        have hPs : Hid (PuAt v1 b' P') := HP'.out.below hbs
        have hXs : Hid (XAt v1 xd S') := HX'.out.below hbs
        have hBs : Below w.heap.size w v1 := hB'.trans (hbs.mono hB'.size)
        go_wp2_with fail
        go_roundw
        case rel => exact ⟨k + 1, b', P', S', by omega, by go_num, hPs, hXs, HR', hon', hbq', hap2, hBs, hba'⟩
        case measure => simp [Go.RowKit.intOf]; omega
    · obtain rfl : k = len := by omega
      have hltI : ¬ (k : Int) < k := by omega
      have kS := samel_any HP.out HX.out HR.out hon
      unfold ptr at kS
      rw [hbq] at kS
      clear hoc
      go_wp2_with fail
      refine kS.mono ?_
      clear kS
      rintro e w9 ⟨rfl, hb9⟩
      go_wp2
      go_ret
      exact ⟨rfl, hbr.trans (hb9.mono hbr.size)⟩

/-! ### The row -/
set_option maxRecDepth 100000 in
theorem lifted (os : Os) (started : os.Started) (H : Type) (enc : TypeId × Value → H) :
    ReturnsInHanded {} Tryz.checked os 3 .any (Rows.poolGoesSpec.pre6 enc Tryz.prog Tryz.f3 Rows.poolGoesRow.domain false) (Rows.poolGoesSpec.post enc Tryz.prog Tryz.f3 false true false false) := by
  refine returnsInHanded_of_change_sized (C := Tryz.checked) own started (by kernel_rfl) Tryz.func3
    (ChangeSpec.witness6 (enc := enc) (C := Tryz.checked) false ⟨#[], #[.int .i64 0, .int .i64 0, .slice none 0 0, .slice none 0 0], []⟩ 8 (by kernel_rfl) (by kernel_rfl) (by kernel_rfl) (by kernel_rfl)) ?_
  intro W base args ds gs before hval0 hW hcnd hsz0 _
  have hsz : (DataW.weightsEach Tryz.prog (Tryz.f3.params.toList ++ Rows.poolGoesSpec.plain.varTypes Tryz.prog) (ds ++ gs)).all (· ≤ reachBytes) = true := hsz0
  clear hsz0
  have hval : ∀ (j : Nat) t v, Tryz.f3.params[j]? = some t → args[j]? = some v → Value.okWide Tryz.prog W .any base t v := hval0
  have hW' := hW
  obtain ⟨p, q, hA0, hV, rfl, hfz, hnd⟩ := hW
  have hA : DataW.TrodAll enc Tryz.prog W 0 (fun _ => true) true Tryz.f3.params.toList args.toList ds p := hA0
  rw [Tryz.params3] at hA hval hsz
  obtain ⟨v0, vs0, d0, ds0, p0, q0, hargs, rfl, rfl, h0, r0⟩ := trodAll_cons hA
  obtain ⟨v1, vs1, d1, ds1, p1, q1, rfl, rfl, rfl, h1, r1⟩ := trodAll_cons r0
  obtain ⟨v2, vs2, d2, ds2, p2, q2, rfl, rfl, rfl, h2, r2⟩ := trodAll_cons r1
  obtain ⟨v3, vs3, d3, ds3, p3, q3, rfl, rfl, rfl, h3, r3⟩ := trodAll_cons r2
  obtain ⟨rfl, rfl, rfl⟩ := trodAll_nil r3
  obtain rfl : args = #[v0, v1, v2, v3] := by cases args; simp_all
  obtain ⟨rfl, rfl⟩ := trodVars_none hV
  obtain ⟨a0, rfl, rfl, rfl, w0⟩ := open_int Tryz.underlying3 (hval 0 3 v0 rfl rfl) h0
  obtain ⟨a1, rfl, rfl, rfl, w1⟩ := open_int Tryz.underlying3 (hval 1 3 v1 rfl rfl) h1
  obtain ⟨a2, len2, cap2, rfl⟩ := okWide_slice Tryz.underlying22 (hval 2 22 v2 rfl rfl)
  have k2 := h2
  have lt2 : ∀ x ∈ p2, x.block < W.heap.size := by obtain ⟨m, hm⟩ := k2; exact DataW.trod_lt m _ _ _ hm
  obtain ⟨z2, wk2, w2⟩ : ∃ l, IntsOk l ∧ RdI W (.slice a2 len2 cap2) l := by
    obtain ⟨fuel, hf⟩ := h2
    exact ints_of hf
  obtain ⟨a3, len3, cap3, rfl⟩ := okWide_slice Tryz.underlying23 (hval 3 23 v3 rfl rfl)
  have k3 := h3
  have lt3 : ∀ x ∈ p3, x.block < W.heap.size := by obtain ⟨m, hm⟩ := k3; exact DataW.trod_lt m _ _ _ hm
  obtain ⟨o3, w3, wz3⟩ : ∃ os, PopsAt W a3 len3 cap3 os ∧ ∀ o ∈ os, PopZ o := by
    obtain ⟨fuel, hf⟩ := h3
    obtain ⟨os, hos⟩ := popsAt_of hf (fun n hn => of_decide_eq_true (List.all_eq_true.1 hsz n (DataW.weights_mem_each (j := 3) rfl rfl n hn)))
    exact ⟨os, hos, pops_nil hf hos⟩
  clear hA0 hval0
  refine (walk a0 a1 (.slice a2 len2 cap2) z2 a3 len3 cap3 o3 W w0 w1 w2 wk2 w3 wz3).mono fun e W' ⟨he, bel⟩ => ?_
  subst he
  exact ⟨_, rfl, _, _, _, [], _, [], hW', trodAll_mk1 (shut_bool Tryz.underlying4 _), (trodAll_cons_mk (shut_int Tryz.underlying3 w0) (trodAll_cons_mk (shut_int Tryz.underlying3 w1) (trodAll_cons_mk (Below.trod laidOut (by kernel_rfl) (of_decide_eq_true (by kernel_rfl)) k2 bel lt2) (trodAll_cons_mk (Below.trod laidOut (by kernel_rfl) (of_decide_eq_true (by kernel_rfl)) k3 bel lt3) trodAll_mk0)))), rfl, bel.frame _, fun h => by cases h⟩

theorem over : Rows.poolGoesRow.holds Tryz.pinned (OpenSpec.ofChange Rows.poolGoesSpec) :=
  OpenClaim.holds_of_wide 3 Tryz.f3 rfl rfl rfl rfl rfl rfl rfl ⟨rfl, rfl, rfl, rfl, rfl⟩ rfl rfl rfl rfl rfl (by kernel_rfl) Tryz.func3 (by kernel_rfl)
    (of_decide_eq_true (by kernel_rfl)) (by unfold Func.isWrapper; first | (rw [if_pos (by decide +kernel)]; kernel_rfl) | (rw [if_neg (by decide +kernel)]; exact ⟨rfl, rfl⟩))
    (fun os started H enc _ => lifted os started H enc)

end Go.Proofs.YthgdbjpefjjeaaaGreat.poolGoes

namespace Go.Proofs.YthgdbjpefjjeaaaGreat
/-- The statement. -/
theorem poolGoes_proved : Rows.PoolGoesSaid := poolGoes.over
#print axioms poolGoes_proved
end Go.Proofs.YthgdbjpefjjeaaaGreat
