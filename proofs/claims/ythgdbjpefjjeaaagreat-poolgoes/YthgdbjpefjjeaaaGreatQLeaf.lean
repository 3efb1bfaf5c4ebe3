/- The contract of page.leafBytes. -/
import Derived.Test.YthgdbjpefjjeaaaGreatQConcat
import Derived.Test.YthgdbjpefjjeaaaGreatQCheck
import Derived.Test.YthgdbjpefjjeaaaGreatText
namespace Go.Proofs.YthgdbjpefjjeaaaGreat
open Go.RowKit Go.Shelf
set_option linter.unusedVariables false
set_option linter.unusedSimpArgs false
set_option maxRecDepth 100000
attribute [local go_sem] Oper.semAt_some

theorem keepsFrom_below {B : Nat} {W W' : World} (h : Below W.heap.size W W') : KeepsFrom B W W' := ⟨h.size, fun k o _ hk _ => (h.block k (Array.getElem?_eq_some_iff.1 hk).1).trans hk⟩

/-- A pair that may stand in a leaf. -/
def PairOk (p : ByteArray × ByteArray) : Prop := p.1.size = 14 ∧ p.2.size ≤ 34

theorem sub_list (ps : List (ByteArray × ByteArray)) (h : ∀ p ∈ ps, PairOk p) : ∃ ss : List { p : ByteArray × ByteArray // PairOk p }, ss.map Subtype.val = ps := by
  induction ps with
  | nil => exact ⟨[], rfl⟩
  | cons p ps ih =>
    obtain ⟨ss, hs⟩ := ih fun q hq => h q (List.mem_cons_of_mem _ hq)
    exact ⟨⟨p, h p (by simp)⟩ :: ss, by rw [List.map_cons, hs]⟩

theorem textB_ok {s : ByteArray} (h : s.size ≤ 34) : textB s = (s.size : Int) :: strB s := by unfold textB; rw [if_neg (by omega)]

def lfR (n1 : Nat) (pre : List { p : ByteArray × ByteArray // PairOk p }) : List Int := 76 :: (n1 : Int) :: pre.flatMap fun p => pairL p.1

theorem lfR_snoc (n1 : Nat) (pre : List { p : ByteArray × ByteArray // PairOk p }) (x : { p : ByteArray × ByteArray // PairOk p }) : lfR n1 (pre ++ [x]) = [lfR n1 pre, strB x.1.1, textB x.1.2].flatten := by
  unfold lfR
  rw [List.flatMap_append, textB_ok x.2.2]
  simp [pairL]

theorem lfR_len (n1 : Nat) (pre : List { p : ByteArray × ByteArray // PairOk p }) : (lfR n1 pre).length ≤ 2 + 49 * pre.length := by
  unfold lfR
  rw [List.length_cons, List.length_cons]
  have := flat_length (fun p : { p : ByteArray × ByteArray // PairOk p } => pairL p.1) pre 49 fun p _ => by rw [pairL_length]; have := p.2; unfold PairOk at this; omega
  omega

set_option maxHeartbeats 4000000 in
theorem leafBytes_sub (w : World) (a1 a2 a3 : Option Addr) (n1 c1 c2 c3 : Nat) (h10 : n1 ≤ 10) (ss : List { p : ByteArray × ByteArray // PairOk p }) (hl : ss.length = n1) (hP : RdP w (.slice a1 n1 c1) (ss.map Subtype.val)) :
    Calls Tryz.prog 66 #[.agg #[.bool true, .slice a1 n1 c1, .slice a2 0 c2, .slice a3 0 c3]] w fun e w' => ∃ u, e = .returned u ∧ Own w' w.heap.size u (lfR n1 ss) ∧ Below w.heap.size w w' := by
  obtain ⟨_, hnc, hm, hI⟩ := hP.open
  have h10' : (n1 : Int) ≤ 10 := by omega
  refine (callsIn_wide (n := 3)).1 ?_
  refine callsIn_of_wp_marks Tryz.func66 rfl trivial ?_ rfl
  refine wpIn_wide.2 ?_
  simp only [Tryz.ntmps66, List.size_toArray, List.length_cons, List.length_nil, Nat.reduceAdd, Nat.reduceSub, Array.replicate_succ, Array.replicate_zero, List.push_toArray, List.append_toArray, List.nil_append, List.cons_append]
  go_wp2_with (go_at_call 86; refine (valuesP_any _ _ _ _).mono ?_; rintro e w' ⟨rfl, rfl⟩)
  refine (wpIn_wide (n := 3)).1 ?_
  have hO1 := Own.laid (w := w.alloc (.cells #[.bool true, .slice a1 n1 c1, .slice a2 0 c2, .slice a3 0 c3] 40)) (cs := #[.int .u8 76, .int .u8 n1]) (n := 2) (xs := [76, (n1 : Int)]) rfl (by decide) rfl
  rw [World.size_alloc] at hO1
  have hB0 : Below w.heap.size w ((((w.alloc (.cells #[.bool true, .slice a1 n1 c1, .slice a2 0 c2, .slice a3 0 c3] 40)).alloc (.cells #[.int .u8 76, .int .u8 n1] 5)).alloc (.cells #[.slice (some ⟨w.heap.size + 1, 0, none⟩) 2 2] 86)).alloc (.cells #[.slice a1 n1 c1] 37)) := ((((Below.refl _ w).alloc (Nat.le_refl _) _).alloc (by simp) _).alloc (by simp; omega) _).alloc (by simp; omega) _
  have hO0 : Own ((((w.alloc (.cells #[.bool true, .slice a1 n1 c1, .slice a2 0 c2, .slice a3 0 c3] 40)).alloc (.cells #[.int .u8 76, .int .u8 n1] 5)).alloc (.cells #[.slice (some ⟨w.heap.size + 1, 0, none⟩) 2 2] 86)).alloc (.cells #[.slice a1 n1 c1] 37)) w.heap.size (.slice (some ⟨w.heap.size + 1, 0, none⟩) 2 2) (lfR n1 []) := ((hO1.below ((Below.refl _ _).alloc (Nat.le_refl _) _)).below ((Below.refl _ _).alloc (Nat.le_refl _) _)).mono (by omega)
  have bB := Boxed.new ((w.alloc (.cells #[.bool true, .slice a1 n1 c1, .slice a2 0 c2, .slice a3 0 c3] 40)).alloc (.cells #[.int .u8 76, .int .u8 n1] 5)) 86 (.slice (some ⟨w.heap.size + 1, 0, none⟩) 2 2)
  rw [World.size_alloc, World.size_alloc] at bB
  have bB0 := bB.alloc (.cells #[.slice a1 n1 c1] 37)
  have bV := Boxed.new (((w.alloc (.cells #[.bool true, .slice a1 n1 c1, .slice a2 0 c2, .slice a3 0 c3] 40)).alloc (.cells #[.int .u8 76, .int .u8 n1] 5)).alloc (.cells #[.slice (some ⟨w.heap.size + 1, 0, none⟩) 2 2] 86)) 37 (.slice a1 n1 c1)
  rw [World.size_alloc, World.size_alloc, World.size_alloc] at bV
  have hs0 : ((((w.alloc (.cells #[.bool true, .slice a1 n1 c1, .slice a2 0 c2, .slice a3 0 c3] 40)).alloc (.cells #[.int .u8 76, .int .u8 n1] 5)).alloc (.cells #[.slice (some ⟨w.heap.size + 1, 0, none⟩) 2 2] 86)).alloc (.cells #[.slice a1 n1 c1] 37)).heap.size = w.heap.size + 4 := by simp
  generalize (((w.alloc (.cells #[.bool true, .slice a1 n1 c1, .slice a2 0 c2, .slice a3 0 c3] 40)).alloc (.cells #[.int .u8 76, .int .u8 n1] 5)).alloc (.cells #[.slice (some ⟨w.heap.size + 1, 0, none⟩) 2 2] 86)).alloc (.cells #[.slice a1 n1 c1] 37) = W0 at *
  clear hO1 bB
  refine wpIn_rangeFunc_ownH rfl (by decide) (gf := 106) (lb := #[.pointer (some ⟨w.heap.size + 1 + 1 + 1, 0, none⟩)]) rfl trivial (enters_of Tryz.func106 (by kernel_rfl) rfl)
    (valuesG_stops Subtype.val 2 (by decide) (w.heap.size + 1 + 1 + 1) a1 n1 c1 ss W0 w.heap.size (by omega) (by omega) bV.cell hm hnc hl (fun hp => by
      obtain ⟨b, off, e, hb, hc⟩ := hI hp
      exact ⟨b, off, e, hb, fun i p hi => ⟨(hB0.cell (p := ⟨b, off + i * 2, none⟩) hb).trans (hc i p.1 (by rw [List.getElem?_map, hi]; rfl)).1, (hB0.cell (p := ⟨b, off + i * 2 + 1, none⟩) hb).trans (hc i p.1 (by rw [List.getElem?_map, hi]; rfl)).2⟩⟩))
    belowK_t (belowK_b (by omega)) (Below.refl _ _) (fun _ => rfl)
    (fun pre W => (∃ v, Boxed W (w.heap.size + 1 + 1) 86 v ∧ W.ownsRow w.heap.size 5 1 v (lfR n1 pre).length ((lfR n1 pre).map (Value.int .u8)) ∧ ∃ a c, v = .slice a (lfR n1 pre).length c) ∧ Below w.heap.size w W)
    (fun _ _ _ => False)
    (OwnFrom.and (Own.from (holdsRow_own w.heap.size (w.heap.size + 1 + 1) 86 5 1 (fun pre => (lfR n1 pre).length) (fun pre => (lfR n1 pre).map (Value.int .u8)) (fun pre v => ∃ a c, v = .slice a (lfR n1 pre).length c)) _) (ownFrom_below (Nat.le_refl _) (by omega)))
    (fun _ _ _ _ _ hs _ _ => hs)
    ⟨⟨_, bB0, hO0, _, _, rfl⟩, hB0⟩
    (fun x a' W => ∃ Bx, (W.cell? ⟨Bx, 0, none⟩ = some (.string x.1.1) ∧ W.cell? ⟨Bx, 1, none⟩ = some (.string x.1.2)) ∧ a' = { tmps := #[.agg #[.bool true, .slice a1 n1 c1, .slice a2 0 c2, .slice a3 0 c3], .pointer (some ⟨w.heap.size, 0, none⟩), .slice none 0 0, .pointer (some ⟨w.heap.size + 1 + 1, 0, none⟩), .pointer (some ⟨Bx, 0, none⟩), undef, undef, .pointer (some ⟨w.heap.size, 1, none⟩), .slice a1 n1 c1, .int .i64 n1, .int .u8 n1, .slice (some ⟨w.heap.size + 1, 0, none⟩) 2 2, .pointer (some ⟨w.heap.size, 1, none⟩), .slice a1 n1 c1, .func (.func 106) #[] #[.pointer (some ⟨w.heap.size + 1 + 1 + 1, 0, none⟩)], .agg #[.string x.1.1, .string x.1.2], undef, undef, undef, undef, undef, undef, undef, undef, undef, undef, undef, undef, undef, undef], defers := [] })
    (fun x a' => Own.from (fun s A B row hs hg hr => by
      obtain ⟨Bx, hs, e⟩ := hs
      exact ⟨Bx, ⟨cell_kept hs.1 hg hr, cell_kept hs.2 hg hr⟩, e⟩) _) ?assign ?body ?done ?stop
  case assign =>
    rintro l pre x W K ⟨⟨v, hv, hr, hsv⟩, hB⟩ hK
    unfold kvV
    gi_wp2
    exact hK _ _ ((KeepsOthers.alloc _ _).from _) ((Below.refl _ W).alloc hB.size _) ⟨⟨v, hv.alloc _, World.ownsRow.kept hr (World.grownBy_alloc W _ none) (by cases hq : v.ownBlock <;> simp), hsv⟩, hB.alloc hB.size _⟩ ⟨W.heap.size, ⟨by simp, by simp⟩, rfl⟩
  case body =>
    rintro l pre x a' W hl0 hrec ⟨⟨v, hv, hr, a4, c4, rfl⟩, hB⟩ ⟨Bx, ⟨hx0, hx1⟩, rfl⟩ hlen
    have hx14 : x.1.1.size = 14 := x.2.1
    have hx34 : x.1.2.size ≤ 34 := x.2.2
    have hO : Own W w.heap.size _ (lfR n1 pre) := hr
    have hLl := lfR_len n1 pre
    have hsn := lfR_snoc n1 pre x
    have htx := text_any W x.1.2 (by unfold maxLen; omega)
    have htE : textE x.1.2 = 0 := if_neg (by omega)
    rw [htE] at htx
    have htl : 0 < (textB x.1.2).length := by rw [textB_ok hx34]; simp
    have htl2 : (textB x.1.2).length ≤ 35 := by rw [textB_ok hx34, List.length_cons, strB_length]; omega
    have hs14 : (strB x.1.1).length = 14 := by rw [strB_length]; exact hx14
    have hWl := hv.lt
    have hBl := World.block_lt_of_cell? W _ hx0
    have hvc := hv.cell
    have hvf := hv.frozen
    rw [hl] at hlen
    have hsl : 0 < (lfR n1 (pre ++ [x])).length := by unfold lfR; simp
    have hfl : [lfR n1 pre, strB x.1.1, textB x.1.2].flatten.length ≤ 140737488355328 := by
      simp only [List.flatten_cons, List.flatten_nil, List.length_append, List.length_nil]; omega
    generalize hT : textB x.1.2 = TB at *
    generalize hSB : strB x.1.1 = SB at *
    generalize hR : lfR n1 pre = R at *
    generalize hR2 : lfR n1 (pre ++ [x]) = R2 at *
    gi_wp2
    refine ⟨trivial, ?_⟩
    refine (CallsIn.inRound l (callsIn_wide.2 htx)).mono ?_
    rintro e w5 ⟨v5, rfl, ho5, hb5⟩
    obtain ⟨g5, cap5, rfl, _, _⟩ := ho5.open htl
    obtain ⟨v6, w6, hcv, hr6, hb6⟩ := conv_bytes w5 x.1.1 (by omega)
    rw [hSB] at hr6
    obtain ⟨g6, off6, cap6, rfl⟩ := hr6.opened 14 hs14 (by decide)
    have hx05 := (hb5.cell (p := ⟨Bx, 0, none⟩) hBl).trans hx0
    have hvc5 := (hb5.cell (p := ⟨w.heap.size + 1 + 1, 0, none⟩) hWl).trans hvc
    have hrR : Rd w6 (.slice a4 R.length c4) R := ((hO.below hb5).below hb6).rd
    have hrT := (ho5.below hb6).rd
    have hcon : Calls Tryz.prog 88 #[.slice (some ⟨w6.heap.size, 0, none⟩) 3 3] (w6.alloc (.cells #[.slice a4 R.length c4, .slice (some ⟨g6, off6, none⟩) 14 cap6, .slice (some ⟨g5, 0, none⟩) TB.length cap5] 86)) fun e w' => ∃ v, e = .returned v ∧ Own w' w6.heap.size v [R, SB, TB].flatten ∧ Below w6.heap.size w6 w' :=
      concat_lit w6 [.slice a4 R.length c4, .slice (some ⟨g6, off6, none⟩) 14 cap6, .slice (some ⟨g5, 0, none⟩) TB.length cap5] [R, SB, TB] rfl (by simp) (fun i hi => by
        match i, hi with
        | 0, _ => exact hrR
        | 1, _ => exact hr6
        | 2, _ => exact hrT) hfl
    rw [← hsn] at hcon
    clear hsn hfl
    gi_wp2
    refine ⟨trivial, ?_⟩
    refine (CallsIn.inRound l (callsIn_wide.2 hcon)).mono ?_
    rintro e w8 ⟨v8, rfl, ho8, hb8⟩
    obtain ⟨g8, cap8, rfl, _, _⟩ := ho8.open hsl
    have hb68 := (hb6.trans (hb8.mono hb6.size))
    have hb58 := hb5.trans (hb68.mono hb5.size)
    have hvc8 := (hb58.cell (p := ⟨w.heap.size + 1 + 1, 0, none⟩) hWl).trans hvc
    have hvf8 := (hb58.frozen (p := ⟨w.heap.size + 1 + 1, 0, none⟩) hWl).trans hvf
    gi_wp2
    have bx8 : Boxed w8 (w.heap.size + 1 + 1) 86 _ := (hb58.block _ hWl).trans hv
    have hBs := hB.size
    have hb5s := hb5.size
    have hb6s := hb6.size
    refine ⟨(keepsFrom_below hb58).trans ((KeepsOthers.setCell _ _ _).from _), (hb58.mono hBs).setCell (p := ⟨w.heap.size + 1 + 1, 0, none⟩) (by show w.heap.size ≤ w.heap.size + 1 + 1; omega) _, ⟨_, bx8.set _, ?_, _, _, by rw [hR2]⟩, (hB.trans (hb58.mono hBs)).setCell (p := ⟨w.heap.size + 1 + 1, 0, none⟩) (by show w.heap.size ≤ w.heap.size + 1 + 1; omega) _⟩
    rw [hR2]
    have ho8' : w8.ownsRow w.heap.size 5 1 _ R2.length (R2.map (Value.int .u8)) := ho8.mono (by omega)
    exact World.ownsRow.kept ho8' (grownBy_setCell' w8 _ _) (.inr (bx8.not_row (by decide) ho8').symm)
  case done =>
    rintro D ys W hD rfl ⟨⟨v, hv, hr, a4, c4, rfl⟩, hB⟩ hK
    have hvc := hv.cell
    go_wp2
    refine ⟨by simp, .inl ⟨_, _, rfl, run_takeDeferred hK, ?_⟩⟩
    refine ⟨_, results_tmp rfl _ _ _, _, rfl, ?_, hB.trans (belowK_b (w := w) (Nat.le_refl _) W D _ _ (by omega) hK rfl rfl)⟩
    exact ownsRow_putObj hr _ hK rfl
  case stop =>
    rintro D c pre W _ _ h _
    exact h.elim

end Go.Proofs.YthgdbjpefjjeaaaGreat
