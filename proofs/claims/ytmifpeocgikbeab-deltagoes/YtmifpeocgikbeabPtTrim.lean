/- The contracts of patch.Trim, Zero and Of. -/
import Derived.Test.YtmifpeocgikbeabPtLay
namespace Go.Proofs.Ytmifpeocgikbeab
open Go.RowKit
set_option linter.unusedVariables false
set_option linter.unusedSimpArgs false
set_option maxRecDepth 100000

theorem setCells_row (P : Program) (w : World) (g o : Nat) (e : TypeId) (vs : List Value) (cur : Array Value) (hg : w.heap[g]? = some (.cells cur e (0, 0))) (hfit : o + vs.length ≤ cur.size) (h1 : ∀ u ∈ vs, u.oneCell' = true) :
    w.setCells g o vs = w.setRow g (cur.toList.take o ++ vs ++ cur.toList.drop (o + vs.length)).toArray := by
  have a1 := run_storeCells_at P g o e vs 0 cur w hg (by simpa using hfit) h1
  have a2 := run_storeCells_cells (P := P) g o vs 0 w (fun j hj => by rw [cell_of_row _ _ _ _ _ (0, 0) hg, Array.getElem?_eq_getElem (by omega)]; rfl) (fun j hj => frozen_of_row w g _ _ _ hg) h1
  rw [a1] at a2
  simp only [Nat.add_zero, Result.ok.injEq, true_and] at a2
  exact a2.symm

/-- The bytes of a patch are written. -/
theorem wpList_storeM {w : World} {ops : Array Oper} {rest : List Oper} {o : Oper} {a : Act} {Q : Exit → Act → World → Prop} (hg : o.guard = none) (x y : Operand) (ho : o.op = .store 33 x y)
    (g : Nat) (b : List Int) (p : Pt) (hx : a.eval x = .pointer (some ⟨g, 2, none⟩)) (hy : a.eval y = .agg (bytesV b)) (hb : b.length = 32) (hp : p.bytes.length = 32) (hat : PtAt w g p)
    (h : wpList Try.prog ops Q rest (a.put o.dst undef) (w.setRow g (ptC ⟨p.fresh, p.mask, b⟩))) : wpList Try.prog ops Q (o :: rest) a w := by
  refine wpList_store_mid hg 33 x y ho g 2 (bytesV b) hx hy (fun j hj => ?_) (by rw [bytesV_size, hb]; exact size_ch) (one_bytes b) ?_
  · rw [bytesV_size, hb] at hj
    exact ⟨by rw [hat.byte hp hj]; rfl, hat.frozen _⟩
  · have e : w.setCells g 2 (bytesV b).toList = w.setRow g (ptC ⟨p.fresh, p.mask, b⟩) := by
      rw [setCells_row Try.prog w g 2 35 (bytesV b).toList (ptC p) hat.row (by rw [ptC_size hp, Array.length_toList, bytesV_size, hb]; decide) (fun u hu => (Array.all_eq_true_iff_forall_mem.1 (one_bytes b)) u (by simpa using hu))]
      congr 1
      apply Array.ext'
      have hd : (ptC p).toList.drop (2 + (bytesV b).toList.length) = [] := List.drop_of_length_le (by rw [Array.length_toList, ptC_size hp, Array.length_toList, bytesV_size, hb]; omega)
      simp only [hd, List.append_nil]
      simp [ptC, bytesV]
    rw [e]; exact h

set_option maxHeartbeats 2000000 in
theorem trim_any (w : World) (p : Pt) (hp : PtOk p) : Calls Try.prog 66 #[.agg (ptC p)] w fun e w' => e = .returned (.agg (ptC (trimP p))) ∧ Below w.heap.size w w' := by
  have hz := zeroPt
  have HP : Hid (p.bytes.length = 32) := hp.ch.1
  have HZ : Hid (zeroC.length = 32) := ch_zero.1
  have hT := trimP_ok hp
  have HT : Hid ((trimP p).bytes.length = 32) := hT.ch.1
  obtain ⟨w1, hw1⟩ : ∃ w1, (w.alloc (.cells (ptC p) 35)).alloc (.cells (ptC pt0) 35) = w1 := ⟨_, rfl⟩
  have hB1 : Below w.heap.size w w1 := by rw [← hw1]; exact ((Below.refl _ w).alloc (Nat.le_refl _) _).alloc (by simp) _
  have hp1 : PtAt w1 w.heap.size p := by rw [← hw1]; exact (PtAt.laid w p).below ((Below.refl _ _).alloc (Nat.le_refl _) _)
  have hr1 : PtAt w1 (w.heap.size + 1) pt0 := by rw [← hw1]; have := PtAt.laid (w.alloc (.cells (ptC p) 35)) pt0; rwa [World.size_alloc] at this
  have hl1 : Hid _ := hp1.load HP.out
  go_enter Try.func66, Try.ntmps66
  go_wp2_with (first
    | (refine wpList_buildBy rfl 33 _ rfl _ rfl [] (by kernel_rfl) (bytesV zeroC) built_ch0 ?_)
    | (refine wpList_loadG rfl 35 _ rfl _ rfl _ hl1.out ?_))
  refine (lay_any _ zeroC p ch_zero hp).mono ?_
  rintro e w2 ⟨rfl, hb2⟩
  have hp2 := hp1.below hb2
  have hr2 := hr1.below hb2
  have HL : Hid ((layB zeroC p).length = 32) := layB_len _ _
  have hp3 : PtAt (w2.setRow w.heap.size (ptC (trimP p))) w.heap.size (trimP p) := hp2.setRow _
  have hr3 : PtAt (w2.setRow w.heap.size (ptC (trimP p))) (w.heap.size + 1) pt0 := ⟨(setRow_other _ _ _ _ (by omega)).trans hr2.row⟩
  have hB3 : Below w.heap.size w (w2.setRow w.heap.size (ptC (trimP p))) := below_setRow (hB1.trans (hb2.mono hB1.size)) (Nat.le_refl _) _
  obtain ⟨w3, hw3⟩ : ∃ w3, w2.setRow w.heap.size (ptC (trimP p)) = w3 := ⟨_, rfl⟩
  rw [hw3] at hp3 hr3 hB3
  have hl3 : Hid _ := hp3.load HT.out
  go_wp2_with (first
    | (refine wpList_storeM rfl _ _ rfl w.heap.size (layB zeroC p) p rfl rfl HL.out HP.out hp2 ?_; rw [show (⟨p.fresh, p.mask, layB zeroC p⟩ : Pt) = trimP p from rfl, hw3])
    | (refine wpList_loadG rfl 35 _ rfl _ rfl _ hl3.out ?_)
    | (refine wpList_storeP rfl _ _ rfl (w.heap.size + 1) (trimP p) pt0 rfl rfl HT.out HZ.out hr3 ?_))
  refine ret_pt rfl (w.heap.size + 1) (trimP p) HT.out rfl (hr3.setRow _) rfl ⟨rfl, ?_⟩
  exact below_setRow hB3 (by omega) _

/-- What Zero tells. -/
def zeroE (o : Int) : Int := if o < 0 ∨ 32 < o then 1 else 0
def zeroP (o : Int) : Pt := if o < 0 ∨ 32 < o then pt0 else ⟨false, runM o.toNat (32 - o.toNat), zeroC⟩
theorem zeroP_ok (o : Int) : PtOk (zeroP o) := by
  unfold zeroP
  split
  · exact pt0_ok
  · exact ⟨runM_lt (by omega), ch_zero⟩

end Go.Proofs.Ytmifpeocgikbeab
