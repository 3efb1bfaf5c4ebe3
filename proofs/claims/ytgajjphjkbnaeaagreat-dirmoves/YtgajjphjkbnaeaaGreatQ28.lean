/- VwNames: in one text. -/
import Derived.Test.YtgajjphjkbnaeaaGreatQ23
import Derived.Test.YtgajjphjkbnaeaaGreatQ27
import Derived.Test.YtgajjphjkbnaeaaGreatQ22
import Derived.Test.YtgajjphjkbnaeaaGreatQ11
import Derived.Handy
namespace Go.Proofs.YtgajjphjkbnaeaaGreat
open Go.RowKit
set_option linter.unusedVariables false
set_option maxHeartbeats 32000000
set_option maxRecDepth 100000
set_option linter.unusedSimpArgs false
def baV (g : Nat) : Value:=.iface 37 (.pointer (some ⟨g,0,none⟩))
structure VwAt (w : World) (v g p : Nat) : Prop where
 row : w.heap[v]? = some (.cells #[baV g,.pointer (some ⟨p,0,none⟩)] 150 (0,0))
theorem VwAt.lt {w : World} {v g p : Nat} (h : VwAt w v g p) : v < w.heap.size:=(Array.getElem?_eq_some_iff.1 h.row).1
theorem VwAt.below {w w' : World} {v g p : Nat} (h : VwAt w v g p) (hb : Below w.heap.size w w') : VwAt w' v g p:=⟨(hb.block v h.lt).trans h.row⟩
theorem VwAt.c0 {w : World} {v g p : Nat} (h : VwAt w v g p) : w.cell? ⟨v,0,none⟩ = some (baV g):=by rw [cell_of_row _ _ _ _ _ (0,0) h.row]; rfl
theorem VwAt.c1 {w : World} {v g p : Nat} (h : VwAt w v g p) : w.cell? ⟨v,1,none⟩ = some (.pointer (some ⟨p,0,none⟩)):=by rw [cell_of_row _ _ _ _ _ (0,0) h.row]; rfl
theorem vnew_any (w : World) (g p : Nat) : Calls Tryz.prog 40 #[baV g,.pointer (some ⟨p,0,none⟩)] w fun e w' => e = .returned (.pointer (some ⟨w.heap.size,0,none⟩)) ∧ VwAt w' w.heap.size g p ∧ Below w.heap.size w w':=by
 have hx : VwAt (w.alloc (.cells #[baV g,.pointer (some ⟨p,0,none⟩)] 150)) w.heap.size g p:=⟨heap_alloc_new w _⟩
 have hb : Below w.heap.size w (w.alloc (.cells #[baV g,.pointer (some ⟨p,0,none⟩)] 150)):=(Below.refl _ w).alloc (Nat.le_refl _) _
 unfold baV at hx hb ⊢
 go_enter Tryz.func40,Tryz.ntmps40
 go_wp2
 go_ret
 exact ⟨rfl,hx,hb⟩
theorem entries_any {B : Nat} {w0 w : World} {v g p b : Nat} {s : Dl} (hv : VwAt w v g p) (hd : DlN B w0 w p b s) (hN : s.L.length ≤ 1000) (ino : Int) : Calls Tryz.prog 90 #[.pointer (some ⟨v,0,none⟩),.int .u32 ino] w fun e w' =>
  ∃ a c,e = .returned (.slice a (kept ino s.L).length c) ∧ RdC w' (.slice a (kept ino s.L).length c) (kept ino s.L) ∧ (kept ino s.L).length ≤ c ∧ c ≤ maxLen ∧ (∀ ad,a = some ad → w.heap.size ≤ ad.block ∧ ad.block < w'.heap.size) ∧ Below w.heap.size w w':=by
 have hb1 : Below w.heap.size w (w.alloc (.cells #[.int .u32 ino] 30)):=(Below.refl _ w).alloc (Nat.le_refl _) _
 have hx1 : (w.alloc (.cells #[.int .u32 ino] 30)).cell? ⟨w.heap.size,0,none⟩ = some (.int .u32 ino):=by rw [cell_of_row _ _ _ _ _ (0,0) (heap_alloc_new w _)]; rfl
 have hsz : (w.alloc (.cells #[.int .u32 ino] 30)).heap.size = w.heap.size + 1:=by simp
 obtain ⟨w1,hw1⟩ : ∃ w1,w.alloc (.cells #[.int .u32 ino] 30) = w1:=⟨_,rfl⟩
 rw [hw1] at hb1 hx1 hsz
 have c1:=(hv.below hb1).c1
 have hsok : DlOk s:=by obtain ⟨v,hd,_⟩:=hd.d; exact hd.ok
 have ca:=(hd.below hb1).all hN
 go_enter Tryz.func90,Tryz.ntmps90
 go_wp2_with fail
 refine ca.mono ?_
 rintro e w2 ⟨u,rfl,hu,hb2⟩
 clear ca
 have cd:=deleteFunc_any (b:=w.heap.size) (base:=w1.heap.size) (ino:=ino) ((hb2.cell (p:=⟨w.heap.size,0,none⟩) (by show w.heap.size < w1.heap.size; omega)).trans hx1) (by omega) hb2.size s.L hsok.L.ok u hu
 go_wp2_with fail
 refine cd.mono ?_
 rintro e w3 ⟨a,c,rfl,h1,h2,h3,h4,h5⟩
 clear cd
 have H4 : Hid (∀ ad,a = some ad → w.heap.size ≤ ad.block ∧ ad.block < w3.heap.size):=fun ad e => ⟨by have:=(h4 ad e).1; omega,(h4 ad e).2⟩
 have HB3 : Hid (Below w.heap.size w w3):=(hb1.trans ((hb2.mono (by omega)).trans (h5.mono (by omega))))
 go_wp2
 go_ret
 exact ⟨a,c,rfl,h1,h2,h3,H4.out,HB3.out⟩
theorem less_tr {a b c : ByteArray} (h1 : cmpS a b = -1 ∨ cmpS a b = 0) (h2 : Op.bytesLess b.toList c.toList = true) : Op.bytesLess a.toList c.toList = true:=by
 have e2 : cmpS b c = -1:=by unfold cmpS; rw [if_pos h2]
 have e3 : cmpS a c = -1:=by
  rw [cmpS_cmpL] at h1 e2 ⊢
  rcases h1 with h1 | h1
  ·exact cmpL_trans _ _ _ h1 e2
  ·rw [(cmpL_zero _ _).1 h1]; exact e2
 unfold cmpS at e3
 split at e3
 ·assumption
 ·split at e3 <;> cases e3
theorem kept_sort {s : Dl} (hs : DlOk s) (ino : Int) (k : Nat) (x : ByteArray) : SortN ((kept ino s.L).drop k) x:=by
 have hr : ((kept ino s.L).drop k).Pairwise fun c d => cmpS c.pl.name d.pl.name = -1 ∨ cmpS c.pl.name d.pl.name = 0:=by
  have h1 : Rise ((kept ino s.L).drop k):=(hs.L.rise.sublist List.filter_sublist).sublist (List.drop_sublist _ _)
  refine List.Pairwise.imp_of_mem (fun {c d} hc hd h => ?_) h1
  have kc : keepE ino c = true:=(List.mem_filter.1 (List.mem_of_mem_drop hc)).2
  have kd : keepE ino d = true:=(List.mem_filter.1 (List.mem_of_mem_drop hd)).2
  unfold keepE at kc kd
  simp only [Bool.and_eq_true,decide_eq_true_eq] at kc kd
  rw [cmpP_lex,kc.1,kc.2,kd.1,kd.2,cmpI_ord.same,cmpI_ord.same] at h
  rw [cmpS_cmpL]
  unfold lex at h
  simp only [if_true] at h
  split at h
  ·rename_i h0; exact .inr h0
  ·exact .inl h
 intro i j c d hij hc hd hl
 unfold lessN at hl ⊢
 by_cases e : i = j
 ·subst e
  rw [hc] at hd
  cases hd
  exact hl
 ·obtain ⟨hi',ec⟩:=List.getElem?_eq_some_iff.1 hc
  obtain ⟨hj',ed⟩:=List.getElem?_eq_some_iff.1 hd
  have:=List.pairwise_iff_getElem.1 hr i j hi' hj' (by omega)
  rw [ec,ed] at this
  exact less_tr this hl
def namesV (l : List (ByteArray × ByteArray)) (s : Dl) (ino : Int) : List ByteArray:=mrgS (nmS ((l.drop (fdN l (spF ino 2))).takeWhile fun p => ltS p.1 (spT ino 2))) (kept ino s.L)
end Go.Proofs.YtgajjphjkbnaeaaGreat
