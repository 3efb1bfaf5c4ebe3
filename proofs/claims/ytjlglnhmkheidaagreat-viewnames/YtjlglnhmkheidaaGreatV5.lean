/- VwNames, VwNames2: in one text. -/
import Derived.Test.YtjlglnhmkheidaaGreatV2
import Derived.Test.YtjlglnhmkheidaaGreatVwMrg
import Derived.Test.YtjlglnhmkheidaaGreatD6
import Derived.Test.YtjlglnhmkheidaaGreatP3
import Derived.Handy
namespace Go.Proofs.YtjlglnhmkheidaaGreat
open Go.RowKit
set_option linter.unusedVariables false
set_option linter.unusedSimpArgs false
set_option maxRecDepth 4000

set_option maxRecDepth 100000

/-- A store behind the interface. -/
def baV (g : Nat) : Value := .iface 35 (.pointer (some ⟨g, 0, none⟩))
/-- Where a view lies. -/
structure VwAt (w : World) (v g p : Nat) : Prop where
  row : w.heap[v]? = some (.cells #[baV g, .pointer (some ⟨p, 0, none⟩)] 99 (0, 0))
theorem VwAt.lt {w : World} {v g p : Nat} (h : VwAt w v g p) : v < w.heap.size := (Array.getElem?_eq_some_iff.1 h.row).1
theorem VwAt.below {w w' : World} {v g p : Nat} (h : VwAt w v g p) (hb : Below w.heap.size w w') : VwAt w' v g p := ⟨(hb.block v h.lt).trans h.row⟩
theorem VwAt.c0 {w : World} {v g p : Nat} (h : VwAt w v g p) : w.cell? ⟨v, 0, none⟩ = some (baV g) := by rw [cell_of_row _ _ _ _ _ (0, 0) h.row]; rfl
theorem VwAt.c1 {w : World} {v g p : Nat} (h : VwAt w v g p) : w.cell? ⟨v, 1, none⟩ = some (.pointer (some ⟨p, 0, none⟩)) := by rw [cell_of_row _ _ _ _ _ (0, 0) h.row]; rfl

theorem vnew_any (w : World) (g p : Nat) : Calls Tryz.prog 12 #[baV g, .pointer (some ⟨p, 0, none⟩)] w fun e w' => e = .returned (.pointer (some ⟨w.heap.size, 0, none⟩)) ∧ VwAt w' w.heap.size g p ∧ Below w.heap.size w w' := by
  have hx : VwAt (w.alloc (.cells #[baV g, .pointer (some ⟨p, 0, none⟩)] 99)) w.heap.size g p := ⟨heap_alloc_new w _⟩
  have hb : Below w.heap.size w (w.alloc (.cells #[baV g, .pointer (some ⟨p, 0, none⟩)] 99)) := (Below.refl _ w).alloc (Nat.le_refl _) _
  unfold baV at hx hb ⊢
  go_enter Tryz.func12, Tryz.ntmps12
  go_wp2
  go_ret
  exact ⟨rfl, hx, hb⟩

set_option maxHeartbeats 2000000 in
theorem entries_any {B : Nat} {w0 w : World} {v g p b : Nat} {s : Dl} (hv : VwAt w v g p) (hd : DlN B w0 w p b s) (hN : s.L.length ≤ 1000) (ino : Int) : Calls Tryz.prog 45 #[.pointer (some ⟨v, 0, none⟩), .int .u32 ino] w fun e w' =>
    ∃ a c, e = .returned (.slice a (kept ino s.L).length c) ∧ RdC w' (.slice a (kept ino s.L).length c) (kept ino s.L) ∧ (kept ino s.L).length ≤ c ∧ c ≤ maxLen ∧ (∀ ad, a = some ad → w.heap.size ≤ ad.block ∧ ad.block < w'.heap.size) ∧ Below w.heap.size w w' := by
  have hb1 : Below w.heap.size w (w.alloc (.cells #[.int .u32 ino] 24)) := (Below.refl _ w).alloc (Nat.le_refl _) _
  have hx1 : (w.alloc (.cells #[.int .u32 ino] 24)).cell? ⟨w.heap.size, 0, none⟩ = some (.int .u32 ino) := by rw [cell_of_row _ _ _ _ _ (0, 0) (heap_alloc_new w _)]; rfl
  have hsz : (w.alloc (.cells #[.int .u32 ino] 24)).heap.size = w.heap.size + 1 := by simp
  obtain ⟨w1, hw1⟩ : ∃ w1, w.alloc (.cells #[.int .u32 ino] 24) = w1 := ⟨_, rfl⟩
  rw [hw1] at hb1 hx1 hsz
  have c1 := (hv.below hb1).c1
  have hsok : DlOk s := by obtain ⟨v, hd, _⟩ := hd.d; exact hd.ok
  have ca := (hd.below hb1).all hN
  go_enter Tryz.func45, Tryz.ntmps45
  go_wp2_with fail
  refine ca.mono ?_
  rintro e w2 ⟨u, rfl, hu, hb2⟩
  clear ca
  have cd := deleteFunc_any (b := w.heap.size) (base := w1.heap.size) (ino := ino) ((hb2.cell (p := ⟨w.heap.size, 0, none⟩) (by show w.heap.size < w1.heap.size; omega)).trans hx1) (by omega) hb2.size s.L hsok.L.ok u hu
  go_wp2_with fail
  refine cd.mono ?_
  rintro e w3 ⟨a, c, rfl, h1, h2, h3, h4, h5⟩
  clear cd
  have H4 : Hid (∀ ad, a = some ad → w.heap.size ≤ ad.block ∧ ad.block < w3.heap.size) := fun ad e => ⟨by have := (h4 ad e).1; omega, (h4 ad e).2⟩
  have HB3 : Hid (Below w.heap.size w w3) := (hb1.trans ((hb2.mono (by omega)).trans (h5.mono (by omega))))
  go_wp2
  go_ret
  exact ⟨a, c, rfl, h1, h2, h3, H4.out, HB3.out⟩

/-- Entries of one directory stand in the order of their names. -/
theorem less_tr {a b c : ByteArray} (h1 : cmpS a b = -1 ∨ cmpS a b = 0) (h2 : Op.bytesLess b.toList c.toList = true) : Op.bytesLess a.toList c.toList = true := by
  have e2 : cmpS b c = -1 := by unfold cmpS; rw [if_pos h2]
  have e3 : cmpS a c = -1 := by
    rw [cmpS_cmpL] at h1 e2 ⊢
    rcases h1 with h1 | h1
    · exact cmpL_trans _ _ _ h1 e2
    · rw [(cmpL_zero _ _).1 h1]; exact e2
  unfold cmpS at e3
  split at e3
  · assumption
  · split at e3 <;> cases e3
theorem kept_sort {s : Dl} (hs : DlOk s) (ino : Int) (k : Nat) (x : ByteArray) : SortN ((kept ino s.L).drop k) x := by
  have hr : ((kept ino s.L).drop k).Pairwise fun c d => cmpS c.pl.name d.pl.name = -1 ∨ cmpS c.pl.name d.pl.name = 0 := by
    have h1 : Rise ((kept ino s.L).drop k) := (hs.L.rise.sublist List.filter_sublist).sublist (List.drop_sublist _ _)
    refine List.Pairwise.imp_of_mem (fun {c d} hc hd h => ?_) h1
    have kc : keepE ino c = true := (List.mem_filter.1 (List.mem_of_mem_drop hc)).2
    have kd : keepE ino d = true := (List.mem_filter.1 (List.mem_of_mem_drop hd)).2
    unfold keepE at kc kd
    simp only [Bool.and_eq_true, decide_eq_true_eq] at kc kd
    rw [cmpP_lex, kc.1, kc.2, kd.1, kd.2, cmpI_ord.same, cmpI_ord.same] at h
    rw [cmpS_cmpL]
    unfold lex at h
    simp only [if_true] at h
    split at h
    · rename_i h0; exact .inr h0
    · exact .inl h
  intro i j c d hij hc hd hl
  unfold lessN at hl ⊢
  by_cases e : i = j
  · subst e
    rw [hc] at hd
    cases hd
    exact hl
  · obtain ⟨hi', ec⟩ := List.getElem?_eq_some_iff.1 hc
    obtain ⟨hj', ed⟩ := List.getElem?_eq_some_iff.1 hd
    have := List.pairwise_iff_getElem.1 hr i j hi' hj' (by omega)
    rw [ec, ed] at this
    exact less_tr this hl

/-- The names of a directory, as a view has them. -/
def namesV (l : List (ByteArray × ByteArray)) (s : Dl) (ino : Int) : List ByteArray := mrgS (nmS ((l.drop (fdN l (spF ino 2))).takeWhile fun p => ltS p.1 (spT ino 2))) (kept ino s.L)

open Go.RowKit Go.Shelf
set_option maxRecDepth 100000

theorem eg_of {g : Nat} (h : ∀ args w, (callFunc g args).run Tryz.prog w = .ok (.enter g args) w) : ∀ args w, (callFunc g args).run Tryz.prog w = .ok (.enter g args) w := h

set_option maxHeartbeats 4000000 in
theorem vnames_any (xv : List Nat) {B : Nat} {w0 w : World} {v g p b : Nat} {s : Dl} {a : Option Addr} {n cap : Nat} {l : List (ByteArray × ByteArray)} (hv : VwAt w v g p) (hd : DlN B w0 w p b s) (hS : SoAt w g a n cap l) (hN : s.L.length ≤ 1000) (h8 : ∀ c ∈ s.L, c.pl.name.size ≤ 8) (ino : Int) (h0 : 0 < ino) (h1 : ino ≤ 4294967295) (hxl : ∀ x ∈ xv, x < w.heap.size) (hxg : g ∉ xv) (hxa : ∀ ad, 0 < n → a = some ad → ad.block ∉ xv) :
    Calls Tryz.prog 17 #[.pointer (some ⟨v, 0, none⟩), .int .u32 ino] w fun e w' =>
      ∃ lb, e = .returned (.func (.func 72) #[] lb) ∧ (∀ m, SeqOwn m Tryz.prog 72 lb nmE (TV xv) w'.heap.size (fun ys => ys = namesV l s ino) (fun pre => pre <+: namesV l s ino) (l.length + s.L.length) w') ∧ Below w.heap.size w w' := by
  have hsp : spE ino 2 = 0 := by unfold spE; rw [show spOk ino 2 = true by unfold spOk; simp; omega]; rfl
  have cs := span_any w ino 2 (by omega) h1 (by decide) (by decide)
  rw [hsp] at cs
  have hsok : DlOk s := by obtain ⟨v, hd, _⟩ := hd.d; exact hd.ok
  go_enter Tryz.func17, Tryz.ntmps17
  go_wp2_with fail
  refine cs.mono ?_
  rintro e w1 ⟨rfl, hb1⟩
  clear cs
  have hbE : Below w1.heap.size w1 (w1.alloc (.cells #[.int .i64 0] 46)) := (Below.refl _ w1).alloc (Nat.le_refl _) _
  have hb2 := thenB hb1 hbE
  have c0 := (hv.below hb2).c0
  unfold baV at c0
  go_wp2_with fail
  obtain ⟨w2, hw2⟩ : ∃ w2, w1.alloc (.cells #[.int .i64 0] 46) = w2 := ⟨_, rfl⟩
  rw [hw2] at hbE hb2
  rw [hw2]
  clear hw2 c0
  refine (sfrom_any (w := w2) (g := g) (spF ino 2)).mono ?_
  rintro e w3 ⟨rfl, hw3⟩
  have hb3 : Below w2.heap.size w2 w3 := by rw [hw3]; exact ((Below.refl _ w2).alloc (Nat.le_refl _) _).alloc (by simp) _
  have hs3 : Hid (w3.heap.size = w2.heap.size + 2) := by show w3.heap.size = w2.heap.size + 2; rw [hw3]; simp
  have x1 : w3.cell? ⟨w2.heap.size, 0, none⟩ = some (.pointer (some ⟨g, 0, none⟩)) := by
    rw [hw3]
    exact ((Boxed.new w2 35 (.pointer (some ⟨g, 0, none⟩))).alloc _).cell
  have x2 : w3.cell? ⟨w2.heap.size + 1, 0, none⟩ = some (.string (spF ino 2)) := by
    rw [hw3]
    have := (Boxed.new (w2.alloc (.cells #[.pointer (some ⟨g, 0, none⟩)] 35)) 9 (.string (spF ino 2))).cell
    rwa [World.size_alloc] at this
  clear hw3
  go_wp2_with fail
  refine (namesOf_any w3 _ _ (spT ino 2)).mono ?_
  rintro e w4 ⟨rfl, hw4⟩
  have hb4 : Below w3.heap.size w3 w4 := by rw [hw4]; exact ((Below.refl _ w3).alloc (Nat.le_refl _) _).alloc (by simp) _
  have hs4 : Hid (w4.heap.size = w3.heap.size + 2) := by show w4.heap.size = w3.heap.size + 2; rw [hw4]; simp
  have y1 : w4.cell? ⟨w3.heap.size, 0, none⟩ = some (.func (.func 194) #[] #[.pointer (some ⟨w2.heap.size, 0, none⟩), .pointer (some ⟨w2.heap.size + 1, 0, none⟩)]) := by
    rw [hw4]
    exact ((Boxed.new w3 113 _).alloc _).cell
  have y2 : w4.cell? ⟨w3.heap.size + 1, 0, none⟩ = some (.string (spT ino 2)) := by
    rw [hw4]
    have := (Boxed.new (w3.alloc (.cells #[.func (.func 194) #[] #[.pointer (some ⟨w2.heap.size, 0, none⟩), .pointer (some ⟨w2.heap.size + 1, 0, none⟩)]] 113)) 9 (.string (spT ino 2))).cell
    rwa [World.size_alloc] at this
  clear hw4
  have hbw4 := thenB (thenB hb2 hb3) hb4
  have ce := entries_any (hv.below hbw4) (hd.below hbw4) hN ino
  go_wp2_with fail
  refine ce.mono ?_
  rintro e w5 ⟨ea, ec, rfl, r1, r2, r3, r4, hb5⟩
  clear ce
  go_wp2_with fail
  refine (merged_any w5 _ _ ea _ ec).mono ?_
  rintro e w6 ⟨rfl, hw6⟩
  have hb6 : Below w5.heap.size w5 w6 := by rw [hw6]; exact ((Below.refl _ w5).alloc (Nat.le_refl _) _).alloc (by simp) _
  have hs6 : Hid (w6.heap.size = w5.heap.size + 2) := by show w6.heap.size = w5.heap.size + 2; rw [hw6]; simp
  have z1 : w6.cell? ⟨w5.heap.size, 0, none⟩ = some (.func (.func 76) #[] #[.pointer (some ⟨w3.heap.size, 0, none⟩), .pointer (some ⟨w3.heap.size + 1, 0, none⟩)]) := by
    rw [hw6]
    exact ((Boxed.new w5 61 _).alloc _).cell
  have z2 : w6.cell? ⟨w5.heap.size + 1, 0, none⟩ = some (.slice ea (kept ino s.L).length ec) := by
    rw [hw6]
    have := (Boxed.new (w5.alloc (.cells #[.func (.func 76) #[] #[.pointer (some ⟨w3.heap.size, 0, none⟩), .pointer (some ⟨w3.heap.size + 1, 0, none⟩)]] 61)) 23 (.slice ea (kept ino s.L).length ec)).cell
    rwa [World.size_alloc] at this
  clear hw6
  have gs3 := hs3.out
  have gs4 := hs4.out
  have gs6 := hs6.out
  have hb36 := thenB (thenB hb4 hb5) hb6
  have hb46 := thenB hb5 hb6
  have hbw6 : Below w.heap.size w w6 := thenB (thenB hbw4 hb5) hb6
  have hS6 := hS.below hbw6
  have k1 := hb36.size
  have k2 := hb46.size
  have hkl : (kept ino s.L).length ≤ s.L.length := kept_len ino s.L
  have q2 := hb1.size
  have q3 := hbE.size
  have q5 := hb5.size
  have q9 : w4.heap.size ≤ w6.heap.size := hb46.size
  have hnx : ∀ k, w.heap.size ≤ k → k ∉ xv := fun k hk hm => by have := hxl k hm; omega
  have hfrom : ∀ m, SeqOwn m Tryz.prog 194 #[.pointer (some ⟨w2.heap.size, 0, none⟩), .pointer (some ⟨w2.heap.size + 1, 0, none⟩)] kvE (TV xv) w6.heap.size (fun ys => ys = l.drop (fdN l (spF ino 2))) (fun pre => ∃ j, pre = (l.drop (fdN l (spF ino 2))).take j) l.length w6 := fun m =>
    seqOwn_of (fun x s e => by cases e) (from_stops xv m w2.heap.size (w2.heap.size + 1) g (spF ino 2) a n cap l w6 (by omega) (by omega) ((hb36.cell (p := ⟨w2.heap.size, 0, none⟩) (by show w2.heap.size < w3.heap.size; omega)).trans x1) ((hb36.cell (p := ⟨w2.heap.size + 1, 0, none⟩) (by show w2.heap.size + 1 < w3.heap.size; omega)).trans x2) hS6 (hnx _ (by omega)) hxg hxa)
  have hnames : ∀ m, SeqOwn m Tryz.prog 76 #[.pointer (some ⟨w3.heap.size, 0, none⟩), .pointer (some ⟨w3.heap.size + 1, 0, none⟩)] nmE (TV xv) w6.heap.size (fun ys => ys = nmS ((l.drop (fdN l (spF ino 2))).takeWhile fun p => ltS p.1 (spT ino 2))) (fun pre => pre <+: nmS ((l.drop (fdN l (spF ino 2))).takeWhile fun p => ltS p.1 (spT ino 2))) l.length w6 := fun m =>
    names_own xv m _ _ (enters_of Tryz.func194 (by kernel_rfl) rfl) w3.heap.size (w3.heap.size + 1) (spT ino 2) _ l.length w6.heap.size w6 (by omega) (by omega) (hnx _ (by omega)) (Nat.le_refl _) ((hb46.cell (p := ⟨w3.heap.size, 0, none⟩) (by show w3.heap.size < w4.heap.size; omega)).trans y1) ((hb46.cell (p := ⟨w3.heap.size + 1, 0, none⟩) (by show w3.heap.size + 1 < w4.heap.size; omega)).trans y2) hfrom l.length (Nat.le_refl _)
  have hlen : (nmS ((l.drop (fdN l (spF ino 2))).takeWhile fun p => ltS p.1 (spT ino 2))).length ≤ l.length := by
    have h1 := nmS_len ((l.drop (fdN l (spF ino 2))).takeWhile fun p => ltS p.1 (spT ino 2))
    have h2 := (List.takeWhile_sublist (fun p : ByteArray × ByteArray => ltS p.1 (spT ino 2)) (l := l.drop (fdN l (spF ino 2)))).length_le
    rw [List.length_drop] at h2
    omega
  have HM : Hid (∀ m, SeqOwn m Tryz.prog 72 #[.pointer (some ⟨w5.heap.size + 1, 0, none⟩), .pointer (some ⟨w5.heap.size, 0, none⟩)] nmE (TV xv) w6.heap.size (fun ys => ys = namesV l s ino) (fun pre => pre <+: namesV l s ino) (l.length + s.L.length) w6) := fun m =>
    merged_own xv m _ _ (enters_of Tryz.func76 (by kernel_rfl) rfl) (w5.heap.size + 1) w5.heap.size (kept ino s.L) (fun c hc => hsok.L.ok c (List.mem_filter.1 hc).1) (fun c hc => h8 c (List.mem_filter.1 hc).1) (kept_sort hsok ino) ea _ ec _ l.length w6.heap.size w6 (by omega) (by omega) (Nat.le_refl _) z2 z1 (r1.below hb6) (fun ad e => ⟨Nat.lt_of_lt_of_le (r4 ad e).2 hb6.size, hnx _ (by have := (r4 ad e).1; have := hbw4.size; omega)⟩) r2 r3 (by omega) hnames hlen (l.length + s.L.length) (by omega)
  clear hfrom hnames gs3 gs4 gs6 q2 q3 q5 q9
  go_wp2
  go_ret
  exact ⟨_, rfl, HM.out, hbw6⟩

end Go.Proofs.YtjlglnhmkheidaaGreat
