/- DgAllM, RCompare, DgAll, DgPut: in one text. -/
import Derived.Test.YtjlglnhmkheidaaGreatD3
import Derived.Test.YtjlglnhmkheidaaGreatP2
import Derived.Test.YtjlglnhmkheidaaGreatDgGet
import Derived.Test.YtjlglnhmkheidaaGreatD5
import Derived.Test.YtjlglnhmkheidaaGreatDlAll
import Derived.Deep.AppendSrc
namespace Go.Proofs.YtjlglnhmkheidaaGreat
open Go.RowKit
set_option linter.unusedVariables false
set_option linter.unusedSimpArgs false
set_option maxRecDepth 4000

theorem foldX_any (xs : List Cg) (q : Pl) : (foldX xs q).isSome = xs.any fun y => plEq y.pl q := by
  suffices h : ∀ (xs : List Cg) (a : Option Cg), (xs.foldl (stepX q) a).isSome = (a.isSome || xs.any fun y => plEq y.pl q) by
    have := h xs none
    simpa [foldX] using this
  intro xs
  induction xs with
  | nil => intro a; simp
  | cons x xs ih =>
    intro a
    rw [List.foldl_cons, ih, List.any_cons]
    unfold stepX
    cases hx : plEq x.pl q <;> simp

/-- Those of a delta whose places the first k changes name. -/
def upX (s : Dl) (xs : List Cg) (k : Nat) : List Cg := s.L.filter fun c => (xs.take k).any fun y => plEq y.pl c.pl
theorem upX_zero (s : Dl) (xs : List Cg) : upX s xs 0 = [] := by simp [upX]
theorem upX_mem {s : Dl} {xs : List Cg} {k : Nat} {c : Cg} : c ∈ upX s xs k ↔ c ∈ s.L ∧ ∃ y ∈ xs.take k, y.pl = c.pl := by
  unfold upX
  rw [List.mem_filter, List.any_eq_true]
  constructor
  · rintro ⟨h, y, hy, e⟩; exact ⟨h, y, hy, plEq_iff.1 e⟩
  · rintro ⟨h, y, hy, e⟩; exact ⟨h, y, hy, plEq_iff.2 e⟩
theorem upX_ok {s : Dl} (h : DlOk s) (xs : List Cg) (k : Nat) : LOk (upX s xs k) := ⟨h.L.rise.sublist List.filter_sublist, fun c hc => h.L.ok c (upX_mem.1 hc).1⟩
theorem upX_len {s : Dl} (xs : List Cg) (k : Nat) : (upX s xs k).length ≤ s.L.length := List.length_filter_le _ _
theorem upX_all {s : Dl} {xs : List Cg} (h : Rel s xs) (hs : DlOk s) : upX s xs xs.length = s.L := by
  unfold upX
  rw [List.take_length, List.filter_eq_self]
  intro c hc
  rw [← foldX_any, ← h.now, (getL_some hs.L.rise).2 ⟨hc, rfl⟩]
  rfl
/-- What stands at the place of a change that was put. -/
theorem Rel.there {s : Dl} {xs : List Cg} (h : Rel s xs) (hs : DlOk s) {c : Cg} (hc : c ∈ xs) : ∃ x, foldX xs c.pl = some x ∧ x ∈ s.L ∧ x.pl = c.pl ∧ CgOk x := by
  have h1 := foldX_any xs c.pl
  rw [show (xs.any fun y => plEq y.pl c.pl) = true from List.any_eq_true.2 ⟨c, hc, plEq_iff.2 rfl⟩] at h1
  obtain ⟨x, hx⟩ := Option.isSome_iff_exists.1 h1
  have h2 := h.now c.pl
  rw [hx] at h2
  obtain ⟨h3, h4⟩ := (getL_some hs.L.rise).1 h2
  exact ⟨x, hx, h3, h4, hs.L.ok x h3⟩
theorem take_mem_succ {xs : List Cg} {k : Nat} (hk : k < xs.length) {y : Cg} : y ∈ xs.take (k + 1) ↔ y ∈ xs.take k ∨ y = xs.getD k cg0 := by
  rw [List.take_add_one, List.mem_append, List.getD_eq_getElem?_getD, List.getElem?_eq_getElem hk]
  simp
theorem upX_same {s : Dl} {xs : List Cg} (hs : DlOk s) {k : Nat} (hk : k < xs.length) {x : Cg} (hx : x ∈ upX s xs k) (e : x.pl = (xs.getD k cg0).pl) : upX s xs (k + 1) = upX s xs k := by
  refine rise_ext (upX_ok hs xs (k + 1)).rise (upX_ok hs xs k).rise fun c => ?_
  rw [upX_mem, upX_mem]
  constructor
  · rintro ⟨h1, y, hy, h2⟩
    rcases (take_mem_succ hk).1 hy with hy | rfl
    · exact ⟨h1, y, hy, h2⟩
    · obtain ⟨hx1, z, hz, h3⟩ := upX_mem.1 hx
      have := rise_one hs.L.rise hx1 h1 (e.trans h2)
      subst this
      exact ⟨h1, z, hz, h3⟩
  · rintro ⟨h1, y, hy, h2⟩
    exact ⟨h1, y, (take_mem_succ hk).2 (.inl hy), h2⟩
theorem upX_more {s : Dl} {xs : List Cg} (hs : DlOk s) {k : Nat} (hk : k < xs.length) {x : Cg} (hx : x ∈ s.L) (e : x.pl = (xs.getD k cg0).pl) (hn : ∀ y ∈ upX s xs k, y.pl ≠ x.pl) : upX s xs (k + 1) = setL (upX s xs k) x := by
  refine rise_ext (upX_ok hs xs (k + 1)).rise (setL_ok (upX_ok hs xs k) (hs.L.ok x hx)).rise fun c => ?_
  rw [setL_mem, upX_mem]
  constructor
  · rintro ⟨h1, y, hy, h2⟩
    rcases (take_mem_succ hk).1 hy with hy | rfl
    · have hc : c ∈ upX s xs k := upX_mem.2 ⟨h1, y, hy, h2⟩
      exact .inr ⟨hc, hn c hc⟩
    · exact .inl (rise_one hs.L.rise h1 hx (h2.symm.trans e.symm))
  · rintro (rfl | ⟨hc, _⟩)
    · exact ⟨hx, _, (take_mem_succ hk).2 (.inr rfl), e.symm⟩
    · obtain ⟨h1, y, hy, h2⟩ := upX_mem.1 hc
      exact ⟨h1, y, (take_mem_succ hk).2 (.inl hy), h2⟩

/-- Where a place is put into a row that rises. -/
theorem ins_at {x : Cg} : ∀ {A : List Cg}, Rise A → (∀ y ∈ A, y.pl ≠ x.pl) → ∀ i, i ≤ A.length → (∀ j, j < i → cmpP (A.getD j cg0).pl x.pl = -1) → (i < A.length → cmpP (A.getD i cg0).pl x.pl ≠ -1) → A.take i ++ x :: A.drop i = insC x A
  | [], _, _, i, hi, _, _ => by simp [insC]
  | y :: r, hA, hne, 0, _, _, hhi => by
    have h1 := hhi (by simp)
    simp only [List.getD_cons_zero] at h1
    have h2 := cmp_other h1 (hne y (by simp))
    simp [insC, h2]
  | y :: r, hA, hne, i + 1, hi, hlo, hhi => by
    obtain ⟨hA1, hA2⟩ := List.pairwise_cons.1 hA
    have h0 := hlo 0 (by omega)
    simp only [List.getD_cons_zero] at h0
    have hno : cmpP x.pl y.pl ≠ -1 := fun h => cmp_irr _ (cmp_tr h0 h)
    have ih := ins_at (x := x) hA2 (fun z hz => hne z (by simp [hz])) i (by simpa using hi) (fun j hj => by have := hlo (j + 1) (by omega); simpa using this) (fun h => by have := hhi (by simpa using h); simpa using this)
    simp only [List.take_succ_cons, List.drop_succ_cons, List.cons_append, insC, if_neg hno, ih]
theorem set_at {x : Cg} {A : List Cg} (hA : Rise A) (hne : ∀ y ∈ A, y.pl ≠ x.pl) {i : Nat} (hi : i ≤ A.length) (hlo : ∀ j, j < i → cmpP (A.getD j cg0).pl x.pl = -1) (hhi : i < A.length → cmpP (A.getD i cg0).pl x.pl ≠ -1) : A.take i ++ x :: A.drop i = setL A x := by
  unfold setL
  rw [show delL A x.pl = A from by unfold delL; rw [List.filter_eq_self]; intro y hy; have := hne y hy; cases h : plEq y.pl x.pl; rfl; exact absurd (plEq_iff.1 h) this]
  exact ins_at hA hne i hi hlo hhi
theorem none_at {q : Pl} {A : List Cg} (hA : Rise A) {i : Nat} (hi : i ≤ A.length) (hlo : ∀ j, j < i → cmpP (A.getD j cg0).pl q = -1) (hhi : i < A.length → cmpP (A.getD i cg0).pl q ≠ -1 ∧ (A.getD i cg0).pl ≠ q) : ∀ y ∈ A, y.pl ≠ q := by
  intro y hy
  obtain ⟨j, hj, rfl⟩ := List.mem_iff_getElem.1 hy
  have ej : A[j] = A.getD j cg0 := by rw [List.getD_eq_getElem?_getD, List.getElem?_eq_getElem hj]; rfl
  rw [ej]
  by_cases h1 : j < i
  · exact cmp_ne (hlo j h1)
  · obtain ⟨h2, h3⟩ := hhi (by omega)
    by_cases h4 : j = i
    · rw [h4]; exact h3
    · have h5 : cmpP q (A.getD i cg0).pl = -1 := cmp_other h2 h3
      have h6 : cmpP (A.getD i cg0).pl (A.getD j cg0).pl = -1 := by
        have := List.pairwise_iff_getElem.1 hA i j (by omega) hj (by omega)
        rw [List.getD_eq_getElem?_getD, List.getD_eq_getElem?_getD, List.getElem?_eq_getElem hj, List.getElem?_eq_getElem (by omega : i < A.length)]
        exact this
      exact (cmp_ne (cmp_tr h5 h6)).symm

theorem toList_inj {s t : ByteArray} (h : s.toList = t.toList) : s = t := by
  rw [ByteArray.toList_eq, ByteArray.toList_eq] at h
  obtain ⟨d⟩ := s
  obtain ⟨d'⟩ := t
  exact congrArg ByteArray.mk (Array.ext' h)

set_option maxHeartbeats 2000000 in
theorem refCompare_any (w : World) (a b : Pl) : Calls Tryz.prog 39 #[plV a, plV b] w fun e w' => e = .returned (.int .i64 (cmpP a b)) ∧ Below w.heap.size w w' := by
  obtain ⟨i, k, s, c⟩ := a
  obtain ⟨i', k', s', c'⟩ := b
  unfold plV cmpP
  dsimp only
  by_cases la0 : i < i'
  · rw [show orL _ = -1 from by simp [orL, cmpI, cmpS, la0]]
    go_enter Tryz.func39, Tryz.ntmps39
    go_wp2
    go_ret
    exact ⟨rfl, ((Below.refl _ _).alloc (Nat.le_refl _) _).alloc (by simp) _⟩
  · by_cases lb0 : i' < i
    · rw [show orL _ = 1 from by simp [orL, cmpI, cmpS, la0, lb0]]
      go_enter Tryz.func39, Tryz.ntmps39
      go_wp2
      go_ret
      exact ⟨rfl, ((Below.refl _ _).alloc (Nat.le_refl _) _).alloc (by simp) _⟩
    · obtain rfl : i = i' := by omega
      clear la0 lb0
      by_cases la1 : k < k'
      · rw [show orL _ = -1 from by simp [orL, cmpI, cmpS, la1]]
        go_enter Tryz.func39, Tryz.ntmps39
        go_wp2
        go_ret
        exact ⟨rfl, ((Below.refl _ _).alloc (Nat.le_refl _) _).alloc (by simp) _⟩
      · by_cases lb1 : k' < k
        · rw [show orL _ = 1 from by simp [orL, cmpI, cmpS, la1, lb1]]
          go_enter Tryz.func39, Tryz.ntmps39
          go_wp2
          go_ret
          exact ⟨rfl, ((Below.refl _ _).alloc (Nat.le_refl _) _).alloc (by simp) _⟩
        · obtain rfl : k = k' := by omega
          clear la1 lb1
          cases la2 : Op.bytesLess s.toList s'.toList
          · cases lb2 : (s.toList == s'.toList)
            · have lb2' : ¬ s.toList = s'.toList := by simpa using lb2
              rw [show orL _ = 1 from by simp [orL, cmpI, cmpS, la2, lb2']]
              go_enter Tryz.func39, Tryz.ntmps39
              go_wp2
              go_ret
              exact ⟨rfl, ((Below.refl _ _).alloc (Nat.le_refl _) _).alloc (by simp) _⟩
            · obtain rfl : s = s' := toList_inj (by simpa using lb2)
              clear lb2
              by_cases la3 : c < c'
              · rw [show orL _ = -1 from by simp [orL, cmpI, cmpS, la3, la2]]
                go_enter Tryz.func39, Tryz.ntmps39
                go_wp2
                go_ret
                exact ⟨rfl, ((Below.refl _ _).alloc (Nat.le_refl _) _).alloc (by simp) _⟩
              · by_cases lb3 : c' < c
                · rw [show orL _ = 1 from by simp [orL, cmpI, cmpS, la3, lb3, la2]]
                  go_enter Tryz.func39, Tryz.ntmps39
                  go_wp2
                  go_ret
                  exact ⟨rfl, ((Below.refl _ _).alloc (Nat.le_refl _) _).alloc (by simp) _⟩
                · obtain rfl : c = c' := by omega
                  clear la3 lb3
                  rw [show orL _ = 0 from by simp [orL, cmpI, cmpS, la2]]
                  go_enter Tryz.func39, Tryz.ntmps39
                  go_wp2
                  go_ret
                  exact ⟨rfl, ((Below.refl _ _).alloc (Nat.le_refl _) _).alloc (by simp) _⟩
          · rw [show orL _ = -1 from by simp [orL, cmpI, cmpS, la2]]
            go_enter Tryz.func39, Tryz.ntmps39
            go_wp2
            go_ret
            exact ⟨rfl, ((Below.refl _ _).alloc (Nat.le_refl _) _).alloc (by simp) _⟩

set_option maxRecDepth 100000

/-- What the search for a place reads. -/
structure AlS (w W : World) (g gc : Nat) (A : List Cg) (y : Cg) : Prop where
  row : RowG W g A
  c : CgAt W gc y
  bel : Below w.heap.size w W
theorem AlS.below {w W W' : World} {g gc : Nat} {A : List Cg} {y : Cg} (h : AlS w W g gc A y) (hb : Below W.heap.size W W') : AlS w W' g gc A y := ⟨h.row.below hb, h.c.below hb, h.bel.trans (hb.mono h.bel.size)⟩
theorem AlS.drew {w W : World} {g gc : Nat} {A : List Cg} {y : Cg} (h : AlS w W g gc A y) : AlS w W.drew g gc A y := h.below (Below.refl _ W).drew

theorem xget_at {w : World} {p : Nat} {v : Value} {M : Int} {xs : List Cg} (h : XdAt w p v M xs) (q : Pl) (hq : PlOk q) (x : Cg) (hx : foldX xs q = some x) : Calls Tryz.prog 24 #[.pointer (some ⟨p, 0, none⟩), plV q] w fun e w' =>
    e = .returned (.tuple #[.agg (cgC x), .bool true]) ∧ Below w.heap.size w w' := by
  have := xget_any h q hq
  rw [hx] at this
  exact this

set_option maxHeartbeats 8000000 in
theorem xall_any {w : World} {p : Nat} {v : Value} {M : Int} {xs : List Cg} {s : Dl} (h : XdAt w p v M xs) (hr : Rel s xs) (hs : DlOk s) (hm : xs.length ≤ 1000) (hmL : s.L.length ≤ 1000) : Calls Tryz.prog 15 #[.pointer (some ⟨p, 0, none⟩)] w fun e w' =>
    ∃ u, e = .returned u ∧ w'.ownsRow w.heap.size 56 46 u s.L.length (s.L.flatMap cgL) ∧ Below w.heap.size w w' := by
  have hz := zeroCg
  have len0 : cg0.pt.bytes.length = 32 := cg0_ok.pt.ch.1
  have hok := h.ok
  obtain ⟨a, c, rfl, hlc, hcm, hrow⟩ := xrow_of hok h.at_
  have c0 := h.c0
  have HR : Hid (0 < xs.length → ∃ g, a = some ⟨g, 0, none⟩ ∧ RowG w g xs) := hrow
  have HX : Hid (XdAt w p (.slice a xs.length c) M xs) := h
  obtain ⟨N, hN⟩ : ∃ N, xs.length = N := ⟨_, rfl⟩
  have HN : Hid (xs.length = N) := hN
  rw [hN] at hlc HR c0 hm
  unfold maxLen at hcm
  clear h hrow hN
  go_enter Tryz.func15, Tryz.ntmps15
  go_wp2_with fail
  go_loopw [3, 5, 6, 7, 8, 9, 15] (fun u _ _ _ _ _ t wr => ∃ (k : Nat), k ≤ N ∧ t = .int .i64 k ∧ Hid (wr.ownsRow w.heap.size 56 46 u (upX s xs k).length ((upX s xs k).flatMap cgL)) ∧ Hid (Below w.heap.size w wr)) (fun _ _ _ _ _ _ t _ => N - (intOf t).toNat)
  case atStart => exact ⟨0, Nat.zero_le _, rfl, by rw [upX_zero]; exact World.ownsRow_nil _ _ _ _, Below.refl _ _⟩
  case round =>
    obtain ⟨k, hk, rfl, HO, HB⟩ := hrel
    obtain ⟨wo, rfl⟩ : ∃ wo, wo = wr := ⟨wr, rfl⟩
    by_cases hlt : k < N
    · have hltI : (k : Int) < N := by omega
      obtain ⟨g, rfl, hr0⟩ := HR.out (by omega)
      have hrw := hr0.below (HB.out.mono (Nat.le_refl _))
      have hkx : k < xs.length := by rw [HN.out]; exact hlt
      have hin : xs.getD k cg0 ∈ xs := by rw [List.getD_eq_getElem?_getD, List.getElem?_eq_getElem hkx]; exact List.getElem_mem _
      have hck := hok _ hin
      obtain ⟨x, hfx, hxs, hxp, hxok⟩ := hr.there hs hin
      have hld : Hid _ := hrw.load hkx hck
      have hsame : Hid (∀ z ∈ upX s xs k, z.pl = (xs.getD k cg0).pl → upX s xs (k + 1) = upX s xs k) := fun z hz e => upX_same hs hkx hz e
      have hmore : Hid ((∀ z ∈ upX s xs k, z.pl ≠ x.pl) → upX s xs (k + 1) = setL (upX s xs k) x) := fun hn => upX_more hs hkx hxs hxp hn
      have hAok := upX_ok hs xs k
      have hAl := upX_len (s := s) xs k
      obtain ⟨A, hA⟩ : ∃ A, upX s xs k = A := ⟨_, rfl⟩
      obtain ⟨A2, hA2⟩ : ∃ A2, upX s xs (k + 1) = A2 := ⟨_, rfl⟩
      rw [hA] at HO hsame hmore hAok hAl
      rw [hA2] at hsame hmore
      have HA2 : Hid (upX s xs (k + 1) = A2) := hA2
      obtain ⟨y, hy⟩ : ∃ y, xs.getD k cg0 = y := ⟨_, rfl⟩
      rw [hy] at hck hld hfx hxp hsame
      have HY : Hid (y.pt.bytes.length = 32) := hck.pt.ch.1
      have HXL : Hid (x.pt.bytes.length = 32) := hxok.pt.ch.1
      clear hy hin hrw hr0 hA hA2 hkx
      obtain ⟨ua, uc, rfl, hun⟩ := row_of hAok.ok HO.out
      have HRA : Hid (0 < A.length → ∃ g, ua = some ⟨g, 0, none⟩ ∧ RowG wo g A) := fun h => by obtain ⟨g, h1, h2, _⟩ := hun h; exact ⟨g, h1, h2⟩
      have hcap : A.length ≤ uc ∧ uc ≤ maxLen := by
        obtain ⟨_, ⟨h2, h3⟩ | ⟨g, cap, cur, e1, _, _, h5, h6, _⟩⟩ := HO.out
        · simp only [Value.slice.injEq, true_and] at h2; unfold maxLen; omega
        · simp only [Value.slice.injEq, true_and] at e1; obtain ⟨_, rfl⟩ := e1; exact ⟨h5, h6⟩
      obtain ⟨hcap1, hcap2⟩ := hcap
      unfold maxLen at hcap2
      obtain ⟨n, hn⟩ : ∃ n, A.length = n := ⟨_, rfl⟩
      have HNA : Hid (A.length = n) := hn
      rw [hn] at hcap1 hAl HRA
      rw [hn]
      clear hun hn
      have hn3 := CgAt.laid wo cg0
      have hb3 := alloc_row (A := wo) (.cells (cgC cg0) 56) (cgC y)
      have hy3 := hn3.setRow y
      obtain ⟨w3, hw3⟩ : ∃ w3, (wo.alloc (.cells (cgC cg0) 56)).setRow wo.heap.size (cgC y) = w3 := ⟨_, rfl⟩
      rw [hw3] at hb3 hy3
      go_wp2_with (first
        | (refine wpList_loadG rfl 56 _ rfl _ rfl _ hld.out ?_)
        | (refine wpList_storeG rfl _ _ rfl wo.heap.size y cg0 rfl rfl HY.out len0 hn3 ?_; rw [hw3]))
      go_loopw [6] (fun t wq => ∃ (i : Nat), i ≤ n ∧ t = .int .i64 i ∧ Hid (∀ j, j < i → cmpP (A.getD j cg0).pl y.pl = -1) ∧ Hid (Below w3.heap.size w3 wq)) (fun t _ => n - (intOf t).toNat)
      case atStart => exact ⟨0, Nat.zero_le _, rfl, fun j hj => absurd hj (Nat.not_lt_zero _), Below.refl _ _⟩
      case round =>
        obtain ⟨i, hi, rfl, HLO, HBQ⟩ := hrel
        have hyq := hy3.below HBQ.out
        have hbo0 : Below wo.heap.size wo wr := thenB hb3 HBQ.out
        by_cases hil : i < n
        · have hilI : (i : Int) < n := by omega
          obtain ⟨ga, rfl, hra0⟩ := HRA.out (by omega)
          have hiA : i < A.length := by rw [HNA.out]; exact hil
          have hAi : CgOk (A.getD i cg0) := hAok.ok _ (getD_mem hiA)
          have hAm : A.getD i cg0 ∈ A := getD_mem hiA
          have hS : AlS w wr ga wo.heap.size A y := ⟨(hra0.below hb3).below HBQ.out, hyq, thenB HB.out hbo0⟩
          have hldz : ∀ W, RowG W ga A → (Instr.loadAt 26 (.pointer (some ⟨ga, i * 46, none⟩))).run Tryz.prog W = .ok (plV (A.getD i cg0).pl) W := fun W h => h.loadP hiA
          obtain ⟨z, hze⟩ : ∃ z, A.getD i cg0 = z := ⟨_, rfl⟩
          have HZE : Hid (A.getD i cg0 = z) := hze
          rw [hze] at hAi hAm hldz
          clear hze hra0 hiA
          by_cases hlz : cmpP z.pl y.pl = -1
          · have cr := fun W => refCompare_any W z.pl y.pl
            rw [hlz] at cr
            go_wp2_with fail
            refine wp_region_noPanic ?_
            refine wp_region_held_drew (S := fun W => AlS w W ga wo.heap.size A y ∧ Below w3.heap.size w3 W) (by kernel_rfl) ⟨hS.drew, HBQ.out.drew⟩ (fun hHeld => ?_)
            refine wpAnyH_take (i := 0) (v := .int .i64 i) rfl (by kernel_rfl) (by kernel_rfl) (by kernel_rfl) (fun _ _ _ h => h) (Or.inl ⟨by rfl, fun W hSw => by (try dsimp only at hSw); go_simp⟩) (by assumption) ?_
            try simp only [List.getElem_toArray, List.getElem_cons_zero, List.getElem_cons_succ, Act.put, List.setIfInBounds_toArray, List.set_cons_zero, List.set_cons_succ]
            refine wpAnyH_take (i := 1) (v := .slice (some ⟨ga, 0, none⟩) n uc) rfl (by kernel_rfl) (by kernel_rfl) (by kernel_rfl) (fun _ _ _ h => h) (Or.inl ⟨by rfl, fun W hSw => by (try dsimp only at hSw); go_simp⟩) (by assumption) ?_
            try simp only [List.getElem_toArray, List.getElem_cons_zero, List.getElem_cons_succ, Act.put, List.setIfInBounds_toArray, List.set_cons_zero, List.set_cons_succ]
            refine wpAnyH_take (i := 2) (v := .int .i64 n) rfl (by kernel_rfl) (by kernel_rfl) (by kernel_rfl) (fun _ _ _ h => h) (Or.inl ⟨by rfl, fun W hSw => by (try dsimp only at hSw); go_simp⟩) (by assumption) ?_
            try simp only [List.getElem_toArray, List.getElem_cons_zero, List.getElem_cons_succ, Act.put, List.setIfInBounds_toArray, List.set_cons_zero, List.set_cons_succ]
            refine wpAnyH_take (i := 3) (v := .bool true) rfl (by kernel_rfl) (by kernel_rfl) (by kernel_rfl) (fun _ _ _ h => h) (Or.inl ⟨by rfl, fun W hSw => by (try dsimp only at hSw); go_simp⟩) (by assumption) ?_
            try simp only [List.getElem_toArray, List.getElem_cons_zero, List.getElem_cons_succ, Act.put, List.setIfInBounds_toArray, List.set_cons_zero, List.set_cons_succ]
            refine wpAnyH_take (i := 4) (v := .bool true) rfl (by kernel_rfl) (by kernel_rfl) (by kernel_rfl) (fun _ _ _ h => h) (Or.inl ⟨by rfl, fun W hSw => by (try dsimp only at hSw); go_simp⟩) (by assumption) ?_
            try simp only [List.getElem_toArray, List.getElem_cons_zero, List.getElem_cons_succ, Act.put, List.setIfInBounds_toArray, List.set_cons_zero, List.set_cons_succ]
            refine wpAnyH_take (i := 5) (v := .slice (some ⟨ga, 0, none⟩) n uc) rfl (by kernel_rfl) (by kernel_rfl) (by kernel_rfl) (fun _ _ _ h => h) (Or.inl ⟨by rfl, fun W hSw => by (try dsimp only at hSw); go_simp⟩) (by assumption) ?_
            try simp only [List.getElem_toArray, List.getElem_cons_zero, List.getElem_cons_succ, Act.put, List.setIfInBounds_toArray, List.set_cons_zero, List.set_cons_succ]
            refine wpAnyH_take (i := 6) (v := .int .i64 i) rfl (by kernel_rfl) (by kernel_rfl) (by kernel_rfl) (fun _ _ _ h => h) (Or.inl ⟨by rfl, fun W hSw => by (try dsimp only at hSw); go_simp⟩) (by assumption) ?_
            try simp only [List.getElem_toArray, List.getElem_cons_zero, List.getElem_cons_succ, Act.put, List.setIfInBounds_toArray, List.set_cons_zero, List.set_cons_succ]
            refine wpAnyH_take (i := 7) (v := .pointer (some ⟨ga, i * 46, none⟩)) rfl (by kernel_rfl) (by kernel_rfl) (by kernel_rfl) (fun _ _ _ h => h) (Or.inl ⟨by rfl, fun W hSw => by (try dsimp only at hSw); go_simp⟩) (by assumption) ?_
            try simp only [List.getElem_toArray, List.getElem_cons_zero, List.getElem_cons_succ, Act.put, List.setIfInBounds_toArray, List.set_cons_zero, List.set_cons_succ]
            refine wpAnyH_take (i := 8) (v := .pointer (some ⟨ga, i * 46, none⟩)) rfl (by kernel_rfl) (by kernel_rfl) (by kernel_rfl) (fun _ _ _ h => h) (Or.inl ⟨by rfl, fun W hSw => by (try dsimp only at hSw); go_simp⟩) (by assumption) ?_
            try simp only [List.getElem_toArray, List.getElem_cons_zero, List.getElem_cons_succ, Act.put, List.setIfInBounds_toArray, List.set_cons_zero, List.set_cons_succ]
            refine wpAnyH_take (i := 9) (v := plV z.pl) rfl (by kernel_rfl) (by kernel_rfl) (by kernel_rfl) (fun _ _ _ h => h) (yields_load (by rfl) _ _ rfl _ rfl _ (fun W h => hldz W h.1.row)) (by assumption) ?_
            try simp only [List.getElem_toArray, List.getElem_cons_zero, List.getElem_cons_succ, Act.put, List.setIfInBounds_toArray, List.set_cons_zero, List.set_cons_succ]
            refine wpAnyH_take (i := 10) (v := .pointer (some ⟨wo.heap.size, 0, none⟩)) rfl (by kernel_rfl) (by kernel_rfl) (by kernel_rfl) (fun _ _ _ h => h) (Or.inl ⟨by rfl, fun W hSw => by (try dsimp only at hSw); go_simp⟩) (by assumption) ?_
            try simp only [List.getElem_toArray, List.getElem_cons_zero, List.getElem_cons_succ, Act.put, List.setIfInBounds_toArray, List.set_cons_zero, List.set_cons_succ]
            refine wpAnyH_take (i := 11) (v := plV y.pl) rfl (by kernel_rfl) (by kernel_rfl) (by kernel_rfl) (fun _ _ _ h => h) (yields_load (by rfl) _ _ rfl _ rfl _ (fun W h => h.1.c.loadP)) (by assumption) ?_
            try simp only [List.getElem_toArray, List.getElem_cons_zero, List.getElem_cons_succ, Act.put, List.setIfInBounds_toArray, List.set_cons_zero, List.set_cons_succ]
            refine wpAnyH_ready (rs := [12]) (by kernel_rfl) (by simp) ?_
            refine AllReadyH.cons rfl (fun K hK => ?_) AllReadyH.nil
            go_simp
            go_wp2_with (go_at_call 39; refine (cr _).mono ?_; rintro e w5 ⟨rfl, hb5⟩)
            refine hK.out _ _ ⟨hHeld.1.below hb5, thenB hHeld.2 hb5⟩ (fun hHeld2 => ?_)
            clear hK K
            try simp only [List.getElem_toArray, List.getElem_cons_zero, List.getElem_cons_succ, Act.put, List.setIfInBounds_toArray, List.set_cons_zero, List.set_cons_succ]
            refine wpAnyH_take (i := 13) (v := .bool true) rfl (by kernel_rfl) (by kernel_rfl) (by kernel_rfl) (fun _ _ _ h => h) (Or.inl ⟨by rfl, fun W hSw => by (try dsimp only at hSw); go_simp⟩) (by assumption) ?_
            try simp only [List.getElem_toArray, List.getElem_cons_zero, List.getElem_cons_succ, Act.put, List.setIfInBounds_toArray, List.set_cons_zero, List.set_cons_succ]
            refine wpAnyH_take (i := 14) (v := .bool true) rfl (by kernel_rfl) (by kernel_rfl) (by kernel_rfl) (fun _ _ _ h => h) (Or.inl ⟨by rfl, fun W hSw => by (try dsimp only at hSw); go_simp⟩) (by assumption) ?_
            try simp only [List.getElem_toArray, List.getElem_cons_zero, List.getElem_cons_succ, Act.put, List.setIfInBounds_toArray, List.set_cons_zero, List.set_cons_succ]
            refine wpAnyH_done (by kernel_rfl) ?_ _
            refine NoPanic.normal ?_
            have HBN : Hid (Below w3.heap.size w3 w5) := hHeld2.2
            have HLN : Hid (∀ j, j < i + 1 → cmpP (A.getD j cg0).pl y.pl = -1) := fun j hj => by
              by_cases e : j = i
              · rw [e, HZE.out]; exact hlz
              · exact HLO.out j (by omega)
            clear hHeld hHeld2 cr hldz hS
            go_wp2_with fail
            go_roundw
            case rel => exact ⟨i + 1, by omega, by go_num, HLN, HBN⟩
            case measure => simp [intOf]; omega
          · have cr := fun W => refCompare_any W z.pl y.pl
            obtain ⟨cv, hcv⟩ : ∃ cv, cmpP z.pl y.pl = cv := ⟨_, rfl⟩
            have hcn : ¬ cv < 0 := by rcases cmpP_ord.three z.pl y.pl with q | q | q <;> rw [hcv] at q <;> first | exact absurd (hcv.trans q) hlz | omega
            rw [hcv] at cr
            clear hcv
            go_wp2_with fail
            refine wp_region_noPanic ?_
            refine wp_region_held_drew (S := fun W => AlS w W ga wo.heap.size A y ∧ Below w3.heap.size w3 W) (by kernel_rfl) ⟨hS.drew, HBQ.out.drew⟩ (fun hHeld => ?_)
            refine wpAnyH_take (i := 0) (v := .int .i64 i) rfl (by kernel_rfl) (by kernel_rfl) (by kernel_rfl) (fun _ _ _ h => h) (Or.inl ⟨by rfl, fun W hSw => by (try dsimp only at hSw); go_simp⟩) (by assumption) ?_
            try simp only [List.getElem_toArray, List.getElem_cons_zero, List.getElem_cons_succ, Act.put, List.setIfInBounds_toArray, List.set_cons_zero, List.set_cons_succ]
            refine wpAnyH_take (i := 1) (v := .slice (some ⟨ga, 0, none⟩) n uc) rfl (by kernel_rfl) (by kernel_rfl) (by kernel_rfl) (fun _ _ _ h => h) (Or.inl ⟨by rfl, fun W hSw => by (try dsimp only at hSw); go_simp⟩) (by assumption) ?_
            try simp only [List.getElem_toArray, List.getElem_cons_zero, List.getElem_cons_succ, Act.put, List.setIfInBounds_toArray, List.set_cons_zero, List.set_cons_succ]
            refine wpAnyH_take (i := 2) (v := .int .i64 n) rfl (by kernel_rfl) (by kernel_rfl) (by kernel_rfl) (fun _ _ _ h => h) (Or.inl ⟨by rfl, fun W hSw => by (try dsimp only at hSw); go_simp⟩) (by assumption) ?_
            try simp only [List.getElem_toArray, List.getElem_cons_zero, List.getElem_cons_succ, Act.put, List.setIfInBounds_toArray, List.set_cons_zero, List.set_cons_succ]
            refine wpAnyH_take (i := 3) (v := .bool true) rfl (by kernel_rfl) (by kernel_rfl) (by kernel_rfl) (fun _ _ _ h => h) (Or.inl ⟨by rfl, fun W hSw => by (try dsimp only at hSw); go_simp⟩) (by assumption) ?_
            try simp only [List.getElem_toArray, List.getElem_cons_zero, List.getElem_cons_succ, Act.put, List.setIfInBounds_toArray, List.set_cons_zero, List.set_cons_succ]
            refine wpAnyH_take (i := 4) (v := .bool true) rfl (by kernel_rfl) (by kernel_rfl) (by kernel_rfl) (fun _ _ _ h => h) (Or.inl ⟨by rfl, fun W hSw => by (try dsimp only at hSw); go_simp⟩) (by assumption) ?_
            try simp only [List.getElem_toArray, List.getElem_cons_zero, List.getElem_cons_succ, Act.put, List.setIfInBounds_toArray, List.set_cons_zero, List.set_cons_succ]
            refine wpAnyH_take (i := 5) (v := .slice (some ⟨ga, 0, none⟩) n uc) rfl (by kernel_rfl) (by kernel_rfl) (by kernel_rfl) (fun _ _ _ h => h) (Or.inl ⟨by rfl, fun W hSw => by (try dsimp only at hSw); go_simp⟩) (by assumption) ?_
            try simp only [List.getElem_toArray, List.getElem_cons_zero, List.getElem_cons_succ, Act.put, List.setIfInBounds_toArray, List.set_cons_zero, List.set_cons_succ]
            refine wpAnyH_take (i := 6) (v := .int .i64 i) rfl (by kernel_rfl) (by kernel_rfl) (by kernel_rfl) (fun _ _ _ h => h) (Or.inl ⟨by rfl, fun W hSw => by (try dsimp only at hSw); go_simp⟩) (by assumption) ?_
            try simp only [List.getElem_toArray, List.getElem_cons_zero, List.getElem_cons_succ, Act.put, List.setIfInBounds_toArray, List.set_cons_zero, List.set_cons_succ]
            refine wpAnyH_take (i := 7) (v := .pointer (some ⟨ga, i * 46, none⟩)) rfl (by kernel_rfl) (by kernel_rfl) (by kernel_rfl) (fun _ _ _ h => h) (Or.inl ⟨by rfl, fun W hSw => by (try dsimp only at hSw); go_simp⟩) (by assumption) ?_
            try simp only [List.getElem_toArray, List.getElem_cons_zero, List.getElem_cons_succ, Act.put, List.setIfInBounds_toArray, List.set_cons_zero, List.set_cons_succ]
            refine wpAnyH_take (i := 8) (v := .pointer (some ⟨ga, i * 46, none⟩)) rfl (by kernel_rfl) (by kernel_rfl) (by kernel_rfl) (fun _ _ _ h => h) (Or.inl ⟨by rfl, fun W hSw => by (try dsimp only at hSw); go_simp⟩) (by assumption) ?_
            try simp only [List.getElem_toArray, List.getElem_cons_zero, List.getElem_cons_succ, Act.put, List.setIfInBounds_toArray, List.set_cons_zero, List.set_cons_succ]
            refine wpAnyH_take (i := 9) (v := plV z.pl) rfl (by kernel_rfl) (by kernel_rfl) (by kernel_rfl) (fun _ _ _ h => h) (yields_load (by rfl) _ _ rfl _ rfl _ (fun W h => hldz W h.1.row)) (by assumption) ?_
            try simp only [List.getElem_toArray, List.getElem_cons_zero, List.getElem_cons_succ, Act.put, List.setIfInBounds_toArray, List.set_cons_zero, List.set_cons_succ]
            refine wpAnyH_take (i := 10) (v := .pointer (some ⟨wo.heap.size, 0, none⟩)) rfl (by kernel_rfl) (by kernel_rfl) (by kernel_rfl) (fun _ _ _ h => h) (Or.inl ⟨by rfl, fun W hSw => by (try dsimp only at hSw); go_simp⟩) (by assumption) ?_
            try simp only [List.getElem_toArray, List.getElem_cons_zero, List.getElem_cons_succ, Act.put, List.setIfInBounds_toArray, List.set_cons_zero, List.set_cons_succ]
            refine wpAnyH_take (i := 11) (v := plV y.pl) rfl (by kernel_rfl) (by kernel_rfl) (by kernel_rfl) (fun _ _ _ h => h) (yields_load (by rfl) _ _ rfl _ rfl _ (fun W h => h.1.c.loadP)) (by assumption) ?_
            try simp only [List.getElem_toArray, List.getElem_cons_zero, List.getElem_cons_succ, Act.put, List.setIfInBounds_toArray, List.set_cons_zero, List.set_cons_succ]
            refine wpAnyH_ready (rs := [12]) (by kernel_rfl) (by simp) ?_
            refine AllReadyH.cons rfl (fun K hK => ?_) AllReadyH.nil
            go_simp
            go_wp2_with (go_at_call 39; refine (cr _).mono ?_; rintro e w5 ⟨rfl, hb5⟩)
            refine hK.out _ _ ⟨hHeld.1.below hb5, thenB hHeld.2 hb5⟩ (fun hHeld2 => ?_)
            clear hK K
            try simp only [List.getElem_toArray, List.getElem_cons_zero, List.getElem_cons_succ, Act.put, List.setIfInBounds_toArray, List.set_cons_zero, List.set_cons_succ]
            refine wpAnyH_take (i := 13) (v := .bool false) rfl (by kernel_rfl) (by kernel_rfl) (by kernel_rfl) (fun _ _ _ h => h) (Or.inl ⟨by rfl, fun W hSw => by (try dsimp only at hSw); go_simp⟩) (by assumption) ?_
            try simp only [List.getElem_toArray, List.getElem_cons_zero, List.getElem_cons_succ, Act.put, List.setIfInBounds_toArray, List.set_cons_zero, List.set_cons_succ]
            refine wpAnyH_take (i := 14) (v := .bool false) rfl (by kernel_rfl) (by kernel_rfl) (by kernel_rfl) (fun _ _ _ h => h) (Or.inl ⟨by rfl, fun W hSw => by (try dsimp only at hSw); go_simp⟩) (by assumption) ?_
            try simp only [List.getElem_toArray, List.getElem_cons_zero, List.getElem_cons_succ, Act.put, List.setIfInBounds_toArray, List.set_cons_zero, List.set_cons_succ]
            refine wpAnyH_done (by kernel_rfl) ?_ _
            refine NoPanic.normal ?_
            have HBN : Hid (Below w3.heap.size w3 w5) := hHeld2.2
            have HSN : Hid (AlS w w5 ga wo.heap.size A y) := hHeld2.1
            clear hHeld hHeld2 cr hS
            have heq : ∀ W, (binOp .eql 26 (.agg #[.int .u32 z.pl.ino, .int .i64 z.pl.part, .string z.pl.name, .int .u32 z.pl.chunk]) (.agg #[.int .u32 y.pl.ino, .int .i64 y.pl.part, .string y.pl.name, .int .u32 y.pl.chunk])).run Tryz.prog W = .ok (.bool (plEq z.pl y.pl)) W := fun W => eq_places W _ _ _ _ _ _ _ _
            go_wp2_with fail
            cases hpe : plEq z.pl y.pl <;> rw [hpe] at heq
            · refine wp_region_noPanic ?_
              refine wp_region_held_drew (S := fun W => AlS w W ga wo.heap.size A y) (by kernel_rfl) HSN.out.drew (fun hHeld => ?_)
              refine wpAnyH_take (i := 0) (v := .int .i64 i) rfl (by kernel_rfl) (by kernel_rfl) (by kernel_rfl) (fun _ _ _ h => h) (Or.inl ⟨by rfl, fun W hSw => by (try dsimp only at hSw); go_simp⟩) (by assumption) ?_
              try simp only [List.getElem_toArray, List.getElem_cons_zero, List.getElem_cons_succ, Act.put, List.setIfInBounds_toArray, List.set_cons_zero, List.set_cons_succ]
              refine wpAnyH_take (i := 1) (v := .slice (some ⟨ga, 0, none⟩) n uc) rfl (by kernel_rfl) (by kernel_rfl) (by kernel_rfl) (fun _ _ _ h => h) (Or.inl ⟨by rfl, fun W hSw => by (try dsimp only at hSw); go_simp⟩) (by assumption) ?_
              try simp only [List.getElem_toArray, List.getElem_cons_zero, List.getElem_cons_succ, Act.put, List.setIfInBounds_toArray, List.set_cons_zero, List.set_cons_succ]
              refine wpAnyH_take (i := 2) (v := .int .i64 n) rfl (by kernel_rfl) (by kernel_rfl) (by kernel_rfl) (fun _ _ _ h => h) (Or.inl ⟨by rfl, fun W hSw => by (try dsimp only at hSw); go_simp⟩) (by assumption) ?_
              try simp only [List.getElem_toArray, List.getElem_cons_zero, List.getElem_cons_succ, Act.put, List.setIfInBounds_toArray, List.set_cons_zero, List.set_cons_succ]
              refine wpAnyH_take (i := 3) (v := .bool true) rfl (by kernel_rfl) (by kernel_rfl) (by kernel_rfl) (fun _ _ _ h => h) (Or.inl ⟨by rfl, fun W hSw => by (try dsimp only at hSw); go_simp⟩) (by assumption) ?_
              try simp only [List.getElem_toArray, List.getElem_cons_zero, List.getElem_cons_succ, Act.put, List.setIfInBounds_toArray, List.set_cons_zero, List.set_cons_succ]
              refine wpAnyH_take (i := 4) (v := .bool true) rfl (by kernel_rfl) (by kernel_rfl) (by kernel_rfl) (fun _ _ _ h => h) (Or.inl ⟨by rfl, fun W hSw => by (try dsimp only at hSw); go_simp⟩) (by assumption) ?_
              try simp only [List.getElem_toArray, List.getElem_cons_zero, List.getElem_cons_succ, Act.put, List.setIfInBounds_toArray, List.set_cons_zero, List.set_cons_succ]
              refine wpAnyH_take (i := 5) (v := .slice (some ⟨ga, 0, none⟩) n uc) rfl (by kernel_rfl) (by kernel_rfl) (by kernel_rfl) (fun _ _ _ h => h) (Or.inl ⟨by rfl, fun W hSw => by (try dsimp only at hSw); go_simp⟩) (by assumption) ?_
              try simp only [List.getElem_toArray, List.getElem_cons_zero, List.getElem_cons_succ, Act.put, List.setIfInBounds_toArray, List.set_cons_zero, List.set_cons_succ]
              refine wpAnyH_take (i := 6) (v := .int .i64 i) rfl (by kernel_rfl) (by kernel_rfl) (by kernel_rfl) (fun _ _ _ h => h) (Or.inl ⟨by rfl, fun W hSw => by (try dsimp only at hSw); go_simp⟩) (by assumption) ?_
              try simp only [List.getElem_toArray, List.getElem_cons_zero, List.getElem_cons_succ, Act.put, List.setIfInBounds_toArray, List.set_cons_zero, List.set_cons_succ]
              refine wpAnyH_take (i := 7) (v := .pointer (some ⟨ga, i * 46, none⟩)) rfl (by kernel_rfl) (by kernel_rfl) (by kernel_rfl) (fun _ _ _ h => h) (Or.inl ⟨by rfl, fun W hSw => by (try dsimp only at hSw); go_simp⟩) (by assumption) ?_
              try simp only [List.getElem_toArray, List.getElem_cons_zero, List.getElem_cons_succ, Act.put, List.setIfInBounds_toArray, List.set_cons_zero, List.set_cons_succ]
              refine wpAnyH_take (i := 8) (v := .pointer (some ⟨ga, i * 46, none⟩)) rfl (by kernel_rfl) (by kernel_rfl) (by kernel_rfl) (fun _ _ _ h => h) (Or.inl ⟨by rfl, fun W hSw => by (try dsimp only at hSw); go_simp⟩) (by assumption) ?_
              try simp only [List.getElem_toArray, List.getElem_cons_zero, List.getElem_cons_succ, Act.put, List.setIfInBounds_toArray, List.set_cons_zero, List.set_cons_succ]
              refine wpAnyH_take (i := 9) (v := .agg #[.int .u32 z.pl.ino, .int .i64 z.pl.part, .string z.pl.name, .int .u32 z.pl.chunk]) rfl (by kernel_rfl) (by kernel_rfl) (by kernel_rfl) (fun _ _ _ h => h) (yields_load (by rfl) _ _ rfl _ rfl _ (fun W h => hldz W h.row)) (by assumption) ?_
              try simp only [List.getElem_toArray, List.getElem_cons_zero, List.getElem_cons_succ, Act.put, List.setIfInBounds_toArray, List.set_cons_zero, List.set_cons_succ]
              refine wpAnyH_take (i := 10) (v := .pointer (some ⟨wo.heap.size, 0, none⟩)) rfl (by kernel_rfl) (by kernel_rfl) (by kernel_rfl) (fun _ _ _ h => h) (Or.inl ⟨by rfl, fun W hSw => by (try dsimp only at hSw); go_simp⟩) (by assumption) ?_
              try simp only [List.getElem_toArray, List.getElem_cons_zero, List.getElem_cons_succ, Act.put, List.setIfInBounds_toArray, List.set_cons_zero, List.set_cons_succ]
              refine wpAnyH_take (i := 11) (v := .agg #[.int .u32 y.pl.ino, .int .i64 y.pl.part, .string y.pl.name, .int .u32 y.pl.chunk]) rfl (by kernel_rfl) (by kernel_rfl) (by kernel_rfl) (fun _ _ _ h => h) (yields_load (by rfl) _ _ rfl _ rfl _ (fun W h => h.c.loadP)) (by assumption) ?_
              try simp only [List.getElem_toArray, List.getElem_cons_zero, List.getElem_cons_succ, Act.put, List.setIfInBounds_toArray, List.set_cons_zero, List.set_cons_succ]
              refine wpAnyH_take (i := 12) (v := .bool false) rfl (by kernel_rfl) (by kernel_rfl) (by kernel_rfl) (fun _ _ _ h => h) (Or.inl ⟨by rfl, fun W hSw => by (try dsimp only at hSw); (have q := heq W; go_simp)⟩) (by assumption) ?_
              try simp only [List.getElem_toArray, List.getElem_cons_zero, List.getElem_cons_succ, Act.put, List.setIfInBounds_toArray, List.set_cons_zero, List.set_cons_succ]
              refine wpAnyH_take (i := 13) (v := .bool false) rfl (by kernel_rfl) (by kernel_rfl) (by kernel_rfl) (fun _ _ _ h => h) (Or.inl ⟨by rfl, fun W hSw => by (try dsimp only at hSw); go_simp⟩) (by assumption) ?_
              try simp only [List.getElem_toArray, List.getElem_cons_zero, List.getElem_cons_succ, Act.put, List.setIfInBounds_toArray, List.set_cons_zero, List.set_cons_succ]
              refine wpAnyH_done (by kernel_rfl) ?_ _
              refine NoPanic.normal ?_
              have HNO : Hid (∀ q ∈ A, q.pl ≠ x.pl) := fun q hq => by
                rw [hxp]
                exact none_at hAok.rise (show i ≤ A.length by rw [HNA.out]; exact hi) HLO.out (fun _ => by rw [HZE.out]; exact ⟨hlz, fun e => by rw [plEq_iff.2 e] at hpe; cases hpe⟩) q hq
              have HHI : Hid (i < A.length → cmpP (A.getD i cg0).pl y.pl ≠ -1) := fun _ => by rw [HZE.out]; exact hlz
              have hbo : Below wo.heap.size wo w5.drew := (thenB hb3 HBN.out).drew
              have HBW : Hid (Below w.heap.size w w5.drew) := HSN.out.bel.drew
              have hyW : CgAt w5.drew wo.heap.size y := HSN.out.c.drew
              obtain ⟨wt, hwt⟩ : ∃ wt, w5.drew = wt := ⟨_, rfl⟩
              rw [hwt] at hbo HBW hyW
              rw [hwt]
              clear hwt heq HSN HBN hldz hHeld
              have HS2 : Hid (A2 = A.take i ++ x :: A.drop i) := by unfold Hid; rw [hmore.out HNO.out]; exact (set_at hAok.rise HNO.out (by rw [HNA.out]; exact hi) (fun j hj => by rw [hxp]; exact HLO.out j hj) (fun hh => by rw [hxp]; exact HHI.out hh)).symm
              have hXq := (HX.out.below (HBW.out.mono (Nat.le_refl _)))
              have hlp : Hid _ := hyW.loadP
              have cgt := xget_at hXq y.pl hck.pl x hfx
              go_wp2_with (first
                | (refine wpList_loadG rfl 26 _ rfl _ rfl _ hlp.out ?_))
              refine cgt.mono ?_
              rintro e w5 ⟨rfl, hb5⟩
              clear cgt
              have hn6 := CgAt.laid w5 cg0
              have hb6 := alloc_row (A := w5) (.cells (cgC cg0) 56) (cgC x)
              have hx6 := hn6.setRow x
              obtain ⟨w6, hw6⟩ : ∃ w6, (w5.alloc (.cells (cgC cg0) 56)).setRow w5.heap.size (cgC x) = w6 := ⟨_, rfl⟩
              rw [hw6] at hb6 hx6
              have HB6 : Hid (Below w.heap.size w w6) := thenB (thenB HBW.out hb5) hb6
              have HO6 : Hid (w6.ownsRow w.heap.size 56 46 (.slice (some ⟨ga, 0, none⟩ : Option Addr) n uc) A.length (A.flatMap cgL)) := by
                have e1 := rowC_below (rowC_below (rowC_below HO.out hbo) hb5) hb6
                rw [HNA.out] at e1
                rw [HNA.out]
                exact e1
              have hs6 := HB6.out.size
              have hiI : (i : Int) ≤ (n : Int) := by omega
              have hicI : (i : Int) ≤ (uc : Int) := by omega
              have hncI : (n : Int) ≤ (uc : Int) := by omega
              have hAt : ∀ z ∈ A.take i, CgOk z := fun z hz => hAok.ok z (List.mem_of_mem_take hz)
              have hAd : ∀ z ∈ A.drop i, CgOk z := fun z hz => hAok.ok z (List.mem_of_mem_drop hz)
              have hx1 : ∀ z ∈ [x], CgOk z := fun z hz => by rw [List.mem_singleton] at hz; rw [hz]; exact hxok
              have HR6 : Hid (RdC w6 (.slice (some ⟨ga, 0, none⟩ : Option Addr) n uc) A) := rdC_own HO6.out
              have HL6 : Hid ((A.take i).length ≤ 1000 ∧ (A.drop i).length ≤ 1000) := by unfold Hid; rw [List.length_take, List.length_drop, HNA.out]; omega
              clear hXq hlp hyW hn3 hy3 hb3 HRA
              go_wp2_with (first
                | (refine wpList_storeG rfl _ _ rfl w5.heap.size x cg0 rfl rfl HXL.out len0 hn6 ?_; rw [hw6])
                | (refine wpList_append_cg rfl _ _ rfl w6.heap.size (.slice none 0 0) [] rfl (World.ownsRow_nil _ _ _ _) (.slice (some ⟨ga, 0, none⟩ : Option Addr) i uc) (A.take i) hAt rfl (rdC_to hAok.ok HR6.out i hi) (by have := HL6.out; simp only [List.length_nil]; omega) (Nat.le_refl _) ?_))
              intro v7 w7 ho7 hg7
              replace ho7 : w7.ownsRow w6.heap.size 56 46 v7 (A.take i).length ((A.take i).flatMap cgL) := ho7.own
              have hb7 : Below w6.heap.size w6 w7 := (Below.refl _ w6).grown hg7 (Nat.le_refl _) (fun q hq => by cases hq)
              have hx7 := hx6.below hb7
              have hlx : Hid _ := hx7.load HXL.out
              have HB7 : Hid (Below w.heap.size w w7) := thenB HB6.out hb7
              have HO7 : Hid _ := ho7
              have hsl := slice_cg x HXL.out w7
              have hb8 : Below w7.heap.size w7 (w7.alloc (.cells (cgC x) 56)) := (Below.refl _ _).alloc (Nat.le_refl _) _
              have hx8 := CgAt.laid w7 x
              obtain ⟨w8, hw8⟩ : ∃ w8, w7.alloc (.cells (cgC x) 56) = w8 := ⟨_, rfl⟩
              rw [hw8] at hsl hb8 hx8
              have HO8 : Hid (w8.ownsRow w6.heap.size 56 46 v7 (A.take i).length ((A.take i).flatMap cgL)) := rowC_below HO7.out hb8
              have HB8 : Hid (Below w.heap.size w w8) := thenB HB7.out hb8
              have hs68 : w6.heap.size ≤ w8.heap.size := (thenB hb7 hb8).size
              have hrx : RdC w8 (.slice (some ⟨w7.heap.size, 0, none⟩) 1 1) [x] := ⟨_, _, rfl, (fun e => by cases e), fun _ => ⟨_, 0, rfl, hx8.lt, fun j u hj => by
                rw [cell_of_row _ _ _ _ _ (0, 0) hx8.row, Nat.zero_add]
                rw [List.flatMap_cons, List.flatMap_nil, List.append_nil] at hj
                rw [← Array.getElem?_toList]; exact hj⟩⟩
              go_wp2_with (first
                | (refine wpList_loadG rfl 56 _ rfl _ rfl _ hlx.out ?_)
                | (refine wpList_buildS rfl 23 1 _ rfl #[(0, .agg (cgC x))] (by kernel_rfl) hsl ?_)
                | (refine wpList_append_cg rfl _ _ rfl w6.heap.size v7 (A.take i) rfl HO8.out _ [x] hx1 rfl hrx (by have := HL6.out; simp only [List.length_cons, List.length_nil]; omega) hs68 ?_))
              intro v9 w9 ho9 hg9
              have HO9 : Hid (w9.ownsRow w6.heap.size 56 46 v9 (A.take i ++ [x]).length ((A.take i ++ [x]).flatMap cgL)) := ho9.own
              have hb69 : Below w6.heap.size w6 w9 := (thenB hb7 hb8).grown hg9 hs68 (fun q hq => (World.ownsRow.lt HO8.out q hq).1)
              have hs69 := hb69.size
              have HR9 : Hid (RdC w9 (.slice (some ⟨ga, 0, none⟩ : Option Addr) n uc) A) := HR6.out.below hb69
              have hun : (some ⟨ga, 0, none⟩ : Option Addr) = none → uc = 0 := fun e => by obtain ⟨a', c', e', z1, _⟩ := HR6.out; simp only [Value.slice.injEq] at e'; obtain ⟨rfl, _, rfl⟩ := e'; exact z1 e
              obtain ⟨CA, HCA⟩ : ∃ CA, Hid (cutC (some ⟨ga, 0, none⟩ : Option Addr) uc i = CA) := ⟨_, rfl⟩
              have HRC : Hid (RdC w9 (.slice CA (n - i) (uc - i)) (A.drop i)) := by unfold Hid; rw [← HCA.out]; exact rdC_cut hAok.ok HR9.out i hi hcap1
              clear hx6 hx7 hx8 hlx hsl hrx
              go_wp2_with (first
                | (refine wpList_sliceC rfl _ _ rfl (some ⟨ga, 0, none⟩ : Option Addr) n uc i rfl rfl hi hcap1 hun ?_; rw [HCA.out])
                | (refine wpList_append_cg rfl _ _ rfl w6.heap.size v9 (A.take i ++ [x]) rfl HO9.out _ (A.drop i) hAd rfl HRC.out (by have := HL6.out; simp only [List.length_append, List.length_cons, List.length_nil]; omega) hs69 ?_))
              intro vA wA hoA hgA
              have HBA : Hid (Below w.heap.size w wA) := thenB HB6.out (hb69.grown hgA hs69 (fun q hq => (World.ownsRow.lt HO9.out q hq).1))
              have HOA : Hid (wA.ownsRow w.heap.size 56 46 vA (upX s xs (k + 1)).length ((upX s xs (k + 1)).flatMap cgL)) := by unfold Hid; rw [HA2.out, HS2.out]; exact rowC_mono hoA.own hs6
              clear hoA hgA
              go_wp2_with fail
              go_roundw
              case rel => exact ⟨k + 1, by omega, by go_num, HOA, HBA⟩
              case measure => simp [intOf]; omega
            · refine wp_region_noPanic ?_
              refine wp_region_held_drew (S := fun W => AlS w W ga wo.heap.size A y) (by kernel_rfl) HSN.out.drew (fun hHeld => ?_)
              refine wpAnyH_take (i := 0) (v := .int .i64 i) rfl (by kernel_rfl) (by kernel_rfl) (by kernel_rfl) (fun _ _ _ h => h) (Or.inl ⟨by rfl, fun W hSw => by (try dsimp only at hSw); go_simp⟩) (by assumption) ?_
              try simp only [List.getElem_toArray, List.getElem_cons_zero, List.getElem_cons_succ, Act.put, List.setIfInBounds_toArray, List.set_cons_zero, List.set_cons_succ]
              refine wpAnyH_take (i := 1) (v := .slice (some ⟨ga, 0, none⟩) n uc) rfl (by kernel_rfl) (by kernel_rfl) (by kernel_rfl) (fun _ _ _ h => h) (Or.inl ⟨by rfl, fun W hSw => by (try dsimp only at hSw); go_simp⟩) (by assumption) ?_
              try simp only [List.getElem_toArray, List.getElem_cons_zero, List.getElem_cons_succ, Act.put, List.setIfInBounds_toArray, List.set_cons_zero, List.set_cons_succ]
              refine wpAnyH_take (i := 2) (v := .int .i64 n) rfl (by kernel_rfl) (by kernel_rfl) (by kernel_rfl) (fun _ _ _ h => h) (Or.inl ⟨by rfl, fun W hSw => by (try dsimp only at hSw); go_simp⟩) (by assumption) ?_
              try simp only [List.getElem_toArray, List.getElem_cons_zero, List.getElem_cons_succ, Act.put, List.setIfInBounds_toArray, List.set_cons_zero, List.set_cons_succ]
              refine wpAnyH_take (i := 3) (v := .bool true) rfl (by kernel_rfl) (by kernel_rfl) (by kernel_rfl) (fun _ _ _ h => h) (Or.inl ⟨by rfl, fun W hSw => by (try dsimp only at hSw); go_simp⟩) (by assumption) ?_
              try simp only [List.getElem_toArray, List.getElem_cons_zero, List.getElem_cons_succ, Act.put, List.setIfInBounds_toArray, List.set_cons_zero, List.set_cons_succ]
              refine wpAnyH_take (i := 4) (v := .bool true) rfl (by kernel_rfl) (by kernel_rfl) (by kernel_rfl) (fun _ _ _ h => h) (Or.inl ⟨by rfl, fun W hSw => by (try dsimp only at hSw); go_simp⟩) (by assumption) ?_
              try simp only [List.getElem_toArray, List.getElem_cons_zero, List.getElem_cons_succ, Act.put, List.setIfInBounds_toArray, List.set_cons_zero, List.set_cons_succ]
              refine wpAnyH_take (i := 5) (v := .slice (some ⟨ga, 0, none⟩) n uc) rfl (by kernel_rfl) (by kernel_rfl) (by kernel_rfl) (fun _ _ _ h => h) (Or.inl ⟨by rfl, fun W hSw => by (try dsimp only at hSw); go_simp⟩) (by assumption) ?_
              try simp only [List.getElem_toArray, List.getElem_cons_zero, List.getElem_cons_succ, Act.put, List.setIfInBounds_toArray, List.set_cons_zero, List.set_cons_succ]
              refine wpAnyH_take (i := 6) (v := .int .i64 i) rfl (by kernel_rfl) (by kernel_rfl) (by kernel_rfl) (fun _ _ _ h => h) (Or.inl ⟨by rfl, fun W hSw => by (try dsimp only at hSw); go_simp⟩) (by assumption) ?_
              try simp only [List.getElem_toArray, List.getElem_cons_zero, List.getElem_cons_succ, Act.put, List.setIfInBounds_toArray, List.set_cons_zero, List.set_cons_succ]
              refine wpAnyH_take (i := 7) (v := .pointer (some ⟨ga, i * 46, none⟩)) rfl (by kernel_rfl) (by kernel_rfl) (by kernel_rfl) (fun _ _ _ h => h) (Or.inl ⟨by rfl, fun W hSw => by (try dsimp only at hSw); go_simp⟩) (by assumption) ?_
              try simp only [List.getElem_toArray, List.getElem_cons_zero, List.getElem_cons_succ, Act.put, List.setIfInBounds_toArray, List.set_cons_zero, List.set_cons_succ]
              refine wpAnyH_take (i := 8) (v := .pointer (some ⟨ga, i * 46, none⟩)) rfl (by kernel_rfl) (by kernel_rfl) (by kernel_rfl) (fun _ _ _ h => h) (Or.inl ⟨by rfl, fun W hSw => by (try dsimp only at hSw); go_simp⟩) (by assumption) ?_
              try simp only [List.getElem_toArray, List.getElem_cons_zero, List.getElem_cons_succ, Act.put, List.setIfInBounds_toArray, List.set_cons_zero, List.set_cons_succ]
              refine wpAnyH_take (i := 9) (v := .agg #[.int .u32 z.pl.ino, .int .i64 z.pl.part, .string z.pl.name, .int .u32 z.pl.chunk]) rfl (by kernel_rfl) (by kernel_rfl) (by kernel_rfl) (fun _ _ _ h => h) (yields_load (by rfl) _ _ rfl _ rfl _ (fun W h => hldz W h.row)) (by assumption) ?_
              try simp only [List.getElem_toArray, List.getElem_cons_zero, List.getElem_cons_succ, Act.put, List.setIfInBounds_toArray, List.set_cons_zero, List.set_cons_succ]
              refine wpAnyH_take (i := 10) (v := .pointer (some ⟨wo.heap.size, 0, none⟩)) rfl (by kernel_rfl) (by kernel_rfl) (by kernel_rfl) (fun _ _ _ h => h) (Or.inl ⟨by rfl, fun W hSw => by (try dsimp only at hSw); go_simp⟩) (by assumption) ?_
              try simp only [List.getElem_toArray, List.getElem_cons_zero, List.getElem_cons_succ, Act.put, List.setIfInBounds_toArray, List.set_cons_zero, List.set_cons_succ]
              refine wpAnyH_take (i := 11) (v := .agg #[.int .u32 y.pl.ino, .int .i64 y.pl.part, .string y.pl.name, .int .u32 y.pl.chunk]) rfl (by kernel_rfl) (by kernel_rfl) (by kernel_rfl) (fun _ _ _ h => h) (yields_load (by rfl) _ _ rfl _ rfl _ (fun W h => h.c.loadP)) (by assumption) ?_
              try simp only [List.getElem_toArray, List.getElem_cons_zero, List.getElem_cons_succ, Act.put, List.setIfInBounds_toArray, List.set_cons_zero, List.set_cons_succ]
              refine wpAnyH_take (i := 12) (v := .bool true) rfl (by kernel_rfl) (by kernel_rfl) (by kernel_rfl) (fun _ _ _ h => h) (Or.inl ⟨by rfl, fun W hSw => by (try dsimp only at hSw); (have q := heq W; go_simp)⟩) (by assumption) ?_
              try simp only [List.getElem_toArray, List.getElem_cons_zero, List.getElem_cons_succ, Act.put, List.setIfInBounds_toArray, List.set_cons_zero, List.set_cons_succ]
              refine wpAnyH_take (i := 13) (v := .bool true) rfl (by kernel_rfl) (by kernel_rfl) (by kernel_rfl) (fun _ _ _ h => h) (Or.inl ⟨by rfl, fun W hSw => by (try dsimp only at hSw); go_simp⟩) (by assumption) ?_
              try simp only [List.getElem_toArray, List.getElem_cons_zero, List.getElem_cons_succ, Act.put, List.setIfInBounds_toArray, List.set_cons_zero, List.set_cons_succ]
              refine wpAnyH_done (by kernel_rfl) ?_ _
              refine NoPanic.normal ?_
              go_wp2_with fail
              have HOA : Hid (w5.drew.ownsRow w.heap.size 56 46 (.slice (some ⟨ga, 0, none⟩) n uc) (upX s xs (k + 1)).length ((upX s xs (k + 1)).flatMap cgL)) := by
                have e1 := rowC_below HO.out ((thenB hb3 HBN.out).drew)
                unfold Hid
                rw [HA2.out, hsame.out z hAm (plEq_iff.1 hpe)]
                rw [HNA.out] at e1 ⊢
                exact e1
              have HBA : Hid (Below w.heap.size w w5.drew) := HSN.out.bel.drew
              go_roundw
              case rel => exact ⟨k + 1, by omega, by go_num, HOA, HBA⟩
              case measure => simp [intOf]; omega
        · have hilI : ¬ (i : Int) < n := by omega
          go_wp2_with fail
          go_quiet (fail)
          have hbo5 : Below wo.heap.size wo (wr.drewN nq) := thenB hbo0 (belowQ _ _ _)
          have hy5 : CgAt (wr.drewN nq) wo.heap.size y := hyq.below (belowQ _ _ _)
          obtain ⟨w5, hw5⟩ : ∃ w5, wr.drewN nq = w5 := ⟨_, rfl⟩
          rw [hw5] at hbo5 hy5
          rw [hw5]
          clear hw5
          go_wp2_with fail
          go_quiet (fail)
          have HNO : Hid (∀ q ∈ A, q.pl ≠ x.pl) := fun q hq => by
            rw [hxp]
            exact none_at hAok.rise (show i ≤ A.length by rw [HNA.out]; exact hi) HLO.out (fun hh => by rw [HNA.out] at hh; omega) q hq
          have HHI : Hid (i < A.length → cmpP (A.getD i cg0).pl y.pl ≠ -1) := fun hh => by rw [HNA.out] at hh; omega
          have hbo : Below wo.heap.size wo (w5.drewN nq) := thenB hbo5 (belowQ _ _ _)
          have HBW : Hid (Below w.heap.size w (w5.drewN nq)) := thenB HB.out hbo
          have hyW : CgAt (w5.drewN nq) wo.heap.size y := hy5.below (belowQ _ _ _)
          obtain ⟨wt, hwt⟩ : ∃ wt, (w5.drewN nq) = wt := ⟨_, rfl⟩
          rw [hwt] at hbo HBW hyW
          rw [hwt]
          clear hwt hbo5 hy5
          have HS2 : Hid (A2 = A.take i ++ x :: A.drop i) := by unfold Hid; rw [hmore.out HNO.out]; exact (set_at hAok.rise HNO.out (by rw [HNA.out]; exact hi) (fun j hj => by rw [hxp]; exact HLO.out j hj) (fun hh => by rw [hxp]; exact HHI.out hh)).symm
          have hXq := (HX.out.below (HBW.out.mono (Nat.le_refl _)))
          have hlp : Hid _ := hyW.loadP
          have cgt := xget_at hXq y.pl hck.pl x hfx
          go_wp2_with (first
            | (refine wpList_loadG rfl 26 _ rfl _ rfl _ hlp.out ?_))
          refine cgt.mono ?_
          rintro e w5 ⟨rfl, hb5⟩
          clear cgt
          have hn6 := CgAt.laid w5 cg0
          have hb6 := alloc_row (A := w5) (.cells (cgC cg0) 56) (cgC x)
          have hx6 := hn6.setRow x
          obtain ⟨w6, hw6⟩ : ∃ w6, (w5.alloc (.cells (cgC cg0) 56)).setRow w5.heap.size (cgC x) = w6 := ⟨_, rfl⟩
          rw [hw6] at hb6 hx6
          have HB6 : Hid (Below w.heap.size w w6) := thenB (thenB HBW.out hb5) hb6
          have HO6 : Hid (w6.ownsRow w.heap.size 56 46 (.slice ua n uc) A.length (A.flatMap cgL)) := by
            have e1 := rowC_below (rowC_below (rowC_below HO.out hbo) hb5) hb6
            rw [HNA.out] at e1
            rw [HNA.out]
            exact e1
          have hs6 := HB6.out.size
          have hiI : (i : Int) ≤ (n : Int) := by omega
          have hicI : (i : Int) ≤ (uc : Int) := by omega
          have hncI : (n : Int) ≤ (uc : Int) := by omega
          have hAt : ∀ z ∈ A.take i, CgOk z := fun z hz => hAok.ok z (List.mem_of_mem_take hz)
          have hAd : ∀ z ∈ A.drop i, CgOk z := fun z hz => hAok.ok z (List.mem_of_mem_drop hz)
          have hx1 : ∀ z ∈ [x], CgOk z := fun z hz => by rw [List.mem_singleton] at hz; rw [hz]; exact hxok
          have HR6 : Hid (RdC w6 (.slice ua n uc) A) := rdC_own HO6.out
          have HL6 : Hid ((A.take i).length ≤ 1000 ∧ (A.drop i).length ≤ 1000) := by unfold Hid; rw [List.length_take, List.length_drop, HNA.out]; omega
          clear hXq hlp hyW hn3 hy3 hb3 HRA
          go_wp2_with (first
            | (refine wpList_storeG rfl _ _ rfl w5.heap.size x cg0 rfl rfl HXL.out len0 hn6 ?_; rw [hw6])
            | (refine wpList_append_cg rfl _ _ rfl w6.heap.size (.slice none 0 0) [] rfl (World.ownsRow_nil _ _ _ _) (.slice ua i uc) (A.take i) hAt rfl (rdC_to hAok.ok HR6.out i hi) (by have := HL6.out; simp only [List.length_nil]; omega) (Nat.le_refl _) ?_))
          intro v7 w7 ho7 hg7
          replace ho7 : w7.ownsRow w6.heap.size 56 46 v7 (A.take i).length ((A.take i).flatMap cgL) := ho7.own
          have hb7 : Below w6.heap.size w6 w7 := (Below.refl _ w6).grown hg7 (Nat.le_refl _) (fun q hq => by cases hq)
          have hx7 := hx6.below hb7
          have hlx : Hid _ := hx7.load HXL.out
          have HB7 : Hid (Below w.heap.size w w7) := thenB HB6.out hb7
          have HO7 : Hid _ := ho7
          have hsl := slice_cg x HXL.out w7
          have hb8 : Below w7.heap.size w7 (w7.alloc (.cells (cgC x) 56)) := (Below.refl _ _).alloc (Nat.le_refl _) _
          have hx8 := CgAt.laid w7 x
          obtain ⟨w8, hw8⟩ : ∃ w8, w7.alloc (.cells (cgC x) 56) = w8 := ⟨_, rfl⟩
          rw [hw8] at hsl hb8 hx8
          have HO8 : Hid (w8.ownsRow w6.heap.size 56 46 v7 (A.take i).length ((A.take i).flatMap cgL)) := rowC_below HO7.out hb8
          have HB8 : Hid (Below w.heap.size w w8) := thenB HB7.out hb8
          have hs68 : w6.heap.size ≤ w8.heap.size := (thenB hb7 hb8).size
          have hrx : RdC w8 (.slice (some ⟨w7.heap.size, 0, none⟩) 1 1) [x] := ⟨_, _, rfl, (fun e => by cases e), fun _ => ⟨_, 0, rfl, hx8.lt, fun j u hj => by
            rw [cell_of_row _ _ _ _ _ (0, 0) hx8.row, Nat.zero_add]
            rw [List.flatMap_cons, List.flatMap_nil, List.append_nil] at hj
            rw [← Array.getElem?_toList]; exact hj⟩⟩
          go_wp2_with (first
            | (refine wpList_loadG rfl 56 _ rfl _ rfl _ hlx.out ?_)
            | (refine wpList_buildS rfl 23 1 _ rfl #[(0, .agg (cgC x))] (by kernel_rfl) hsl ?_)
            | (refine wpList_append_cg rfl _ _ rfl w6.heap.size v7 (A.take i) rfl HO8.out _ [x] hx1 rfl hrx (by have := HL6.out; simp only [List.length_cons, List.length_nil]; omega) hs68 ?_))
          intro v9 w9 ho9 hg9
          have HO9 : Hid (w9.ownsRow w6.heap.size 56 46 v9 (A.take i ++ [x]).length ((A.take i ++ [x]).flatMap cgL)) := ho9.own
          have hb69 : Below w6.heap.size w6 w9 := (thenB hb7 hb8).grown hg9 hs68 (fun q hq => (World.ownsRow.lt HO8.out q hq).1)
          have hs69 := hb69.size
          have HR9 : Hid (RdC w9 (.slice ua n uc) A) := HR6.out.below hb69
          have hun : ua = none → uc = 0 := fun e => by obtain ⟨a', c', e', z1, _⟩ := HR6.out; simp only [Value.slice.injEq] at e'; obtain ⟨rfl, _, rfl⟩ := e'; exact z1 e
          obtain ⟨CA, HCA⟩ : ∃ CA, Hid (cutC ua uc i = CA) := ⟨_, rfl⟩
          have HRC : Hid (RdC w9 (.slice CA (n - i) (uc - i)) (A.drop i)) := by unfold Hid; rw [← HCA.out]; exact rdC_cut hAok.ok HR9.out i hi hcap1
          clear hx6 hx7 hx8 hlx hsl hrx
          go_wp2_with (first
            | (refine wpList_sliceC rfl _ _ rfl ua n uc i rfl rfl hi hcap1 hun ?_; rw [HCA.out])
            | (refine wpList_append_cg rfl _ _ rfl w6.heap.size v9 (A.take i ++ [x]) rfl HO9.out _ (A.drop i) hAd rfl HRC.out (by have := HL6.out; simp only [List.length_append, List.length_cons, List.length_nil]; omega) hs69 ?_))
          intro vA wA hoA hgA
          have HBA : Hid (Below w.heap.size w wA) := thenB HB6.out (hb69.grown hgA hs69 (fun q hq => (World.ownsRow.lt HO9.out q hq).1))
          have HOA : Hid (wA.ownsRow w.heap.size 56 46 vA (upX s xs (k + 1)).length ((upX s xs (k + 1)).flatMap cgL)) := by unfold Hid; rw [HA2.out, HS2.out]; exact rowC_mono hoA.own hs6
          clear hoA hgA
          go_wp2_with fail
          go_roundw
          case rel => exact ⟨k + 1, by omega, by go_num, HOA, HBA⟩
          case measure => simp [intOf]; omega
    · obtain rfl : k = N := by omega
      have hltI : ¬ (k : Int) < k := by omega
      have hA := upX_all hr hs
      rw [HN.out] at hA
      rw [hA] at HO
      go_wp2
      go_ret
      exact ⟨_, rfl, HO.out, HB.out⟩

set_option maxRecDepth 100000

/-- What a call on the document's delta leaves. -/
structure KeepX (p : Nat) (w w' : World) : Prop where
  os : w'.os = w.os
  tape : w'.tape = w.tape
  output : w'.output = w.output
  size : w.heap.size ≤ w'.heap.size
  block : ∀ k, k < w.heap.size → k ≠ p → w'.heap[k]? = w.heap[k]?
theorem KeepX.of_below {p : Nat} {w w' : World} (h : Below w.heap.size w w') : KeepX p w w' := ⟨h.os, h.tape, h.output, h.size, fun k hk _ => h.block k hk⟩

/-- One change more behind a row that is full: a new row. -/
theorem run_append_cg (w : World) (a : Option Addr) (A : List Cg) (hA : ∀ c ∈ A, CgOk c) (h : RdC w (.slice a A.length A.length) A) (hlen : A.length ≤ 1000000) (g0 : Nat) (c : Cg) (hc : CgOk c) (hg0 : CgAt w g0 c) (ty : TypeId) :
    ∃ v W, (Builtin.append_ #[23, 23] ty #[.slice a A.length A.length, .slice (some ⟨g0, 0, none⟩) 1 1]).run Tryz.prog w = .ok v W ∧ W.ownsRow w.heap.size 56 46 v (A ++ [c]).length ((A ++ [c]).flatMap cgL) ∧ Below w.heap.size w W := by
  obtain ⟨i, hi, hz0, hz1, hz2⟩ := info3 info_cg
  have hcl := cgL_len hc.pt.ch.1
  have hsrc := Src.ofSlice (P := Tryz.prog) w (size := i.size) (tx := 23) Tryz.underlying23 ⟨g0, 0, none⟩ 1 1 (cgL c) (by rw [hz1, hcl]) (fun j u hj => by
    have hadd : (⟨g0, 0, none⟩ : Addr).add j = ⟨g0, j, none⟩ := by unfold Addr.add; split <;> simp_all
    rw [hadd, cell_of_row w g0 j _ _ (0, 0) hg0.row, ← hj]
    exact List.getElem?_toArray) (one_cgL c)
  have hold : (Builtin.firstCells i.size A.length (.slice a A.length A.length)).run Tryz.prog w.drew = .ok (A.flatMap cgL).toArray w.drew := by
    obtain ⟨a', c', e, _, h4⟩ := h
    simp only [Value.slice.injEq] at e
    obtain ⟨rfl, _, _⟩ := e
    rcases Nat.eq_zero_or_pos A.length with h0 | hp
    · obtain rfl : A = [] := List.eq_nil_of_length_eq_zero h0
      cases a with
      | none => simp [Builtin.firstCells]
      | some ad => simpa using run_firstCells_some (P := Tryz.prog) w.drew i.size 0 ad 0 0 [] (by simp) (fun j u hj => by simp at hj)
    · obtain ⟨b, off, rfl, hb, hcs⟩ := h4 hp
      refine run_firstCells_some (P := Tryz.prog) w.drew i.size A.length ⟨b, off, none⟩ A.length A.length _ (by rw [hz1, flatC_len hA]) (fun j u hj => ?_)
      have hadd : (⟨b, off, none⟩ : Addr).add j = ⟨b, off + j, none⟩ := by unfold Addr.add; split <;> simp_all
      rw [hadd]
      exact hcs j u hj
  have hr := run_append_grow_src (P := Tryz.prog) w 23 23 ty 56 i (.agg (cgC cg0)) Tryz.underlying23 hi hz0 a A.length A.length _ hold _ 1 _ hsrc (by omega) (by omega) (by rw [hz2]; exact growslice_fits (by omega) (by omega))
  obtain ⟨cp, hge, hcm, hce⟩ : ∃ cp, A.length + 1 ≤ cp ∧ cp ≤ maxLen ∧ cp = grownCap w (A.length + 1) A.length 56 := ⟨_, grownCap_ge w _ _ _, grownCap_le_maxLen w _ _ _ (by unfold maxLen; omega), rfl⟩
  rw [← hce] at hr
  have hzl : (Builtin.zeroCells (Value.agg (cgC cg0)).cells (cp - (A.length + 1))).size = (cp - (A.length + 1)) * 46 := by
    rw [show (Value.agg (cgC cg0)).cells = cgC cg0 from rfl, size_zeroCells, cgC_size cg0_ok.pt.ch.1]
  have hfl := flatC_len hA
  refine ⟨_, _, hr, ?_, (Below.refl _ w).drew.alloc (Nat.le_refl _) _⟩
  have hl1 : ((A ++ [c]).flatMap cgL) = A.flatMap cgL ++ cgL c := by simp
  have hln : (A ++ [c]).length = A.length + 1 := by simp
  rw [hl1, hln]
  refine ⟨by rw [List.length_append, hfl, hcl]; omega, .inr ⟨w.heap.size, cp, _, rfl, Nat.le_refl _, heap_alloc_new w.drew _, hge, hcm, ?_, ?_⟩⟩
  · rw [Array.size_append, hzl, List.size_toArray, List.length_append, hfl, hcl]
    have : cp = A.length + 1 + (cp - (A.length + 1)) := by omega
    rw [this, Nat.add_mul, Nat.add_mul, show A.length + 1 + (cp - (A.length + 1)) - (A.length + 1) = cp - (A.length + 1) by omega, Nat.one_mul]
  · rw [Array.toList_append]
    show ((A.flatMap cgL ++ cgL c) ++ _).take _ = A.flatMap cgL ++ cgL c
    rw [List.take_append_of_le_length (by rw [List.length_append, hfl, hcl]; omega)]
    exact List.take_of_length_le (by rw [List.length_append, hfl, hcl]; omega)

theorem cut3_run (w : World) (a : Option Addr) (n c : Nat) (hc : n ≤ c) : (Instr.sliceAt 23 (.slice a n c) none (some (.int .i64 n)) (some (.int .i64 n))).run Tryz.prog w = .ok (.slice a n n) w := by
  have u := Tryz.underlying23
  have h2 : (n : Int) ≤ (c : Int) := by omega
  go_simp

theorem put_err {s : Dl} {c : Cg} (h : ckOk c = false) : (putX s c).2 = 1 := by unfold putX behX; rw [h]; rfl
theorem put_full {s : Dl} {c : Cg} (h : ckOk c = true) (hi : isX s c.pl = false) (hb : (s.L.length : Int) ≥ s.most) : (putX s c).2 = 201 := by unfold putX behX; rw [h, hi, if_pos rfl, if_neg (by decide), if_pos hb]
theorem put_fine {s : Dl} {c : Cg} (h : ckOk c = true) (hi : isX s c.pl = false) (hb : ¬ (s.L.length : Int) ≥ s.most) : (putX s c).2 = 0 := by unfold putX behX; rw [h, hi, if_pos rfl, if_neg (by decide), if_neg hb]
theorem put_join {s : Dl} {c : Cg} (h : ckOk c = true) (hi : isX s c.pl = true) : (putX s c).2 = (joinX (wasX s c.pl) c).2 := by unfold putX behX; rw [h, hi, if_pos rfl, if_pos rfl]

set_option maxHeartbeats 8000000 in
theorem xput_any {w : World} {p : Nat} {v : Value} {M : Int} {xs : List Cg} {s : Dl} (hX : XdAt w p v M xs) (hr : Rel s xs) (hs : DlOk s) (hM : M = s.most) (hm : xs.length ≤ 1000) (hmL : s.L.length ≤ 1000) (c : Cg) (hc : CgOk c) : Calls Tryz.prog 33 #[.pointer (some ⟨p, 0, none⟩), .agg (cgC c)] w fun e w' =>
    e = .returned (.int .i64 (putX s c).2) ∧ ∃ v', XdAt w' p v' M (if (putX s c).2 = 0 then xs ++ [c] else xs) ∧ KeepX p w w' ∧ (∀ k, v'.ownBlock = some k → v.ownBlock = some k ∨ w.heap.size ≤ k) := by
  have HM : Hid (M = s.most) := hM
  clear hM
  have hz := zeroCg
  have len0 : cg0.pt.bytes.length = 32 := cg0_ok.pt.ch.1
  have HC : Hid (c.pt.bytes.length = 32) := hc.pt.ch.1
  have hwok := getL_ok hs.L c.pl
  have HW : Hid ((wasX s c.pl).pt.bytes.length = 32) := hwok.pt.ch.1
  have al : ∀ (A : World) (o : Obj), Below A.heap.size A (A.alloc o) := fun A o => (Below.refl _ A).alloc (Nat.le_refl _) o
  have hc1 := CgAt.laid w c
  have hB1 := al w (.cells (cgC c) 56)
  obtain ⟨w1, hw1⟩ : ∃ w1, w.alloc (.cells (cgC c) 56) = w1 := ⟨_, rfl⟩
  rw [hw1] at hc1 hB1
  have hl1 : Hid _ := hc1.load HC.out
  have ck := rck_any w1 c hc
  obtain ⟨er, her⟩ : ∃ er, (putX s c).2 = er := ⟨_, rfl⟩
  rw [her]
  go_enter Tryz.func33, Tryz.ntmps33
  go_wp2_with (refine wpList_loadG rfl 56 _ rfl _ rfl _ hl1.out ?_)
  refine ck.mono ?_
  rintro e w2 ⟨rfl, hb2⟩
  clear ck
  have hB2 := thenB hB1 hb2
  have hc2 := hc1.below hb2
  by_cases hck : ckOk c = true
  · have e1 : ckE c = 0 := by unfold ckE; rw [hck]; rfl
    rw [e1]
    clear e1
    have hX2 := hX.below hB2
    have hp2 : Hid _ := hc2.loadP
    have cg : Calls Tryz.prog 24 #[.pointer (some ⟨p, 0, none⟩), plV c.pl] w2 fun e w' => e = .returned (.tuple #[.agg (cgC (wasX s c.pl)), .bool (isX s c.pl)]) ∧ Below w2.heap.size w2 w' := by
      have := xget_any hX2 c.pl hc.pl
      rw [← hr.now c.pl] at this
      exact this
    go_wp2_with (refine wpList_loadG rfl 26 _ rfl _ rfl _ hp2.out ?_)
    refine cg.mono ?_
    rintro e w3 ⟨rfl, hb3⟩
    clear cg hp2
    have hn4 := CgAt.laid w3 cg0
    have hb4 := alloc_row (A := w3) (.cells (cgC cg0) 56) (cgC (wasX s c.pl))
    have ho4 := hn4.setRow (wasX s c.pl)
    obtain ⟨w4, hw4⟩ : ∃ w4, (w3.alloc (.cells (cgC cg0) 56)).setRow w3.heap.size (cgC (wasX s c.pl)) = w4 := ⟨_, rfl⟩
    rw [hw4] at hb4 ho4
    have hB4 := thenB (thenB hB2 hb3) hb4
    have hc4 := (hc2.below hb3).below hb4
    have hX4 := hX.below hB4
    have lo4 : Hid _ := ho4.load HW.out
    have lc4 : Hid _ := hc4.load HC.out
    cases his : isX s c.pl
    · go_wp2_with (first
        | (refine wpList_storeG rfl _ _ rfl w3.heap.size (wasX s c.pl) cg0 rfl rfl HW.out len0 hn4 ?_; rw [hw4]))
      have c41 := hX4.c1
      have ca := fun (W : World) (hW : Below w4.heap.size w4 W) => xall_any (hX4.below hW) hr hs hm hmL
      have q5 : ∀ W, Below w4.heap.size w4 W → W.cell? ⟨p, 1, none⟩ = some (.int .i64 M) := fun W hW => (hX4.below hW).c1
      obtain ⟨nl, hnl⟩ : ∃ nl, s.L.length = nl := ⟨_, rfl⟩
      by_cases hbig : (nl : Int) ≥ M
      · have e2 : er = 201 := by rw [← her]; exact put_full hck his (by rw [hnl, ← HM.out]; exact hbig)
        subst e2
        go_wp2_with fail
        refine wp_region_noPanic ?_
        refine wp_region_held_drew (S := fun W => Below w4.heap.size w4 W) (by kernel_rfl) (Below.refl _ _).drew (fun hHeld => ?_)
        refine wpAnyH_take (i := 0) (v := .pointer (some ⟨p, 0, none⟩)) rfl (by kernel_rfl) (by kernel_rfl) (by kernel_rfl) (fun _ _ _ h => h) (Or.inl ⟨by rfl, fun W hSw => by (try dsimp only at hSw); go_simp⟩) (by assumption) ?_
        try simp only [List.getElem_toArray, List.getElem_cons_zero, List.getElem_cons_succ, Act.put, List.setIfInBounds_toArray, List.set_cons_zero, List.set_cons_succ]
        refine wpAnyH_take (i := 3) (v := .pointer (some ⟨p, 0, none⟩)) rfl (by kernel_rfl) (by kernel_rfl) (by kernel_rfl) (fun _ _ _ h => h) (Or.inl ⟨by rfl, fun W hSw => by (try dsimp only at hSw); go_simp⟩) (by assumption) ?_
        try simp only [List.getElem_toArray, List.getElem_cons_zero, List.getElem_cons_succ, Act.put, List.setIfInBounds_toArray, List.set_cons_zero, List.set_cons_succ]
        refine wpAnyH_take (i := 4) (v := .pointer (some ⟨p, 0, none⟩)) rfl (by kernel_rfl) (by kernel_rfl) (by kernel_rfl) (fun _ _ _ h => h) (Or.inl ⟨by rfl, fun W hSw => by (try dsimp only at hSw); go_simp⟩) (by assumption) ?_
        try simp only [List.getElem_toArray, List.getElem_cons_zero, List.getElem_cons_succ, Act.put, List.setIfInBounds_toArray, List.set_cons_zero, List.set_cons_succ]
        refine wpAnyH_take (i := 5) (v := .pointer (some ⟨p, 1, none⟩)) rfl (by kernel_rfl) (by kernel_rfl) (by kernel_rfl) (fun _ _ _ h => h) (Or.inl ⟨by rfl, fun W hSw => by (try dsimp only at hSw); go_simp⟩) (by assumption) ?_
        try simp only [List.getElem_toArray, List.getElem_cons_zero, List.getElem_cons_succ, Act.put, List.setIfInBounds_toArray, List.set_cons_zero, List.set_cons_succ]
        refine wpAnyH_take (i := 6) (v := .int .i64 M) rfl (by kernel_rfl) (by kernel_rfl) (by kernel_rfl) (fun _ _ _ h => h) (Or.inl ⟨by rfl, fun W hSw => by (try dsimp only at hSw); (have z := q5 W hSw; go_simp)⟩) (by assumption) ?_
        try simp only [List.getElem_toArray, List.getElem_cons_zero, List.getElem_cons_succ, Act.put, List.setIfInBounds_toArray, List.set_cons_zero, List.set_cons_succ]
        refine wpAnyH_ready (rs := [1]) (by kernel_rfl) (by simp) ?_
        refine AllReadyH.cons rfl (fun K hK => ?_) AllReadyH.nil
        go_simp
        go_wp2_with (go_at_call 15; refine (ca _ (by assumption)).mono ?_; rintro e w5 ⟨u, rfl, hu, hb5⟩)
        obtain ⟨ua, uc, rfl⟩ := own_shape hu
        rw [hnl]
        refine hK.out _ _ (thenB (by assumption) hb5) (fun hHeld2 => ?_)
        clear hK K hu
        try simp only [List.getElem_toArray, List.getElem_cons_zero, List.getElem_cons_succ, Act.put, List.setIfInBounds_toArray, List.set_cons_zero, List.set_cons_succ]
        refine wpAnyH_take (i := 2) (v := .int .i64 nl) rfl (by kernel_rfl) (by kernel_rfl) (by kernel_rfl) (fun _ _ _ h => h) (Or.inl ⟨by rfl, fun W hSw => by (try dsimp only at hSw); go_simp⟩) (by assumption) ?_
        try simp only [List.getElem_toArray, List.getElem_cons_zero, List.getElem_cons_succ, Act.put, List.setIfInBounds_toArray, List.set_cons_zero, List.set_cons_succ]
        refine wpAnyH_take (i := 7) (v := .bool true) rfl (by kernel_rfl) (by kernel_rfl) (by kernel_rfl) (fun _ _ _ h => h) (Or.inl ⟨by rfl, fun W hSw => by (try dsimp only at hSw); go_simp⟩) (by assumption) ?_
        try simp only [List.getElem_toArray, List.getElem_cons_zero, List.getElem_cons_succ, Act.put, List.setIfInBounds_toArray, List.set_cons_zero, List.set_cons_succ]
        refine wpAnyH_done (by kernel_rfl) ?_ _
        refine NoPanic.normal ?_
        have hB6 := thenB hB4 hHeld2
        go_wp2_with fail
        go_ret
        exact ⟨rfl, v, by first | exact hX.below hB6 | (rw [if_neg (by decide)]; exact hX.below hB6), KeepX.of_below hB6, fun k hk => .inl hk⟩
      · have e2 : er = 0 := by rw [← her]; exact put_fine hck his (by rw [hnl, ← HM.out]; exact hbig)
        subst e2
        go_wp2_with fail
        refine wp_region_noPanic ?_
        refine wp_region_held_drew (S := fun W => Below w4.heap.size w4 W) (by kernel_rfl) (Below.refl _ _).drew (fun hHeld => ?_)
        refine wpAnyH_take (i := 0) (v := .pointer (some ⟨p, 0, none⟩)) rfl (by kernel_rfl) (by kernel_rfl) (by kernel_rfl) (fun _ _ _ h => h) (Or.inl ⟨by rfl, fun W hSw => by (try dsimp only at hSw); go_simp⟩) (by assumption) ?_
        try simp only [List.getElem_toArray, List.getElem_cons_zero, List.getElem_cons_succ, Act.put, List.setIfInBounds_toArray, List.set_cons_zero, List.set_cons_succ]
        refine wpAnyH_take (i := 3) (v := .pointer (some ⟨p, 0, none⟩)) rfl (by kernel_rfl) (by kernel_rfl) (by kernel_rfl) (fun _ _ _ h => h) (Or.inl ⟨by rfl, fun W hSw => by (try dsimp only at hSw); go_simp⟩) (by assumption) ?_
        try simp only [List.getElem_toArray, List.getElem_cons_zero, List.getElem_cons_succ, Act.put, List.setIfInBounds_toArray, List.set_cons_zero, List.set_cons_succ]
        refine wpAnyH_take (i := 4) (v := .pointer (some ⟨p, 0, none⟩)) rfl (by kernel_rfl) (by kernel_rfl) (by kernel_rfl) (fun _ _ _ h => h) (Or.inl ⟨by rfl, fun W hSw => by (try dsimp only at hSw); go_simp⟩) (by assumption) ?_
        try simp only [List.getElem_toArray, List.getElem_cons_zero, List.getElem_cons_succ, Act.put, List.setIfInBounds_toArray, List.set_cons_zero, List.set_cons_succ]
        refine wpAnyH_take (i := 5) (v := .pointer (some ⟨p, 1, none⟩)) rfl (by kernel_rfl) (by kernel_rfl) (by kernel_rfl) (fun _ _ _ h => h) (Or.inl ⟨by rfl, fun W hSw => by (try dsimp only at hSw); go_simp⟩) (by assumption) ?_
        try simp only [List.getElem_toArray, List.getElem_cons_zero, List.getElem_cons_succ, Act.put, List.setIfInBounds_toArray, List.set_cons_zero, List.set_cons_succ]
        refine wpAnyH_take (i := 6) (v := .int .i64 M) rfl (by kernel_rfl) (by kernel_rfl) (by kernel_rfl) (fun _ _ _ h => h) (Or.inl ⟨by rfl, fun W hSw => by (try dsimp only at hSw); (have z := q5 W hSw; go_simp)⟩) (by assumption) ?_
        try simp only [List.getElem_toArray, List.getElem_cons_zero, List.getElem_cons_succ, Act.put, List.setIfInBounds_toArray, List.set_cons_zero, List.set_cons_succ]
        refine wpAnyH_ready (rs := [1]) (by kernel_rfl) (by simp) ?_
        refine AllReadyH.cons rfl (fun K hK => ?_) AllReadyH.nil
        go_simp
        go_wp2_with (go_at_call 15; refine (ca _ (by assumption)).mono ?_; rintro e w5 ⟨u, rfl, hu, hb5⟩)
        obtain ⟨ua, uc, rfl⟩ := own_shape hu
        rw [hnl]
        refine hK.out _ _ (thenB (by assumption) hb5) (fun hHeld2 => ?_)
        clear hK K hu
        try simp only [List.getElem_toArray, List.getElem_cons_zero, List.getElem_cons_succ, Act.put, List.setIfInBounds_toArray, List.set_cons_zero, List.set_cons_succ]
        refine wpAnyH_take (i := 2) (v := .int .i64 nl) rfl (by kernel_rfl) (by kernel_rfl) (by kernel_rfl) (fun _ _ _ h => h) (Or.inl ⟨by rfl, fun W hSw => by (try dsimp only at hSw); go_simp⟩) (by assumption) ?_
        try simp only [List.getElem_toArray, List.getElem_cons_zero, List.getElem_cons_succ, Act.put, List.setIfInBounds_toArray, List.set_cons_zero, List.set_cons_succ]
        refine wpAnyH_take (i := 7) (v := .bool false) rfl (by kernel_rfl) (by kernel_rfl) (by kernel_rfl) (fun _ _ _ h => h) (Or.inl ⟨by rfl, fun W hSw => by (try dsimp only at hSw); go_simp⟩) (by assumption) ?_
        try simp only [List.getElem_toArray, List.getElem_cons_zero, List.getElem_cons_succ, Act.put, List.setIfInBounds_toArray, List.set_cons_zero, List.set_cons_succ]
        refine wpAnyH_done (by kernel_rfl) ?_ _
        refine NoPanic.normal ?_
        have HBW : Hid (Below w.heap.size w w5) := thenB hB4 hHeld2
        have hcW := hc4.below hHeld2
        obtain ⟨wt, rfl⟩ : ∃ wt, wt = w5 := ⟨_, rfl⟩
        clear hHeld hHeld2 ca q5 c41 hX4 hX2
        go_wp2_with fail
        obtain ⟨a0, cap0, rfl, hlc0, hcm0, hrw0⟩ := xrow_of hX.ok hX.at_
        have hXq := hX.below HBW.out
        have HRD : Hid (RdC wt (.slice a0 xs.length xs.length) xs) := by
          obtain ⟨a', c', e, z1, z2⟩ := rdC_own hXq.at_
          simp only [Value.slice.injEq] at e
          obtain ⟨rfl, _, rfl⟩ := e
          exact ⟨_, _, rfl, fun hn => by have := z1 hn; omega, z2⟩
        have HRT : Hid (wt.heap[p]? = some (.cells (xdC (.slice a0 xs.length cap0) M) 105 (0, 0))) := hXq.row
        have hXok := hX.ok
        have hold : ∀ k, (Value.slice a0 xs.length cap0).ownBlock = some k → k < w.heap.size := fun k hk => (World.ownsRow.lt hX.at_ k hk).2
        have hpl := hX.lt
        have hsW := HBW.out.size
        clear hXq hrw0
        obtain ⟨n, hn⟩ : ∃ n, xs.length = n := ⟨_, rfl⟩
        have HN : Hid (xs.length = n) := hn
        rw [hn] at hlc0 hm
        have q0 : ∀ W, Below wt.heap.size wt W → (Instr.loadAt 23 (.pointer (some ⟨p, 0, none⟩))).run Tryz.prog W = .ok (.slice a0 n cap0) W := fun W hW => by
          have e := (hW.block p (by omega)).trans HRT.out
          have c : W.cell? ⟨p, 0, none⟩ = some (.slice a0 n cap0) := by rw [cell_of_row _ _ _ _ _ (0, 0) e, ← HN.out]; rfl
          have u := Tryz.underlying23
          go_simp
        have q1 : ∀ W, Below wt.heap.size wt W → CgAt W w.heap.size c := fun W hW => hcW.below hW
        have hbs := fun W => slice_cg c HC.out W
        have hct := fun W => cut3_run W a0 n cap0 hlc0
        clear hn
        refine wp_region_noPanic ?_
        refine wp_region_sink 21 (S := fun W => Below wt.heap.size wt W) (by kernel_rfl) (by kernel_rfl) (Below.refl _ _).drew (fun hHeld => ?_)
        refine wpAnyH_take (i := 0) (v := .pointer (some ⟨p, 0, none⟩)) rfl (by kernel_rfl) (by kernel_rfl) (by kernel_rfl) (fun _ _ _ h => h) (Or.inl ⟨by rfl, fun W hSw => by (try dsimp only at hSw); go_simp⟩) (by assumption) ?_
        try simp only [List.getElem_toArray, List.getElem_cons_zero, List.getElem_cons_succ, Act.put, List.setIfInBounds_toArray, List.set_cons_zero, List.set_cons_succ]
        refine wpAnyH_take (i := 1) (v := .pointer (some ⟨p, 0, none⟩)) rfl (by kernel_rfl) (by kernel_rfl) (by kernel_rfl) (fun _ _ _ h => h) (Or.inl ⟨by rfl, fun W hSw => by (try dsimp only at hSw); go_simp⟩) (by assumption) ?_
        try simp only [List.getElem_toArray, List.getElem_cons_zero, List.getElem_cons_succ, Act.put, List.setIfInBounds_toArray, List.set_cons_zero, List.set_cons_succ]
        refine wpAnyH_take (i := 2) (v := .pointer (some ⟨p, 0, none⟩)) rfl (by kernel_rfl) (by kernel_rfl) (by kernel_rfl) (fun _ _ _ h => h) (Or.inl ⟨by rfl, fun W hSw => by (try dsimp only at hSw); go_simp⟩) (by assumption) ?_
        try simp only [List.getElem_toArray, List.getElem_cons_zero, List.getElem_cons_succ, Act.put, List.setIfInBounds_toArray, List.set_cons_zero, List.set_cons_succ]
        refine wpAnyH_take (i := 3) (v := .pointer (some ⟨p, 0, none⟩)) rfl (by kernel_rfl) (by kernel_rfl) (by kernel_rfl) (fun _ _ _ h => h) (Or.inl ⟨by rfl, fun W hSw => by (try dsimp only at hSw); go_simp⟩) (by assumption) ?_
        try simp only [List.getElem_toArray, List.getElem_cons_zero, List.getElem_cons_succ, Act.put, List.setIfInBounds_toArray, List.set_cons_zero, List.set_cons_succ]
        refine wpAnyH_take (i := 4) (v := .slice a0 n cap0) rfl (by kernel_rfl) (by kernel_rfl) (by kernel_rfl) (fun _ _ _ h => h) (yields_load (by rfl) _ _ rfl _ rfl _ q0) (by assumption) ?_
        try simp only [List.getElem_toArray, List.getElem_cons_zero, List.getElem_cons_succ, Act.put, List.setIfInBounds_toArray, List.set_cons_zero, List.set_cons_succ]
        refine wpAnyH_take (i := 5) (v := .pointer (some ⟨p, 0, none⟩)) rfl (by kernel_rfl) (by kernel_rfl) (by kernel_rfl) (fun _ _ _ h => h) (Or.inl ⟨by rfl, fun W hSw => by (try dsimp only at hSw); go_simp⟩) (by assumption) ?_
        try simp only [List.getElem_toArray, List.getElem_cons_zero, List.getElem_cons_succ, Act.put, List.setIfInBounds_toArray, List.set_cons_zero, List.set_cons_succ]
        refine wpAnyH_take (i := 6) (v := .pointer (some ⟨p, 0, none⟩)) rfl (by kernel_rfl) (by kernel_rfl) (by kernel_rfl) (fun _ _ _ h => h) (Or.inl ⟨by rfl, fun W hSw => by (try dsimp only at hSw); go_simp⟩) (by assumption) ?_
        try simp only [List.getElem_toArray, List.getElem_cons_zero, List.getElem_cons_succ, Act.put, List.setIfInBounds_toArray, List.set_cons_zero, List.set_cons_succ]
        refine wpAnyH_take (i := 7) (v := .pointer (some ⟨p, 0, none⟩)) rfl (by kernel_rfl) (by kernel_rfl) (by kernel_rfl) (fun _ _ _ h => h) (Or.inl ⟨by rfl, fun W hSw => by (try dsimp only at hSw); go_simp⟩) (by assumption) ?_
        try simp only [List.getElem_toArray, List.getElem_cons_zero, List.getElem_cons_succ, Act.put, List.setIfInBounds_toArray, List.set_cons_zero, List.set_cons_succ]
        refine wpAnyH_take (i := 8) (v := .slice a0 n cap0) rfl (by kernel_rfl) (by kernel_rfl) (by kernel_rfl) (fun _ _ _ h => h) (yields_load (by rfl) _ _ rfl _ rfl _ q0) (by assumption) ?_
        try simp only [List.getElem_toArray, List.getElem_cons_zero, List.getElem_cons_succ, Act.put, List.setIfInBounds_toArray, List.set_cons_zero, List.set_cons_succ]
        refine wpAnyH_take (i := 9) (v := .int .i64 n) rfl (by kernel_rfl) (by kernel_rfl) (by kernel_rfl) (fun _ _ _ h => h) (Or.inl ⟨by rfl, fun W hSw => by (try dsimp only at hSw); go_simp⟩) (by assumption) ?_
        try simp only [List.getElem_toArray, List.getElem_cons_zero, List.getElem_cons_succ, Act.put, List.setIfInBounds_toArray, List.set_cons_zero, List.set_cons_succ]
        refine wpAnyH_take (i := 10) (v := .pointer (some ⟨p, 0, none⟩)) rfl (by kernel_rfl) (by kernel_rfl) (by kernel_rfl) (fun _ _ _ h => h) (Or.inl ⟨by rfl, fun W hSw => by (try dsimp only at hSw); go_simp⟩) (by assumption) ?_
        try simp only [List.getElem_toArray, List.getElem_cons_zero, List.getElem_cons_succ, Act.put, List.setIfInBounds_toArray, List.set_cons_zero, List.set_cons_succ]
        refine wpAnyH_take (i := 11) (v := .pointer (some ⟨p, 0, none⟩)) rfl (by kernel_rfl) (by kernel_rfl) (by kernel_rfl) (fun _ _ _ h => h) (Or.inl ⟨by rfl, fun W hSw => by (try dsimp only at hSw); go_simp⟩) (by assumption) ?_
        try simp only [List.getElem_toArray, List.getElem_cons_zero, List.getElem_cons_succ, Act.put, List.setIfInBounds_toArray, List.set_cons_zero, List.set_cons_succ]
        refine wpAnyH_take (i := 12) (v := .pointer (some ⟨p, 0, none⟩)) rfl (by kernel_rfl) (by kernel_rfl) (by kernel_rfl) (fun _ _ _ h => h) (Or.inl ⟨by rfl, fun W hSw => by (try dsimp only at hSw); go_simp⟩) (by assumption) ?_
        try simp only [List.getElem_toArray, List.getElem_cons_zero, List.getElem_cons_succ, Act.put, List.setIfInBounds_toArray, List.set_cons_zero, List.set_cons_succ]
        refine wpAnyH_take (i := 13) (v := .slice a0 n cap0) rfl (by kernel_rfl) (by kernel_rfl) (by kernel_rfl) (fun _ _ _ h => h) (yields_load (by rfl) _ _ rfl _ rfl _ q0) (by assumption) ?_
        try simp only [List.getElem_toArray, List.getElem_cons_zero, List.getElem_cons_succ, Act.put, List.setIfInBounds_toArray, List.set_cons_zero, List.set_cons_succ]
        refine wpAnyH_take (i := 14) (v := .int .i64 n) rfl (by kernel_rfl) (by kernel_rfl) (by kernel_rfl) (fun _ _ _ h => h) (Or.inl ⟨by rfl, fun W hSw => by (try dsimp only at hSw); go_simp⟩) (by assumption) ?_
        try simp only [List.getElem_toArray, List.getElem_cons_zero, List.getElem_cons_succ, Act.put, List.setIfInBounds_toArray, List.set_cons_zero, List.set_cons_succ]
        refine wpAnyH_take (i := 15) (v := .slice a0 n n) rfl (by kernel_rfl) (by kernel_rfl) (by kernel_rfl) (fun _ _ _ h => h) (Or.inl ⟨by rfl, fun W hSw => by (try dsimp only at hSw); (have q := hct W; go_simp)⟩) (by assumption) ?_
        try simp only [List.getElem_toArray, List.getElem_cons_zero, List.getElem_cons_succ, Act.put, List.setIfInBounds_toArray, List.set_cons_zero, List.set_cons_succ]
        refine wpAnyH_take (i := 16) (v := .agg (cgC c)) rfl (by kernel_rfl) (by kernel_rfl) (by kernel_rfl) (fun _ _ _ h => h) (yields_load (by rfl) _ _ rfl _ rfl _ (fun W hW => (q1 W hW).load HC.out)) (by assumption) ?_
        try simp only [List.getElem_toArray, List.getElem_cons_zero, List.getElem_cons_succ, Act.put, List.setIfInBounds_toArray, List.set_cons_zero, List.set_cons_succ]
        refine wpAnyH_ready (rs := [17]) (by kernel_rfl) (by simp) ?_
        refine AllReadyH.cons rfl (fun K hK => ?_) AllReadyH.nil
        rw [if_pos (by rfl)]
        refine wp_buildS 23 1 _ rfl #[(0, .agg (cgC c))] (by kernel_rfl) (hbs _) ?_
        have hb6 : Below wt.heap.size wt (wt.drew.alloc (.cells (cgC c) 56)) := (Below.refl _ wt).drew.alloc (Nat.le_refl _) _
        refine hK.out _ _ hb6 (fun hHeld2 => ?_)
        clear hK K
        try simp only [List.getElem_toArray, List.getElem_cons_zero, List.getElem_cons_succ, Act.put, List.setIfInBounds_toArray, List.set_cons_zero, List.set_cons_succ]
        have hx6 := CgAt.laid wt.drew c
        obtain ⟨w6, hw6⟩ : ∃ w6, (wt.drew.alloc (.cells (cgC c) 56)) = w6 := ⟨_, rfl⟩
        rw [hw6] at hb6 hx6 hHeld2 ⊢
        refine wpAnyH_ready (rs := [18]) (by kernel_rfl) (by simp) ?_
        refine AllReadyH.cons rfl (fun K hK => ?_) AllReadyH.nil
        rw [if_pos (by rfl)]
        obtain ⟨v7, w7, hrun, h7o, h7b⟩ := run_append_cg w6 a0 xs hXok (HRD.out.below hb6) (by have := HN.out; omega) _ c hc hx6 23
        rw [HN.out] at hrun
        obtain ⟨a7, cap7, rfl⟩ := own_shape h7o
        refine wp_app _ _ 23 rfl _ _ rfl rfl hrun ?_
        have hb7 : Below wt.heap.size wt w7 := thenB hb6 h7b
        refine hK.out _ _ hb7 (fun hHeld4 => ?_)
        clear hK K
        try simp only [List.getElem_toArray, List.getElem_cons_zero, List.getElem_cons_succ, Act.put, List.setIfInBounds_toArray, List.set_cons_zero, List.set_cons_succ]
        refine wpAnyH_take (i := 19) (v := .pointer (some ⟨p, 0, none⟩)) rfl (by kernel_rfl) (by kernel_rfl) (by kernel_rfl) (fun _ _ _ h => h) (Or.inl ⟨by rfl, fun W hSw => by (try dsimp only at hSw); go_simp⟩) (by assumption) ?_
        try simp only [List.getElem_toArray, List.getElem_cons_zero, List.getElem_cons_succ, Act.put, List.setIfInBounds_toArray, List.set_cons_zero, List.set_cons_succ]
        refine wpAnyH_take (i := 20) (v := .pointer (some ⟨p, 0, none⟩)) rfl (by kernel_rfl) (by kernel_rfl) (by kernel_rfl) (fun _ _ _ h => h) (Or.inl ⟨by rfl, fun W hSw => by (try dsimp only at hSw); go_simp⟩) (by assumption) ?_
        try simp only [List.getElem_toArray, List.getElem_cons_zero, List.getElem_cons_succ, Act.put, List.setIfInBounds_toArray, List.set_cons_zero, List.set_cons_succ]
        have hG7 := (hb7.block p (by omega)).trans HRT.out
        have c70 : w7.cell? ⟨p, 0, none⟩ = some (.slice a0 n cap0) := by rw [cell_of_row _ _ _ _ _ (0, 0) hG7, ← HN.out]; rfl
        have f70 := frozen_of_row w7 p 0 _ _ hG7
        obtain ⟨n7, hn7⟩ : ∃ n7, (xs ++ [c]).length = n7 := ⟨_, rfl⟩
        have HN7 : Hid ((xs ++ [c]).length = n7) := hn7
        rw [hn7] at h7o
        try rw [hn7]
        have hG8 := heap_setCell_same w7 p 0 _ _ (.slice a7 n7 cap7) hG7
        obtain ⟨w8, hw8⟩ : ∃ w8, w7.setCell ⟨p, 0, none⟩ (.slice a7 n7 cap7) = w8 := ⟨_, rfl⟩
        have hS78 : Sole [p] w7 w8 := by rw [← hw8]; exact Sole.setCell _ _ (by simp)
        rw [hw8] at hG8
        have h7k : ∀ k, (Value.slice a7 n7 cap7).ownBlock = some k → w6.heap.size ≤ k := fun k hk => (World.ownsRow.lt h7o k hk).1
        have HO8 : Hid (w8.ownsRow 0 56 46 (.slice a7 n7 cap7) n7 ((xs ++ [c]).flatMap cgL)) := by
          have e1 := own_keep h7o hS78.size (fun k hk hl => hS78.block k hl (by have := h7k k hk; have := hb6.size; simp only [List.mem_singleton]; omega))
          obtain ⟨z1, z2 | ⟨g, cp, cur, z2, z3, z4⟩⟩ := e1
          · exact ⟨z1, .inl z2⟩
          · exact ⟨z1, .inr ⟨g, cp, cur, z2, Nat.zero_le _, z4⟩⟩
        have HG8 : Hid (w8.heap[p]? = some (.cells (xdC (.slice a7 n7 cap7) M) 105 (0, 0))) := hG8
        have HK8 : Hid (KeepX p w w8) := by
          have hbw7 : Below w.heap.size w w7 := thenB HBW.out hb7
          exact ⟨hS78.os.trans hbw7.os, hS78.tape.trans hbw7.tape, hS78.output.trans hbw7.output, Nat.le_trans hbw7.size hS78.size, fun k hk hkp => (hS78.block k (Nat.lt_of_lt_of_le hk hbw7.size) (by simpa using hkp)).trans (hbw7.block k hk)⟩
        have HW7 : Hid (∀ k, (Value.slice a7 n7 cap7).ownBlock = some k → (Value.slice a0 n cap0).ownBlock = some k ∨ w.heap.size ≤ k) := fun k hk => .inr (by have := h7k k hk; have := hb6.size; omega)
        refine wpAnyH_done (by kernel_rfl) ?_ _
        refine Behind.run (by rfl) ?_
        go_simp
        go_wp2
        refine NoPanic.normal ?_
        clear q0 q1 hrun h7o h7b hG7 hG8 c70 f70 hS78 hHeld hHeld2 hHeld4 hbs hct h7k
        go_wp2
        go_ret
        refine ⟨rfl, .slice a7 n7 cap7, ?_, ?_, by rw [HN.out]; exact HW7.out⟩
        · refine ⟨HG8.out, ?_, fun z hz => ?_⟩
          · try rw [if_pos rfl]
            rw [HN7.out]; exact HO8.out
          · try rw [if_pos rfl] at hz
            rcases List.mem_append.1 hz with hz | hz
            · exact hXok z hz
            · rw [List.mem_singleton] at hz; rw [hz]; exact hc
        · exact ⟨HK8.out.os, HK8.out.tape, HK8.out.output, HK8.out.size, HK8.out.block⟩
    · have her2 : er = (joinX (wasX s c.pl) c).2 := by rw [← her]; exact put_join hck his
      have cj := rj_any w4 (wasX s c.pl) c hwok hc
      go_wp2_with (first
        | (refine wpList_storeG rfl _ _ rfl w3.heap.size (wasX s c.pl) cg0 rfl rfl HW.out len0 hn4 ?_; rw [hw4])
        | (refine wpList_loadG rfl 56 _ rfl _ rfl _ lo4.out ?_)
        | (refine wpList_loadG rfl 56 _ rfl _ rfl _ lc4.out ?_))
      refine cj.mono ?_
      rintro e w5 ⟨rfl, hb5⟩
      clear cj
      have hjo := joinX_ok hwok hc
      have HJ : Hid ((joinX (wasX s c.pl) c).1.pt.bytes.length = 32) := hjo.pt.ch.1
      have hn6 := CgAt.laid w5 cg0
      have hb6' := alloc_row (A := w5) (.cells (cgC cg0) 56) (cgC (joinX (wasX s c.pl) c).1)
      obtain ⟨w6', hw6'⟩ : ∃ w6', (w5.alloc (.cells (cgC cg0) 56)).setRow w5.heap.size (cgC (joinX (wasX s c.pl) c).1) = w6' := ⟨_, rfl⟩
      rw [hw6'] at hb6'
      have hB6 := thenB (thenB hB4 hb5) hb6'
      obtain ⟨jn, hjn⟩ : ∃ jn, (joinX (wasX s c.pl) c).2 = jn := ⟨_, rfl⟩
      have HJN : Hid ((joinX (wasX s c.pl) c).2 = jn) := hjn
      rw [hjn]
      have hej : er = jn := her2.trans hjn
      clear her her2 hjn HJN
      subst hej
      by_cases hj0 : er = 0
      · subst hj0
        have HBW : Hid (Below w.heap.size w w6') := hB6
        have hcW := (hc4.below hb5).below hb6'
        go_wp2_with (refine wpList_storeG rfl _ _ rfl w5.heap.size (joinX (wasX s c.pl) c).1 cg0 rfl rfl HJ.out len0 hn6 ?_; rw [hw6'])
        obtain ⟨wt, rfl⟩ : ∃ wt, wt = w6' := ⟨_, rfl⟩
        clear hX4 hX2
        obtain ⟨a0, cap0, rfl, hlc0, hcm0, hrw0⟩ := xrow_of hX.ok hX.at_
        have hXq := hX.below HBW.out
        have HRD : Hid (RdC wt (.slice a0 xs.length xs.length) xs) := by
          obtain ⟨a', c', e, z1, z2⟩ := rdC_own hXq.at_
          simp only [Value.slice.injEq] at e
          obtain ⟨rfl, _, rfl⟩ := e
          exact ⟨_, _, rfl, fun hn => by have := z1 hn; omega, z2⟩
        have HRT : Hid (wt.heap[p]? = some (.cells (xdC (.slice a0 xs.length cap0) M) 105 (0, 0))) := hXq.row
        have hXok := hX.ok
        have hold : ∀ k, (Value.slice a0 xs.length cap0).ownBlock = some k → k < w.heap.size := fun k hk => (World.ownsRow.lt hX.at_ k hk).2
        have hpl := hX.lt
        have hsW := HBW.out.size
        clear hXq hrw0
        obtain ⟨n, hn⟩ : ∃ n, xs.length = n := ⟨_, rfl⟩
        have HN : Hid (xs.length = n) := hn
        rw [hn] at hlc0 hm
        have q0 : ∀ W, Below wt.heap.size wt W → (Instr.loadAt 23 (.pointer (some ⟨p, 0, none⟩))).run Tryz.prog W = .ok (.slice a0 n cap0) W := fun W hW => by
          have e := (hW.block p (by omega)).trans HRT.out
          have c : W.cell? ⟨p, 0, none⟩ = some (.slice a0 n cap0) := by rw [cell_of_row _ _ _ _ _ (0, 0) e, ← HN.out]; rfl
          have u := Tryz.underlying23
          go_simp
        have q1 : ∀ W, Below wt.heap.size wt W → CgAt W w.heap.size c := fun W hW => hcW.below hW
        have hbs := fun W => slice_cg c HC.out W
        have hct := fun W => cut3_run W a0 n cap0 hlc0
        clear hn
        refine wp_region_noPanic ?_
        refine wp_region_sink 21 (S := fun W => Below wt.heap.size wt W) (by kernel_rfl) (by kernel_rfl) (Below.refl _ _).drew (fun hHeld => ?_)
        refine wpAnyH_take (i := 0) (v := .pointer (some ⟨p, 0, none⟩)) rfl (by kernel_rfl) (by kernel_rfl) (by kernel_rfl) (fun _ _ _ h => h) (Or.inl ⟨by rfl, fun W hSw => by (try dsimp only at hSw); go_simp⟩) (by assumption) ?_
        try simp only [List.getElem_toArray, List.getElem_cons_zero, List.getElem_cons_succ, Act.put, List.setIfInBounds_toArray, List.set_cons_zero, List.set_cons_succ]
        refine wpAnyH_take (i := 1) (v := .pointer (some ⟨p, 0, none⟩)) rfl (by kernel_rfl) (by kernel_rfl) (by kernel_rfl) (fun _ _ _ h => h) (Or.inl ⟨by rfl, fun W hSw => by (try dsimp only at hSw); go_simp⟩) (by assumption) ?_
        try simp only [List.getElem_toArray, List.getElem_cons_zero, List.getElem_cons_succ, Act.put, List.setIfInBounds_toArray, List.set_cons_zero, List.set_cons_succ]
        refine wpAnyH_take (i := 2) (v := .pointer (some ⟨p, 0, none⟩)) rfl (by kernel_rfl) (by kernel_rfl) (by kernel_rfl) (fun _ _ _ h => h) (Or.inl ⟨by rfl, fun W hSw => by (try dsimp only at hSw); go_simp⟩) (by assumption) ?_
        try simp only [List.getElem_toArray, List.getElem_cons_zero, List.getElem_cons_succ, Act.put, List.setIfInBounds_toArray, List.set_cons_zero, List.set_cons_succ]
        refine wpAnyH_take (i := 3) (v := .pointer (some ⟨p, 0, none⟩)) rfl (by kernel_rfl) (by kernel_rfl) (by kernel_rfl) (fun _ _ _ h => h) (Or.inl ⟨by rfl, fun W hSw => by (try dsimp only at hSw); go_simp⟩) (by assumption) ?_
        try simp only [List.getElem_toArray, List.getElem_cons_zero, List.getElem_cons_succ, Act.put, List.setIfInBounds_toArray, List.set_cons_zero, List.set_cons_succ]
        refine wpAnyH_take (i := 4) (v := .slice a0 n cap0) rfl (by kernel_rfl) (by kernel_rfl) (by kernel_rfl) (fun _ _ _ h => h) (yields_load (by rfl) _ _ rfl _ rfl _ q0) (by assumption) ?_
        try simp only [List.getElem_toArray, List.getElem_cons_zero, List.getElem_cons_succ, Act.put, List.setIfInBounds_toArray, List.set_cons_zero, List.set_cons_succ]
        refine wpAnyH_take (i := 5) (v := .pointer (some ⟨p, 0, none⟩)) rfl (by kernel_rfl) (by kernel_rfl) (by kernel_rfl) (fun _ _ _ h => h) (Or.inl ⟨by rfl, fun W hSw => by (try dsimp only at hSw); go_simp⟩) (by assumption) ?_
        try simp only [List.getElem_toArray, List.getElem_cons_zero, List.getElem_cons_succ, Act.put, List.setIfInBounds_toArray, List.set_cons_zero, List.set_cons_succ]
        refine wpAnyH_take (i := 6) (v := .pointer (some ⟨p, 0, none⟩)) rfl (by kernel_rfl) (by kernel_rfl) (by kernel_rfl) (fun _ _ _ h => h) (Or.inl ⟨by rfl, fun W hSw => by (try dsimp only at hSw); go_simp⟩) (by assumption) ?_
        try simp only [List.getElem_toArray, List.getElem_cons_zero, List.getElem_cons_succ, Act.put, List.setIfInBounds_toArray, List.set_cons_zero, List.set_cons_succ]
        refine wpAnyH_take (i := 7) (v := .pointer (some ⟨p, 0, none⟩)) rfl (by kernel_rfl) (by kernel_rfl) (by kernel_rfl) (fun _ _ _ h => h) (Or.inl ⟨by rfl, fun W hSw => by (try dsimp only at hSw); go_simp⟩) (by assumption) ?_
        try simp only [List.getElem_toArray, List.getElem_cons_zero, List.getElem_cons_succ, Act.put, List.setIfInBounds_toArray, List.set_cons_zero, List.set_cons_succ]
        refine wpAnyH_take (i := 8) (v := .slice a0 n cap0) rfl (by kernel_rfl) (by kernel_rfl) (by kernel_rfl) (fun _ _ _ h => h) (yields_load (by rfl) _ _ rfl _ rfl _ q0) (by assumption) ?_
        try simp only [List.getElem_toArray, List.getElem_cons_zero, List.getElem_cons_succ, Act.put, List.setIfInBounds_toArray, List.set_cons_zero, List.set_cons_succ]
        refine wpAnyH_take (i := 9) (v := .int .i64 n) rfl (by kernel_rfl) (by kernel_rfl) (by kernel_rfl) (fun _ _ _ h => h) (Or.inl ⟨by rfl, fun W hSw => by (try dsimp only at hSw); go_simp⟩) (by assumption) ?_
        try simp only [List.getElem_toArray, List.getElem_cons_zero, List.getElem_cons_succ, Act.put, List.setIfInBounds_toArray, List.set_cons_zero, List.set_cons_succ]
        refine wpAnyH_take (i := 10) (v := .pointer (some ⟨p, 0, none⟩)) rfl (by kernel_rfl) (by kernel_rfl) (by kernel_rfl) (fun _ _ _ h => h) (Or.inl ⟨by rfl, fun W hSw => by (try dsimp only at hSw); go_simp⟩) (by assumption) ?_
        try simp only [List.getElem_toArray, List.getElem_cons_zero, List.getElem_cons_succ, Act.put, List.setIfInBounds_toArray, List.set_cons_zero, List.set_cons_succ]
        refine wpAnyH_take (i := 11) (v := .pointer (some ⟨p, 0, none⟩)) rfl (by kernel_rfl) (by kernel_rfl) (by kernel_rfl) (fun _ _ _ h => h) (Or.inl ⟨by rfl, fun W hSw => by (try dsimp only at hSw); go_simp⟩) (by assumption) ?_
        try simp only [List.getElem_toArray, List.getElem_cons_zero, List.getElem_cons_succ, Act.put, List.setIfInBounds_toArray, List.set_cons_zero, List.set_cons_succ]
        refine wpAnyH_take (i := 12) (v := .pointer (some ⟨p, 0, none⟩)) rfl (by kernel_rfl) (by kernel_rfl) (by kernel_rfl) (fun _ _ _ h => h) (Or.inl ⟨by rfl, fun W hSw => by (try dsimp only at hSw); go_simp⟩) (by assumption) ?_
        try simp only [List.getElem_toArray, List.getElem_cons_zero, List.getElem_cons_succ, Act.put, List.setIfInBounds_toArray, List.set_cons_zero, List.set_cons_succ]
        refine wpAnyH_take (i := 13) (v := .slice a0 n cap0) rfl (by kernel_rfl) (by kernel_rfl) (by kernel_rfl) (fun _ _ _ h => h) (yields_load (by rfl) _ _ rfl _ rfl _ q0) (by assumption) ?_
        try simp only [List.getElem_toArray, List.getElem_cons_zero, List.getElem_cons_succ, Act.put, List.setIfInBounds_toArray, List.set_cons_zero, List.set_cons_succ]
        refine wpAnyH_take (i := 14) (v := .int .i64 n) rfl (by kernel_rfl) (by kernel_rfl) (by kernel_rfl) (fun _ _ _ h => h) (Or.inl ⟨by rfl, fun W hSw => by (try dsimp only at hSw); go_simp⟩) (by assumption) ?_
        try simp only [List.getElem_toArray, List.getElem_cons_zero, List.getElem_cons_succ, Act.put, List.setIfInBounds_toArray, List.set_cons_zero, List.set_cons_succ]
        refine wpAnyH_take (i := 15) (v := .slice a0 n n) rfl (by kernel_rfl) (by kernel_rfl) (by kernel_rfl) (fun _ _ _ h => h) (Or.inl ⟨by rfl, fun W hSw => by (try dsimp only at hSw); (have q := hct W; go_simp)⟩) (by assumption) ?_
        try simp only [List.getElem_toArray, List.getElem_cons_zero, List.getElem_cons_succ, Act.put, List.setIfInBounds_toArray, List.set_cons_zero, List.set_cons_succ]
        refine wpAnyH_take (i := 16) (v := .agg (cgC c)) rfl (by kernel_rfl) (by kernel_rfl) (by kernel_rfl) (fun _ _ _ h => h) (yields_load (by rfl) _ _ rfl _ rfl _ (fun W hW => (q1 W hW).load HC.out)) (by assumption) ?_
        try simp only [List.getElem_toArray, List.getElem_cons_zero, List.getElem_cons_succ, Act.put, List.setIfInBounds_toArray, List.set_cons_zero, List.set_cons_succ]
        refine wpAnyH_ready (rs := [17]) (by kernel_rfl) (by simp) ?_
        refine AllReadyH.cons rfl (fun K hK => ?_) AllReadyH.nil
        rw [if_pos (by rfl)]
        refine wp_buildS 23 1 _ rfl #[(0, .agg (cgC c))] (by kernel_rfl) (hbs _) ?_
        have hb6 : Below wt.heap.size wt (wt.drew.alloc (.cells (cgC c) 56)) := (Below.refl _ wt).drew.alloc (Nat.le_refl _) _
        refine hK.out _ _ hb6 (fun hHeld2 => ?_)
        clear hK K
        try simp only [List.getElem_toArray, List.getElem_cons_zero, List.getElem_cons_succ, Act.put, List.setIfInBounds_toArray, List.set_cons_zero, List.set_cons_succ]
        have hx6 := CgAt.laid wt.drew c
        obtain ⟨w6, hw6⟩ : ∃ w6, (wt.drew.alloc (.cells (cgC c) 56)) = w6 := ⟨_, rfl⟩
        rw [hw6] at hb6 hx6 hHeld2 ⊢
        refine wpAnyH_ready (rs := [18]) (by kernel_rfl) (by simp) ?_
        refine AllReadyH.cons rfl (fun K hK => ?_) AllReadyH.nil
        rw [if_pos (by rfl)]
        obtain ⟨v7, w7, hrun, h7o, h7b⟩ := run_append_cg w6 a0 xs hXok (HRD.out.below hb6) (by have := HN.out; omega) _ c hc hx6 23
        rw [HN.out] at hrun
        obtain ⟨a7, cap7, rfl⟩ := own_shape h7o
        refine wp_app _ _ 23 rfl _ _ rfl rfl hrun ?_
        have hb7 : Below wt.heap.size wt w7 := thenB hb6 h7b
        refine hK.out _ _ hb7 (fun hHeld4 => ?_)
        clear hK K
        try simp only [List.getElem_toArray, List.getElem_cons_zero, List.getElem_cons_succ, Act.put, List.setIfInBounds_toArray, List.set_cons_zero, List.set_cons_succ]
        refine wpAnyH_take (i := 19) (v := .pointer (some ⟨p, 0, none⟩)) rfl (by kernel_rfl) (by kernel_rfl) (by kernel_rfl) (fun _ _ _ h => h) (Or.inl ⟨by rfl, fun W hSw => by (try dsimp only at hSw); go_simp⟩) (by assumption) ?_
        try simp only [List.getElem_toArray, List.getElem_cons_zero, List.getElem_cons_succ, Act.put, List.setIfInBounds_toArray, List.set_cons_zero, List.set_cons_succ]
        refine wpAnyH_take (i := 20) (v := .pointer (some ⟨p, 0, none⟩)) rfl (by kernel_rfl) (by kernel_rfl) (by kernel_rfl) (fun _ _ _ h => h) (Or.inl ⟨by rfl, fun W hSw => by (try dsimp only at hSw); go_simp⟩) (by assumption) ?_
        try simp only [List.getElem_toArray, List.getElem_cons_zero, List.getElem_cons_succ, Act.put, List.setIfInBounds_toArray, List.set_cons_zero, List.set_cons_succ]
        have hG7 := (hb7.block p (by omega)).trans HRT.out
        have c70 : w7.cell? ⟨p, 0, none⟩ = some (.slice a0 n cap0) := by rw [cell_of_row _ _ _ _ _ (0, 0) hG7, ← HN.out]; rfl
        have f70 := frozen_of_row w7 p 0 _ _ hG7
        obtain ⟨n7, hn7⟩ : ∃ n7, (xs ++ [c]).length = n7 := ⟨_, rfl⟩
        have HN7 : Hid ((xs ++ [c]).length = n7) := hn7
        rw [hn7] at h7o
        try rw [hn7]
        have hG8 := heap_setCell_same w7 p 0 _ _ (.slice a7 n7 cap7) hG7
        obtain ⟨w8, hw8⟩ : ∃ w8, w7.setCell ⟨p, 0, none⟩ (.slice a7 n7 cap7) = w8 := ⟨_, rfl⟩
        have hS78 : Sole [p] w7 w8 := by rw [← hw8]; exact Sole.setCell _ _ (by simp)
        rw [hw8] at hG8
        have h7k : ∀ k, (Value.slice a7 n7 cap7).ownBlock = some k → w6.heap.size ≤ k := fun k hk => (World.ownsRow.lt h7o k hk).1
        have HO8 : Hid (w8.ownsRow 0 56 46 (.slice a7 n7 cap7) n7 ((xs ++ [c]).flatMap cgL)) := by
          have e1 := own_keep h7o hS78.size (fun k hk hl => hS78.block k hl (by have := h7k k hk; have := hb6.size; simp only [List.mem_singleton]; omega))
          obtain ⟨z1, z2 | ⟨g, cp, cur, z2, z3, z4⟩⟩ := e1
          · exact ⟨z1, .inl z2⟩
          · exact ⟨z1, .inr ⟨g, cp, cur, z2, Nat.zero_le _, z4⟩⟩
        have HG8 : Hid (w8.heap[p]? = some (.cells (xdC (.slice a7 n7 cap7) M) 105 (0, 0))) := hG8
        have HK8 : Hid (KeepX p w w8) := by
          have hbw7 : Below w.heap.size w w7 := thenB HBW.out hb7
          exact ⟨hS78.os.trans hbw7.os, hS78.tape.trans hbw7.tape, hS78.output.trans hbw7.output, Nat.le_trans hbw7.size hS78.size, fun k hk hkp => (hS78.block k (Nat.lt_of_lt_of_le hk hbw7.size) (by simpa using hkp)).trans (hbw7.block k hk)⟩
        have HW7 : Hid (∀ k, (Value.slice a7 n7 cap7).ownBlock = some k → (Value.slice a0 n cap0).ownBlock = some k ∨ w.heap.size ≤ k) := fun k hk => .inr (by have := h7k k hk; have := hb6.size; omega)
        refine wpAnyH_done (by kernel_rfl) ?_ _
        refine Behind.run (by rfl) ?_
        go_simp
        go_wp2
        refine NoPanic.normal ?_
        clear q0 q1 hrun h7o h7b hG7 hG8 c70 f70 hS78 hHeld hHeld2 hHeld4 hbs hct h7k
        go_wp2
        go_ret
        refine ⟨rfl, .slice a7 n7 cap7, ?_, ?_, by rw [HN.out]; exact HW7.out⟩
        · refine ⟨HG8.out, ?_, fun z hz => ?_⟩
          · try rw [if_pos rfl]
            rw [HN7.out]; exact HO8.out
          · try rw [if_pos rfl] at hz
            rcases List.mem_append.1 hz with hz | hz
            · exact hXok z hz
            · rw [List.mem_singleton] at hz; rw [hz]; exact hc
        · exact ⟨HK8.out.os, HK8.out.tape, HK8.out.output, HK8.out.size, HK8.out.block⟩
      · go_wp2_with (refine wpList_storeG rfl _ _ rfl w5.heap.size (joinX (wasX s c.pl) c).1 cg0 rfl rfl HJ.out len0 hn6 ?_; rw [hw6'])
        go_ret
        exact ⟨rfl, v, by first | exact hX.below hB6 | (rw [if_neg hj0]; exact hX.below hB6), KeepX.of_below hB6, fun k hk => .inl hk⟩
  · have hk0 : ckOk c = false := by simpa using hck
    have e1 : ckE c = 1 := by unfold ckE; rw [hk0]; rfl
    have e2 : er = 1 := by rw [← her]; exact put_err hk0
    subst e2
    rw [e1]
    go_wp2
    go_ret
    exact ⟨rfl, v, by first | exact hX.below hB2 | (rw [if_neg (by decide)]; exact hX.below hB2), KeepX.of_below hB2, fun k hk => .inl hk⟩

end Go.Proofs.YtjlglnhmkheidaaGreat
