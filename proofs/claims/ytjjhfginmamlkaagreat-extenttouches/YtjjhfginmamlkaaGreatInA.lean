/- The contracts of inode.recordOf, touch, kindsOf, withFields, placesOf. -/
import Derived.Test.YtjjhfginmamlkaaGreatRtAdd
import Derived.Test.YtjjhfginmamlkaaGreatD2
import Derived.Deep.LoopGhost
namespace Go.Proofs.YtjjhfginmamlkaaGreat
open Go.RowKit Go.Maps
set_option linter.unusedVariables false
set_option linter.unusedSimpArgs false
set_option maxRecDepth 100000

set_option maxHeartbeats 400000 in
theorem irec_any (w : World) (i : Int) : Calls Tryz.prog 36 #[.int .u32 i] w fun e w' => e = .returned (plV (recP i)) ∧ Below w.heap.size w w' := by
  go_enter Tryz.func36, Tryz.ntmps36
  go_wp2
  exact ret_place rfl w.heap.size (recP i) rfl (heap_alloc_new w _) rfl ⟨rfl, (Below.refl _ _).alloc (Nat.le_refl _) _⟩

/-! ### touch -/

/-- A touch of one field, or of all, of an inode. -/
def tcK (ino k : Int) : Tc := ⟨k, ino, ⟨#[]⟩, 0, 0⟩
theorem tcK_ok {ino k : Int} (h0 : 0 ≤ ino) (h1 : ino ≤ 4294967295) (hk : 0 ≤ k ∧ k ≤ 1000) : TcOk (tcK ino k) := ⟨by simp only [tcK]; omega, by simp only [tcK]; omega, h0, h1, Nat.zero_le _, by simp [tcK], by simp [tcK], by simp [tcK], by simp [tcK]⟩
def addK (L : List Tc) (ino : Int) (ks : List Int) : List Tc := ks.foldl (fun L k => addL L (tcK ino k)) L
theorem addK_take {L : List Tc} {ino : Int} {ks : List Int} {i : Nat} {k : Int} (h : ks[i]? = some k) : addK L ino (ks.take (i + 1)) = addL (addK L ino (ks.take i)) (tcK ino k) := by
  rw [take_next h]; unfold addK; rw [List.foldl_append]; rfl
theorem addL_len (L : List Tc) (t : Tc) : (addL L t).length ≤ L.length + 1 := by
  unfold addL
  repeat' split
  all_goals simp
theorem addK_len (L : List Tc) (ino : Int) (ks : List Int) : (addK L ino ks).length ≤ L.length + ks.length := by
  induction ks generalizing L with
  | nil => simp [addK]
  | cons k ks ih =>
    have h1 := ih (addL L (tcK ino k))
    have h2 := addL_len L (tcK ino k)
    have h3 : addK L ino (k :: ks) = addK (addL L (tcK ino k)) ino ks := rfl
    rw [h3, List.length_cons]; omega

/-- A row of numbers, in a block of their own kind. -/
def RdKs (w : World) (v : Value) (ks : List Int) : Prop :=
  ∃ a c, v = .slice a ks.length c ∧ ks.length ≤ c ∧ (ks ≠ [] → ∃ b off cs fr, a = some ⟨b, off, none⟩ ∧ w.heap[b]? = some (.cells cs 3 fr) ∧ ∀ i k, ks[i]? = some k → cs[off + i]? = some (.int .i64 k))
theorem RdKs.keep {w w' : World} {v : Value} {ks : List Int} (h : RdKs w v ks) (hk : ∀ (b : Nat) (cs : Array Value) (fr : Nat × Nat), w.heap[b]? = some (Obj.cells cs 3 fr) → w'.heap[b]? = some (Obj.cells cs 3 fr)) : RdKs w' v ks := by
  obtain ⟨a, c, rfl, h1, h2⟩ := h
  refine ⟨a, c, rfl, h1, fun hn => ?_⟩
  obtain ⟨b, off, cs, fr, rfl, h3, h4⟩ := h2 hn
  exact ⟨b, off, cs, fr, rfl, hk _ _ _ h3, h4⟩
theorem RdKs.below {w w' : World} {v : Value} {ks : List Int} (h : RdKs w v ks) (hb : Below w.heap.size w w') : RdKs w' v ks := h.keep fun b cs fr e => (hb.block b (Array.getElem?_eq_some_iff.1 e).1).trans e
theorem KeepQ.ints {w w' : World} {p b : Nat} {v v' : Value} {L : List Tc} (h : SetAt w p b v L) (k : KeepQ p b v w w' v') {i : Nat} {cs : Array Value} {fr : Nat × Nat} (hi : w.heap[i]? = some (.cells cs 3 fr)) : w'.heap[i]? = some (.cells cs 3 fr) :=
  (k.block i (Array.getElem?_eq_some_iff.1 hi).1 (ne_of_type hi h.row (by decide)) (fun e => by obtain ⟨x, cl, e'⟩ := h.sp.isMap; rw [e, e'] at hi; cases hi) (fun e => by obtain ⟨cs', e'⟩ := own_row h.own e; exact absurd rfl (ne_of_type hi e' (by decide)))).trans hi
theorem RdKs.cell {w : World} {a : Option Addr} {n c : Nat} {ks : List Int} (h : RdKs w (.slice a n c) ks) {i : Nat} {k : Int} (hk : ks[i]? = some k) : ∃ b off, a = some ⟨b, off, none⟩ ∧ w.cell? ⟨b, off + i, none⟩ = some (.int .i64 k) := by
  obtain ⟨a', c', e, h1, h2⟩ := h
  simp only [Value.slice.injEq] at e
  obtain ⟨rfl, _, _⟩ := e
  obtain ⟨b, off, cs, fr, rfl, h3, h4⟩ := h2 (by intro e; subst e; simp at hk)
  exact ⟨b, off, rfl, by rw [cell_of_row _ _ _ _ _ _ h3]; exact h4 i k hk⟩

set_option maxHeartbeats 4000000 in
theorem touch_any {w : World} {p b : Nat} {v : Value} {L : List Tc} (h : SetAt w p b v L) (ino : Int) (h0 : 0 ≤ ino) (h1 : ino ≤ 4294967295) (a : Option Addr) (n c : Nat) (ks : List Int) (hr : RdKs w (.slice a n c) ks) (hks : ∀ k ∈ ks, 0 ≤ k ∧ k ≤ 1000) (hn : n ≤ 100) (hL : L.length ≤ 18000) :
    Calls Tryz.prog 44 #[.pointer (some ⟨p, 0, none⟩), .int .u32 ino, .slice a n c] w fun e w' => e = .returned (.tuple #[]) ∧ AddOut w p b v (addK L ino ks) w' := by
  have hl : ks.length = n := by obtain ⟨a', c', e, _⟩ := hr; simp only [Value.slice.injEq] at e; exact e.2.1.symm
  have HL : Hid (ks.length = n) := hl
  have H0 : Hid (SetAt w p b v L) := h
  have HR : Hid (RdKs w (.slice a n c) ks) := hr
  have HK : Hid (∀ k ∈ ks, 0 ≤ k ∧ k ≤ 1000) := hks
  have HLn : Hid (L.length ≤ 18000) := hL
  obtain ⟨R, hR⟩ : ∃ R, addK L ino ks = R := ⟨_, rfl⟩
  rw [hR]
  have HF : Hid (addK L ino ks = R) := hR
  clear hr hl h hks hR hL
  go_enter Tryz.func44, Tryz.ntmps44
  go_wp2
  go_loopg [7, 10] n (fun kx s7 s10 wr => ∃ i : Nat, s10 = .int .i64 i ∧ i ≤ n ∧ n - i ≤ kx ∧ Hid (AddOut w p b v (addK L ino (ks.take i)) wr ∧ RdKs wr (.slice a n c) ks))
  case atStart => exact ⟨0, rfl, Nat.zero_le _, by omega, ⟨v, H0.out, KeepQ.of_below (Below.refl _ _)⟩, HR.out⟩
  case round =>
    obtain ⟨i, rfl, hin, hkx, HW⟩ := hrel
    by_cases hlt : i < n
    · obtain ⟨y, hy⟩ : ∃ y, ks[i]? = some y := ⟨_, List.getElem?_eq_getElem (by have := HL.out; omega)⟩
      have HY : Hid (ks[i]? = some y) := hy
      obtain ⟨b0, o0, rfl, hcell⟩ := HW.out.2.cell hy
      have hiI : (i : Int) < (n : Int) := by omega
      have hib : (i : Int) + 1 ≤ 1000001 := by omega
      obtain ⟨⟨v1, hs1, hk1⟩, hr1⟩ := HW.out
      have hln : (addK L ino (ks.take i)).length ≤ 20000 := by have h1 := addK_len L ino (ks.take i); have h2 := HLn.out; have h3 : (ks.take i).length ≤ i := List.length_take_le _ _; omega
      have ca := add_any hs1 (tcK ino y) (tcK_ok h0 h1 (HK.out y (List.mem_of_getElem? hy))) hln
      have HS1 : Hid (SetAt wr p b v1 (addK L ino (ks.take i))) := hs1
      have HK1 : Hid (KeepQ p b v w wr v1) := hk1
      have HR1 : Hid (RdKs wr (.slice (some ⟨b0, o0, none⟩) n c) ks) := hr1
      unfold ptr tcK tcC at ca
      dsimp only at ca
      clear hy hs1 hk1 hr1 hln HW
      go_wp2_with fail
      refine ca.mono ?_
      rintro e w2 ⟨rfl, v2, hs2, hk2⟩
      have HS2 : Hid (SetAt w2 p b v2 (addL (addK L ino (ks.take i)) (tcK ino y))) := hs2
      have HK2 : Hid (KeepQ p b v1 wr w2 v2) := hk2
      clear ca hs2 hk2
      go_wp2
      go_roundg (n - (i + 1))
      case measure => omega
      case rel =>
        refine ⟨i + 1, by rw [show ((i : Int) + 1) = ((i + 1 : Nat) : Int) by omega], by omega, by omega, ⟨v2, by rw [addK_take HY.out]; exact HS2.out, HK1.out.trans HK2.out⟩, HR1.out.keep fun k cs fr e => HK2.out.ints HS1.out e⟩
    · obtain rfl : n = i := by omega
      go_wp2
      go_end0
      refine ⟨rfl, ?_⟩
      have := HW.out.1
      rw [List.take_of_length_le (by have := HL.out; omega), HF.out] at this
      exact this

/-! ### kindsOf -/

def intE (k : Int) : List Value := [.int .i64 k]
theorem int_len (k : Int) : (intE k).length = 1 := rfl
theorem int_one (k : Int) : ∀ u ∈ intE k, u.oneCell' = true := fun u hu => by simp [intE] at hu; rw [hu]; rfl
theorem info_int : (Tryz.prog.info? 3).map (fun i => (i.zero, i.size, i.bytes)) = some (some (.int .i64 0), 1, 8) := by kernel_rfl
theorem rdKs_own {w : World} {base : Nat} {v : Value} {ks : List Int} (h : OwnL base 3 1 intE w v ks) : RdKs w v ks := by
  obtain ⟨h1, h2⟩ := h
  rcases h2 with ⟨rfl, hn⟩ | ⟨g, cap, cur, rfl, hb, hg, hn, hm, hs, ht⟩
  · have : ks = [] := List.eq_nil_of_length_eq_zero hn
    subst this
    exact ⟨none, 0, rfl, Nat.le_refl _, fun h => absurd rfl h⟩
  · refine ⟨_, cap, rfl, hn, fun _ => ⟨g, 0, cur, _, rfl, hg, fun i k hi => ?_⟩⟩
    have e := flat_atR 1 intE int_len ks i k 0 (.int .i64 k) hi rfl
    rw [← ht, List.getElem?_take] at e
    split at e
    · rw [Nat.zero_add, ← Array.getElem?_toList]
      rw [Nat.mul_one, Nat.add_zero] at e; exact e
    · cases e
/-- The kinds of touches of the fields of a sum. -/
def kindsL (f : Int) : List Int := (if bF f 1 then [1] else []) ++ (if bF f 2 then [2] else []) ++ (if bF f 4 then [3] else [])
def kindsT (f : Int) (i : Nat) : List Int := (if 0 < i then (if bF f 1 then [1] else []) else []) ++ (if 1 < i then (if bF f 2 then [2] else []) else []) ++ (if 2 < i then (if bF f 4 then [3] else []) else [])
theorem kindsT_len (f : Int) (i : Nat) : (kindsT f i).length ≤ 3 := by
  unfold kindsT
  repeat' split
  all_goals simp
theorem kindsL_len (f : Int) : (kindsL f).length ≤ 3 := by
  unfold kindsL
  repeat' split
  all_goals simp
theorem kindsL_ok (f : Int) : ∀ k ∈ kindsL f, 0 ≤ k ∧ k ≤ 1000 := by
  unfold kindsL
  repeat' split
  all_goals (intro k hk; simp at hk; try omega)
theorem rd_one (w : World) (x : Int) : RdZ 1 intE (w.alloc (.cells #[.int .i64 x] 3)) (.slice (some ⟨w.heap.size, 0, none⟩) 1 1) [x] :=
  rdZ_own int_len (base := w.heap.size) (e := 3) ⟨rfl, .inr ⟨w.heap.size, 1, #[.int .i64 x], rfl, Nat.le_refl _, heap_alloc_new _ _, Nat.le_refl _, by decide, rfl, rfl⟩⟩

set_option maxHeartbeats 4000000 in
theorem kindsOf_any (w : World) (f : Int) : Calls Tryz.prog 96 #[.int .i64 f] w fun e w' => ∃ a c, e = .returned (.slice a (kindsL f).length c) ∧ OwnL w.heap.size 3 1 intE w' (.slice a (kindsL f).length c) (kindsL f) ∧ Below w.heap.size w w' := by
  obtain ⟨iE, hiE, hz0, hz1, hz2⟩ := info_parts info_int
  obtain ⟨R, hR⟩ : ∃ R, kindsL f = R := ⟨_, rfl⟩
  rw [hR]
  have HF : Hid (kindsL f = R) := hR
  clear hR
  have ix0 : ∀ W : World, (Instr.index 195 (.agg #[.int .i64 1, .int .i64 1, .int .i64 2, .int .i64 2, .int .i64 4, .int .i64 3]) (.int .i64 0)).run Tryz.prog W = .ok (.agg #[.int .i64 1, .int .i64 1]) W := fun W => by kernel_rfl
  have ix1 : ∀ W : World, (Instr.index 195 (.agg #[.int .i64 1, .int .i64 1, .int .i64 2, .int .i64 2, .int .i64 4, .int .i64 3]) (.int .i64 1)).run Tryz.prog W = .ok (.agg #[.int .i64 2, .int .i64 2]) W := fun W => by kernel_rfl
  have ix2 : ∀ W : World, (Instr.index 195 (.agg #[.int .i64 1, .int .i64 1, .int .i64 2, .int .i64 2, .int .i64 4, .int .i64 3]) (.int .i64 2)).run Tryz.prog W = .ok (.agg #[.int .i64 4, .int .i64 3]) W := fun W => by kernel_rfl
  go_enter Tryz.func96, Tryz.ntmps96
  go_wp2
  go_loopg [3, 10] 3 (fun kx s3 s10 wr => ∃ (i : Nat) (a : Option Addr) (n c : Nat), s10 = .int .i64 i ∧ s3 = .slice a n c ∧ i ≤ 3 ∧ 3 - i ≤ kx ∧ Hid (Below w.heap.size w wr ∧ OwnL w.heap.size 3 1 intE wr (.slice a n c) (kindsT f i)))
  case atStart => exact ⟨0, none, 0, 0, rfl, rfl, by omega, by omega, Below.refl _ _, OwnL.nil _ _ _ _ _⟩
  case round =>
    obtain ⟨i, a, n, c, rfl, rfl, hin, hkx, HW⟩ := hrel
    by_cases hlt : i < 3
    · obtain rfl | rfl | rfl : i = 0 ∨ i = 1 ∨ i = 2 := by omega
      · cases hb : (bits .and .i64 f 1 != 0) with
        | false =>
          have e1 : kindsT f 1 = kindsT f 0 := by unfold kindsT bF; simp [hb]
          go_wp2
          go_roundg 2
          case measure => omega
          case rel => exact ⟨1, a, n, c, rfl, rfl, by omega, by omega, HW.out.1.trans ((bel1 _ _).mono HW.out.1.size), by rw [e1]; exact HW.out.2.below (bel1 _ _)⟩
        | true =>
          have e1 : kindsT f 1 = kindsT f 0 ++ [1] := by unfold kindsT bF; simp [hb]
          have E1 : Hid (kindsT f 1 = kindsT f 0 ++ [1]) := e1
          have b1 := bel2 wr (.cells #[.int .i64 1, .int .i64 1] 194) (.cells #[.int .i64 1] 3)
          have r1 := rd_one (wr.alloc (.cells #[.int .i64 1, .int .i64 1] 194)) 1
          rw [World.size_alloc] at r1
          have o1 := HW.out.2.below b1
          have B1 : Hid _ := HW.out.1.trans (b1.mono HW.out.1.size)
          have KL := kindsT_len f 0
          have HKL : Hid ((kindsT f 0).length ≤ 3) := KL
          clear e1 KL
          go_wp2_with (refine wpList_append_E int_len int_one Tryz.underlying153 hiE hz0 hz1 hz2 rfl (by decide) (by decide) rfl _ _ rfl w.heap.size _ _ rfl o1 _ [1] rfl r1 (by have := HKL.out; simp; omega) B1.out.size ?_; rintro v2 w2 ho2 hg2)
          obtain ⟨a2, c2, rfl⟩ := row_slice ho2
          have HO2 : Hid _ := ho2
          have HG2 : Hid _ := hg2
          clear ho2 hg2 o1 r1 b1
          go_roundg 2
          case measure => omega
          case rel =>
            have hl : (.slice a2 ((kindsT f 0 ++ [1]).length) c2 : Value) = .slice a2 (kindsT f 0 ++ [1]).length c2 := rfl
            refine ⟨1, a2, _, c2, rfl, rfl, by omega, by omega, tgrown_below B1.out HG2.out ?_ B1.out.size, by rw [E1.out]; exact HO2.out⟩
            intro g hg
            rcases HW.out.2.2 with ⟨e, _⟩ | ⟨g', cap, cur, e, hb', _⟩
            · rw [e] at hg; cases hg
            · rw [e] at hg; cases hg; exact hb'
      · cases hb : (bits .and .i64 f 2 != 0) with
        | false =>
          have e1 : kindsT f 2 = kindsT f 1 := by unfold kindsT bF; simp [hb]
          go_wp2
          go_roundg 1
          case measure => omega
          case rel => exact ⟨2, a, n, c, rfl, rfl, by omega, by omega, HW.out.1.trans ((bel1 _ _).mono HW.out.1.size), by rw [e1]; exact HW.out.2.below (bel1 _ _)⟩
        | true =>
          have e1 : kindsT f 2 = kindsT f 1 ++ [2] := by unfold kindsT bF; simp [hb]
          have E1 : Hid (kindsT f 2 = kindsT f 1 ++ [2]) := e1
          have b1 := bel2 wr (.cells #[.int .i64 2, .int .i64 2] 194) (.cells #[.int .i64 2] 3)
          have r1 := rd_one (wr.alloc (.cells #[.int .i64 2, .int .i64 2] 194)) 2
          rw [World.size_alloc] at r1
          have o1 := HW.out.2.below b1
          have B1 : Hid _ := HW.out.1.trans (b1.mono HW.out.1.size)
          have KL := kindsT_len f 1
          have HKL : Hid ((kindsT f 1).length ≤ 3) := KL
          clear e1 KL
          go_wp2_with (refine wpList_append_E int_len int_one Tryz.underlying153 hiE hz0 hz1 hz2 rfl (by decide) (by decide) rfl _ _ rfl w.heap.size _ _ rfl o1 _ [2] rfl r1 (by have := HKL.out; simp; omega) B1.out.size ?_; rintro v2 w2 ho2 hg2)
          obtain ⟨a2, c2, rfl⟩ := row_slice ho2
          have HO2 : Hid _ := ho2
          have HG2 : Hid _ := hg2
          clear ho2 hg2 o1 r1 b1
          go_roundg 1
          case measure => omega
          case rel =>
            have hl : (.slice a2 ((kindsT f 1 ++ [2]).length) c2 : Value) = .slice a2 (kindsT f 1 ++ [2]).length c2 := rfl
            refine ⟨2, a2, _, c2, rfl, rfl, by omega, by omega, tgrown_below B1.out HG2.out ?_ B1.out.size, by rw [E1.out]; exact HO2.out⟩
            intro g hg
            rcases HW.out.2.2 with ⟨e, _⟩ | ⟨g', cap, cur, e, hb', _⟩
            · rw [e] at hg; cases hg
            · rw [e] at hg; cases hg; exact hb'
      · cases hb : (bits .and .i64 f 4 != 0) with
        | false =>
          have e1 : kindsT f 3 = kindsT f 2 := by unfold kindsT bF; simp [hb]
          go_wp2
          go_roundg 0
          case measure => omega
          case rel => exact ⟨3, a, n, c, rfl, rfl, by omega, by omega, HW.out.1.trans ((bel1 _ _).mono HW.out.1.size), by rw [e1]; exact HW.out.2.below (bel1 _ _)⟩
        | true =>
          have e1 : kindsT f 3 = kindsT f 2 ++ [3] := by unfold kindsT bF; simp [hb]
          have E1 : Hid (kindsT f 3 = kindsT f 2 ++ [3]) := e1
          have b1 := bel2 wr (.cells #[.int .i64 4, .int .i64 3] 194) (.cells #[.int .i64 3] 3)
          have r1 := rd_one (wr.alloc (.cells #[.int .i64 4, .int .i64 3] 194)) 3
          rw [World.size_alloc] at r1
          have o1 := HW.out.2.below b1
          have B1 : Hid _ := HW.out.1.trans (b1.mono HW.out.1.size)
          have KL := kindsT_len f 2
          have HKL : Hid ((kindsT f 2).length ≤ 3) := KL
          clear e1 KL
          go_wp2_with (refine wpList_append_E int_len int_one Tryz.underlying153 hiE hz0 hz1 hz2 rfl (by decide) (by decide) rfl _ _ rfl w.heap.size _ _ rfl o1 _ [3] rfl r1 (by have := HKL.out; simp; omega) B1.out.size ?_; rintro v2 w2 ho2 hg2)
          obtain ⟨a2, c2, rfl⟩ := row_slice ho2
          have HO2 : Hid _ := ho2
          have HG2 : Hid _ := hg2
          clear ho2 hg2 o1 r1 b1
          go_roundg 0
          case measure => omega
          case rel =>
            have hl : (.slice a2 ((kindsT f 2 ++ [3]).length) c2 : Value) = .slice a2 (kindsT f 2 ++ [3]).length c2 := rfl
            refine ⟨3, a2, _, c2, rfl, rfl, by omega, by omega, tgrown_below B1.out HG2.out ?_ B1.out.size, by rw [E1.out]; exact HO2.out⟩
            intro g hg
            rcases HW.out.2.2 with ⟨e, _⟩ | ⟨g', cap, cur, e, hb', _⟩
            · rw [e] at hg; cases hg
            · rw [e] at hg; cases hg; exact hb'
    · obtain rfl : i = 3 := by omega
      have e1 : kindsT f 3 = R := by rw [← HF.out]; unfold kindsT kindsL; simp
      have hl := HW.out.2.1
      rw [e1] at hl
      obtain ⟨hB, hO⟩ := HW.out
      rw [e1] at hO
      have hnn : n = R.length := by
        obtain ⟨a', c', e⟩ := row_slice hO
        simp only [Value.slice.injEq] at e
        exact e.2.1
      subst hnn
      have HO : Hid _ := hO
      have HB : Hid _ := hB
      clear hO hB HW hl
      go_wp2
      go_ret
      exact ⟨a, c, rfl, HO.out, HB.out⟩

/-! ### withFields -/

/-- An inode, in plain words. -/
structure In4 where
  k : Int
  m : Int
  l : Int
  s : Int
def in0 : In4 := ⟨0, 0, 0, 0⟩
def inV (i : In4) : Value := .agg #[.int .i64 i.k, .int .i64 i.m, .int .i64 i.l, .int .i64 i.s]
def fiE (f : Int × Int) : List Value := [.int .i64 f.1, .int .i64 f.2]
theorem fi_len (f : Int × Int) : (fiE f).length = 2 := rfl
/-- One field more; none, if it is no field, or is there already. -/
def wf1 (st : Option (In4 × Int)) (f : Int × Int) : Option (In4 × Int) :=
  match st with
  | none => none
  | some (i, sum) => if bits .and .i64 sum f.1 != 0 then none else if f.1 = 1 then some (⟨i.k, f.2, i.l, i.s⟩, bits .or .i64 sum 1) else if f.1 = 2 then some (⟨i.k, i.m, f.2, i.s⟩, bits .or .i64 sum 2) else if f.1 = 4 then some (⟨i.k, i.m, i.l, f.2⟩, bits .or .i64 sum 4) else none
def wfL (i : In4) (fs : List (Int × Int)) : Option (In4 × Int) := fs.foldl wf1 (some (i, 0))
def wfR (i : In4) (fs : List (Int × Int)) : In4 × Int × Bool := match wfL i fs with | none => (in0, 0, false) | some (j, sum) => (j, sum, true)
theorem wf_none (fs : List (Int × Int)) : fs.foldl wf1 none = none := by
  induction fs with
  | nil => rfl
  | cons f fs ih => exact ih
theorem wfL_stop {i : In4} {fs : List (Int × Int)} {k : Nat} {f : Int × Int} (h : fs[k]? = some f) (hn : wf1 (wfL i (fs.take k)) f = none) : wfL i fs = none := by
  have e : fs = fs.take k ++ f :: fs.drop (k + 1) := by
    rw [List.getElem?_eq_some_iff] at h
    obtain ⟨hl, rfl⟩ := h
    simp
  rw [e]; unfold wfL at hn ⊢; rw [List.foldl_append, List.foldl_cons, hn, wf_none]
theorem wfL_next {i : In4} {fs : List (Int × Int)} {k : Nat} {f : Int × Int} (h : fs[k]? = some f) : wfL i (fs.take (k + 1)) = wf1 (wfL i (fs.take k)) f := by
  rw [take_next h]; unfold wfL; rw [List.foldl_append]; rfl

theorem InRow.loadF {w : World} {g : Nat} {k m l s : Int} (h : InRow w g k m l s) : (Instr.loadAt 89 (.pointer (some ⟨g, 0, none⟩))).run Tryz.prog w = .ok (.agg #[.int .i64 k, .int .i64 m, .int .i64 l, .int .i64 s]) w := h.load
theorem ret_in2 {fn : Func} {R : Ending → World → Prop} {a : Act} {w : World} {p u : Tmp} (h : fn.results = #[.cell p 89, .tmp u]) (g : Nat) (k m l s : Int) (hp : a.tmps.getD p undef = .pointer (some ⟨g, 0, none⟩)) (v : Value) (hu : a.tmps.getD u undef = v)
    (hg : InRow w g k m l s) (hd : a.defers = []) (hR : R (.returned (.tuple #[.agg #[.int .i64 k, .int .i64 m, .int .i64 l, .int .i64 s], v])) w) : bodyPost Tryz.prog fn R .ret a w := by
  refine bodyPost_ret ?_ hd hR
  have hp' : a.tmps[p]?.getD undef = .pointer (some ⟨g, 0, none⟩) := by simpa using hp
  have hu' : a.tmps[u]?.getD undef = v := by simpa using hu
  have hl := run_loadVar_row (P := Tryz.prog) w g _ 89 _ _ _ hg.row Tryz.underlying89 rfl (by kernel_rfl)
  simp [results, h, hp', hu', asAddr, hl, Result.andThen]
theorem ret_in3 {fn : Func} {R : Ending → World → Prop} {a : Act} {w : World} {p u x : Tmp} (h : fn.results = #[.cell p 89, .tmp u, .tmp x]) (g : Nat) (k m l s : Int) (hp : a.tmps.getD p undef = .pointer (some ⟨g, 0, none⟩)) (v : Value) (hu : a.tmps.getD u undef = v) (v' : Value) (hx : a.tmps.getD x undef = v')
    (hg : InRow w g k m l s) (hd : a.defers = []) (hR : R (.returned (.tuple #[.agg #[.int .i64 k, .int .i64 m, .int .i64 l, .int .i64 s], v, v'])) w) : bodyPost Tryz.prog fn R .ret a w := by
  refine bodyPost_ret ?_ hd hR
  have hp' : a.tmps[p]?.getD undef = .pointer (some ⟨g, 0, none⟩) := by simpa using hp
  have hu' : a.tmps[u]?.getD undef = v := by simpa using hu
  have hx' : a.tmps[x]?.getD undef = v' := by simpa using hx
  have hl := run_loadVar_row (P := Tryz.prog) w g _ 89 _ _ _ hg.row Tryz.underlying89 rfl (by kernel_rfl)
  simp [results, h, hp', hu', hx', asAddr, hl, Result.andThen]

/-- Two variables of withFields: the inode that it makes, and its result. -/
structure WfS (w W : World) (i : In4) : Prop where
  i : InRow W w.heap.size i.k i.m i.l i.s
  r : InRow W (w.heap.size + 1) 0 0 0 0
  bel : Below w.heap.size w W
  lt : w.heap.size + 1 < W.heap.size
theorem WfS.below {w W W' : World} {i : In4} (h : WfS w W i) (hb : Below W.heap.size W W') : WfS w W' i := ⟨h.i.below hb, h.r.below hb, h.bel.trans (hb.mono h.bel.size), Nat.lt_of_lt_of_le h.lt hb.size⟩
theorem WfS.set {w W : World} {i : In4} (h : WfS w W i) {j : In4} {o : Nat} {v : Value} (hr : InRow (W.setCell ⟨w.heap.size, o, none⟩ v) w.heap.size j.k j.m j.l j.s) : WfS w (W.setCell ⟨w.heap.size, o, none⟩ v) j :=
  ⟨hr, h.r.apart _ _ _ (by omega), h.bel.setCell (Nat.le_refl _) _, by simpa [World.setCell] using h.lt⟩
theorem InRow.set1 {w : World} {g : Nat} {k m l s : Int} (h : InRow w g k m l s) (x : Int) : InRow (w.setCell ⟨g, 1, none⟩ (.int .i64 x)) g k x l s := ⟨heap_setCell_same w g 1 _ _ (.int .i64 x) h.row⟩
theorem InRow.set2 {w : World} {g : Nat} {k m l s : Int} (h : InRow w g k m l s) (x : Int) : InRow (w.setCell ⟨g, 2, none⟩ (.int .i64 x)) g k m x s := ⟨heap_setCell_same w g 2 _ _ (.int .i64 x) h.row⟩
theorem InRow.set3 {w : World} {g : Nat} {k m l s : Int} (h : InRow w g k m l s) (x : Int) : InRow (w.setCell ⟨g, 3, none⟩ (.int .i64 x)) g k m l x := ⟨heap_setCell_same w g 3 _ _ (.int .i64 x) h.row⟩

theorem fi_cells {w : World} {a : Option Addr} {n c : Nat} {l : List (Int × Int)} (h : RdZ 2 fiE w (.slice a n c) l) {i : Nat} {f : Int × Int} (hx : l[i]? = some f) :
    ∃ b off, a = some ⟨b, off, none⟩ ∧ b < w.heap.size ∧ w.cell? ⟨b, off + i * 2, none⟩ = some (.int .i64 f.1) ∧ w.cell? ⟨b, off + i * 2 + 1, none⟩ = some (.int .i64 f.2) := by
  obtain ⟨⟨a', c', e, h1, h2, h3⟩, _⟩ := h
  simp only [Value.slice.injEq] at e
  obtain ⟨rfl, rfl, rfl⟩ := e
  obtain ⟨b, off, rfl, hlt, hc⟩ := h3 (by intro e; subst e; simp at hx)
  exact ⟨b, off, rfl, hlt, hc i f 0 _ hx rfl, hc i f 1 _ hx rfl⟩

set_option maxHeartbeats 8000000 in
theorem wf_any (w : World) (i : In4) (a : Option Addr) (n c : Nat) (fs : List (Int × Int)) (hr : RdZ 2 fiE w (.slice a n c) fs) (hn : n ≤ 1000) : Calls Tryz.prog 95 #[inV i, .slice a n c] w fun e w' =>
    e = .returned (.tuple #[inV (wfR i fs).1, .int .i64 (wfR i fs).2.1, .bool (wfR i fs).2.2]) ∧ Below w.heap.size w w' := by
  obtain ⟨hl, hnc, hcm⟩ := hr.len
  have HL : Hid (fs.length = n) := hl
  have HR : Hid (RdZ 2 fiE w (.slice a n c) fs) := hr
  have hS : WfS w ((w.alloc (.cells #[.int .i64 i.k, .int .i64 i.m, .int .i64 i.l, .int .i64 i.s] 89)).alloc (.cells #[.int .i64 0, .int .i64 0, .int .i64 0, .int .i64 0] 89)) i := by
    have h1 : InRow (w.alloc (.cells #[.int .i64 i.k, .int .i64 i.m, .int .i64 i.l, .int .i64 i.s] 89)) w.heap.size i.k i.m i.l i.s := ⟨heap_alloc_new w _⟩
    have h2 := heap_alloc_new (w.alloc (.cells #[.int .i64 i.k, .int .i64 i.m, .int .i64 i.l, .int .i64 i.s] 89)) (.cells #[.int .i64 0, .int .i64 0, .int .i64 0, .int .i64 0] 89)
    rw [World.size_alloc] at h2
    exact ⟨h1.below (bel1 _ _), ⟨h2⟩, bel2 _ _ _, by simp⟩
  have HS : Hid _ := hS
  obtain ⟨w1, hw1⟩ : ∃ w1, ((w.alloc (.cells #[.int .i64 i.k, .int .i64 i.m, .int .i64 i.l, .int .i64 i.s] 89)).alloc (.cells #[.int .i64 0, .int .i64 0, .int .i64 0, .int .i64 0] 89)) = w1 := ⟨_, rfl⟩
  rw [hw1] at HS
  obtain ⟨R, hR⟩ : ∃ R, wfR i fs = R := ⟨_, rfl⟩
  rw [hR]
  have HF : Hid (wfR i fs = R) := hR
  unfold inV
  clear hr hl hnc hcm hS hR
  go_enter Tryz.func95, Tryz.ntmps95
  go_wp2
  try rw [hw1]
  clear hw1
  go_loopg [7, 12] n (fun kx s7 s12 wr => ∃ (t : Nat) (j : In4) (sum : Int), s12 = .int .i64 t ∧ s7 = .int .i64 sum ∧ t ≤ n ∧ n - t ≤ kx ∧ Hid (WfS w wr j ∧ wfL i (fs.take t) = some (j, sum)))
  case atStart => exact ⟨0, i, 0, rfl, rfl, Nat.zero_le _, by omega, HS.out, rfl⟩
  case round =>
    obtain ⟨t, j, sum, rfl, rfl, hin, hkx, HW⟩ := hrel
    obtain ⟨jk, jm, jl, js⟩ := j
    by_cases hlt : t < n
    · obtain ⟨⟨fb, fv⟩, hy⟩ : ∃ y, fs[t]? = some y := ⟨_, List.getElem?_eq_getElem (by have := HL.out; omega)⟩
      have HY : Hid (fs[t]? = some (fb, fv)) := hy
      have hrd := HR.out.below (HW.out.1.bel)
      obtain ⟨b0, o0, rfl, hb0, c0, c1⟩ := fi_cells hrd hy
      have hiI : (t : Int) < (n : Int) := by omega
      have hib : (t : Int) + 1 ≤ 1000001 := by omega
      have hS2 := HW.out.1.below (bel1 wr (.cells #[.int .i64 fb, .int .i64 fv] 149))
      have v0 : (wr.alloc (.cells #[.int .i64 fb, .int .i64 fv] 149)).cell? ⟨wr.heap.size, 0, none⟩ = some (.int .i64 fb) := by rw [cell_of_row _ _ _ _ _ (0, 0) (heap_alloc_new wr _)]; rfl
      have v1 : (wr.alloc (.cells #[.int .i64 fb, .int .i64 fv] 149)).cell? ⟨wr.heap.size, 1, none⟩ = some (.int .i64 fv) := by rw [cell_of_row _ _ _ _ _ (0, 0) (heap_alloc_new wr _)]; rfl
      have HLT : Hid (w.heap.size + 1 < wr.heap.size) := HW.out.1.lt
      have hne : ¬ wr.heap.size = w.heap.size := by have := HLT.out; omega
      obtain ⟨w2, hw2⟩ : ∃ w2, wr.alloc (.cells #[.int .i64 fb, .int .i64 fv] 149) = w2 := ⟨_, rfl⟩
      rw [hw2] at hS2 v0 v1
      have HS2 : Hid (WfS w w2 ⟨jk, jm, jl, js⟩) := hS2
      have r0 := hS2.r.cell 0 _ rfl
      have r1 := hS2.r.cell 1 _ rfl
      have r2 := hS2.r.cell 2 _ rfl
      have r3 := hS2.r.cell 3 _ rfl
      have q0 := hS2.r.fr 0
      have q1 := hS2.r.fr 1
      have q2 := hS2.r.fr 2
      have q3 := hS2.r.fr 3
      have i1 := hS2.i.cell 1 _ rfl
      have i2 := hS2.i.cell 2 _ rfl
      have i3 := hS2.i.cell 3 _ rfl
      have f1 := hS2.i.fr 1
      have f2 := hS2.i.fr 2
      have f3 := hS2.i.fr 3
      dsimp only at i1 i2 i3
      have HN : Hid (wfL i (fs.take t) = some (⟨jk, jm, jl, js⟩, sum)) := HW.out.2
      clear hy hrd hS2
      cases ha : (bits .and .i64 sum fb != 0) with
      | true =>
        have HE : Hid (R = (in0, 0, false)) := by
          unfold Hid; rw [← HF.out]; unfold wfR; rw [wfL_stop HY.out (by rw [HN.out]; unfold wf1; simp [ha])]
        go_wp2_with (fail)
        try go_wp2
        refine ret_in3 rfl (w.heap.size + 1) 0 0 0 0 rfl _ rfl _ rfl (InRow.put HS2.out.r _ _ _ _) rfl ⟨by rw [HE.out]; rfl, ?_⟩
        exact (((HS2.out.bel.setCell (by dsimp only; omega) _).setCell (by dsimp only; omega) _).setCell (by dsimp only; omega) _).setCell (by dsimp only; omega) _
      | false =>
        by_cases h1 : fb = 1
        · subst h1
          have HE : Hid (wfL i (fs.take (t + 1)) = some (⟨jk, fv, jl, js⟩, bits .or .i64 sum 1)) := by
            unfold Hid; rw [wfL_next HY.out, HN.out]; unfold wf1; simp [ha]
          have HP : Hid (WfS w (w2.setCell ⟨w.heap.size, 1, none⟩ (.int .i64 fv)) ⟨jk, fv, jl, js⟩) := HS2.out.set (HS2.out.i.set1 fv)
          clear HN HF
          go_wp2
          go_roundg (n - (t + 1))
          case measure => omega
          case rel => exact ⟨t + 1, ⟨jk, fv, jl, js⟩, _, by rw [show ((t : Int) + 1) = ((t + 1 : Nat) : Int) by omega], rfl, by omega, by omega, HP.out, HE.out⟩
        have h1b : (fb == 1) = false := by simpa using h1
        by_cases h2 : fb = 2
        · subst h2
          have HE : Hid (wfL i (fs.take (t + 1)) = some (⟨jk, jm, fv, js⟩, bits .or .i64 sum 2)) := by
            unfold Hid; rw [wfL_next HY.out, HN.out]; unfold wf1; simp [ha]
          have HP : Hid (WfS w (w2.setCell ⟨w.heap.size, 2, none⟩ (.int .i64 fv)) ⟨jk, jm, fv, js⟩) := HS2.out.set (HS2.out.i.set2 fv)
          clear HN HF
          go_wp2
          go_roundg (n - (t + 1))
          case measure => omega
          case rel => exact ⟨t + 1, ⟨jk, jm, fv, js⟩, _, by rw [show ((t : Int) + 1) = ((t + 1 : Nat) : Int) by omega], rfl, by omega, by omega, HP.out, HE.out⟩
        have h2b : (fb == 2) = false := by simpa using h2
        by_cases h4 : fb = 4
        · subst h4
          have HE : Hid (wfL i (fs.take (t + 1)) = some (⟨jk, jm, jl, fv⟩, bits .or .i64 sum 4)) := by
            unfold Hid; rw [wfL_next HY.out, HN.out]; unfold wf1; simp [ha]
          have HP : Hid (WfS w (w2.setCell ⟨w.heap.size, 3, none⟩ (.int .i64 fv)) ⟨jk, jm, jl, fv⟩) := HS2.out.set (HS2.out.i.set3 fv)
          clear HN HF
          go_wp2
          go_roundg (n - (t + 1))
          case measure => omega
          case rel => exact ⟨t + 1, ⟨jk, jm, jl, fv⟩, _, by rw [show ((t : Int) + 1) = ((t + 1 : Nat) : Int) by omega], rfl, by omega, by omega, HP.out, HE.out⟩
        have h4b : (fb == 4) = false := by simpa using h4
        have HE : Hid (R = (in0, 0, false)) := by
          unfold Hid; rw [← HF.out]; unfold wfR; rw [wfL_stop HY.out (by rw [HN.out]; unfold wf1; simp [ha, h1, h2, h4])]
        clear HN HF
        go_wp2
        refine ret_in3 rfl (w.heap.size + 1) 0 0 0 0 rfl _ rfl _ rfl (InRow.put HS2.out.r _ _ _ _) rfl ⟨by rw [HE.out]; rfl, ?_⟩
        exact (((HS2.out.bel.setCell (by dsimp only; omega) _).setCell (by dsimp only; omega) _).setCell (by dsimp only; omega) _).setCell (by dsimp only; omega) _
    · obtain rfl : n = t := by omega
      have HE : Hid (R = (⟨jk, jm, jl, js⟩, sum, true)) := by
        unfold Hid; rw [← HF.out]; unfold wfR; have := HW.out.2; rw [List.take_of_length_le (by have := HL.out; omega)] at this; rw [this]
      have HS2 : Hid (WfS w wr ⟨jk, jm, jl, js⟩) := HW.out.1
      have hS2 := HS2.out
      have r0 := hS2.r.cell 0 _ rfl
      have r1 := hS2.r.cell 1 _ rfl
      have r2 := hS2.r.cell 2 _ rfl
      have r3 := hS2.r.cell 3 _ rfl
      have q0 := hS2.r.fr 0
      have q1 := hS2.r.fr 1
      have q2 := hS2.r.fr 2
      have q3 := hS2.r.fr 3
      have i0 := hS2.i.cell 0 _ rfl
      have i1 := hS2.i.cell 1 _ rfl
      have i2 := hS2.i.cell 2 _ rfl
      have i3 := hS2.i.cell 3 _ rfl
      dsimp only at i0 i1 i2 i3
      clear hS2 HF HW
      go_wp2
      refine ret_in3 rfl (w.heap.size + 1) jk jm jl js rfl _ rfl _ rfl (InRow.put HS2.out.r _ _ _ _) rfl ⟨by rw [HE.out]; rfl, ?_⟩
      exact (((HS2.out.bel.setCell (by dsimp only; omega) _).setCell (by dsimp only; omega) _).setCell (by dsimp only; omega) _).setCell (by dsimp only; omega) _

/-! ### placesOf -/

def plE4 (p : Pl) : List Value := [.int .u32 p.ino, .int .i64 p.part, .string p.name, .int .u32 p.chunk]
theorem plE4_len (p : Pl) : (plE4 p).length = 4 := rfl
theorem plE4_one (p : Pl) : ∀ u ∈ plE4 p, u.oneCell' = true := fun u hu => by
  simp [plE4] at hu
  rcases hu with rfl | rfl | rfl | rfl <;> rfl
theorem info_pl : (Tryz.prog.info? 87).map (fun i => (i.zero, i.size, i.bytes)) = some (some (plV pl0), 4, 40) := by kernel_rfl
/-- The places that an inode alone takes: its record, and a file's chunks. -/
def chunksL (ino : Int) (n : Nat) : List Pl := recP ino :: (List.range n).map fun (k : Nat) => datP ino (k : Int)
def placesL (ino : Int) (i : In4) : List Pl := chunksL ino (if i.k = 1 then (i.s.toNat + 31) / 32 else 0)
theorem chunksL_next (ino : Int) (n : Nat) : chunksL ino (n + 1) = chunksL ino n ++ [datP ino n] := by simp [chunksL, List.range_succ]
theorem chunksL_len (ino : Int) (n : Nat) : (chunksL ino n).length = n + 1 := by simp [chunksL]
theorem rd_pl (w : World) (p : Pl) : RdZ 4 plE4 (w.alloc (.cells (plCells p) 87)) (.slice (some ⟨w.heap.size, 0, none⟩) 1 1) [p] :=
  rdZ_own plE4_len (base := w.heap.size) (e := 87) ⟨rfl, .inr ⟨w.heap.size, 1, plCells p, rfl, Nat.le_refl _, heap_alloc_new _ _, Nat.le_refl _, by decide, rfl, rfl⟩⟩
theorem own_pl (w : World) (p : Pl) : OwnL w.heap.size 87 4 plE4 (w.alloc (.cells (plCells p) 87)) (.slice (some ⟨w.heap.size, 0, none⟩) 1 1) [p] :=
  ⟨rfl, .inr ⟨w.heap.size, 1, plCells p, rfl, Nat.le_refl _, heap_alloc_new _ _, Nat.le_refl _, by decide, rfl, rfl⟩⟩

end Go.Proofs.YtjjhfginmamlkaaGreat
