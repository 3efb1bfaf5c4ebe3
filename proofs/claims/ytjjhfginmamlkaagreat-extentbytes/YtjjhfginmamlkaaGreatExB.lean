/- The contract of the law's all; a list of bytes that a statement keeps itself. -/
import Derived.Test.YtjjhfginmamlkaaGreatXD
import Derived.Test.YtjjhfginmamlkaaGreatA1
import Derived.Lib.BufferWrite
namespace Go.Proofs.YtjjhfginmamlkaaGreat
open Go.RowKit Go.Maps
set_option linter.unusedVariables false
set_option linter.unusedSimpArgs false
set_option maxRecDepth 100000

theorem strOf_app (A B : List Int) : strOfNums A ++ strOfNums B = strOfNums (A ++ B) := by
  apply ByteArray.ext
  simp [strOfNums, ByteArray.data_append]

set_option maxHeartbeats 4000000 in
theorem all_in {B : Nat} {w0 w : World} {pp : Nat} {a : Sa} {s : Sg} (h : Pr B w0 w pp a s) {K : List Pl} {xs : List Int} (hb : Bs s K) (hf : Fl s 2 xs) {N : Nat} (hk : Sk s N) (hN : N ≤ 3700) :
    Calls Tryz.prog 16 #[.pointer (some ⟨pp, 0, none⟩), .int .u32 2] w fun e w' => e = .returned (.tuple #[.string (strOfNums xs), .bool true]) ∧ ∃ s', Pr B w0 w' pp a s' ∧ KeepT w w' ∧ Bs s' K ∧ Fl s' 2 xs ∧ Sk s' (N + 16) := by
  have HP : Hid (Pr B w0 w pp a s) := h
  have HBS : Hid (Bs s K) := hb
  have HFL : Hid (Fl s 2 xs) := hf
  have HK : Hid (Sk s N) := hk
  have HN : Hid (N ≤ 3700) := hN
  have HX5 : Hid (xs.length ≤ 512) := hf.len
  clear h hb hf hk hN
  go_enter Tryz.func16, Tryz.ntmps16
  go_wp2
  go_loopg [6, 7, 8, 9] 9 (fun kx s6 s7 s8 s9 wr => ∃ (i : Nat) (s' : Sg) (t : ByteArray), s7 = .int .i64 ((64 * i : Nat) : Int) ∧ s6 = .string t ∧ i ≤ 8 ∧ 9 - i ≤ kx ∧ Hid (t = strOfNums (xs.take (64 * i)) ∧ Pr B w0 wr pp a s' ∧ KeepT w wr ∧ Bs s' K ∧ Fl s' 2 xs ∧ Sk s' (N + 2 * i)))
  case atStart => exact ⟨0, s, _, rfl, rfl, by decide, by omega, by rw [Nat.mul_zero, List.take_zero]; rfl, HP.out, KeepT.below (Below.refl _ _), HBS.out, HFL.out, HK.out⟩
  case round =>
    obtain ⟨i, s', t, rfl, rfl, hi8, hkx, HW⟩ := hrel
    obtain ⟨j, hj⟩ : ∃ j, 64 * i = j := ⟨_, rfl⟩
    rw [hj] at HW ⊢
    have hj5 : j ≤ 512 := by omega
    by_cases hlt : j < 512
    · have hltI : (j : Int) < 512 := by omega
      have hjI : (j : Int) ≤ 512 := by omega
      obtain ⟨h1, h2, h3, h4, h5, h6⟩ := HW.out
      have q := h2.c0
      have c := h2.read 2 (by decide) (by decide) (j : Int) 64 (by omega) (by omega) h6 (by have := HN.out; omega)
      have hrd : rdX s' 2 (j : Int) 64 = rdX s' 2 ((j : Nat) : Int) ((64 : Nat) : Int) := rfl
      have hre := rd_file (s := s') h4.nil h5 (off := j) (n := 64) (by decide)
      have HS1 : Hid ((rdX s' 2 (j : Int) 64).1.d = s'.d ∧ (rdX s' 2 (j : Int) 64).1.l = s'.l) := by
        unfold Hid; rw [hrd, hre]; split <;> exact ⟨rfl, rfl⟩
      have HS2 : Hid ((rdX s' 2 (j : Int) 64).2 = (strOfNums ((xs.drop j).take 64), 0)) := by unfold Hid; rw [hrd, hre]
      have HK2 : Hid (Sk (rdX s' 2 (j : Int) 64).1 (N + 2 * (i + 1))) := (exk_rd h6 2 j 64).mono (by omega)
      have HB2 : Hid (Bs (rdX s' 2 (j : Int) 64).1 K) := h4.same HS1.out.2 HS1.out.1
      have HF2 : Hid (Fl (rdX s' 2 (j : Int) 64).1 2 xs) := h5.same HS1.out.1
      rw [HS2.out] at c
      obtain ⟨S2, hS2⟩ : ∃ S2, (rdX s' 2 (j : Int) 64).1 = S2 := ⟨_, rfl⟩
      rw [hS2] at c HK2 HB2 HF2
      have HT : Hid (t ++ strOfNums ((xs.drop j).take 64) = strOfNums (xs.take (64 * (i + 1)))) := by
        unfold Hid
        rw [h1, strOf_app, show 64 * (i + 1) = j + 64 by omega, List.take_add]
      have htu : t.size + (strOfNums ((xs.drop j).take 64)).size ≤ 1000 := by
        rw [h1, strOfNums_size, strOfNums_size, List.length_take, List.length_take]; omega
      generalize strOfNums ((xs.drop j).take 64) = u at *
      have HKT : Hid (KeepT w wr) := h3
      clear h1 h2 h3 h4 h5 h6 hrd hre HS1 HS2 hS2 HW
      go_wp2_with fail
      refine c.mono ?_
      rintro e w2 ⟨rfl, hp2, hk2⟩
      clear c q
      have HP2 : Hid (Pr B w0 w2 pp a S2) := hp2
      have HKT2 : Hid (KeepT w w2) := HKT.out.trans hk2
      clear hp2 hk2
      go_wp2
      go_roundg (9 - (i + 1))
      case measure => omega
      case rel => exact ⟨i + 1, S2, _, by rw [show ((j : Int) + 64) = ((64 * (i + 1) : Nat) : Int) by omega], rfl, by omega, by omega, HT.out, HP2.out, HKT2.out, HB2.out, HF2.out, HK2.out⟩
    · obtain rfl : j = 512 := by omega
      obtain ⟨h1, h2, h3, h4, h5, h6⟩ := HW.out
      rw [List.take_of_length_le HX5.out] at h1
      subst h1
      have HR : Hid (∃ s', Pr B w0 wr pp a s' ∧ KeepT w wr ∧ Bs s' K ∧ Fl s' 2 xs ∧ Sk s' (N + 16)) := ⟨s', h2, h3, h4, h5, h6.mono (by omega)⟩
      obtain ⟨u, hu⟩ : ∃ u, strOfNums xs = u := ⟨_, rfl⟩
      have HU : Hid (strOfNums xs = u) := hu
      rw [hu]
      clear h2 h3 h4 h5 h6 HW hu
      go_wp2
      go_ret2
      exact ⟨by rw [HU.out]; first | done | rfl, HR.out⟩

/-! ### A list of one's own -/

theorem Pr.soleOwn {B : Nat} {w0 w w' : World} {pp : Nat} {a : Sa} {s : Sg} (h : Pr B w0 w pp a s) {g : Nat} {cs : Array Value} (hg : w.heap[g]? = some (.cells cs 5 (0, 0))) (hB : B ≤ g) (hs : Sole [g] w w') : Pr B w0 w' pp a s := by
  obtain ⟨X, x, p1, p2⟩ := h.ex
  have tt : ∀ {k : Nat} {cs' : Array Value} {T' : TypeId} {fr' : Nat × Nat}, w.heap[k]? = some (.cells cs' T' fr') → T' ≠ 5 → k ≠ g := fun hk hT e => by subst e; rw [hg] at hk; simp only [Option.some.injEq, Obj.cells.injEq] at hk; exact hT hk.2.1.symm
  have hx : g ∉ X := p2.other6 hg (by decide) (by decide) (by decide) (by decide) (by decide)
  refine ⟨⟨X, x, hs.row p1 (by rw [List.mem_singleton]; exact tt p1 (by decide)), p2.keep hs.size (fun k hk hc => hs.block k hk (fun e => ?_))⟩, h.bel.trans (hs.belowX (by intro k hk; rw [List.mem_singleton] at hk; omega) (Nat.le_trans h.B h.bel.size)), h.B⟩
  rw [List.mem_singleton] at e
  subst e
  obtain ⟨vd, vr, vu, h2, rfl⟩ := p2
  rcases hc with hc | hc | hc | hc | hc
  · omega
  · exact hx hc
  · exact tt h2.sr (by decide) hc.symm
  · exact tt h2.vw.row (by decide) hc.symm
  · obtain ⟨ad, n, cap, hS, _⟩ := h2.so
    exact tt hS.row (by decide) hc.symm
theorem Pr.grown {B : Nat} {w0 w w' : World} {pp : Nat} {a : Sa} {s : Sg} (h : Pr B w0 w pp a s) {v : Value} {xs : List Int} (ho : Own w B v xs) (hg : w.grownBy w' v.ownBlock) : Pr B w0 w' pp a s := by
  rcases ho.2 with ⟨rfl, _⟩ | ⟨g, cap, cur, rfl, hb, hh, _⟩
  · exact h.below ⟨hg.os, hg.tape, hg.output, hg.size, fun k hk => hg.block k hk (by simp [Value.ownBlock])⟩
  · exact h.soleOwn hh hb ⟨hg.os, hg.tape, hg.output, hg.size, fun k hk hn => hg.block k hk (fun e => hn (by simp [Value.ownBlock] at e; simp [e]))⟩
theorem EoRow.grown {w w' : World} {gr : Nat} {o : Eop} (h : EoRow w gr o) {B : Nat} {v : Value} {xs : List Int} (ho : Own w B v xs) (hg : w.grownBy w' v.ownBlock) : EoRow w' gr o := by
  refine (hg.block gr (lt_of_row h) (fun e => ?_)).trans h
  rcases ho.2 with ⟨rfl, _⟩ | ⟨g, cap, cur, rfl, hb, hh, _⟩
  · cases e
  · simp [Value.ownBlock] at e
    subst e
    unfold EoRow at h
    rw [h] at hh
    simp only [Option.some.injEq, Obj.cells.injEq] at hh
    exact absurd hh.2.1 (by decide)
theorem Own.keepT {w w' : World} {B : Nat} {v : Value} {xs : List Int} (h : Own w B v xs) (hk : KeepT w w') : Own w' B v xs := by
  refine ⟨h.1, ?_⟩
  rcases h.2 with e | ⟨g, cap, cur, rfl, hb, hh, r⟩
  · exact .inl e
  · exact .inr ⟨g, cap, cur, rfl, hb, hk.2 _ _ _ _ hh (by decide) (by decide) (by decide) (by decide) (by decide) (by decide), r⟩
theorem Own.cutTo {w : World} {B : Nat} {a : Option Addr} {n cap k : Nat} {xs : List Int} (h : Own w B (.slice a n cap) xs) (hk : k ≤ n) : Own w B (.slice a k cap) (xs.take k) := by
  have hl : xs.length = n := by
    obtain ⟨a', c', e⟩ := row_slice h
    simp only [Value.slice.injEq] at e; exact e.2.1.symm
  have hl2 : (xs.take k).length = k := by rw [List.length_take]; omega
  refine ⟨by simp, ?_⟩
  rw [hl2]
  rcases h.2 with ⟨e, e2⟩ | ⟨g, cap', cur, e, hb, hh, h1, h2, h3, h4⟩
  · simp only [Value.slice.injEq] at e
    obtain ⟨rfl, rfl, rfl⟩ := e
    exact .inl ⟨by rw [show k = 0 by omega], by omega⟩
  · simp only [Value.slice.injEq] at e
    obtain ⟨rfl, rfl, rfl⟩ := e
    refine .inr ⟨g, cap, cur, rfl, hb, hh, by omega, h2, h3, ?_⟩
    rw [Nat.mul_one] at h4 ⊢
    rw [List.map_take, ← h4, List.take_take, Nat.min_eq_left (by omega)]
/-- 'copy' of a text into a list of one's own. -/
theorem copy_own {w : World} {B g n cap : Nat} {xs : List Int} (h : Own w B (.slice (some ⟨g, 0, none⟩) n cap) xs) (o : Nat) (d : ByteArray) (ho : o + d.size ≤ n) (hp : 0 < d.size) : ∃ cs cur, w.heap[g]? = some (.cells cur 5 (0, 0)) ∧ B ≤ g ∧
    (Builtin.copy_ #[42, 9] 3 #[.slice (some ⟨g, o, none⟩) (n - o) (cap - o), .string d]).run Tryz.prog w = .ok (goInt d.size) (w.setRow g cs) ∧ Own (w.setRow g cs) B (.slice (some ⟨g, 0, none⟩) n cap) (ovl xs o (strB d)) := by
  have hl : xs.length = n := by
    obtain ⟨a', c', e⟩ := row_slice h
    simp only [Value.slice.injEq] at e; exact e.2.1.symm
  rcases h.2 with ⟨e, e2⟩ | ⟨g', cap', cur, e, hb, hh, h1, h2, h3, h4⟩
  · cases e
  · simp only [Value.slice.injEq, Option.some.injEq, Addr.mk.injEq] at e
    obtain ⟨⟨rfl, _⟩, _, rfl⟩ := e
    have hsd := strB_length d
    rw [Nat.mul_one] at h3 h4
    refine ⟨(cur.toList.take o ++ Lib.byteCells d.data.toList ++ cur.toList.drop (o + d.size)).toArray, cur, hh, hb, Lib.run_copy_row_string w 42 9 3 5 g o (n - o) (cap - o) d cur 5 Tryz.underlying42 (by kernel_rfl) hh (by omega) (by omega), ?_⟩
    have hlen : (ovl xs o (strB d)).length = n := by rw [ovl_len, hsd]; omega
    have hbc : (Lib.byteCells d.data.toList).length = d.size := by rw [strB_cells, List.length_map, hsd]
    refine ⟨by simp, .inr ⟨g, cap, _, by rw [hlen], hb, setRow_heap _ _ _ _ _ _ hh, by rw [hlen]; exact Nat.le_trans (by omega) h1, h2, ?_, ?_⟩⟩
    · simp only [List.size_toArray, List.length_append, List.length_take, List.length_drop, hbc, Array.length_toList]
      omega
    · rw [hlen, Nat.mul_one]
      apply List.ext_getElem?
      intro j
      have hxs : ∀ j, j < n → cur.toList[j]? = (xs.map (Value.int .u8))[j]? := fun j hj => by
        have := congrArg (·[j]?) h4
        simp only [List.getElem?_take] at this
        rw [if_pos (by omega)] at this
        exact this
      rw [List.getElem?_take]
      by_cases hj : j < n
      · rw [if_pos hj, List.getElem?_map]
        have hov : (ovl xs o (strB d))[j]? = some ((ovl xs o (strB d)).getD j 0) := by
          rw [List.getD_eq_getElem?_getD, List.getElem?_eq_getElem (by rw [hlen]; exact hj)]; rfl
        rw [hov, ovl_get, hsd]
        simp only [Option.map_some, List.getElem?_toArray]
        have htl : (cur.toList.take o).length = o := by rw [List.length_take, Array.length_toList]; omega
        by_cases c1 : j < o
        · rw [if_neg (by omega), List.append_assoc, List.getElem?_append_left (by omega), List.getElem?_take, if_pos c1, hxs j hj, List.getElem?_map, List.getElem?_eq_getElem (by omega), List.getD_eq_getElem?_getD, List.getElem?_eq_getElem (by omega)]
          rfl
        · by_cases c2 : j < o + d.size
          · rw [if_pos (by omega), List.getElem?_append_left (by rw [List.length_append]; omega), List.getElem?_append_right (by omega), htl, strB_cells, List.getElem?_map, List.getElem?_eq_getElem (by omega), List.getD_eq_getElem?_getD, List.getElem?_eq_getElem (by omega)]
            rfl
          · rw [if_neg (by omega), List.getElem?_append_right (by rw [List.length_append]; omega), List.length_append, htl, hbc, List.getElem?_drop, show o + d.size + (j - (o + d.size)) = j by omega, hxs j hj, List.getElem?_map, List.getElem?_eq_getElem (by omega), List.getD_eq_getElem?_getD, List.getElem?_eq_getElem (by omega)]
            rfl
      · rw [if_neg hj, List.getElem?_eq_none (by rw [List.length_map, hlen]; omega)]

/-- A list that is made longer by noughts. -/
def padL (xs : List Int) (j : Nat) : List Int := xs ++ List.replicate j 0
theorem padL_next (xs : List Int) (j : Nat) : padL xs j ++ [0] = padL xs (j + 1) := by unfold padL; rw [List.append_assoc, List.replicate_succ']
theorem padL_len (xs : List Int) (j : Nat) : (padL xs j).length = xs.length + j := by simp [padL]
theorem pad_ovl (xs : List Int) (o : Nat) (ds : List Int) (j : Nat) (hj : xs.length + j = max xs.length (o + ds.length)) : ovl (padL xs j) o ds = ovl xs o ds := by
  apply List.ext_getElem?
  intro k
  have g1 : (ovl (padL xs j) o ds).length = (ovl xs o ds).length := by rw [ovl_len, ovl_len, padL_len]; omega
  by_cases hk : k < (ovl xs o ds).length
  · have e1 := ovl_get (padL xs j) o ds k
    have e2 := ovl_get xs o ds k
    have e3 : (padL xs j).getD k 0 = xs.getD k 0 := by
      unfold padL
      rw [List.getD_eq_getElem?_getD, List.getD_eq_getElem?_getD]
      by_cases c : k < xs.length
      · rw [List.getElem?_append_left c]
      · rw [List.getElem?_append_right (by omega), List.getElem?_replicate, List.getElem?_eq_none (by omega : xs.length ≤ k)]
        split <;> rfl
    rw [e3, ← e2] at e1
    rw [List.getD_eq_getElem?_getD, List.getD_eq_getElem?_getD, List.getElem?_eq_getElem (by omega), List.getElem?_eq_getElem hk] at e1
    rw [List.getElem?_eq_getElem (by omega), List.getElem?_eq_getElem hk]
    exact congrArg some e1
  · rw [List.getElem?_eq_none (by omega), List.getElem?_eq_none (by omega)]
theorem pad_cut (xs : List Int) (n j : Nat) (hj : xs.length + j = max xs.length n) : (padL xs j).take n = cutL xs n := by
  unfold padL cutL
  rw [List.take_append, List.take_replicate]
  congr 2
  omega
theorem pad_byt {xs : List Int} (h : Byt xs) (j : Nat) : Byt (padL xs j) := h.append (fun y hy => by rw [List.eq_of_mem_replicate hy]; omega)

end Go.Proofs.YtjjhfginmamlkaaGreat
