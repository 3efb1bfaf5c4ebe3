/- The contract of the history's Add. -/
import Derived.Test.YtmncjecbgakmfaaRtMeets2
namespace Go.Proofs.Ytmncjecbgakmfaa
open Go.RowKit
set_option linter.unusedVariables false
set_option linter.unusedSimpArgs false
set_option maxRecDepth 100000

/-- Whether a version may be added. -/
def goodV (V : List (Int × List Tc)) (ver : Int) (l : List Tc) : Bool := V.all (fun p => decide (p.1 < ver)) && l.all mayB
def addV (V : List (Int × List Tc)) (ver : Int) (l : List Tc) : List (Int × List Tc) := if goodV V ver l = true then V ++ [(ver, l)] else V
def addX (V : List (Int × List Tc)) (ver : Int) (l : List Tc) : Int := if goodV V ver l = true then 0 else 1
theorem info_de : (Try.prog.info? 69).map (fun i => (i.zero, i.size, i.bytes)) = some (some (.agg #[.int .u64 0, .slice none 0 0]), 2, 32) := by kernel_rfl
theorem slice_de (ver : Int) (a : Option Addr) (n c : Nat) (w : World) : (Instr.buildSlice 65 1 #[(0, .agg #[.int .u64 ver, .slice a n c])]).run Try.prog w = .ok (.slice (some ⟨w.heap.size, 0, none⟩) 1 1) (w.alloc (.cells #[.int .u64 ver, .slice a n c] 69)) := by kernel_rfl

/-- The last version is the greatest. -/
theorem last_all {K : List De} (h : (K.map De.ver).Pairwise (· < ·)) {x : De} (hx : K[K.length - 1]? = some x) (ver : Int) : (K.map De.plain).all (fun p => decide (p.1 < ver)) = decide (x.ver < ver) := by
  rw [Bool.eq_iff_iff, List.all_eq_true, decide_eq_true_eq]
  constructor
  · intro hall
    have := hall x.plain (List.mem_map.2 ⟨x, List.mem_of_getElem? hx, rfl⟩)
    exact of_decide_eq_true this
  · intro hlt p hp
    obtain ⟨d, hd, rfl⟩ := List.mem_map.1 hp
    obtain ⟨i, hi, e⟩ := List.getElem_of_mem hd
    have hi' : K[i]? = some d := by rw [List.getElem?_eq_getElem hi, e]
    rcases Nat.lt_or_ge i (K.length - 1) with h1 | h1
    · have := rise_at h h1 hi' hx
      exact decide_eq_true (show d.ver < ver by omega)
    · have : i = K.length - 1 := by omega
      rw [this, hx] at hi'
      cases hi'
      exact decide_eq_true hlt

/-- What an addition leaves. -/
def HOut (B : Nat) (w0 w w' : World) (p : Nat) (V : List (Int × List Tc)) (G : List Nat) : Prop := HistF B w0 w' p V G ∧ KeepG G w w'

theorem hadd_end {B : Nat} {w0 w wr w6 w7 w8 w9 : World} {p nk n : Nat} {V : List (Int × List Tc)} {G RB : List Nat} {K : List De} {ah a6 a8 : Option Addr} {ch c6 c8 : Nat} {ver : Int} {l : List Tc} (hKn : K.length = nk) (hln : l.length = n) (hn : n ≤ 100) (h4 : HistAt wr p (.slice ah K.length ch) K) (hok : ∀ t ∈ l, TcOk t) (hver : 0 ≤ ver ∧ ver ≤ 18446744073709551615) (hlast : ∀ d ∈ K, d.ver < ver) (hV : K.map De.plain = V)
    (hB : B ≤ p ∧ (∀ k, (Value.slice ah K.length ch).ownBlock = some k → B ≤ k) ∧ (∀ d ∈ K, ∀ k, d.v.ownBlock = some k → B ≤ k) ∧ B ≤ w.heap.size ∧ Below B w0 w) (hG : ∀ g ∈ G, g < w.heap.size ∧ g ≠ p ∧ (Value.slice ah K.length ch).ownBlock ≠ some g ∧ ∀ d ∈ K, d.v.ownBlock ≠ some g) (hW : Below w.heap.size w wr)
    (hp4 : wr.heap[p]? = some (.cells #[.slice ah nk ch] 67 (0, 0))) (hRB : RB = (Value.slice ah nk ch).ownBlock.toList) (hX : Sole [p] w8 w9 ∧ Sole RB wr w8 ∧ Sole RB w7 w8 ∧ Below wr.heap.size wr w6 ∧ Below w6.heap.size w6 w7)
    (hG9 : w9.heap[p]? = some (.cells #[.slice a8 (nk + 1) c8] 67 (0, 0))) (h8 : w8.ownsRow 0 69 2 (.slice a8 (nk + 1) c8) (nk + 1) (K.flatMap deE ++ [.int .u64 ver, .slice a6 n c6])) (hT7 : w7.ownsRow wr.heap.size 24 5 (.slice a6 n c6) n (l.flatMap tcE))
    (hA8 : (Value.slice a8 (nk + 1) c8).ownBlock = (Value.slice ah nk ch).ownBlock ∨ (Value.slice a8 (nk + 1) c8).ownBlock = some w7.heap.size) (hG8 : w8.heap[p]? = some (.cells #[.slice ah nk ch] 67 (0, 0))) : HOut B w0 w w9 p (V ++ [(ver, l)]) G := by
  subst hKn hln
  obtain ⟨s89, s48, s78, b6, b7⟩ := hX
  have hRd : ∀ k ∈ RB, ∃ cs, wr.heap[k]? = some (.cells cs 69 (0, 0)) := fun k hk => by
    rw [hRB, Option.mem_toList] at hk; exact own_row h4.own hk
  have hRB7 : ∀ k ∈ RB, k < wr.heap.size := fun k hk => by obtain ⟨cs, e⟩ := hRd k hk; exact (Array.getElem?_eq_some_iff.1 e).1
  have b47 : Below wr.heap.size wr w7 := thenB b6 b7
  have notRB : ∀ {q : Nat} {cs : Array Value} {e : TypeId}, wr.heap[q]? = some (.cells cs e (0, 0)) → e ≠ 69 → q ∉ RB := fun hq he hk => by
    obtain ⟨cs', e'⟩ := hRd _ hk
    exact ne_of_type e' hq (Ne.symm he) rfl
  have hnew : ∀ q, (Value.slice a6 l.length c6).ownBlock = some q → wr.heap.size ≤ q ∧ q < w7.heap.size := fun q hq => by
    have h1 := own_blk hT7 hq
    obtain ⟨_, ⟨e, _⟩ | ⟨g, cap, cur, e, h3, _⟩⟩ := hT7
    · rw [e] at hq; cases hq
    · rw [e] at hq; cases hq; exact ⟨h3, h1⟩
  have hpl : p < wr.heap.size := h4.lt
  have hsz := hW.size
  -- blocks of the touches' rows stay
  have stay : ∀ q, q < wr.heap.size → q ≠ p → q ∉ RB → w9.heap[q]? = wr.heap[q]? := fun q hq hqp hqr => by
    rw [s89.block q (Nat.lt_of_lt_of_le hq s48.size) (by simpa using hqp)]
    exact s48.block q hq hqr
  have hd9 : ∀ d ∈ K, DeOk w9 d := fun d hd => (h4.each d hd).keep (Nat.le_trans s48.size s89.size) (fun q hq => by
    obtain ⟨cs, e⟩ := own_row (h4.each d hd).own hq
    exact stay q (Array.getElem?_eq_some_iff.1 e).1 (ne_of_type e hp4 (by decide)) (notRB e (by decide)))
  have hn9 : DeOk w9 ⟨ver, .slice a6 l.length c6, l⟩ := by
    refine ⟨hver.1, hver.2, ?_, hok, hn⟩
    have h1 : w9.ownsRow wr.heap.size 24 5 (.slice a6 l.length c6) l.length (l.flatMap tcE) := own_keep hT7 (Nat.le_trans s78.size s89.size) (fun q hq hl => by
      obtain ⟨k1, k2⟩ := hnew q hq
      rw [s89.block q (Nat.lt_of_lt_of_le k2 s78.size) (fun e => by rw [List.mem_singleton] at e; omega)]
      exact s78.block q k2 (fun hk => by have := hRB7 q hk; omega))
    exact row_mono h1 (Nat.zero_le _)
  have ho9 : w9.ownsRow 0 69 2 (.slice a8 (K.length + 1) c8) (K.length + 1) (K.flatMap deE ++ [.int .u64 ver, .slice a6 l.length c6]) := own_keep h8 s89.size (fun q hq hl => s89.block q hl (by
    obtain ⟨cs, e⟩ := own_row h8 hq
    have := ne_of_type e hG8 (by decide)
    simpa using this))
  have hown8 : ∀ k, (Value.slice a8 (K.length + 1) c8).ownBlock = some k → (Value.slice ah K.length ch).ownBlock = some k ∨ wr.heap.size ≤ k := fun k hk => by
    rcases hA8 with e | e
    · left; rw [← e]; exact hk
    · rw [hk] at e; cases e; right; exact b47.size
  have hSall : Sole (p :: RB) w w9 := ((Sole.of_below hW _).trans (s48.mono (fun k hk => by simp [hk]))).trans (s89.mono (fun k hk => by simp at hk; simp [hk]))
  refine ⟨⟨.slice a8 (K.length + 1) c8, K ++ [⟨ver, .slice a6 l.length c6, l⟩], ⟨hG9, ?_, ?_, ?_⟩, ?_, hB.1, ?_, ?_, ?_, ?_, ?_⟩, hSall.size, fun g hg => ?_⟩
  · rw [List.length_append, List.flatMap_append]
    exact ho9
  · intro d hd
    rcases List.mem_append.1 hd with hd | hd
    · exact hd9 d hd
    · rw [List.mem_singleton] at hd; rw [hd]; exact hn9
  · rw [List.map_append, List.pairwise_append]
    refine ⟨h4.rise, by simp, fun x hx y hy => ?_⟩
    obtain ⟨d, hd, rfl⟩ := List.mem_map.1 hx
    simp at hy
    subst hy
    exact hlast d hd
  · rw [List.map_append, hV]; rfl
  · intro k hk
    rcases hown8 k hk with e | e
    · exact hB.2.1 k e
    · have := hB.2.2.2.1; omega
  · intro d hd k hk
    rcases List.mem_append.1 hd with hd | hd
    · exact hB.2.2.1 d hd k hk
    · rw [List.mem_singleton] at hd
      subst hd
      have := (hnew k hk).1
      have := hB.2.2.2.1
      omega
  · exact Nat.le_trans hB.2.2.2.1 hSall.size
  · refine Sole.belowOf hB.2.2.2.2 hSall hB.2.2.2.1 (fun k hk => ?_)
    rcases List.mem_cons.1 hk with rfl | hk
    · exact hB.1
    · rw [hRB, Option.mem_toList] at hk; exact hB.2.1 k hk
  · intro g hg
    obtain ⟨k1, k2, k3, k4⟩ := hG g hg
    refine ⟨Nat.lt_of_lt_of_le k1 hSall.size, k2, fun e => ?_, fun d hd e => ?_⟩
    · rcases hown8 g e with e' | e'
      · exact k3 e'
      · omega
    · rcases List.mem_append.1 hd with hd | hd
      · exact k4 d hd e
      · rw [List.mem_singleton] at hd
        subst hd
        have := (hnew g e).1
        omega
  · obtain ⟨k1, k2, k3, k4⟩ := hG g hg
    refine hSall.block g k1 (fun hk => ?_)
    rcases List.mem_cons.1 hk with e | e
    · exact k2 e
    · rw [hRB, Option.mem_toList] at e; exact k3 e

set_option maxHeartbeats 16000000 in
theorem hadd_any {B : Nat} {w0 w : World} {p : Nat} {V : List (Int × List Tc)} {G : List Nat} (h : HistF B w0 w p V G) (hV : V.length ≤ 1000) (ver : Int) (hv0 : 0 ≤ ver) (hv1 : ver ≤ 18446744073709551615) (a : Option Addr) (n c : Nat) (l : List Tc) (hr : RdT w (.slice a n c) l) (hn : n ≤ 100) :
    Calls Try.prog 20 #[ptr p, .int .u64 ver, .slice a n c] w fun e w' => e = .returned (.int .i64 (addX V ver l)) ∧ HOut B w0 w w' p (addV V ver l) G := by
  have hF := h
  obtain ⟨hv, K, h1, h2, h3, h4, h5, h6, h7, h8⟩ := h
  obtain ⟨ah, ch, rfl⟩ := own_shape h1.own
  obtain ⟨hl, hnc, hcm⟩ := hr.1.len
  have hKl : K.length ≤ 1000 := by rw [← h2, List.length_map] at hV; exact hV
  obtain ⟨nk, hnk⟩ : ∃ nk, K.length = nk := ⟨_, rfl⟩
  have c0 := h1.c0
  rw [hnk] at c0
  have HH : Hid (HistAt w p (.slice ah K.length ch) K) := h1
  have HR : Hid (RdT w (.slice a n c) l) := hr
  have HL : Hid (l.length = n ∧ K.length = nk ∧ nk ≤ 1000) := ⟨hl, hnk, by omega⟩
  have HFF : Hid (HistF B w0 w p V G) := hF
  have HV2 : Hid (K.map De.plain = V) := h2
  have keep : ∀ W, Below w.heap.size w W → HOut B w0 w W p V G := fun W hW => ⟨HFF.out.below hW, KeepG.of_below hW (fun g hg => (h8 g hg).1)⟩
  have HKEEP : Hid _ := keep
  have hrdK := h1.rd
  rw [hnk] at hrdK
  have hcap := hrdK.len
  obtain ⟨R, hR⟩ : ∃ R, addX V ver l = R := ⟨_, rfl⟩
  obtain ⟨V', hV'⟩ : ∃ V', addV V ver l = V' := ⟨_, rfl⟩
  rw [hR, hV']
  have HRV : Hid (addX V ver l = R ∧ addV V ver l = V') := ⟨hR, hV'⟩
  unfold ptr
  have hn1 : n ≤ 100 := hn
  have hver : Hid (0 ≤ ver ∧ ver ≤ 18446744073709551615) := ⟨hv0, hv1⟩
  clear hF h1 hr hl hnc hcm hnk hR hV' keep hn hKl hV
  have HB : Hid (B ≤ p ∧ (∀ k, (Value.slice ah K.length ch).ownBlock = some k → B ≤ k) ∧ (∀ d ∈ K, ∀ k, d.v.ownBlock = some k → B ≤ k) ∧ B ≤ w.heap.size ∧ Below B w0 w) := ⟨h3, h4, h5, h6, h7⟩
  have HG : Hid (∀ g ∈ G, g < w.heap.size ∧ g ≠ p ∧ (Value.slice ah K.length ch).ownBlock ≠ some g ∧ ∀ d ∈ K, d.v.ownBlock ≠ some g) := h8
  clear h2 h3 h4 h5 h6 h7 h8
  have hz0 : ¬ ver < 0 := by omega
  -- what the first question is
  have first : (0 < nk ∧ ∃ x, K[nk - 1]? = some x) ∨ nk = 0 := by
    rcases Nat.eq_zero_or_pos nk with h0 | h0
    · exact .inr h0
    · exact .inl ⟨h0, _, List.getElem?_eq_getElem (by have := HL.out; omega)⟩
  have HAll : Hid (∀ x, K[nk - 1]? = some x → V.all (fun p => decide (p.1 < ver)) = decide (x.ver < ver)) := fun x hx => by
    rw [← HV2.out]
    rw [← HL.out.2.1] at hx
    exact last_all HH.out.rise hx ver
  rcases first with ⟨hpos, x, hx⟩ | h0
  · obtain ⟨j, rfl⟩ : ∃ j, nk = j + 1 := ⟨nk - 1, by omega⟩
    have hx' : K[j]? = some x := hx
    have hall := HAll.out x hx
    obtain ⟨bk, ok, rfl, hbk, e0, _⟩ := de_cells hrdK hx'
    have hj0 : (j : Int) + 1 > 0 := by omega
    have hj1 : (j : Int) + 1 ≤ 1000 := by have := HL.out; omega
    have hjn : (j : Int) < (j : Int) + 1 := by omega
    by_cases hle : ver ≤ x.ver
    · have hbad : goodV V ver l = false := by
        unfold goodV
        rw [hall, decide_eq_false (by omega), Bool.false_and]
      clear hall hx hx' hrdK HAll
      go_enter Try.func20, Try.ntmps20
      go_wp2
      go_ret
      refine ⟨by rw [← HRV.out.1, addX, if_neg (by rw [hbad]; simp)]; rfl, ?_⟩
      rw [← HRV.out.2, addV, if_neg (by rw [hbad]; simp)]
      exact HKEEP.out _ (Below.refl _ _)
    · have HTR : Hid (V.all (fun p => decide (p.1 < ver)) = true) := by unfold Hid; rw [hall]; exact decide_eq_true (by omega)
      have hgt : x.ver < ver := by omega
      clear hall hx hx' hrdK HAll
      go_enter Try.func20, Try.ntmps20
      go_wp2
      go_loopg [33] n (fun kx s33 wr => ∃ i : Nat, s33 = .int .i64 i ∧ i ≤ n ∧ n - i ≤ kx ∧ Hid (Below w.heap.size w wr) ∧ Hid (∀ y ∈ l.take i, mayB y = true))
      case atStart => exact ⟨0, rfl, Nat.zero_le _, by omega, Below.refl _ _, by simp [Hid]⟩
      case round =>
        obtain ⟨i, rfl, hin, hkx, HW, HQ⟩ := hrel
        by_cases hlt : i < n
        · obtain ⟨y, hy⟩ : ∃ y, l[i]? = some y := ⟨_, List.getElem?_eq_getElem (by have := HL.out; omega)⟩
          have HY : Hid (l[i]? = some y) := hy
          have hrd := HR.out.1.below HW.out
          obtain ⟨b0, o0, rfl⟩ : ∃ b0 o0, a = some ⟨b0, o0, none⟩ := by
            obtain ⟨b, off, e, _⟩ := tc_cells hrd hy
            exact ⟨b, off, e⟩
          have HLD : Hid _ := tc_load hrd hy
          have hiI : (i : Int) < (n : Int) := by omega
          have hib : (i : Int) + 1 ≤ 101 := by omega
          have hbl := bel1 wr (.cells #[.int .i64 y.kind, .int .u32 y.ino, .string y.name, .int .i64 y.lo, .int .i64 y.hi] 24)
          obtain ⟨w5, hw5⟩ : ∃ w5, wr.alloc (.cells #[.int .i64 y.kind, .int .u32 y.ino, .string y.name, .int .i64 y.lo, .int .i64 y.hi] 24) = w5 := ⟨_, rfl⟩
          have ht5 : TcAt w5 wr.heap.size y := by rw [← hw5]; exact TcAt.laid wr y
          rw [hw5] at hbl
          have HL5 : Hid _ := ht5.load
          have HW5 : Hid (Below w.heap.size w w5) := HW.out.trans (hbl.mono HW.out.size)
          have hck := check_any w5 y
          clear hy hrd hbl ht5
          cases hq : mayB y with
          | false =>
            rw [ckE_no hq] at hck
            go_wp2_with (first | (refine wpList_loadG rfl 24 _ rfl _ rfl _ HLD.out ?_) | (refine wpList_loadG rfl 24 _ rfl _ rfl _ HL5.out ?_))
            refine hck.mono ?_
            rintro e w6 ⟨rfl, hb6⟩
            have HB6 : Hid (Below w.heap.size w w6) := HW5.out.trans (hb6.mono HW5.out.size)
            clear hb6 hck
            go_wp2
            go_ret
            have hbad : goodV V ver l = false := by
              unfold goodV
              rw [show l.all mayB = false from List.all_eq_false.2 ⟨y, List.mem_of_getElem? HY.out, by rw [hq]; simp⟩, Bool.and_false]
            refine ⟨by rw [← HRV.out.1, addX, if_neg (by rw [hbad]; simp)]; rfl, ?_⟩
            rw [← HRV.out.2, addV, if_neg (by rw [hbad]; simp)]
            exact HKEEP.out _ HB6.out
          | true =>
            rw [ckE_yes hq] at hck
            go_wp2_with (first | (refine wpList_loadG rfl 24 _ rfl _ rfl _ HLD.out ?_) | (refine wpList_loadG rfl 24 _ rfl _ rfl _ HL5.out ?_))
            refine hck.mono ?_
            rintro e w6 ⟨rfl, hb6⟩
            have HB6 : Hid (Below w.heap.size w w6) := HW5.out.trans (hb6.mono HW5.out.size)
            clear hb6 hck
            go_wp2
            go_roundg (n - (i + 1))
            case measure => omega
            case rel =>
              refine ⟨i + 1, by rw [show ((i : Int) + 1) = ((i + 1 : Nat) : Int) by omega], by omega, by omega, HB6.out, fun z hz => ?_⟩
              rw [take_next HY.out] at hz
              rcases List.mem_append.1 hz with hz | hz
              · exact HQ.out z hz
              · rw [List.mem_singleton] at hz; rw [hz]; exact hq
        · obtain rfl : n = i := by omega
          have hgood : goodV V ver l = true := by
            unfold goodV
            rw [HTR.out, Bool.true_and, List.all_eq_true]
            intro y hy
            exact HQ.out y (by rw [List.take_of_length_le (by have := HL.out; omega)]; exact hy)
          have HGD : Hid (R = 0 ∧ V' = V ++ [(ver, l)] ∧ ∀ d ∈ K, d.ver < ver) := by
            refine ⟨by rw [← HRV.out.1, addX, if_pos hgood], by rw [← HRV.out.2, addV, if_pos hgood], fun d hd => ?_⟩
            have := HTR.out
            rw [← HV2.out, List.all_eq_true] at this
            exact of_decide_eq_true (this d.plain (List.mem_map.2 ⟨d, hd, rfl⟩))
          have h4 := HH.out.below HW.out
          have hp4 : wr.heap[p]? = some (.cells #[.slice (some ⟨bk, ok, none⟩) (j + 1) ch] 67 (0, 0)) := by have := h4.row; rw [HL.out.2.1] at this; exact this
          have ho4 := h4.own
          rw [HL.out.2.1] at ho4
          obtain ⟨RB, hRB⟩ : ∃ RB, RB = (Value.slice (some ⟨bk, ok, none⟩) (j + 1) ch).ownBlock.toList := ⟨_, rfl⟩
          have hRt : ∀ k ∈ RB, ∃ cs, wr.heap[k]? = some (.cells cs 69 (0, 0)) := fun k hk => by
            rw [hRB, Option.mem_toList] at hk; exact own_row ho4 hk
          have n1 : ∀ k ∈ RB, k ≠ p := fun k hk => by obtain ⟨cs, e⟩ := hRt k hk; exact ne_of_type e hp4 (by decide)
          have q1 : ∀ W, Sole RB wr W → W.heap[p]? = some (.cells #[.slice (some ⟨bk, ok, none⟩) (j + 1) ch] 67 (0, 0)) := fun W hW => (hW.block p (Array.getElem?_eq_some_iff.1 hp4).1 (fun hk => n1 p hk rfl)).trans hp4
          have q1l : ∀ W, Sole RB wr W → (Instr.loadAt 65 (.pointer (some ⟨p, 0, none⟩))).run Try.prog W = .ok (.slice (some ⟨bk, ok, none⟩) (j + 1) ch) W := fun W hW => by
            have c : W.cell? ⟨p, 0, none⟩ = some (.slice (some ⟨bk, ok, none⟩) (j + 1) ch) := by rw [cell_of_row _ _ _ _ _ (0, 0) (q1 W hW)]; rfl
            have u := Try.underlying65
            go_simp
          have hcl := clone_any wr.drew (.slice a n c) l ((HR.out.1.below HW.out).below (Below.refl _ wr).drew) (by have := HL.out; omega)
          rw [HL.out.1] at hcl
          have H4 : Hid (HistAt wr p (.slice (some ⟨bk, ok, none⟩) K.length ch) K) := h4
          have HO4 : Hid (wr.ownsRow 0 69 2 (.slice (some ⟨bk, ok, none⟩) (j + 1) ch) (j + 1) (K.flatMap deE)) := ho4
          have HP4 : Hid (wr.heap[p]? = some (.cells #[.slice (some ⟨bk, ok, none⟩) (j + 1) ch] 67 (0, 0))) := hp4
          obtain ⟨iP, hiP, hp0, hp1', hp2⟩ := info_parts info_de
          clear h4 hp4 ho4 hkx hin hlt HQ hgood
          go_wp2_with fail
          refine wp_region_noPanic ?_
          refine wp_region_sink 13 (S := fun W => Sole RB wr W) (by kernel_rfl) (by kernel_rfl) (Sole.drew _ _) (fun hHeld => ?_)
          refine wpAnyH_take (i := 0) (v := .pointer (some ⟨p, 0, none⟩)) rfl (by kernel_rfl) (by kernel_rfl) (by kernel_rfl) (fun _ _ _ h => h) (Or.inl ⟨by rfl, fun W hSw => by (try dsimp only at hSw); go_simp⟩) (by assumption) ?_
          try simp only [List.getElem_toArray, List.getElem_cons_zero, List.getElem_cons_succ, Act.put, List.setIfInBounds_toArray, List.set_cons_zero, List.set_cons_succ]
          refine wpAnyH_take (i := 1) (v := .pointer (some ⟨p, 0, none⟩)) rfl (by kernel_rfl) (by kernel_rfl) (by kernel_rfl) (fun _ _ _ h => h) (Or.inl ⟨by rfl, fun W hSw => by (try dsimp only at hSw); go_simp⟩) (by assumption) ?_
          try simp only [List.getElem_toArray, List.getElem_cons_zero, List.getElem_cons_succ, Act.put, List.setIfInBounds_toArray, List.set_cons_zero, List.set_cons_succ]
          refine wpAnyH_take (i := 2) (v := .pointer (some ⟨p, 0, none⟩)) rfl (by kernel_rfl) (by kernel_rfl) (by kernel_rfl) (fun _ _ _ h => h) (Or.inl ⟨by rfl, fun W hSw => by (try dsimp only at hSw); go_simp⟩) (by assumption) ?_
          try simp only [List.getElem_toArray, List.getElem_cons_zero, List.getElem_cons_succ, Act.put, List.setIfInBounds_toArray, List.set_cons_zero, List.set_cons_succ]
          refine wpAnyH_take (i := 3) (v := .pointer (some ⟨p, 0, none⟩)) rfl (by kernel_rfl) (by kernel_rfl) (by kernel_rfl) (fun _ _ _ h => h) (Or.inl ⟨by rfl, fun W hSw => by (try dsimp only at hSw); go_simp⟩) (by assumption) ?_
          try simp only [List.getElem_toArray, List.getElem_cons_zero, List.getElem_cons_succ, Act.put, List.setIfInBounds_toArray, List.set_cons_zero, List.set_cons_succ]
          refine wpAnyH_take (i := 4) (v := .slice (some ⟨bk, ok, none⟩) (j + 1) ch) rfl (by kernel_rfl) (by kernel_rfl) (by kernel_rfl) (fun _ _ _ h => h) (yields_load (by rfl) _ _ rfl _ rfl _ q1l) (by assumption) ?_
          try simp only [List.getElem_toArray, List.getElem_cons_zero, List.getElem_cons_succ, Act.put, List.setIfInBounds_toArray, List.set_cons_zero, List.set_cons_succ]
          refine wpAnyH_take (i := 5) (v := .int .u64 ver) rfl (by kernel_rfl) (by kernel_rfl) (by kernel_rfl) (fun _ _ _ h => h) (Or.inl ⟨by rfl, fun W hSw => by (try dsimp only at hSw); go_simp⟩) (by assumption) ?_
          try simp only [List.getElem_toArray, List.getElem_cons_zero, List.getElem_cons_succ, Act.put, List.setIfInBounds_toArray, List.set_cons_zero, List.set_cons_succ]
          refine wpAnyH_take (i := 6) (v := .slice a n c) rfl (by kernel_rfl) (by kernel_rfl) (by kernel_rfl) (fun _ _ _ h => h) (Or.inl ⟨by rfl, fun W hSw => by (try dsimp only at hSw); go_simp⟩) (by assumption) ?_
          try simp only [List.getElem_toArray, List.getElem_cons_zero, List.getElem_cons_succ, Act.put, List.setIfInBounds_toArray, List.set_cons_zero, List.set_cons_succ]
          refine wpAnyH_ready (rs := [7]) (by kernel_rfl) (by simp) ?_
          refine AllReadyH.cons rfl (fun K hK => ?_) AllReadyH.nil
          go_simp
          go_wp2_with (go_at_call 32; refine hcl.mono ?_; rintro e w6 ⟨u6, rfl, ho6, hb6x⟩)
          obtain ⟨a6, c6, rfl⟩ := row_slice ho6
          have hb6 : Below wr.heap.size wr w6 := (Below.refl _ wr).drew.trans (hb6x.mono (Nat.le_refl _))
          have ho6' : w6.ownsRow wr.heap.size 24 5 (.slice a6 n c6) n (l.flatMap tcE) := ho6
          refine hK.out _ _ (Sole.of_below hb6 _) (fun hHeld2 => ?_)
          clear hK K hb6x ho6
          refine wpAnyH_take (i := 8) (v := .agg #[.int .u64 ver, .slice a6 n c6]) rfl (by kernel_rfl) (by kernel_rfl) (by kernel_rfl) (fun _ _ _ h => h) (Or.inl ⟨by rfl, fun W hSw => by (try dsimp only at hSw); go_simp⟩) (by assumption) ?_
          try simp only [List.getElem_toArray, List.getElem_cons_zero, List.getElem_cons_succ, Act.put, List.setIfInBounds_toArray, List.set_cons_zero, List.set_cons_succ]
          refine wpAnyH_ready (rs := [9]) (by kernel_rfl) (by simp) ?_
          refine AllReadyH.cons rfl (fun K hK => ?_) AllReadyH.nil
          rw [if_pos (by rfl)]
          refine wp_buildS 65 1 _ rfl #[(0, .agg #[.int .u64 ver, .slice a6 n c6])] (by kernel_rfl) (slice_de ver a6 n c6 w6) ?_
          have hb7 : Below w6.heap.size w6 (w6.alloc (.cells #[.int .u64 ver, .slice a6 n c6] 69)) := bel1 _ _
          have hB7 : Below wr.heap.size wr (w6.alloc (.cells #[.int .u64 ver, .slice a6 n c6] 69)) := thenB hb6 hb7
          refine hK.out _ _ (Sole.of_below hB7 _) (fun hHeld3 => ?_)
          clear hK K
          try simp only [List.getElem_toArray, List.getElem_cons_zero, List.getElem_cons_succ, Act.put, List.setIfInBounds_toArray, List.set_cons_zero, List.set_cons_succ]
          have hrow7 : (w6.alloc (.cells #[.int .u64 ver, .slice a6 n c6] 69)).heap[w6.heap.size]? = some (.cells #[.int .u64 ver, .slice a6 n c6] 69 (0, 0)) := heap_alloc_new _ _
          obtain ⟨w7, hw7⟩ : ∃ w7, (w6.alloc (.cells #[.int .u64 ver, .slice a6 n c6] 69)) = w7 := ⟨_, rfl⟩
          rw [hw7] at hb7 hB7 hrow7 hHeld3 ⊢
          have hO7 := own_keep HO4.out hB7.size (fun q _ hl => hB7.block q hl)
          have hT7 := own_keep ho6' hb7.size (fun q _ hl => hb7.block q hl)
          refine wpAnyH_ready (rs := [10]) (by kernel_rfl) (by simp) ?_
          refine AllReadyH.cons rfl (fun K hK => ?_) AllReadyH.nil
          rw [if_pos (by rfl)]
          obtain ⟨v8, w8, hrun, h8o, h8g, _, h8a⟩ := run_append_own_at (P := Try.prog) w7 0 65 65 69 iP _ 2 32 Try.underlying65 hiP hp0 hp1' hp2 rfl (by decide) (.slice (some ⟨bk, ok, none⟩) (j + 1) ch) (j + 1) _ hO7 ⟨w6.heap.size, 0, none⟩ 1 1 [.int .u64 ver, .slice a6 n c6] rfl (fun j u hu => by rw [add_none, Nat.zero_add, cell_of_row _ _ _ _ _ (0, 0) hrow7]; simpa using hu) (fun u hu => by simp at hu; rcases hu with rfl | rfl <;> rfl) (by have := HL.out; unfold maxLen; omega) (by have := HL.out; omega) (Nat.zero_le _)
          obtain ⟨a8, c8, rfl⟩ := own_shape h8o
          refine wp_app _ _ 65 rfl _ _ rfl rfl hrun ?_
          have hS78 : Sole RB w7 w8 := ⟨h8g.os, h8g.tape, h8g.output, h8g.size, fun k hk hn => h8g.block k hk (fun e => hn (by rw [hRB, Option.mem_toList]; exact e.symm))⟩
          have hS8 : Sole RB wr w8 := (Sole.of_below hB7 _).trans hS78
          refine hK.out _ _ hS8 (fun hHeld4 => ?_)
          clear hK K
          try simp only [List.getElem_toArray, List.getElem_cons_zero, List.getElem_cons_succ, Act.put, List.setIfInBounds_toArray, List.set_cons_zero, List.set_cons_succ]
          refine wpAnyH_take (i := 11) (v := .pointer (some ⟨p, 0, none⟩)) rfl (by kernel_rfl) (by kernel_rfl) (by kernel_rfl) (fun _ _ _ h => h) (Or.inl ⟨by rfl, fun W hSw => by (try dsimp only at hSw); go_simp⟩) (by assumption) ?_
          try simp only [List.getElem_toArray, List.getElem_cons_zero, List.getElem_cons_succ, Act.put, List.setIfInBounds_toArray, List.set_cons_zero, List.set_cons_succ]
          refine wpAnyH_take (i := 12) (v := .pointer (some ⟨p, 0, none⟩)) rfl (by kernel_rfl) (by kernel_rfl) (by kernel_rfl) (fun _ _ _ h => h) (Or.inl ⟨by rfl, fun W hSw => by (try dsimp only at hSw); go_simp⟩) (by assumption) ?_
          try simp only [List.getElem_toArray, List.getElem_cons_zero, List.getElem_cons_succ, Act.put, List.setIfInBounds_toArray, List.set_cons_zero, List.set_cons_succ]
          have hG8 := q1 w8 hS8
          have c82 : w8.cell? ⟨p, 0, none⟩ = some (.slice (some ⟨bk, ok, none⟩) (j + 1) ch) := by rw [cell_of_row _ _ _ _ _ (0, 0) hG8]; rfl
          have f82 := frozen_of_row w8 p 0 _ _ hG8
          have hG9 := heap_setCell_same w8 p 0 _ _ (.slice a8 ((j + 1) + 1) c8) hG8
          obtain ⟨w9, hw9⟩ : ∃ w9, w8.setCell ⟨p, 0, none⟩ (.slice a8 ((j + 1) + 1) c8) = w9 := ⟨_, rfl⟩
          have hS89 : Sole [p] w8 w9 := by rw [← hw9]; exact Sole.setCell _ _ (by simp)
          rw [hw9] at hG9
          have HG9 : Hid (w9.heap[p]? = some (.cells #[.slice a8 ((j + 1) + 1) c8] 67 (0, 0))) := hG9
          have HX : Hid (Sole [p] w8 w9 ∧ Sole RB wr w8 ∧ Sole RB w7 w8 ∧ Below wr.heap.size wr w6 ∧ Below w6.heap.size w6 w7) := ⟨hS89, hS8, hS78, hb6, hb7⟩
          have H8 : Hid (w8.ownsRow 0 69 2 (.slice a8 ((j + 1) + 1) c8) ((j + 1) + 1) (K.flatMap deE ++ [.int .u64 ver, .slice a6 n c6])) := h8o
          have HT7 : Hid (w7.ownsRow wr.heap.size 24 5 (.slice a6 n c6) n (l.flatMap tcE)) := hT7
          have HA8 : Hid ((Value.slice a8 ((j + 1) + 1) c8).ownBlock = (Value.slice (some ⟨bk, ok, none⟩) (j + 1) ch).ownBlock ∨ (Value.slice a8 ((j + 1) + 1) c8).ownBlock = some w7.heap.size) := h8a
          have hG8h : Hid (w8.heap[p]? = some (.cells #[.slice (some ⟨bk, ok, none⟩) (j + 1) ch] 67 (0, 0))) := hG8
          refine wpAnyH_done (by kernel_rfl) ?_ _
          refine Behind.run (by rfl) ?_
          go_simp
          go_wp2
          refine NoPanic.normal ?_
          clear q1 q1l hrun h8o h8g h8a hO7 hG8 hG9 c82 f82 hS89 hS8 hS78 hHeld hHeld2 hHeld3 hHeld4 hb6 hb7 hB7 hT7 ho6' hcl hiP hp0 hp1' hp2
          go_wp2
          go_ret
          refine ⟨by rw [HGD.out.1]; rfl, ?_⟩
          rw [HGD.out.2.1]
          exact hadd_end (nk := (j + 1)) HL.out.2.1 HL.out.1 hn1 H4.out HR.out.2 hver.out HGD.out.2.2 HV2.out HB.out HG.out HW.out HP4.out hRB HX.out HG9.out H8.out HT7.out HA8.out hG8h.out
  · subst h0
    have HTR : Hid (V.all (fun p => decide (p.1 < ver)) = true) := by
      have : K = [] := List.eq_nil_of_length_eq_zero HL.out.2.1
      unfold Hid
      rw [← HV2.out, this]; rfl
    clear hrdK HAll
    go_enter Try.func20, Try.ntmps20
    go_wp2
    go_loopg [33] n (fun kx s33 wr => ∃ i : Nat, s33 = .int .i64 i ∧ i ≤ n ∧ n - i ≤ kx ∧ Hid (Below w.heap.size w wr) ∧ Hid (∀ y ∈ l.take i, mayB y = true))
    case atStart => exact ⟨0, rfl, Nat.zero_le _, by omega, Below.refl _ _, by simp [Hid]⟩
    case round =>
      obtain ⟨i, rfl, hin, hkx, HW, HQ⟩ := hrel
      by_cases hlt : i < n
      · obtain ⟨y, hy⟩ : ∃ y, l[i]? = some y := ⟨_, List.getElem?_eq_getElem (by have := HL.out; omega)⟩
        have HY : Hid (l[i]? = some y) := hy
        have hrd := HR.out.1.below HW.out
        obtain ⟨b0, o0, rfl⟩ : ∃ b0 o0, a = some ⟨b0, o0, none⟩ := by
          obtain ⟨b, off, e, _⟩ := tc_cells hrd hy
          exact ⟨b, off, e⟩
        have HLD : Hid _ := tc_load hrd hy
        have hiI : (i : Int) < (n : Int) := by omega
        have hib : (i : Int) + 1 ≤ 101 := by omega
        have hbl := bel1 wr (.cells #[.int .i64 y.kind, .int .u32 y.ino, .string y.name, .int .i64 y.lo, .int .i64 y.hi] 24)
        obtain ⟨w5, hw5⟩ : ∃ w5, wr.alloc (.cells #[.int .i64 y.kind, .int .u32 y.ino, .string y.name, .int .i64 y.lo, .int .i64 y.hi] 24) = w5 := ⟨_, rfl⟩
        have ht5 : TcAt w5 wr.heap.size y := by rw [← hw5]; exact TcAt.laid wr y
        rw [hw5] at hbl
        have HL5 : Hid _ := ht5.load
        have HW5 : Hid (Below w.heap.size w w5) := HW.out.trans (hbl.mono HW.out.size)
        have hck := check_any w5 y
        clear hy hrd hbl ht5
        cases hq : mayB y with
        | false =>
          rw [ckE_no hq] at hck
          go_wp2_with (first | (refine wpList_loadG rfl 24 _ rfl _ rfl _ HLD.out ?_) | (refine wpList_loadG rfl 24 _ rfl _ rfl _ HL5.out ?_))
          refine hck.mono ?_
          rintro e w6 ⟨rfl, hb6⟩
          have HB6 : Hid (Below w.heap.size w w6) := HW5.out.trans (hb6.mono HW5.out.size)
          clear hb6 hck
          go_wp2
          go_ret
          have hbad : goodV V ver l = false := by
            unfold goodV
            rw [show l.all mayB = false from List.all_eq_false.2 ⟨y, List.mem_of_getElem? HY.out, by rw [hq]; simp⟩, Bool.and_false]
          refine ⟨by rw [← HRV.out.1, addX, if_neg (by rw [hbad]; simp)]; rfl, ?_⟩
          rw [← HRV.out.2, addV, if_neg (by rw [hbad]; simp)]
          exact HKEEP.out _ HB6.out
        | true =>
          rw [ckE_yes hq] at hck
          go_wp2_with (first | (refine wpList_loadG rfl 24 _ rfl _ rfl _ HLD.out ?_) | (refine wpList_loadG rfl 24 _ rfl _ rfl _ HL5.out ?_))
          refine hck.mono ?_
          rintro e w6 ⟨rfl, hb6⟩
          have HB6 : Hid (Below w.heap.size w w6) := HW5.out.trans (hb6.mono HW5.out.size)
          clear hb6 hck
          go_wp2
          go_roundg (n - (i + 1))
          case measure => omega
          case rel =>
            refine ⟨i + 1, by rw [show ((i : Int) + 1) = ((i + 1 : Nat) : Int) by omega], by omega, by omega, HB6.out, fun z hz => ?_⟩
            rw [take_next HY.out] at hz
            rcases List.mem_append.1 hz with hz | hz
            · exact HQ.out z hz
            · rw [List.mem_singleton] at hz; rw [hz]; exact hq
      · obtain rfl : n = i := by omega
        have hgood : goodV V ver l = true := by
          unfold goodV
          rw [HTR.out, Bool.true_and, List.all_eq_true]
          intro y hy
          exact HQ.out y (by rw [List.take_of_length_le (by have := HL.out; omega)]; exact hy)
        have HGD : Hid (R = 0 ∧ V' = V ++ [(ver, l)] ∧ ∀ d ∈ K, d.ver < ver) := by
          refine ⟨by rw [← HRV.out.1, addX, if_pos hgood], by rw [← HRV.out.2, addV, if_pos hgood], fun d hd => ?_⟩
          have := HTR.out
          rw [← HV2.out, List.all_eq_true] at this
          exact of_decide_eq_true (this d.plain (List.mem_map.2 ⟨d, hd, rfl⟩))
        have h4 := HH.out.below HW.out
        have hp4 : wr.heap[p]? = some (.cells #[.slice ah 0 ch] 67 (0, 0)) := by have := h4.row; rw [HL.out.2.1] at this; exact this
        have ho4 := h4.own
        rw [HL.out.2.1] at ho4
        obtain ⟨RB, hRB⟩ : ∃ RB, RB = (Value.slice ah 0 ch).ownBlock.toList := ⟨_, rfl⟩
        have hRt : ∀ k ∈ RB, ∃ cs, wr.heap[k]? = some (.cells cs 69 (0, 0)) := fun k hk => by
          rw [hRB, Option.mem_toList] at hk; exact own_row ho4 hk
        have n1 : ∀ k ∈ RB, k ≠ p := fun k hk => by obtain ⟨cs, e⟩ := hRt k hk; exact ne_of_type e hp4 (by decide)
        have q1 : ∀ W, Sole RB wr W → W.heap[p]? = some (.cells #[.slice ah 0 ch] 67 (0, 0)) := fun W hW => (hW.block p (Array.getElem?_eq_some_iff.1 hp4).1 (fun hk => n1 p hk rfl)).trans hp4
        have q1l : ∀ W, Sole RB wr W → (Instr.loadAt 65 (.pointer (some ⟨p, 0, none⟩))).run Try.prog W = .ok (.slice ah 0 ch) W := fun W hW => by
          have c : W.cell? ⟨p, 0, none⟩ = some (.slice ah 0 ch) := by rw [cell_of_row _ _ _ _ _ (0, 0) (q1 W hW)]; rfl
          have u := Try.underlying65
          go_simp
        have hcl := clone_any wr.drew (.slice a n c) l ((HR.out.1.below HW.out).below (Below.refl _ wr).drew) (by have := HL.out; omega)
        rw [HL.out.1] at hcl
        have H4 : Hid (HistAt wr p (.slice ah K.length ch) K) := h4
        have HO4 : Hid (wr.ownsRow 0 69 2 (.slice ah 0 ch) 0 (K.flatMap deE)) := ho4
        have HP4 : Hid (wr.heap[p]? = some (.cells #[.slice ah 0 ch] 67 (0, 0))) := hp4
        obtain ⟨iP, hiP, hp0, hp1', hp2⟩ := info_parts info_de
        clear h4 hp4 ho4 hkx hin hlt HQ hgood
        go_wp2_with fail
        refine wp_region_noPanic ?_
        refine wp_region_sink 13 (S := fun W => Sole RB wr W) (by kernel_rfl) (by kernel_rfl) (Sole.drew _ _) (fun hHeld => ?_)
        refine wpAnyH_take (i := 0) (v := .pointer (some ⟨p, 0, none⟩)) rfl (by kernel_rfl) (by kernel_rfl) (by kernel_rfl) (fun _ _ _ h => h) (Or.inl ⟨by rfl, fun W hSw => by (try dsimp only at hSw); go_simp⟩) (by assumption) ?_
        try simp only [List.getElem_toArray, List.getElem_cons_zero, List.getElem_cons_succ, Act.put, List.setIfInBounds_toArray, List.set_cons_zero, List.set_cons_succ]
        refine wpAnyH_take (i := 1) (v := .pointer (some ⟨p, 0, none⟩)) rfl (by kernel_rfl) (by kernel_rfl) (by kernel_rfl) (fun _ _ _ h => h) (Or.inl ⟨by rfl, fun W hSw => by (try dsimp only at hSw); go_simp⟩) (by assumption) ?_
        try simp only [List.getElem_toArray, List.getElem_cons_zero, List.getElem_cons_succ, Act.put, List.setIfInBounds_toArray, List.set_cons_zero, List.set_cons_succ]
        refine wpAnyH_take (i := 2) (v := .pointer (some ⟨p, 0, none⟩)) rfl (by kernel_rfl) (by kernel_rfl) (by kernel_rfl) (fun _ _ _ h => h) (Or.inl ⟨by rfl, fun W hSw => by (try dsimp only at hSw); go_simp⟩) (by assumption) ?_
        try simp only [List.getElem_toArray, List.getElem_cons_zero, List.getElem_cons_succ, Act.put, List.setIfInBounds_toArray, List.set_cons_zero, List.set_cons_succ]
        refine wpAnyH_take (i := 3) (v := .pointer (some ⟨p, 0, none⟩)) rfl (by kernel_rfl) (by kernel_rfl) (by kernel_rfl) (fun _ _ _ h => h) (Or.inl ⟨by rfl, fun W hSw => by (try dsimp only at hSw); go_simp⟩) (by assumption) ?_
        try simp only [List.getElem_toArray, List.getElem_cons_zero, List.getElem_cons_succ, Act.put, List.setIfInBounds_toArray, List.set_cons_zero, List.set_cons_succ]
        refine wpAnyH_take (i := 4) (v := .slice ah 0 ch) rfl (by kernel_rfl) (by kernel_rfl) (by kernel_rfl) (fun _ _ _ h => h) (yields_load (by rfl) _ _ rfl _ rfl _ q1l) (by assumption) ?_
        try simp only [List.getElem_toArray, List.getElem_cons_zero, List.getElem_cons_succ, Act.put, List.setIfInBounds_toArray, List.set_cons_zero, List.set_cons_succ]
        refine wpAnyH_take (i := 5) (v := .int .u64 ver) rfl (by kernel_rfl) (by kernel_rfl) (by kernel_rfl) (fun _ _ _ h => h) (Or.inl ⟨by rfl, fun W hSw => by (try dsimp only at hSw); go_simp⟩) (by assumption) ?_
        try simp only [List.getElem_toArray, List.getElem_cons_zero, List.getElem_cons_succ, Act.put, List.setIfInBounds_toArray, List.set_cons_zero, List.set_cons_succ]
        refine wpAnyH_take (i := 6) (v := .slice a n c) rfl (by kernel_rfl) (by kernel_rfl) (by kernel_rfl) (fun _ _ _ h => h) (Or.inl ⟨by rfl, fun W hSw => by (try dsimp only at hSw); go_simp⟩) (by assumption) ?_
        try simp only [List.getElem_toArray, List.getElem_cons_zero, List.getElem_cons_succ, Act.put, List.setIfInBounds_toArray, List.set_cons_zero, List.set_cons_succ]
        refine wpAnyH_ready (rs := [7]) (by kernel_rfl) (by simp) ?_
        refine AllReadyH.cons rfl (fun K hK => ?_) AllReadyH.nil
        go_simp
        go_wp2_with (go_at_call 32; refine hcl.mono ?_; rintro e w6 ⟨u6, rfl, ho6, hb6x⟩)
        obtain ⟨a6, c6, rfl⟩ := row_slice ho6
        have hb6 : Below wr.heap.size wr w6 := (Below.refl _ wr).drew.trans (hb6x.mono (Nat.le_refl _))
        have ho6' : w6.ownsRow wr.heap.size 24 5 (.slice a6 n c6) n (l.flatMap tcE) := ho6
        refine hK.out _ _ (Sole.of_below hb6 _) (fun hHeld2 => ?_)
        clear hK K hb6x ho6
        refine wpAnyH_take (i := 8) (v := .agg #[.int .u64 ver, .slice a6 n c6]) rfl (by kernel_rfl) (by kernel_rfl) (by kernel_rfl) (fun _ _ _ h => h) (Or.inl ⟨by rfl, fun W hSw => by (try dsimp only at hSw); go_simp⟩) (by assumption) ?_
        try simp only [List.getElem_toArray, List.getElem_cons_zero, List.getElem_cons_succ, Act.put, List.setIfInBounds_toArray, List.set_cons_zero, List.set_cons_succ]
        refine wpAnyH_ready (rs := [9]) (by kernel_rfl) (by simp) ?_
        refine AllReadyH.cons rfl (fun K hK => ?_) AllReadyH.nil
        rw [if_pos (by rfl)]
        refine wp_buildS 65 1 _ rfl #[(0, .agg #[.int .u64 ver, .slice a6 n c6])] (by kernel_rfl) (slice_de ver a6 n c6 w6) ?_
        have hb7 : Below w6.heap.size w6 (w6.alloc (.cells #[.int .u64 ver, .slice a6 n c6] 69)) := bel1 _ _
        have hB7 : Below wr.heap.size wr (w6.alloc (.cells #[.int .u64 ver, .slice a6 n c6] 69)) := thenB hb6 hb7
        refine hK.out _ _ (Sole.of_below hB7 _) (fun hHeld3 => ?_)
        clear hK K
        try simp only [List.getElem_toArray, List.getElem_cons_zero, List.getElem_cons_succ, Act.put, List.setIfInBounds_toArray, List.set_cons_zero, List.set_cons_succ]
        have hrow7 : (w6.alloc (.cells #[.int .u64 ver, .slice a6 n c6] 69)).heap[w6.heap.size]? = some (.cells #[.int .u64 ver, .slice a6 n c6] 69 (0, 0)) := heap_alloc_new _ _
        obtain ⟨w7, hw7⟩ : ∃ w7, (w6.alloc (.cells #[.int .u64 ver, .slice a6 n c6] 69)) = w7 := ⟨_, rfl⟩
        rw [hw7] at hb7 hB7 hrow7 hHeld3 ⊢
        have hO7 := own_keep HO4.out hB7.size (fun q _ hl => hB7.block q hl)
        have hT7 := own_keep ho6' hb7.size (fun q _ hl => hb7.block q hl)
        refine wpAnyH_ready (rs := [10]) (by kernel_rfl) (by simp) ?_
        refine AllReadyH.cons rfl (fun K hK => ?_) AllReadyH.nil
        rw [if_pos (by rfl)]
        obtain ⟨v8, w8, hrun, h8o, h8g, _, h8a⟩ := run_append_own_at (P := Try.prog) w7 0 65 65 69 iP _ 2 32 Try.underlying65 hiP hp0 hp1' hp2 rfl (by decide) (.slice ah 0 ch) 0 _ hO7 ⟨w6.heap.size, 0, none⟩ 1 1 [.int .u64 ver, .slice a6 n c6] rfl (fun j u hu => by rw [add_none, Nat.zero_add, cell_of_row _ _ _ _ _ (0, 0) hrow7]; simpa using hu) (fun u hu => by simp at hu; rcases hu with rfl | rfl <;> rfl) (by have := HL.out; unfold maxLen; omega) (by have := HL.out; omega) (Nat.zero_le _)
        obtain ⟨a8, c8, rfl⟩ := own_shape h8o
        refine wp_app _ _ 65 rfl _ _ rfl rfl hrun ?_
        have hS78 : Sole RB w7 w8 := ⟨h8g.os, h8g.tape, h8g.output, h8g.size, fun k hk hn => h8g.block k hk (fun e => hn (by rw [hRB, Option.mem_toList]; exact e.symm))⟩
        have hS8 : Sole RB wr w8 := (Sole.of_below hB7 _).trans hS78
        refine hK.out _ _ hS8 (fun hHeld4 => ?_)
        clear hK K
        try simp only [List.getElem_toArray, List.getElem_cons_zero, List.getElem_cons_succ, Act.put, List.setIfInBounds_toArray, List.set_cons_zero, List.set_cons_succ]
        refine wpAnyH_take (i := 11) (v := .pointer (some ⟨p, 0, none⟩)) rfl (by kernel_rfl) (by kernel_rfl) (by kernel_rfl) (fun _ _ _ h => h) (Or.inl ⟨by rfl, fun W hSw => by (try dsimp only at hSw); go_simp⟩) (by assumption) ?_
        try simp only [List.getElem_toArray, List.getElem_cons_zero, List.getElem_cons_succ, Act.put, List.setIfInBounds_toArray, List.set_cons_zero, List.set_cons_succ]
        refine wpAnyH_take (i := 12) (v := .pointer (some ⟨p, 0, none⟩)) rfl (by kernel_rfl) (by kernel_rfl) (by kernel_rfl) (fun _ _ _ h => h) (Or.inl ⟨by rfl, fun W hSw => by (try dsimp only at hSw); go_simp⟩) (by assumption) ?_
        try simp only [List.getElem_toArray, List.getElem_cons_zero, List.getElem_cons_succ, Act.put, List.setIfInBounds_toArray, List.set_cons_zero, List.set_cons_succ]
        have hG8 := q1 w8 hS8
        have c82 : w8.cell? ⟨p, 0, none⟩ = some (.slice ah 0 ch) := by rw [cell_of_row _ _ _ _ _ (0, 0) hG8]; rfl
        have f82 := frozen_of_row w8 p 0 _ _ hG8
        have hG9 := heap_setCell_same w8 p 0 _ _ (.slice a8 (0 + 1) c8) hG8
        obtain ⟨w9, hw9⟩ : ∃ w9, w8.setCell ⟨p, 0, none⟩ (.slice a8 (0 + 1) c8) = w9 := ⟨_, rfl⟩
        have hS89 : Sole [p] w8 w9 := by rw [← hw9]; exact Sole.setCell _ _ (by simp)
        rw [hw9] at hG9
        have HG9 : Hid (w9.heap[p]? = some (.cells #[.slice a8 (0 + 1) c8] 67 (0, 0))) := hG9
        have HX : Hid (Sole [p] w8 w9 ∧ Sole RB wr w8 ∧ Sole RB w7 w8 ∧ Below wr.heap.size wr w6 ∧ Below w6.heap.size w6 w7) := ⟨hS89, hS8, hS78, hb6, hb7⟩
        have H8 : Hid (w8.ownsRow 0 69 2 (.slice a8 (0 + 1) c8) (0 + 1) (K.flatMap deE ++ [.int .u64 ver, .slice a6 n c6])) := h8o
        have HT7 : Hid (w7.ownsRow wr.heap.size 24 5 (.slice a6 n c6) n (l.flatMap tcE)) := hT7
        have HA8 : Hid ((Value.slice a8 (0 + 1) c8).ownBlock = (Value.slice ah 0 ch).ownBlock ∨ (Value.slice a8 (0 + 1) c8).ownBlock = some w7.heap.size) := h8a
        have hG8h : Hid (w8.heap[p]? = some (.cells #[.slice ah 0 ch] 67 (0, 0))) := hG8
        refine wpAnyH_done (by kernel_rfl) ?_ _
        refine Behind.run (by rfl) ?_
        go_simp
        go_wp2
        refine NoPanic.normal ?_
        clear q1 q1l hrun h8o h8g h8a hO7 hG8 hG9 c82 f82 hS89 hS8 hS78 hHeld hHeld2 hHeld3 hHeld4 hb6 hb7 hB7 hT7 ho6' hcl hiP hp0 hp1' hp2
        go_wp2
        go_ret
        refine ⟨by rw [HGD.out.1]; rfl, ?_⟩
        rw [HGD.out.2.1]
        exact hadd_end (nk := 0) HL.out.2.1 HL.out.1 hn1 H4.out HR.out.2 hver.out HGD.out.2.2 HV2.out HB.out HG.out HW.out HP4.out hRB HX.out HG9.out H8.out HT7.out HA8.out hG8h.out

end Go.Proofs.Ytmncjecbgakmfaa
