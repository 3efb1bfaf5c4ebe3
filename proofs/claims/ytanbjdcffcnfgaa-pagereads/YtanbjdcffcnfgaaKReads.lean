/- The contracts of the document's read, open, DecodeNode, DecodeHead, and of the law's spoil. -/
import Derived.Test.YtanbjdcffcnfgaaQDecode
import Derived.Test.YtanbjdcffcnfgaaRefText
import Derived.Test.YtanbjdcffcnfgaaRefNumber
import Derived.Test.YtanbjdcffcnfgaaQHead
import Derived.Test.YtanbjdcffcnfgaaKEnc
import Derived.Test.YtanbjdcffcnfgaaRefUnseal
import Derived.Test.YtanbjdcffcnfgaaQDecode3
import Derived.Test.YtanbjdcffcnfgaaKHead
import Derived.Test.YtanbjdcffcnfgaaQHead3
import Derived.Deep.RegionHeld3
namespace Go.Proofs.Ytanbjdcffcnfgaa
open Go.RowKit
set_option linter.unusedVariables false
set_option linter.unusedSimpArgs false
set_option maxRecDepth 4000

theorem readN_in {R : List Int} (hy : Byt R) (h : readE R = 0) : 1 ≤ readN R ∧ readN R ≤ R.length := by
  cases R with
  | nil => simp [readE] at h
  | cons n r =>
    have h0 := hy n (by simp)
    simp only [readE] at h
    split at h
    · cases h
    · rename_i h1
      simp only [readN]
      rw [if_neg h1, List.length_cons]
      omega

theorem rdP_stop (m : Nat) (xs : List Int) (h : xs.length < 15) : rdPairs m xs = some [] := by
  cases m with
  | zero => rfl
  | succ m => unfold rdPairs; rw [if_pos h]

theorem rdP_bad (m : Nat) (xs : List Int) (h : ¬ xs.length < 15) (hm : 0 < m) (he : ¬ readE (xs.drop 14) = 0) : rdPairs m xs = none := by
  obtain ⟨m, rfl⟩ : ∃ q, m = q + 1 := ⟨m - 1, by omega⟩
  unfold rdPairs; rw [if_neg h, if_neg he]

theorem rdP_next (m : Nat) (xs : List Int) (h : ¬ xs.length < 15) (hm : 0 < m) (he : readE (xs.drop 14) = 0) : rdPairs m xs = (rdPairs (m - 1) (xs.drop (14 + (readN (xs.drop 14)).toNat))).map fun l => (strOfNums (xs.take 14), readS (xs.drop 14)) :: l := by
  obtain ⟨m, rfl⟩ : ∃ q, m = q + 1 := ⟨m - 1, by omega⟩
  conv => lhs; unfold rdPairs
  rw [if_neg h, if_pos he]
  rfl

theorem grown_block {w w' : World} {v : Value} (hg : w.grownBy w' v.ownBlock) {base g e k n : Nat} {xs : List Value} (ho : w.ownsRow base e k v n xs) (hlt : g < w.heap.size) (hb : g < base) : w'.heap[g]? = w.heap[g]? := by
  refine hg.block g hlt fun e => ?_
  have := (World.ownsRow.lt ho g e.symm).1
  omega

set_option maxHeartbeats 1500000 in
theorem kread_leaf (w : World) (b off cap : Nat) (xs : List Int) (hr : Rd w (.slice (some ⟨b, off, none⟩) 508 cap) xs) (hy : Byt xs) (h76 : xs.getD 0 0 = 76) :
    Calls Try.prog 39 #[.slice (some ⟨b, off, none⟩) 508 cap] w fun e w' => ∃ v, e = .returned v ∧ NdOwn w' w.heap.size v (rdNode xs) ∧ Below w.heap.size w w' := by
  have hlen := rd_length hr
  have hcap := hr.cap
  have hcm := hr.capMax
  unfold maxLen at hcm
  obtain ⟨iK, hki, hk0, hk1, hk2⟩ := info_parts Try.infoKV
  have hnode : rdNode xs = (match rdPairs (xs.getD 1 0).toNat (xs.drop 2) with | none => nd0 | some l => ⟨true, l, [], []⟩) := by
    unfold rdNode; rw [if_pos h76]
    cases rdPairs (xs.getD 1 0).toNat (xs.drop 2) <;> rfl
  have hx1 := hy.getD 1
  obtain ⟨c, hc⟩ : ∃ c : Nat, xs.getD 1 0 = c := ⟨(xs.getD 1 0).toNat, by omega⟩
  have hcell : ∀ i, i < 508 → w.cell? ⟨b, off + i, none⟩ = some (.int .u8 (xs.getD i 0)) ∧ b < w.heap.size := fun i hi => by
    obtain ⟨a', cap', e, _, _, _, h4⟩ := id hr
    obtain ⟨b', off', e', hlt, hcs⟩ := h4 (by intro q; subst q; simp at hlen)
    simp only [Value.slice.injEq] at e
    rw [e'] at e
    simp only [Option.some.injEq, Addr.mk.injEq] at e
    obtain ⟨⟨rfl, rfl, _⟩, _, _⟩ := e
    exact ⟨hcs i (by omega), hlt⟩
  have hbw := (hcell 0 (by omega)).2
  have c0 : w.cell? ⟨b, off, none⟩ = some (.int .u8 76) := by have := (hcell 0 (by omega)).1; rw [h76] at this; simpa using this
  have c1 : w.cell? ⟨b, off + 1, none⟩ = some (.int .u8 c) := by have := (hcell 1 (by omega)).1; rw [hc] at this; exact this
  rw [hc, Int.toNat_natCast] at hnode
  have hc255 : c ≤ 255 := by omega
  have hcvt : ∀ p, p + 14 ≤ 508 → ∀ W, Below w.heap.size w W → (convert 28 9 (.slice (some ⟨b, off + p, none⟩) 14 (cap - p))).run Try.prog W = .ok (.string (strOfNums ((xs.drop p).take 14))) W := fun p hp W hW => ((hr.mid p 14 hp (by omega)).below hW).conv
  have hrdt : ∀ p, p ≤ 508 → ∀ W, Below w.heap.size w W → Rd W (.slice (some ⟨b, off + p, none⟩) (508 - p) (cap - p)) (xs.drop p) := fun p hp W hW => by
    have := (hr.mid p (508 - p) (by omega) (by omega)).below hW
    rwa [List.take_of_length_le (by rw [List.length_drop]; omega)] at this
  clear hcell hr hc hx1 h76
  generalize hN : rdNode xs = N at *
  have hB0 : Below w.heap.size w ((w.alloc (.cells #[.bool false, .slice none 0 0, .slice none 0 0, .slice none 0 0] 26)).alloc (.cells #[.bool true, .slice none 0 0, .slice none 0 0, .slice none 0 0] 26)) := ((Below.refl _ w).alloc (Nat.le_refl _) _).alloc (by simp) _
  have hz0 : ((w.alloc (.cells #[.bool false, .slice none 0 0, .slice none 0 0, .slice none 0 0] 26)).alloc (.cells #[.bool true, .slice none 0 0, .slice none 0 0, .slice none 0 0] 26)).heap.size = w.heap.size + 2 := by simp
  have hg2 := heap_alloc2_old w (.cells #[.bool false, .slice none 0 0, .slice none 0 0, .slice none 0 0] 26) (.cells #[.bool true, .slice none 0 0, .slice none 0 0, .slice none 0 0] 26)
  have hg3 := heap_alloc2_new w (.cells #[.bool false, .slice none 0 0, .slice none 0 0, .slice none 0 0] 26) (.cells #[.bool true, .slice none 0 0, .slice none 0 0, .slice none 0 0] 26)
  go_enter Try.func39, Try.ntmps39
  go_wp2
  generalize (w.alloc (.cells #[.bool false, .slice none 0 0, .slice none 0 0, .slice none 0 0] 26)).alloc (.cells #[.bool true, .slice none 0 0, .slice none 0 0, .slice none 0 0] 26) = W0 at *
  go_loopw [5, 6, 7, 8, 9, 10] (fun at' i q1 q2 q3 q4 wr => ∃ (j p : Nat) (L : List (ByteArray × ByteArray)) (a : Option Addr) (cc : Nat), j ≤ c ∧ p ≤ 508 ∧ L.length = j ∧ at' = .int .i64 p ∧ i = .int .i64 j ∧ Hid (rdPairs c (xs.drop 2) = (rdPairs (c - j) (xs.drop p)).map (L ++ ·)) ∧
      wr.heap[w.heap.size]? = some (.cells #[.bool false, .slice none 0 0, .slice none 0 0, .slice none 0 0] 26 (0, 0)) ∧
      wr.heap[w.heap.size + 1]? = some (.cells #[.bool true, .slice a j cc, .slice none 0 0, .slice none 0 0] 26 (0, 0)) ∧
      World.ownsRow wr (w.heap.size + 2) 53 2 (.slice a j cc) j (L.flatMap kvE) ∧ Below w.heap.size w wr ∧ w.heap.size + 2 ≤ wr.heap.size) (fun _ i _ _ _ _ _ => c - (intOf i).toNat)
  case atStart => exact ⟨0, 2, [], none, 0, Nat.zero_le _, by omega, rfl, rfl, rfl, by unfold Hid; cases rdPairs c (xs.drop 2) <;> rfl, hg2, hg3, World.ownsRow_nil _ _ _ _, hB0, by omega⟩
  case round =>
    clear hg2 hg3 hB0 hz0
    obtain ⟨j, p, L, a, cc, hj, hp, hLl, rfl, rfl, HP, hg2, hg3, hown, HB, hsz⟩ := hrel
    obtain ⟨wA, hA⟩ : ∃ wA, wA = wr := ⟨_, rfl⟩
    subst hA
    have hpI : (p : Int) ≤ 508 := by omega
    by_cases hgo : j < c ∧ p + 15 ≤ 508
    · obtain ⟨hjc, hp15⟩ := hgo
      have hjI : (j : Int) < c := by omega
      have hpI' : (p : Int) + 15 ≤ 508 := by omega
      have hcv := hcvt p (by omega) wA HB
      have hrd := hrdt (p + 14) (by omega) wA HB
      have hrt := refReadText_any wA _ (xs.drop (p + 14)) hrd (hy.drop _)
      rw [show 508 - (p + 14) = 494 - p from by omega] at hrt
      have hdd : (xs.drop p).drop 14 = xs.drop (p + 14) := by rw [List.drop_drop]
      have hdl : ¬ (xs.drop p).length < 15 := by rw [List.length_drop]; omega
      have hnin := readN_in (hy.drop (p + 14))
      rw [List.length_drop] at hnin
      by_cases he : readE (xs.drop (p + 14)) = 0
      · have hnx := rdP_next (c - j) (xs.drop p) hdl (by omega) (by rw [hdd]; exact he)
        rw [hdd, List.drop_drop] at hnx
        obtain ⟨n1, n2⟩ := hnin he
        rw [he] at hrt
        obtain ⟨N', hN'⟩ : ∃ N' : Nat, readN (xs.drop (p + 14)) = N' := ⟨(readN (xs.drop (p + 14))).toNat, by omega⟩
        rw [hN'] at hrt hnx n1 n2
        rw [Int.toNat_natCast] at hnx
        generalize readS (xs.drop (p + 14)) = S at *
        generalize hK : strOfNums ((xs.drop p).take 14) = K at *
        have HP' : Hid (rdPairs c (xs.drop 2) = (rdPairs (c - (j + 1)) (xs.drop (p + (14 + N')))).map ((L ++ [(K, S)]) ++ ·)) := by
          unfold Hid
          rw [HP.out, hnx, show c - j - 1 = c - (j + 1) from by omega]
          cases rdPairs (c - (j + 1)) (xs.drop (p + (14 + N'))) <;> simp
        clear hnx HP hcvt hrdt hrd hdd hdl hK hN'
        obtain ⟨y0, y1, y2, y3, f0, f1, f2, f3⟩ := box4 hg3
        obtain ⟨W2, hW2⟩ : ∃ W2, wA.alloc (.cells #[.string K, .string S] 53) = W2 := ⟨_, rfl⟩
        have hb2 : Below wA.heap.size wA W2 := by rw [← hW2]; exact (Below.refl _ wA).alloc (Nat.le_refl _) _
        have hz2 : W2.heap.size = wA.heap.size + 1 := by rw [← hW2]; simp
        have hnew : W2.heap[wA.heap.size]? = some (.cells #[.string K, .string S] 53 (0, 0)) := by rw [← hW2]; exact heap_alloc_new wA _
        have hown2 := row_below hown hb2
        have hnw : ∀ i u, (kvE (K, S))[i]? = some u → W2.cell? ((⟨wA.heap.size, 0, none⟩ : Addr).add i) = some u := fun i u hu => by
          have hadd : (⟨wA.heap.size, 0, none⟩ : Addr).add i = ⟨wA.heap.size, i, none⟩ := by unfold Addr.add; split <;> simp_all
          rw [hadd, cell_of_row _ _ i _ _ (0, 0) hnew, ← hu]
          exact List.getElem?_toArray
        go_wp2_with fail
        refine hrt.mono ?_
        clear hrt hcv
        rintro e w' ⟨rfl, rfl⟩
        go_wp2_with (at_builtin; refine wpList_append_own W2 rfl _ _ 22 rfl (w.heap.size + 2) 53 iK _ 2 32 Try.underlying22 hki hk0 hk1 hk2 rfl (by decide) _ j (L.flatMap kvE) rfl hown2 ⟨w'.heap.size, 0, none⟩ 1 1 (kvE (K, S)) rfl rfl hnw (by simp [kvE, Value.oneCell']) (by unfold maxLen; omega) (by omega) (by omega) ?_; intro v3 w3 ho3 hg4 _; have e2 := grown_block hg4 hown2 (show w.heap.size < W2.heap.size by omega) (by omega); have e3 := grown_block hg4 hown2 (show w.heap.size + 1 < W2.heap.size by omega) (by omega); have hg23 := e2.trans ((hb2.block _ (by omega)).trans hg2); have hg33 := e3.trans ((hb2.block _ (by omega)).trans hg3); obtain ⟨z0, z1, z2, z3, k0, k1, k2, k3⟩ := box4 hg33; have hb3 : Below w.heap.size w w3 := HB.trans ((hb2.mono (by omega)).trans ((Below.refl w.heap.size W2).grown hg4 (by omega) (fun q hq => by have := (World.ownsRow.lt hown2 q hq).1; omega))); have hsz3 : w.heap.size + 2 ≤ w3.heap.size := (by have := hg4.size; omega); obtain ⟨a3, c3, rfl⟩ := row_slice ho3; clear e2 e3 hg4 hown2 hown hnw hnew y0 y1 y2 y3 f0 f1 f2 f3)
        go_roundw
        case rel => exact ⟨j + 1, p + (14 + N'), L ++ [(K, S)], a3, c3, by omega, by omega, by simp [hLl], by go_num, by go_num, HP', by rw [heap_setCell_other _ _ _ _ (by simp)]; exact hg23, setCell_row hg33 1 _, own_set (by rw [List.flatMap_append]; simpa using ho3) (by omega) 1 _, hb3.setCell (p := ⟨w.heap.size + 1, 1, none⟩) (by simp) _, by simpa using hsz3⟩
        case measure => simp [intOf]; omega
      · have hno := rdP_bad (c - j) (xs.drop p) hdl (by omega) (by rw [hdd]; exact he)
        have HN : Hid (N = nd0) := by
          unfold Hid
          rw [hnode, HP.out, hno]
          rfl
        obtain ⟨y0, y1, y2, y3, f0, f1, f2, f3⟩ := box4 hg2
        clear hnode hno HP hcvt hrdt hrd hdd hdl hnin hown hg3
        generalize readE (xs.drop (p + 14)) = E at *
        generalize readS (xs.drop (p + 14)) = S at *
        generalize readN (xs.drop (p + 14)) = M at *
        go_wp2_with fail
        refine hrt.mono ?_
        clear hrt hcv
        rintro e w' ⟨rfl, rfl⟩
        go_wp2
        obtain ⟨r1, r2, r3⟩ := fin_node hg2 (NdOwn.zero w' (w.heap.size + 2)) (by omega)
        exact ret_node rfl w.heap.size _ _ _ _ rfl r1 rfl ⟨_, rfl, by rw [HN.out]; exact r2.mono (by omega), HB.trans (r3 _ (Nat.le_refl _))⟩
    · have hst : rdPairs (c - j) (xs.drop p) = some [] := by
        by_cases h1 : j < c
        · exact rdP_stop _ _ (by rw [List.length_drop]; omega)
        · rw [show c - j = 0 from by omega]; rfl
      have HN : Hid (N = ⟨true, L, [], []⟩) := by
        unfold Hid
        rw [hnode, HP.out, hst]
        simp
      obtain ⟨y0, y1, y2, y3, f0, f1, f2, f3⟩ := box4 hg2
      obtain ⟨z0, z1, z2, z3, k0, k1, k2, k3⟩ := box4 hg3
      have hNd : NdOwn wA (w.heap.size + 2) (.agg #[.bool true, .slice a j cc, .slice none 0 0, .slice none 0 0]) ⟨true, L, [], []⟩ := ⟨_, _, _, rfl, by rw [hLl]; exact hown, World.ownsRow_nil _ _ _ _, World.ownsRow_nil _ _ _ _⟩
      obtain ⟨r1, r2, r3⟩ := fin_node hg2 hNd (by omega)
      have hfin : Below w.heap.size w _ := HB.trans (r3 w.heap.size (Nat.le_refl _))
      clear hnode hst HP hcvt hrdt hown hg3 hNd
      by_cases h1 : j < c
      · have hjI : (j : Int) < c := by omega
        have hpI' : ¬ (p : Int) + 15 ≤ 508 := by omega
        go_wp2
        exact ret_node rfl w.heap.size _ _ _ _ rfl r1 rfl ⟨_, rfl, by rw [HN.out]; exact r2.mono (by omega), hfin⟩
      · have hjI : ¬ (j : Int) < c := by omega
        go_wp2
        exact ret_node rfl w.heap.size _ _ _ _ rfl r1 rfl ⟨_, rfl, by rw [HN.out]; exact r2.mono (by omega), hfin⟩

theorem rdKi_stop (m : Nat) (xs : List Int) (h : xs.length < 4) : rdKids m xs = [] := by
  cases m with
  | zero => rfl
  | succ m => unfold rdKids; rw [if_pos h]

theorem rdKi_next (m : Nat) (xs : List Int) (h : ¬ xs.length < 4) (hm : 0 < m) : rdKids m xs = (valB (xs.take 4) : Int) :: rdKids (m - 1) (xs.drop 4) := by
  obtain ⟨m, rfl⟩ : ∃ q, m = q + 1 := ⟨m - 1, by omega⟩
  conv => lhs; unfold rdKids
  rw [if_neg h]
  rfl

theorem rdKe_stop (m : Nat) (xs : List Int) (h : xs.length < 14) : rdKeys m xs = [] := by
  cases m with
  | zero => rfl
  | succ m => unfold rdKeys; rw [if_pos h]

theorem rdKe_next (m : Nat) (xs : List Int) (h : ¬ xs.length < 14) (hm : 0 < m) : rdKeys m xs = strOfNums (xs.take 14) :: rdKeys (m - 1) (xs.drop 14) := by
  obtain ⟨m, rfl⟩ : ∃ q, m = q + 1 := ⟨m - 1, by omega⟩
  conv => lhs; unfold rdKeys
  rw [if_neg h]
  rfl

theorem knum4 (W : World) (v : Value) (xs : List Int) (h : Rd W v xs) (hy : Byt xs) (hl : 4 ≤ xs.length) : Calls Try.prog 41 #[v, .int .i64 4] W fun e w' => e = .returned (.tuple #[.int .u64 (valB (xs.take 4)), .int .i64 0]) ∧ W = w' := by
  have hE : numE xs ((4 : Nat) : Int) = 0 := by unfold numE; rw [if_neg (by omega), if_neg (by omega)]
  have hV : numV xs ((4 : Nat) : Int) = (valB (xs.take 4) : Int) := by unfold numV; rw [hE, Int.toNat_natCast]; rfl
  have := refNumber_any W v xs ((4 : Nat) : Int) h hy
  rw [hE, hV] at this
  exact this

set_option maxHeartbeats 1500000 in
theorem kread_inner (w : World) (b off cap : Nat) (xs : List Int) (hr : Rd w (.slice (some ⟨b, off, none⟩) 508 cap) xs) (hy : Byt xs) (h76 : ¬ xs.getD 0 0 = 76) :
    Calls Try.prog 39 #[.slice (some ⟨b, off, none⟩) 508 cap] w fun e w' => ∃ v, e = .returned v ∧ NdOwn w' w.heap.size v (rdNode xs) ∧ Below w.heap.size w w' := by
  have hlen := rd_length hr
  have hcap := hr.cap
  have hcm := hr.capMax
  unfold maxLen at hcm
  obtain ⟨iU, hui, hu0, hu1, hu2⟩ := info_parts Try.infoU
  obtain ⟨iS, hsi, hs0, hs1, hs2⟩ := info_parts Try.infoS
  have hnode : rdNode xs = ⟨false, [], rdKeys ((xs.getD 1 0).toNat - 1) (xs.drop (2 + 4 * (rdKids (xs.getD 1 0).toNat (xs.drop 2)).length)), rdKids (xs.getD 1 0).toNat (xs.drop 2)⟩ := by unfold rdNode; rw [if_neg h76]
  have hx1 := hy.getD 1
  obtain ⟨c, hc⟩ : ∃ c : Nat, xs.getD 1 0 = c := ⟨(xs.getD 1 0).toNat, by omega⟩
  have hcell : ∀ i, i < 508 → w.cell? ⟨b, off + i, none⟩ = some (.int .u8 (xs.getD i 0)) ∧ b < w.heap.size := fun i hi => by
    obtain ⟨a', cap', e, _, _, _, h4⟩ := id hr
    obtain ⟨b', off', e', hlt, hcs⟩ := h4 (by intro q; subst q; simp at hlen)
    simp only [Value.slice.injEq] at e
    rw [e'] at e
    simp only [Option.some.injEq, Addr.mk.injEq] at e
    obtain ⟨⟨rfl, rfl, _⟩, _, _⟩ := e
    exact ⟨hcs i (by omega), hlt⟩
  have hbw := (hcell 0 (by omega)).2
  have c0 : w.cell? ⟨b, off, none⟩ = some (.int .u8 (xs.getD 0 0)) := by have := (hcell 0 (by omega)).1; simpa using this
  have c1 : w.cell? ⟨b, off + 1, none⟩ = some (.int .u8 c) := by have := (hcell 1 (by omega)).1; rw [hc] at this; exact this
  rw [hc, Int.toNat_natCast] at hnode
  have hc255 : c ≤ 255 := by omega
  have hcvt : ∀ p, p + 14 ≤ 508 → ∀ W, Below w.heap.size w W → (convert 28 9 (.slice (some ⟨b, off + p, none⟩) 14 (cap - p))).run Try.prog W = .ok (.string (strOfNums ((xs.drop p).take 14))) W := fun p hp W hW => ((hr.mid p 14 hp (by omega)).below hW).conv
  have hrdt : ∀ p, p ≤ 508 → ∀ W, Below w.heap.size w W → Rd W (.slice (some ⟨b, off + p, none⟩) (508 - p) (cap - p)) (xs.drop p) := fun p hp W hW => by
    have := (hr.mid p (508 - p) (by omega) (by omega)).below hW
    rwa [List.take_of_length_le (by rw [List.length_drop]; omega)] at this
  have h76' : (xs.getD 0 0 == 76) = false := by simpa using h76
  clear hcell hr hc hx1 h76
  generalize xs.getD 0 0 = x0 at *
  generalize hN : rdNode xs = N at *
  have hB0 : Below w.heap.size w ((w.alloc (.cells #[.bool false, .slice none 0 0, .slice none 0 0, .slice none 0 0] 26)).alloc (.cells #[.bool false, .slice none 0 0, .slice none 0 0, .slice none 0 0] 26)) := ((Below.refl _ w).alloc (Nat.le_refl _) _).alloc (by simp) _
  have hz0 : ((w.alloc (.cells #[.bool false, .slice none 0 0, .slice none 0 0, .slice none 0 0] 26)).alloc (.cells #[.bool false, .slice none 0 0, .slice none 0 0, .slice none 0 0] 26)).heap.size = w.heap.size + 2 := by simp
  have hg2 := heap_alloc2_old w (.cells #[.bool false, .slice none 0 0, .slice none 0 0, .slice none 0 0] 26) (.cells #[.bool false, .slice none 0 0, .slice none 0 0, .slice none 0 0] 26)
  have hg3 := heap_alloc2_new w (.cells #[.bool false, .slice none 0 0, .slice none 0 0, .slice none 0 0] 26) (.cells #[.bool false, .slice none 0 0, .slice none 0 0, .slice none 0 0] 26)
  go_enter Try.func39, Try.ntmps39
  go_wp2
  generalize (w.alloc (.cells #[.bool false, .slice none 0 0, .slice none 0 0, .slice none 0 0] 26)).alloc (.cells #[.bool false, .slice none 0 0, .slice none 0 0, .slice none 0 0] 26) = W0 at *
  clear c0 c1 h76'
  go_loopw [5, 11, 12, 13] (fun at' i q1 q2 wr => ∃ (j p : Nat) (L : List Int) (a : Option Addr) (cc : Nat), j ≤ c ∧ Hid (p = 2 + 4 * j) ∧ p ≤ 508 ∧ L.length = j ∧ at' = .int .i64 p ∧ i = .int .i64 j ∧ Hid (rdKids c (xs.drop 2) = L ++ rdKids (c - j) (xs.drop p)) ∧
      wr.heap[w.heap.size]? = some (.cells #[.bool false, .slice none 0 0, .slice none 0 0, .slice none 0 0] 26 (0, 0)) ∧
      wr.heap[w.heap.size + 1]? = some (.cells #[.bool false, .slice none 0 0, .slice none 0 0, .slice a j cc] 26 (0, 0)) ∧
      World.ownsRow wr (w.heap.size + 2) 38 1 (.slice a j cc) j (L.flatMap u32E) ∧ Below w.heap.size w wr ∧ w.heap.size + 2 ≤ wr.heap.size) (fun _ i _ _ _ => c - (intOf i).toNat)
  case atStart => exact ⟨0, 2, [], none, 0, Nat.zero_le _, rfl, by omega, rfl, rfl, rfl, by unfold Hid; rfl, hg2, hg3, World.ownsRow_nil _ _ _ _, hB0, by omega⟩
  case round =>
    clear hg2 hg3 hB0 hz0
    obtain ⟨j, p, L, a, cc, hj, hpe, hp, hLl, rfl, rfl, HP, hg2, hg3, hown, HB, hsz⟩ := hrel
    obtain ⟨wA, hA⟩ : ∃ wA, wA = wr := ⟨_, rfl⟩
    subst hA
    have hpI : (p : Int) ≤ 508 := by omega
    by_cases hgo : j < c ∧ p + 4 ≤ 508
    · obtain ⟨hjc, hp4⟩ := hgo
      have hjI : (j : Int) < c := by omega
      have hpI' : (p : Int) + 4 ≤ 508 := by omega
      have hdl : ¬ (xs.drop p).length < 4 := by rw [List.length_drop]; omega
      have hnu := knum4 wA _ (xs.drop p) (hrdt p hp wA HB) (hy.drop _) (by omega)
      have hnx := rdKi_next (c - j) (xs.drop p) hdl (by omega)
      obtain ⟨v0, v1⟩ := valB_byt4 (xs.drop p) (hy.drop _)
      generalize (valB ((xs.drop p).take 4) : Int) = V at *
      rw [List.drop_drop] at hnx
      have HP' : Hid (rdKids c (xs.drop 2) = (L ++ [V]) ++ rdKids (c - (j + 1)) (xs.drop (p + 4))) := by
        unfold Hid
        rw [HP.out, hnx, show c - j - 1 = c - (j + 1) from by omega]
        simp
      have hwv : IntKind.wrap .u32 V = V := by rw [IntKind.wrap_u32]; omega
      clear hnx HP hcvt hrdt hdl hnode
      obtain ⟨y0, y1, y2, y3, f0, f1, f2, f3⟩ := box4 hg3
      obtain ⟨W2, hW2⟩ : ∃ W2, wA.alloc (.cells #[.int .u32 V] 38) = W2 := ⟨_, rfl⟩
      have hb2 : Below wA.heap.size wA W2 := by rw [← hW2]; exact (Below.refl _ wA).alloc (Nat.le_refl _) _
      have hz2 : W2.heap.size = wA.heap.size + 1 := by rw [← hW2]; simp
      have hnew : W2.heap[wA.heap.size]? = some (.cells #[.int .u32 V] 38 (0, 0)) := by rw [← hW2]; exact heap_alloc_new wA _
      have hown2 := row_below hown hb2
      go_wp2_with fail
      refine hnu.mono ?_
      clear hnu
      rintro e w' ⟨rfl, rfl⟩
      go_wp2_with (at_builtin; refine wpList_append_own W2 rfl _ _ 24 rfl (w.heap.size + 2) 38 iU (.int .u32 0) 1 4 Try.underlying24 hui hu0 hu1 hu2 rfl (by decide) _ j (L.flatMap u32E) rfl hown2 ⟨wA.heap.size, 0, none⟩ 1 1 [.int .u32 V] rfl rfl (new_one hnew) (by simp [Value.oneCell']) (by unfold maxLen; omega) (by omega) (by omega) ?_; intro v3 w3 ho3 hg4 _; have e2 := grown_block hg4 hown2 (show w.heap.size < W2.heap.size by omega) (by omega); have e3 := grown_block hg4 hown2 (show w.heap.size + 1 < W2.heap.size by omega) (by omega); have hg23 := e2.trans ((hb2.block _ (by omega)).trans hg2); have hg33 := e3.trans ((hb2.block _ (by omega)).trans hg3); obtain ⟨z0, z1, z2, z3, k0, k1, k2, k3⟩ := box4 hg33; have hb3 : Below w.heap.size w w3 := HB.trans ((hb2.mono (by omega)).trans ((Below.refl w.heap.size W2).grown hg4 (by omega) (fun q hq => by have := (World.ownsRow.lt hown2 q hq).1; omega))); have hsz3 : w.heap.size + 2 ≤ w3.heap.size := (by have := hg4.size; omega); obtain ⟨a3, c3, rfl⟩ := row_slice ho3; clear e2 e3 hg4 hown2 hown hnew y0 y1 y2 y3 f0 f1 f2 f3)
      go_roundw
      case rel => exact ⟨j + 1, p + 4, L ++ [V], a3, c3, by omega, by have := hpe.out; unfold Hid; omega, by omega, by simp [hLl], by go_num, by go_num, HP', by rw [heap_setCell_other _ _ _ _ (by simp)]; exact hg23, setCell_row hg33 3 _, own_set (by rw [List.flatMap_append]; exact ho3) (by omega) 3 _, hb3.setCell (p := ⟨w.heap.size + 1, 3, none⟩) (by simp) _, by simpa using hsz3⟩
      case measure => simp [intOf]; omega
    · have hst : rdKids (c - j) (xs.drop p) = [] := by
        by_cases h1 : j < c
        · exact rdKi_stop _ _ (by rw [List.length_drop]; omega)
        · rw [show c - j = 0 from by omega]; rfl
      have hkids := HP.out
      rw [hst, List.append_nil] at hkids
      rw [hkids, hLl, ← hpe.out] at hnode
      have hjn : j ≤ 255 := by omega
      have hgo' : ((j : Int) < c ∧ ¬ (p : Int) + 4 ≤ 508) ∨ ¬ (j : Int) < c := by omega
      clear hst HP hkids hgo hrdt
      obtain ⟨B2, hB2⟩ : ∃ B2, B2 = wA.heap.size := ⟨_, rfl⟩
      have hB2w : w.heap.size + 2 ≤ B2 := by omega
      have hUq : ∀ q, (Value.slice a j cc).ownBlock = some q → q < B2 := fun q hq => by rw [hB2]; exact (World.ownsRow.lt hown q hq).2
      generalize hn3 : j = n3 at *
      clear hn3
      rcases hgo' with ⟨hjI, hpI'⟩ | hjI
      · generalize hp0 : p = p0 at *
        clear hp0
        generalize a = ka at *
        generalize cc = kc at *
        generalize L = KL at *
        obtain ⟨y0, y1, y2, y3, f0, f1, f2, f3⟩ := box4 hg3
        go_wp2
        go_loopw [5, 14] (fun at' t wr => ∃ (m p : Nat) (M : List ByteArray) (sa : Option Addr) (sc : Nat), m ≤ c - 1 ∧ Hid (p = p0 + 14 * m) ∧ p ≤ 508 ∧ M.length = m ∧ at' = .int .i64 p ∧ t = .int .i64 ((m : Int) + 1) ∧ Hid (rdKeys (c - 1) (xs.drop p0) = M ++ rdKeys (c - 1 - m) (xs.drop p)) ∧
            wr.heap[w.heap.size]? = some (.cells #[.bool false, .slice none 0 0, .slice none 0 0, .slice none 0 0] 26 (0, 0)) ∧
            wr.heap[w.heap.size + 1]? = some (.cells #[.bool false, .slice none 0 0, .slice sa m sc, .slice ka n3 kc] 26 (0, 0)) ∧
            World.ownsRow wr B2 9 1 (.slice sa m sc) m (M.flatMap strE) ∧ World.ownsRow wr (w.heap.size + 2) 38 1 (.slice ka n3 kc) n3 (KL.flatMap u32E) ∧ Below w.heap.size w wr ∧ B2 ≤ wr.heap.size) (fun _ t _ => c - (intOf t).toNat)
        case atStart => exact ⟨0, p0, [], none, 0, Nat.zero_le _, rfl, hp, rfl, rfl, rfl, by unfold Hid; rfl, hg2, hg3, World.ownsRow_nil _ _ _ _, hown, HB, by omega⟩
        case round =>
          clear hg2 hg3 hown HB hsz hpI
          obtain ⟨m, p, M, sa, sc, hm, hpe', hp', hMl, rfl, rfl, HP, hg2, hg3, hoS, hoU, HB, hB2s⟩ := hrel
          obtain ⟨wA, hA⟩ : ∃ wA, wA = wr := ⟨_, rfl⟩
          subst hA
          have hpI : (p : Int) ≤ 508 := by omega
          by_cases hgo : m < c - 1 ∧ p + 14 ≤ 508
          · obtain ⟨hmc, hp14⟩ := hgo
            have hjI : (m : Int) + 1 < c := by omega
            have hpI' : (p : Int) + 14 ≤ 508 := by omega
            have hdl : ¬ (xs.drop p).length < 14 := by rw [List.length_drop]; omega
            have hcv := hcvt p hp14
            have hw14 : IntKind.wrap .i64 ((p : Int) + 14) = (p : Int) + 14 := by simp [IntKind.wrap, IntKind.bits, IntKind.signed]; omega
            have s1 : (0 : Int) ≤ (p : Int) + 14 := by omega
            have s2 : (p : Int) + 14 ≤ cap := by omega
            have s3 : p ≤ ((p : Int) + 14).toNat := by omega
            have s4 : ((p : Int) + 14).toNat - p = 14 := by omega
            have s5 : ¬ cap = p := by omega
            have hnx := rdKe_next (c - 1 - m) (xs.drop p) hdl (by omega)
            generalize strOfNums ((xs.drop p).take 14) = SV at *
            rw [List.drop_drop] at hnx
            have HP' : Hid (rdKeys (c - 1) (xs.drop p0) = (M ++ [SV]) ++ rdKeys (c - 1 - (m + 1)) (xs.drop (p + 14))) := by
              unfold Hid
              rw [HP.out, hnx, show c - 1 - m - 1 = c - 1 - (m + 1) from by omega]
              simp
            clear hnx HP hcvt hdl hnode
            obtain ⟨y0, y1, y2, y3, f0, f1, f2, f3⟩ := box4 hg3
            have hoS2 : ∀ W, Below wA.heap.size wA W → World.ownsRow W B2 9 1 (.slice sa m sc) m (M.flatMap strE) := fun W hW => row_below hoS hW
            go_wp2_with fail
            refine wp_region_noPanic ?_
            refine wp_region_held_drew (S := fun W => Below w.heap.size w W) (by kernel_rfl) HB.drew (fun hHeld => ?_)
            refine wpAnyH_take (i := 0) (v := .pointer (some ⟨w.heap.size + 1, 2, none⟩)) rfl (by kernel_rfl) (by kernel_rfl) (by kernel_rfl) (fun _ _ _ h => h) (Or.inl ⟨by rfl, fun W hSw => by (try dsimp only at hSw); go_simp⟩) (by assumption) ?_
            simp only [List.getElem_toArray, List.getElem_cons_zero, List.getElem_cons_succ, Act.put, List.setIfInBounds_toArray, List.set_cons_zero, List.set_cons_succ]
            refine wpAnyH_take (i := 2) (v := .slice (some ⟨b, off, none⟩) 508 cap) rfl (by kernel_rfl) (by kernel_rfl) (by kernel_rfl) (fun _ _ _ h => h) (Or.inl ⟨by rfl, fun W hSw => by (try dsimp only at hSw); go_simp⟩) (by assumption) ?_
            simp only [List.getElem_toArray, List.getElem_cons_zero, List.getElem_cons_succ, Act.put, List.setIfInBounds_toArray, List.set_cons_zero, List.set_cons_succ]
            refine wpAnyH_take (i := 3) (v := .int .i64 p) rfl (by kernel_rfl) (by kernel_rfl) (by kernel_rfl) (fun _ _ _ h => h) (Or.inl ⟨by rfl, fun W hSw => by (try dsimp only at hSw); go_simp⟩) (by assumption) ?_
            simp only [List.getElem_toArray, List.getElem_cons_zero, List.getElem_cons_succ, Act.put, List.setIfInBounds_toArray, List.set_cons_zero, List.set_cons_succ]
            refine wpAnyH_take (i := 4) (v := .int .i64 p) rfl (by kernel_rfl) (by kernel_rfl) (by kernel_rfl) (fun _ _ _ h => h) (Or.inl ⟨by rfl, fun W hSw => by (try dsimp only at hSw); go_simp⟩) (by assumption) ?_
            simp only [List.getElem_toArray, List.getElem_cons_zero, List.getElem_cons_succ, Act.put, List.setIfInBounds_toArray, List.set_cons_zero, List.set_cons_succ]
            refine wpAnyH_take (i := 5) (v := .int .i64 (p + 14)) rfl (by kernel_rfl) (by kernel_rfl) (by kernel_rfl) (fun _ _ _ h => h) (Or.inl ⟨by rfl, fun W hSw => by (try dsimp only at hSw); (go_simp <;> rw [hw14])⟩) (by assumption) ?_
            simp only [List.getElem_toArray, List.getElem_cons_zero, List.getElem_cons_succ, Act.put, List.setIfInBounds_toArray, List.set_cons_zero, List.set_cons_succ]
            refine wpAnyH_take (i := 6) (v := .slice (some ⟨b, off + p, none⟩) 14 (cap - p)) rfl (by kernel_rfl) (by kernel_rfl) (by kernel_rfl) (fun _ _ _ h => h) (Or.inl ⟨by rfl, fun W hSw => by (try dsimp only at hSw); (go_simp <;> simp [s1, s2, s3, s4, s5])⟩) (by assumption) ?_
            simp only [List.getElem_toArray, List.getElem_cons_zero, List.getElem_cons_succ, Act.put, List.setIfInBounds_toArray, List.set_cons_zero, List.set_cons_succ]
            refine wpAnyH_take (i := 7) (v := .string SV) rfl (by kernel_rfl) (by kernel_rfl) (by kernel_rfl) (fun _ _ _ h => h) (Or.inl ⟨by rfl, fun W hSw => by (try dsimp only at hSw); go_simp⟩) (by assumption) ?_
            simp only [List.getElem_toArray, List.getElem_cons_zero, List.getElem_cons_succ, Act.put, List.setIfInBounds_toArray, List.set_cons_zero, List.set_cons_succ]
            refine wpAnyH_ready (rs := [1, 8]) (by kernel_rfl) (by simp) ?_
            refine AllReadyH.cons rfl (fun K hK => ?_) (AllReadyH.cons rfl (fun K hK => ?_) AllReadyH.nil)
            · go_simp
              go_wp2
              refine hK.out _ _ (by assumption) (fun hHeld2 => ?_)
              clear hK K
              refine wpAnyH_ready (rs := [8]) (by kernel_rfl) (by simp) ?_
              refine AllReadyH.cons rfl (fun K hK => ?_) AllReadyH.nil
              go_simp
              go_wp2
              refine hK.out _ _ (HB.drew.alloc (by have := HB.size; simpa using this) _) (fun hHeld2 => ?_)
              clear hK K
              try simp only [List.getElem_toArray, List.getElem_cons_zero, List.getElem_cons_succ, Act.put, List.setIfInBounds_toArray, List.set_cons_zero, List.set_cons_succ]
              refine wpAnyH_ready (rs := [9]) (by kernel_rfl) (by simp) ?_
              refine AllReadyH.cons rfl (fun K hK => ?_) AllReadyH.nil
              rw [if_pos (by rfl)]
              refine wp_append_own _ (.tmp 110) (.tmp 117) 23 rfl B2 9 iS (.string ⟨#[]⟩) 1 16 Try.underlying23 hsi hs0 hs1 hs2 rfl (by decide) (.slice sa m sc) m (M.flatMap strE) rfl (hoS2 _ (by first | exact ((Below.refl _ wA).drew.alloc (Nat.le_refl _) _) | exact ((Below.refl _ wA).alloc (Nat.le_refl _) _).drew)) ⟨wA.heap.size, 0, none⟩ 1 1 [.string SV] rfl rfl (new_one (by first | exact heap_alloc_new wA.drew _ | exact heap_alloc_new wA _)) (by simp [Value.oneCell']) (by unfold maxLen; omega) (by omega) (by simp; omega) ?_
              intro v6 w6 ho6 hg6 _
              obtain ⟨a6, c6, rfl⟩ := row_slice ho6
              have hlt2 : ∀ q, (Value.slice sa m sc).ownBlock = some q → B2 ≤ q := fun q hq => (World.ownsRow.lt hoS q hq).1
              have hA6 : Below B2 wA w6 := ((by first | exact ((Below.refl _ wA).drew.alloc (Nat.le_refl _) _) | exact ((Below.refl _ wA).alloc (Nat.le_refl _) _).drew : Below wA.heap.size wA _).mono hB2s).grown hg6 (by simp; omega) (fun q hq => hlt2 q hq)
              have hB6 : w6.heap[w.heap.size + 1]? = some (.cells #[.bool false, .slice none 0 0, .slice sa m sc, .slice ka n3 kc] 26 (0, 0)) := (hA6.block _ (by omega)).trans hg3
              have hB5 : w6.heap[w.heap.size]? = some (.cells #[.bool false, .slice none 0 0, .slice none 0 0, .slice none 0 0] 26 (0, 0)) := (hA6.block _ (by omega)).trans hg2
              obtain ⟨z0, z1, z2, z3, k0, k1, k2, k3⟩ := box4 hB6
              have hU6 : w6.ownsRow (w.heap.size + 2) 38 1 (.slice ka n3 kc) n3 (KL.flatMap u32E) := World.ownsRow.kept (row_below hoU (by first | exact ((Below.refl _ wA).drew.alloc (Nat.le_refl _) _) | exact ((Below.refl _ wA).alloc (Nat.le_refl _) _).drew)) hg6 (by
                cases hq : (Value.slice ka n3 kc).ownBlock with
                | none => exact .inl rfl
                | some q => exact .inr (fun e => by have h1 := hlt2 q e.symm; have h2 := hUq q hq; omega))
              have hHeld6 : Below w.heap.size w w6 := HB.trans (hA6.mono (by omega))
              refine hK.out _ _ hHeld6 (fun hHeld2 => ?_)
              clear hK K
              simp only [List.getElem_toArray, List.getElem_cons_zero, List.getElem_cons_succ, Act.put, List.setIfInBounds_toArray, List.set_cons_zero, List.set_cons_succ]
              refine wpAnyH_take (i := 10) (v := .pointer (some ⟨w.heap.size + 1, 2, none⟩)) rfl (by kernel_rfl) (by kernel_rfl) (by kernel_rfl) (fun _ _ _ h => h) (Or.inl ⟨by rfl, fun W hSw => by (try dsimp only at hSw); go_simp⟩) (by assumption) ?_
              simp only [List.getElem_toArray, List.getElem_cons_zero, List.getElem_cons_succ, Act.put, List.setIfInBounds_toArray, List.set_cons_zero, List.set_cons_succ]
              refine wpAnyH_ready (rs := [11]) (by kernel_rfl) (by simp) ?_
              refine AllReadyH.cons rfl (fun K hK => ?_) AllReadyH.nil
              go_simp
              go_wp2
              have hHeld7 : Below w.heap.size w (w6.setCell ⟨w.heap.size + 1, 2, none⟩ (.slice a6 (m + 1) c6)) := hHeld6.setCell (p := ⟨w.heap.size + 1, 2, none⟩) (by simp) _
              refine hK.out _ _ hHeld7 (fun hHeld2 => ?_)
              clear hK K
              refine wpAnyH_done (by kernel_rfl) ?_ _
              refine NoPanic.normal ?_
              go_wp2
              go_roundw
              case rel => exact ⟨m + 1, p + 14, M ++ [SV], a6, c6, by omega, by have := hpe'.out; unfold Hid; omega, by omega, by simp [hMl], by go_num, by go_num, HP', by rw [heap_setCell_other _ _ _ _ (by simp)]; exact hB5, setCell_row hB6 2 _, own_set (by rw [List.flatMap_append]; exact ho6) (by omega) 2 _, own_set hU6 (by omega) 2 _, hHeld7, by have := hA6.size; simp; omega⟩
              case measure => simp [intOf]; omega
            · go_simp
              go_wp2
              refine hK.out _ _ (HB.drew.alloc (by have := HB.size; simpa using this) _) (fun hHeld2 => ?_)
              clear hK K
              refine wpAnyH_ready (rs := [1]) (by kernel_rfl) (by simp) ?_
              refine AllReadyH.cons rfl (fun K hK => ?_) AllReadyH.nil
              have y2' : (wA.drew.alloc (.cells #[.string SV] 9)).cell? ⟨w.heap.size + 1, 2, none⟩ = some (.slice sa m sc) := (((Below.refl wA.heap.size wA).drew.alloc (Nat.le_refl _) _).cell (p := ⟨w.heap.size + 1, 2, none⟩) (by show w.heap.size + 1 < _; omega)).trans y2
              have y2'' : (wA.alloc (.cells #[.string SV] 9)).cell? ⟨w.heap.size + 1, 2, none⟩ = some (.slice sa m sc) := (((Below.refl wA.heap.size wA).alloc (Nat.le_refl _) _).cell (p := ⟨w.heap.size + 1, 2, none⟩) (by show w.heap.size + 1 < _; omega)).trans y2
              go_simp
              go_wp2
              refine hK.out _ _ (by assumption) (fun hHeld2 => ?_)
              clear hK K y2' y2''
              try simp only [List.getElem_toArray, List.getElem_cons_zero, List.getElem_cons_succ, Act.put, List.setIfInBounds_toArray, List.set_cons_zero, List.set_cons_succ]
              refine wpAnyH_ready (rs := [9]) (by kernel_rfl) (by simp) ?_
              refine AllReadyH.cons rfl (fun K hK => ?_) AllReadyH.nil
              rw [if_pos (by rfl)]
              refine wp_append_own _ (.tmp 110) (.tmp 117) 23 rfl B2 9 iS (.string ⟨#[]⟩) 1 16 Try.underlying23 hsi hs0 hs1 hs2 rfl (by decide) (.slice sa m sc) m (M.flatMap strE) rfl (hoS2 _ (by first | exact ((Below.refl _ wA).drew.alloc (Nat.le_refl _) _) | exact ((Below.refl _ wA).alloc (Nat.le_refl _) _).drew)) ⟨wA.heap.size, 0, none⟩ 1 1 [.string SV] rfl rfl (new_one (by first | exact heap_alloc_new wA.drew _ | exact heap_alloc_new wA _)) (by simp [Value.oneCell']) (by unfold maxLen; omega) (by omega) (by simp; omega) ?_
              intro v6 w6 ho6 hg6 _
              obtain ⟨a6, c6, rfl⟩ := row_slice ho6
              have hlt2 : ∀ q, (Value.slice sa m sc).ownBlock = some q → B2 ≤ q := fun q hq => (World.ownsRow.lt hoS q hq).1
              have hA6 : Below B2 wA w6 := ((by first | exact ((Below.refl _ wA).drew.alloc (Nat.le_refl _) _) | exact ((Below.refl _ wA).alloc (Nat.le_refl _) _).drew : Below wA.heap.size wA _).mono hB2s).grown hg6 (by simp; omega) (fun q hq => hlt2 q hq)
              have hB6 : w6.heap[w.heap.size + 1]? = some (.cells #[.bool false, .slice none 0 0, .slice sa m sc, .slice ka n3 kc] 26 (0, 0)) := (hA6.block _ (by omega)).trans hg3
              have hB5 : w6.heap[w.heap.size]? = some (.cells #[.bool false, .slice none 0 0, .slice none 0 0, .slice none 0 0] 26 (0, 0)) := (hA6.block _ (by omega)).trans hg2
              obtain ⟨z0, z1, z2, z3, k0, k1, k2, k3⟩ := box4 hB6
              have hU6 : w6.ownsRow (w.heap.size + 2) 38 1 (.slice ka n3 kc) n3 (KL.flatMap u32E) := World.ownsRow.kept (row_below hoU (by first | exact ((Below.refl _ wA).drew.alloc (Nat.le_refl _) _) | exact ((Below.refl _ wA).alloc (Nat.le_refl _) _).drew)) hg6 (by
                cases hq : (Value.slice ka n3 kc).ownBlock with
                | none => exact .inl rfl
                | some q => exact .inr (fun e => by have h1 := hlt2 q e.symm; have h2 := hUq q hq; omega))
              have hHeld6 : Below w.heap.size w w6 := HB.trans (hA6.mono (by omega))
              refine hK.out _ _ hHeld6 (fun hHeld2 => ?_)
              clear hK K
              simp only [List.getElem_toArray, List.getElem_cons_zero, List.getElem_cons_succ, Act.put, List.setIfInBounds_toArray, List.set_cons_zero, List.set_cons_succ]
              refine wpAnyH_take (i := 10) (v := .pointer (some ⟨w.heap.size + 1, 2, none⟩)) rfl (by kernel_rfl) (by kernel_rfl) (by kernel_rfl) (fun _ _ _ h => h) (Or.inl ⟨by rfl, fun W hSw => by (try dsimp only at hSw); go_simp⟩) (by assumption) ?_
              simp only [List.getElem_toArray, List.getElem_cons_zero, List.getElem_cons_succ, Act.put, List.setIfInBounds_toArray, List.set_cons_zero, List.set_cons_succ]
              refine wpAnyH_ready (rs := [11]) (by kernel_rfl) (by simp) ?_
              refine AllReadyH.cons rfl (fun K hK => ?_) AllReadyH.nil
              go_simp
              go_wp2
              have hHeld7 : Below w.heap.size w (w6.setCell ⟨w.heap.size + 1, 2, none⟩ (.slice a6 (m + 1) c6)) := hHeld6.setCell (p := ⟨w.heap.size + 1, 2, none⟩) (by simp) _
              refine hK.out _ _ hHeld7 (fun hHeld2 => ?_)
              clear hK K
              refine wpAnyH_done (by kernel_rfl) ?_ _
              refine NoPanic.normal ?_
              go_wp2
              go_roundw
              case rel => exact ⟨m + 1, p + 14, M ++ [SV], a6, c6, by omega, by have := hpe'.out; unfold Hid; omega, by omega, by simp [hMl], by go_num, by go_num, HP', by rw [heap_setCell_other _ _ _ _ (by simp)]; exact hB5, setCell_row hB6 2 _, own_set (by rw [List.flatMap_append]; exact ho6) (by omega) 2 _, own_set hU6 (by omega) 2 _, hHeld7, by have := hA6.size; simp; omega⟩
              case measure => simp [intOf]; omega
          · have hst : rdKeys (c - 1 - m) (xs.drop p) = [] := by
              by_cases h1 : m < c - 1
              · exact rdKe_stop _ _ (by rw [List.length_drop]; omega)
              · rw [show c - 1 - m = 0 from by omega]; rfl
            have HN : Hid (N = ⟨false, [], M, KL⟩) := by
              unfold Hid
              rw [hnode, HP.out, hst, List.append_nil]
            have hgo2 : ((m : Int) + 1 < c ∧ ¬ (p : Int) + 14 ≤ 508) ∨ ¬ (m : Int) + 1 < c := by omega
            obtain ⟨y0, y1, y2, y3, f0, f1, f2, f3⟩ := box4 hg2
            obtain ⟨z0, z1, z2, z3, k0, k1, k2, k3⟩ := box4 hg3
            have hNd : NdOwn wA (w.heap.size + 2) (.agg #[.bool false, .slice none 0 0, .slice sa m sc, .slice ka n3 kc]) ⟨false, [], M, KL⟩ := ⟨_, _, _, rfl, World.ownsRow_nil _ _ _ _, by rw [hMl]; exact row_mono hoS (by omega), by rw [hLl]; exact hoU⟩
            obtain ⟨r1, r2, r3⟩ := fin_node hg2 hNd (by omega)
            have hfin : Below w.heap.size w _ := HB.trans (r3 w.heap.size (Nat.le_refl _))
            clear hnode hst HP hcvt hoS hoU hg3 hNd hgo
            rcases hgo2 with ⟨q1, q2⟩ | q1
            · go_wp2
              exact ret_node rfl w.heap.size _ _ _ _ rfl r1 rfl ⟨_, rfl, by rw [HN.out]; exact r2.mono (by omega), hfin⟩
            · go_wp2
              exact ret_node rfl w.heap.size _ _ _ _ rfl r1 rfl ⟨_, rfl, by rw [HN.out]; exact r2.mono (by omega), hfin⟩
      · generalize hp0 : p = p0 at *
        clear hp0
        generalize a = ka at *
        generalize cc = kc at *
        generalize L = KL at *
        obtain ⟨y0, y1, y2, y3, f0, f1, f2, f3⟩ := box4 hg3
        go_wp2
        go_loopw [5, 14] (fun at' t wr => ∃ (m p : Nat) (M : List ByteArray) (sa : Option Addr) (sc : Nat), m ≤ c - 1 ∧ Hid (p = p0 + 14 * m) ∧ p ≤ 508 ∧ M.length = m ∧ at' = .int .i64 p ∧ t = .int .i64 ((m : Int) + 1) ∧ Hid (rdKeys (c - 1) (xs.drop p0) = M ++ rdKeys (c - 1 - m) (xs.drop p)) ∧
            wr.heap[w.heap.size]? = some (.cells #[.bool false, .slice none 0 0, .slice none 0 0, .slice none 0 0] 26 (0, 0)) ∧
            wr.heap[w.heap.size + 1]? = some (.cells #[.bool false, .slice none 0 0, .slice sa m sc, .slice ka n3 kc] 26 (0, 0)) ∧
            World.ownsRow wr B2 9 1 (.slice sa m sc) m (M.flatMap strE) ∧ World.ownsRow wr (w.heap.size + 2) 38 1 (.slice ka n3 kc) n3 (KL.flatMap u32E) ∧ Below w.heap.size w wr ∧ B2 ≤ wr.heap.size) (fun _ t _ => c - (intOf t).toNat)
        case atStart => exact ⟨0, p0, [], none, 0, Nat.zero_le _, rfl, hp, rfl, rfl, rfl, by unfold Hid; rfl, hg2, hg3, World.ownsRow_nil _ _ _ _, hown, HB, by omega⟩
        case round =>
          clear hg2 hg3 hown HB hsz hpI
          obtain ⟨m, p, M, sa, sc, hm, hpe', hp', hMl, rfl, rfl, HP, hg2, hg3, hoS, hoU, HB, hB2s⟩ := hrel
          obtain ⟨wA, hA⟩ : ∃ wA, wA = wr := ⟨_, rfl⟩
          subst hA
          have hpI : (p : Int) ≤ 508 := by omega
          by_cases hgo : m < c - 1 ∧ p + 14 ≤ 508
          · obtain ⟨hmc, hp14⟩ := hgo
            have hjI : (m : Int) + 1 < c := by omega
            have hpI' : (p : Int) + 14 ≤ 508 := by omega
            have hdl : ¬ (xs.drop p).length < 14 := by rw [List.length_drop]; omega
            have hcv := hcvt p hp14
            have hw14 : IntKind.wrap .i64 ((p : Int) + 14) = (p : Int) + 14 := by simp [IntKind.wrap, IntKind.bits, IntKind.signed]; omega
            have s1 : (0 : Int) ≤ (p : Int) + 14 := by omega
            have s2 : (p : Int) + 14 ≤ cap := by omega
            have s3 : p ≤ ((p : Int) + 14).toNat := by omega
            have s4 : ((p : Int) + 14).toNat - p = 14 := by omega
            have s5 : ¬ cap = p := by omega
            have hnx := rdKe_next (c - 1 - m) (xs.drop p) hdl (by omega)
            generalize strOfNums ((xs.drop p).take 14) = SV at *
            rw [List.drop_drop] at hnx
            have HP' : Hid (rdKeys (c - 1) (xs.drop p0) = (M ++ [SV]) ++ rdKeys (c - 1 - (m + 1)) (xs.drop (p + 14))) := by
              unfold Hid
              rw [HP.out, hnx, show c - 1 - m - 1 = c - 1 - (m + 1) from by omega]
              simp
            clear hnx HP hcvt hdl hnode
            obtain ⟨y0, y1, y2, y3, f0, f1, f2, f3⟩ := box4 hg3
            have hoS2 : ∀ W, Below wA.heap.size wA W → World.ownsRow W B2 9 1 (.slice sa m sc) m (M.flatMap strE) := fun W hW => row_below hoS hW
            go_wp2_with fail
            refine wp_region_noPanic ?_
            refine wp_region_held_drew (S := fun W => Below w.heap.size w W) (by kernel_rfl) HB.drew (fun hHeld => ?_)
            refine wpAnyH_take (i := 0) (v := .pointer (some ⟨w.heap.size + 1, 2, none⟩)) rfl (by kernel_rfl) (by kernel_rfl) (by kernel_rfl) (fun _ _ _ h => h) (Or.inl ⟨by rfl, fun W hSw => by (try dsimp only at hSw); go_simp⟩) (by assumption) ?_
            simp only [List.getElem_toArray, List.getElem_cons_zero, List.getElem_cons_succ, Act.put, List.setIfInBounds_toArray, List.set_cons_zero, List.set_cons_succ]
            refine wpAnyH_take (i := 2) (v := .slice (some ⟨b, off, none⟩) 508 cap) rfl (by kernel_rfl) (by kernel_rfl) (by kernel_rfl) (fun _ _ _ h => h) (Or.inl ⟨by rfl, fun W hSw => by (try dsimp only at hSw); go_simp⟩) (by assumption) ?_
            simp only [List.getElem_toArray, List.getElem_cons_zero, List.getElem_cons_succ, Act.put, List.setIfInBounds_toArray, List.set_cons_zero, List.set_cons_succ]
            refine wpAnyH_take (i := 3) (v := .int .i64 p) rfl (by kernel_rfl) (by kernel_rfl) (by kernel_rfl) (fun _ _ _ h => h) (Or.inl ⟨by rfl, fun W hSw => by (try dsimp only at hSw); go_simp⟩) (by assumption) ?_
            simp only [List.getElem_toArray, List.getElem_cons_zero, List.getElem_cons_succ, Act.put, List.setIfInBounds_toArray, List.set_cons_zero, List.set_cons_succ]
            refine wpAnyH_take (i := 4) (v := .int .i64 p) rfl (by kernel_rfl) (by kernel_rfl) (by kernel_rfl) (fun _ _ _ h => h) (Or.inl ⟨by rfl, fun W hSw => by (try dsimp only at hSw); go_simp⟩) (by assumption) ?_
            simp only [List.getElem_toArray, List.getElem_cons_zero, List.getElem_cons_succ, Act.put, List.setIfInBounds_toArray, List.set_cons_zero, List.set_cons_succ]
            refine wpAnyH_take (i := 5) (v := .int .i64 (p + 14)) rfl (by kernel_rfl) (by kernel_rfl) (by kernel_rfl) (fun _ _ _ h => h) (Or.inl ⟨by rfl, fun W hSw => by (try dsimp only at hSw); (go_simp <;> rw [hw14])⟩) (by assumption) ?_
            simp only [List.getElem_toArray, List.getElem_cons_zero, List.getElem_cons_succ, Act.put, List.setIfInBounds_toArray, List.set_cons_zero, List.set_cons_succ]
            refine wpAnyH_take (i := 6) (v := .slice (some ⟨b, off + p, none⟩) 14 (cap - p)) rfl (by kernel_rfl) (by kernel_rfl) (by kernel_rfl) (fun _ _ _ h => h) (Or.inl ⟨by rfl, fun W hSw => by (try dsimp only at hSw); (go_simp <;> simp [s1, s2, s3, s4, s5])⟩) (by assumption) ?_
            simp only [List.getElem_toArray, List.getElem_cons_zero, List.getElem_cons_succ, Act.put, List.setIfInBounds_toArray, List.set_cons_zero, List.set_cons_succ]
            refine wpAnyH_take (i := 7) (v := .string SV) rfl (by kernel_rfl) (by kernel_rfl) (by kernel_rfl) (fun _ _ _ h => h) (Or.inl ⟨by rfl, fun W hSw => by (try dsimp only at hSw); go_simp⟩) (by assumption) ?_
            simp only [List.getElem_toArray, List.getElem_cons_zero, List.getElem_cons_succ, Act.put, List.setIfInBounds_toArray, List.set_cons_zero, List.set_cons_succ]
            refine wpAnyH_ready (rs := [1, 8]) (by kernel_rfl) (by simp) ?_
            refine AllReadyH.cons rfl (fun K hK => ?_) (AllReadyH.cons rfl (fun K hK => ?_) AllReadyH.nil)
            · go_simp
              go_wp2
              refine hK.out _ _ (by assumption) (fun hHeld2 => ?_)
              clear hK K
              refine wpAnyH_ready (rs := [8]) (by kernel_rfl) (by simp) ?_
              refine AllReadyH.cons rfl (fun K hK => ?_) AllReadyH.nil
              go_simp
              go_wp2
              refine hK.out _ _ (HB.drew.alloc (by have := HB.size; simpa using this) _) (fun hHeld2 => ?_)
              clear hK K
              try simp only [List.getElem_toArray, List.getElem_cons_zero, List.getElem_cons_succ, Act.put, List.setIfInBounds_toArray, List.set_cons_zero, List.set_cons_succ]
              refine wpAnyH_ready (rs := [9]) (by kernel_rfl) (by simp) ?_
              refine AllReadyH.cons rfl (fun K hK => ?_) AllReadyH.nil
              rw [if_pos (by rfl)]
              refine wp_append_own _ (.tmp 110) (.tmp 117) 23 rfl B2 9 iS (.string ⟨#[]⟩) 1 16 Try.underlying23 hsi hs0 hs1 hs2 rfl (by decide) (.slice sa m sc) m (M.flatMap strE) rfl (hoS2 _ (by first | exact ((Below.refl _ wA).drew.alloc (Nat.le_refl _) _) | exact ((Below.refl _ wA).alloc (Nat.le_refl _) _).drew)) ⟨wA.heap.size, 0, none⟩ 1 1 [.string SV] rfl rfl (new_one (by first | exact heap_alloc_new wA.drew _ | exact heap_alloc_new wA _)) (by simp [Value.oneCell']) (by unfold maxLen; omega) (by omega) (by simp; omega) ?_
              intro v6 w6 ho6 hg6 _
              obtain ⟨a6, c6, rfl⟩ := row_slice ho6
              have hlt2 : ∀ q, (Value.slice sa m sc).ownBlock = some q → B2 ≤ q := fun q hq => (World.ownsRow.lt hoS q hq).1
              have hA6 : Below B2 wA w6 := ((by first | exact ((Below.refl _ wA).drew.alloc (Nat.le_refl _) _) | exact ((Below.refl _ wA).alloc (Nat.le_refl _) _).drew : Below wA.heap.size wA _).mono hB2s).grown hg6 (by simp; omega) (fun q hq => hlt2 q hq)
              have hB6 : w6.heap[w.heap.size + 1]? = some (.cells #[.bool false, .slice none 0 0, .slice sa m sc, .slice ka n3 kc] 26 (0, 0)) := (hA6.block _ (by omega)).trans hg3
              have hB5 : w6.heap[w.heap.size]? = some (.cells #[.bool false, .slice none 0 0, .slice none 0 0, .slice none 0 0] 26 (0, 0)) := (hA6.block _ (by omega)).trans hg2
              obtain ⟨z0, z1, z2, z3, k0, k1, k2, k3⟩ := box4 hB6
              have hU6 : w6.ownsRow (w.heap.size + 2) 38 1 (.slice ka n3 kc) n3 (KL.flatMap u32E) := World.ownsRow.kept (row_below hoU (by first | exact ((Below.refl _ wA).drew.alloc (Nat.le_refl _) _) | exact ((Below.refl _ wA).alloc (Nat.le_refl _) _).drew)) hg6 (by
                cases hq : (Value.slice ka n3 kc).ownBlock with
                | none => exact .inl rfl
                | some q => exact .inr (fun e => by have h1 := hlt2 q e.symm; have h2 := hUq q hq; omega))
              have hHeld6 : Below w.heap.size w w6 := HB.trans (hA6.mono (by omega))
              refine hK.out _ _ hHeld6 (fun hHeld2 => ?_)
              clear hK K
              simp only [List.getElem_toArray, List.getElem_cons_zero, List.getElem_cons_succ, Act.put, List.setIfInBounds_toArray, List.set_cons_zero, List.set_cons_succ]
              refine wpAnyH_take (i := 10) (v := .pointer (some ⟨w.heap.size + 1, 2, none⟩)) rfl (by kernel_rfl) (by kernel_rfl) (by kernel_rfl) (fun _ _ _ h => h) (Or.inl ⟨by rfl, fun W hSw => by (try dsimp only at hSw); go_simp⟩) (by assumption) ?_
              simp only [List.getElem_toArray, List.getElem_cons_zero, List.getElem_cons_succ, Act.put, List.setIfInBounds_toArray, List.set_cons_zero, List.set_cons_succ]
              refine wpAnyH_ready (rs := [11]) (by kernel_rfl) (by simp) ?_
              refine AllReadyH.cons rfl (fun K hK => ?_) AllReadyH.nil
              go_simp
              go_wp2
              have hHeld7 : Below w.heap.size w (w6.setCell ⟨w.heap.size + 1, 2, none⟩ (.slice a6 (m + 1) c6)) := hHeld6.setCell (p := ⟨w.heap.size + 1, 2, none⟩) (by simp) _
              refine hK.out _ _ hHeld7 (fun hHeld2 => ?_)
              clear hK K
              refine wpAnyH_done (by kernel_rfl) ?_ _
              refine NoPanic.normal ?_
              go_wp2
              go_roundw
              case rel => exact ⟨m + 1, p + 14, M ++ [SV], a6, c6, by omega, by have := hpe'.out; unfold Hid; omega, by omega, by simp [hMl], by go_num, by go_num, HP', by rw [heap_setCell_other _ _ _ _ (by simp)]; exact hB5, setCell_row hB6 2 _, own_set (by rw [List.flatMap_append]; exact ho6) (by omega) 2 _, own_set hU6 (by omega) 2 _, hHeld7, by have := hA6.size; simp; omega⟩
              case measure => simp [intOf]; omega
            · go_simp
              go_wp2
              refine hK.out _ _ (HB.drew.alloc (by have := HB.size; simpa using this) _) (fun hHeld2 => ?_)
              clear hK K
              refine wpAnyH_ready (rs := [1]) (by kernel_rfl) (by simp) ?_
              refine AllReadyH.cons rfl (fun K hK => ?_) AllReadyH.nil
              have y2' : (wA.drew.alloc (.cells #[.string SV] 9)).cell? ⟨w.heap.size + 1, 2, none⟩ = some (.slice sa m sc) := (((Below.refl wA.heap.size wA).drew.alloc (Nat.le_refl _) _).cell (p := ⟨w.heap.size + 1, 2, none⟩) (by show w.heap.size + 1 < _; omega)).trans y2
              have y2'' : (wA.alloc (.cells #[.string SV] 9)).cell? ⟨w.heap.size + 1, 2, none⟩ = some (.slice sa m sc) := (((Below.refl wA.heap.size wA).alloc (Nat.le_refl _) _).cell (p := ⟨w.heap.size + 1, 2, none⟩) (by show w.heap.size + 1 < _; omega)).trans y2
              go_simp
              go_wp2
              refine hK.out _ _ (by assumption) (fun hHeld2 => ?_)
              clear hK K y2' y2''
              try simp only [List.getElem_toArray, List.getElem_cons_zero, List.getElem_cons_succ, Act.put, List.setIfInBounds_toArray, List.set_cons_zero, List.set_cons_succ]
              refine wpAnyH_ready (rs := [9]) (by kernel_rfl) (by simp) ?_
              refine AllReadyH.cons rfl (fun K hK => ?_) AllReadyH.nil
              rw [if_pos (by rfl)]
              refine wp_append_own _ (.tmp 110) (.tmp 117) 23 rfl B2 9 iS (.string ⟨#[]⟩) 1 16 Try.underlying23 hsi hs0 hs1 hs2 rfl (by decide) (.slice sa m sc) m (M.flatMap strE) rfl (hoS2 _ (by first | exact ((Below.refl _ wA).drew.alloc (Nat.le_refl _) _) | exact ((Below.refl _ wA).alloc (Nat.le_refl _) _).drew)) ⟨wA.heap.size, 0, none⟩ 1 1 [.string SV] rfl rfl (new_one (by first | exact heap_alloc_new wA.drew _ | exact heap_alloc_new wA _)) (by simp [Value.oneCell']) (by unfold maxLen; omega) (by omega) (by simp; omega) ?_
              intro v6 w6 ho6 hg6 _
              obtain ⟨a6, c6, rfl⟩ := row_slice ho6
              have hlt2 : ∀ q, (Value.slice sa m sc).ownBlock = some q → B2 ≤ q := fun q hq => (World.ownsRow.lt hoS q hq).1
              have hA6 : Below B2 wA w6 := ((by first | exact ((Below.refl _ wA).drew.alloc (Nat.le_refl _) _) | exact ((Below.refl _ wA).alloc (Nat.le_refl _) _).drew : Below wA.heap.size wA _).mono hB2s).grown hg6 (by simp; omega) (fun q hq => hlt2 q hq)
              have hB6 : w6.heap[w.heap.size + 1]? = some (.cells #[.bool false, .slice none 0 0, .slice sa m sc, .slice ka n3 kc] 26 (0, 0)) := (hA6.block _ (by omega)).trans hg3
              have hB5 : w6.heap[w.heap.size]? = some (.cells #[.bool false, .slice none 0 0, .slice none 0 0, .slice none 0 0] 26 (0, 0)) := (hA6.block _ (by omega)).trans hg2
              obtain ⟨z0, z1, z2, z3, k0, k1, k2, k3⟩ := box4 hB6
              have hU6 : w6.ownsRow (w.heap.size + 2) 38 1 (.slice ka n3 kc) n3 (KL.flatMap u32E) := World.ownsRow.kept (row_below hoU (by first | exact ((Below.refl _ wA).drew.alloc (Nat.le_refl _) _) | exact ((Below.refl _ wA).alloc (Nat.le_refl _) _).drew)) hg6 (by
                cases hq : (Value.slice ka n3 kc).ownBlock with
                | none => exact .inl rfl
                | some q => exact .inr (fun e => by have h1 := hlt2 q e.symm; have h2 := hUq q hq; omega))
              have hHeld6 : Below w.heap.size w w6 := HB.trans (hA6.mono (by omega))
              refine hK.out _ _ hHeld6 (fun hHeld2 => ?_)
              clear hK K
              simp only [List.getElem_toArray, List.getElem_cons_zero, List.getElem_cons_succ, Act.put, List.setIfInBounds_toArray, List.set_cons_zero, List.set_cons_succ]
              refine wpAnyH_take (i := 10) (v := .pointer (some ⟨w.heap.size + 1, 2, none⟩)) rfl (by kernel_rfl) (by kernel_rfl) (by kernel_rfl) (fun _ _ _ h => h) (Or.inl ⟨by rfl, fun W hSw => by (try dsimp only at hSw); go_simp⟩) (by assumption) ?_
              simp only [List.getElem_toArray, List.getElem_cons_zero, List.getElem_cons_succ, Act.put, List.setIfInBounds_toArray, List.set_cons_zero, List.set_cons_succ]
              refine wpAnyH_ready (rs := [11]) (by kernel_rfl) (by simp) ?_
              refine AllReadyH.cons rfl (fun K hK => ?_) AllReadyH.nil
              go_simp
              go_wp2
              have hHeld7 : Below w.heap.size w (w6.setCell ⟨w.heap.size + 1, 2, none⟩ (.slice a6 (m + 1) c6)) := hHeld6.setCell (p := ⟨w.heap.size + 1, 2, none⟩) (by simp) _
              refine hK.out _ _ hHeld7 (fun hHeld2 => ?_)
              clear hK K
              refine wpAnyH_done (by kernel_rfl) ?_ _
              refine NoPanic.normal ?_
              go_wp2
              go_roundw
              case rel => exact ⟨m + 1, p + 14, M ++ [SV], a6, c6, by omega, by have := hpe'.out; unfold Hid; omega, by omega, by simp [hMl], by go_num, by go_num, HP', by rw [heap_setCell_other _ _ _ _ (by simp)]; exact hB5, setCell_row hB6 2 _, own_set (by rw [List.flatMap_append]; exact ho6) (by omega) 2 _, own_set hU6 (by omega) 2 _, hHeld7, by have := hA6.size; simp; omega⟩
              case measure => simp [intOf]; omega
          · have hst : rdKeys (c - 1 - m) (xs.drop p) = [] := by
              by_cases h1 : m < c - 1
              · exact rdKe_stop _ _ (by rw [List.length_drop]; omega)
              · rw [show c - 1 - m = 0 from by omega]; rfl
            have HN : Hid (N = ⟨false, [], M, KL⟩) := by
              unfold Hid
              rw [hnode, HP.out, hst, List.append_nil]
            have hgo2 : ((m : Int) + 1 < c ∧ ¬ (p : Int) + 14 ≤ 508) ∨ ¬ (m : Int) + 1 < c := by omega
            obtain ⟨y0, y1, y2, y3, f0, f1, f2, f3⟩ := box4 hg2
            obtain ⟨z0, z1, z2, z3, k0, k1, k2, k3⟩ := box4 hg3
            have hNd : NdOwn wA (w.heap.size + 2) (.agg #[.bool false, .slice none 0 0, .slice sa m sc, .slice ka n3 kc]) ⟨false, [], M, KL⟩ := ⟨_, _, _, rfl, World.ownsRow_nil _ _ _ _, by rw [hMl]; exact row_mono hoS (by omega), by rw [hLl]; exact hoU⟩
            obtain ⟨r1, r2, r3⟩ := fin_node hg2 hNd (by omega)
            have hfin : Below w.heap.size w _ := HB.trans (r3 w.heap.size (Nat.le_refl _))
            clear hnode hst HP hcvt hoS hoU hg3 hNd hgo
            rcases hgo2 with ⟨q1, q2⟩ | q1
            · go_wp2
              exact ret_node rfl w.heap.size _ _ _ _ rfl r1 rfl ⟨_, rfl, by rw [HN.out]; exact r2.mono (by omega), hfin⟩
            · go_wp2
              exact ret_node rfl w.heap.size _ _ _ _ rfl r1 rfl ⟨_, rfl, by rw [HN.out]; exact r2.mono (by omega), hfin⟩

theorem kread_any (w : World) (b off cap : Nat) (xs : List Int) (hr : Rd w (.slice (some ⟨b, off, none⟩) 508 cap) xs) (hy : Byt xs) :
    Calls Try.prog 39 #[.slice (some ⟨b, off, none⟩) 508 cap] w fun e w' => ∃ v, e = .returned v ∧ NdOwn w' w.heap.size v (rdNode xs) ∧ Below w.heap.size w w' := by
  by_cases h : xs.getD 0 0 = 76
  · exact kread_leaf w b off cap xs hr hy h
  · exact kread_inner w b off cap xs hr hy h

set_option maxHeartbeats 1000000 in
theorem kopen_any (w : World) (v : Value) (xs : List Int) (h : Rd w v xs) (hy : Byt xs) :
    Calls Try.prog 38 #[v] w fun e w' => ∃ u, e = .returned (.tuple #[u, .int .i64 (opE xs)]) ∧ (opE xs = 0 → Own w' w.heap.size u (bodyB xs)) ∧ Below w.heap.size w w' := by
  obtain ⟨a, cap, rfl, hcap, hm, hnn, hne⟩ := h
  have hx : Rd w (.slice a xs.length cap) xs := ⟨a, cap, rfl, hcap, hm, hnn, hne⟩
  clear hnn hne
  by_cases h5 : xs.length = 512
  · have hu := refUnseal_any w _ xs hx hy (by omega)
    have hb : unE xs = 0 → unB xs = bodyB xs := fun e => by unfold unB; rw [if_pos e]
    have e1 : opE xs = unE xs := if_pos h5
    rw [e1]; clear e1
    rw [h5] at hu ⊢
    generalize unE xs = E at hb hu
    generalize unB xs = U at hb hu
    clear hx
    go_enter Try.func38, Try.ntmps38
    go_wp2_with fail
    refine hu.mono ?_
    rintro e w' ⟨u, rfl, ho, hbl⟩
    go_wp2
    go_ret2
    exact ⟨_, rfl, fun e => by rw [← hb e]; exact ho, hbl⟩
  · have e1 : opE xs = 10 := if_neg h5
    have h5' : ¬ (xs.length : Int) = 512 := by omega
    rw [e1]; clear e1
    generalize xs.length = n at *
    go_enter Try.func38, Try.ntmps38
    go_wp2
    go_ret2
    exact ⟨_, rfl, fun e => by omega, Below.refl _ _⟩

theorem rdPairs_len : ∀ (m : Nat) (xs : List Int) (l : List (ByteArray × ByteArray)), rdPairs m xs = some l → l.length ≤ m := by
  intro m
  induction m with
  | zero => intro xs l h; simp [rdPairs] at h; subst h; simp
  | succ m ih =>
    intro xs l h
    unfold rdPairs at h
    split at h
    · simp at h; subst h; simp
    · split at h
      · cases hq : rdPairs m (xs.drop (14 + (readN (xs.drop 14)).toNat)) with
        | none => rw [hq] at h; simp at h
        | some r =>
          rw [hq] at h
          simp at h
          subst h
          have := ih _ r hq
          simp; omega
      · cases h

theorem rdNode_small {xs : List Int} (h : Byt xs) : (rdNode xs).pairs.length ≤ 255 := by
  have h1 := h.getD 1
  unfold rdNode
  split
  · cases hq : rdPairs (xs.getD 1 0).toNat (xs.drop 2) with
    | none => simp [nd0]
    | some l =>
      have := rdPairs_len _ _ _ hq
      dsimp only
      omega
  · simp

theorem ndAt_own' {w : World} {base : Nat} {v : Value} {n : Nd} (h : NdOwn w base v n) : NdAt w v n := by
  obtain ⟨p, q, r, rfl, hp, hq, hr⟩ := h
  obtain ⟨a1, c1, rfl⟩ := row_slice hp
  obtain ⟨a2, c2, rfl⟩ := row_slice hq
  obtain ⟨a3, c3, rfl⟩ := row_slice hr
  exact ⟨a1, c1, a2, c2, a3, c3, rfl, rdE_own (enc := kvE) (fun _ => rfl) hp, rdE_own (enc := strE) (fun _ => rfl) hq, rdE_own (enc := u32E) (fun _ => rfl) hr, trivial⟩

set_option maxHeartbeats 2000000 in
theorem kdecode_no (w : World) (v : Value) (xs : List Int) (hr : Rd w v xs) (hy : Byt xs) (ho : ¬ opE xs = 0) :
    Calls Try.prog 17 #[v] w fun e w' => ∃ u, e = .returned (.tuple #[u, .int .i64 (opE xs)]) ∧ NdOwn w' w.heap.size u nd0 ∧ Below w.heap.size w w' := by
  have hB0 : Below w.heap.size w (w.alloc (.cells #[.bool false, .slice none 0 0, .slice none 0 0, .slice none 0 0] 26)) := (Below.refl _ w).alloc (Nat.le_refl _) _
  have hg0 := heap_alloc_new w (.cells #[.bool false, .slice none 0 0, .slice none 0 0, .slice none 0 0] 26)
  have hop := kopen_any _ v xs (hr.below hB0) hy
  generalize opE xs = E at *
  generalize hW0 : w.alloc (.cells #[.bool false, .slice none 0 0, .slice none 0 0, .slice none 0 0] 26) = W0 at *
  have z0 : w.heap.size < W0.heap.size := (Array.getElem?_eq_some_iff.1 hg0).1
  go_enter Try.func17, Try.ntmps17
  go_wp2_with fail
  refine hop.mono ?_
  clear hW0
  rintro e w1 ⟨u1, rfl, _, hb1⟩
  have hg1 := (hb1.block _ z0).trans hg0
  obtain ⟨q0, q1, q2, q3, f0, f1, f2, f3⟩ := box4 hg1
  have hf := fin_node hg1 (NdOwn.zero w1 (w.heap.size + 1)) (by omega)
  have HF : Hid _ := hf
  clear hg1 hg0 hop hf
  go_wp2
  exact ret_node2 rfl w.heap.size _ _ _ _ rfl _ rfl HF.out.1 rfl ⟨_, rfl, NdOwn.mono HF.out.2.1 (by omega), hB0.trans ((hb1.mono (by omega)).trans (HF.out.2.2 _ (Nat.le_refl _)))⟩

set_option maxHeartbeats 4000000 in
theorem kdecode_yes (w : World) (v : Value) (xs : List Int) (hr : Rd w v xs) (hy : Byt xs) (ho : opE xs = 0) :
    Calls Try.prog 17 #[v] w fun e w' => ∃ u, e = .returned (.tuple #[u, .int .i64 (ndE xs)]) ∧ NdOwn w' w.heap.size u (ndN xs) ∧ Below w.heap.size w w' := by
  have h512 : xs.length = 512 := by
    unfold opE at ho
    split at ho
    · assumption
    · cases ho
  have hB0 : Below w.heap.size w (w.alloc (.cells #[.bool false, .slice none 0 0, .slice none 0 0, .slice none 0 0] 26)) := (Below.refl _ w).alloc (Nat.le_refl _) _
  have hg0 := heap_alloc_new w (.cells #[.bool false, .slice none 0 0, .slice none 0 0, .slice none 0 0] 26)
  have hop := kopen_any _ v xs (hr.below hB0) hy
  have hbl : (bodyB xs).length = 508 := by unfold bodyB; rw [List.length_take]; omega
  have hby : Byt (bodyB xs) := hy.take _
  rw [ho] at hop
  have hE : ndE xs = if ndIs xs then 0 else 11 := by unfold ndE; rw [if_pos ho]
  have hN : ndN xs = if ndE xs = 0 then rdNode (bodyB xs) else nd0 := rfl
  have hI : ndIs xs = (nodeOk (rdNode (bodyB xs)) && decide (blockL (rdNode (bodyB xs)) = xs)) := rfl
  have hsm := rdNode_small hby
  have hok := rdNode_ok hby
  have hrd := fun W b off cap h => kread_any W b off cap (bodyB xs) h hby
  generalize hn : rdNode (bodyB xs) = n at *
  clear hn ho
  generalize hW0 : w.alloc (.cells #[.bool false, .slice none 0 0, .slice none 0 0, .slice none 0 0] 26) = W0 at *
  have z0 : w.heap.size < W0.heap.size := (Array.getElem?_eq_some_iff.1 hg0).1
  go_enter Try.func17, Try.ntmps17
  go_wp2_with fail
  refine hop.mono ?_
  clear hW0 hop
  rintro e w1 ⟨u1, rfl, ho1, hb1⟩
  replace ho1 := ho1 trivial
  have hr1 := ho1.rd
  obtain ⟨g1, c1, rfl, _, _⟩ := ho1.open (by omega)
  rw [hbl] at hr1 ⊢
  have hrd1 := hrd w1 g1 0 c1 hr1
  clear ho1 hr1 hrd
  go_wp2_with fail
  refine hrd1.mono ?_
  clear hrd1
  rintro e w2 ⟨u2, rfl, ho2, hb2⟩
  have hat2 := ndAt_own' ho2
  obtain ⟨p1, r1, p2, r2, p3, r3, rfl, _, _, _, _⟩ := id hat2
  have hb02 : Below W0.heap.size W0 w2 := hb1.trans (hb2.mono hb1.size)
  have hbA := (Below.refl w2.heap.size w2).alloc (Nat.le_refl _) (.cells #[.bool n.leaf, .slice p1 n.pairs.length r1, .slice p2 n.keys.length r2, .slice p3 n.kids.length r3] 26)
  have hgA := heap_alloc_new w2 (.cells #[.bool n.leaf, .slice p1 n.pairs.length r1, .slice p2 n.keys.length r2, .slice p3 n.kids.length r3] 26)
  have hen := kencode_any _ _ n (hat2.below hbA) hok (by omega)
  obtain ⟨V0, V1, V2, V3, _⟩ := box4' hgA
  have hoA := ho2.below hbA
  have hb03 := hb02.trans (hbA.mono hb02.size)
  have hlA : w2.heap.size < (w2.alloc (.cells #[.bool n.leaf, .slice p1 n.pairs.length r1, .slice p2 n.keys.length r2, .slice p3 n.kids.length r3] 26)).heap.size := (Array.getElem?_eq_some_iff.1 hgA).1
  have hz1 := hb1.size
  have hz2 := hb2.size
  have hrx : ∀ W, Below W0.heap.size W0 W → Rd W v xs := fun W hW => (hr.below hB0).below hW
  clear hat2 ho2 hbA
  generalize hlf : n.leaf = lf at *
  generalize hn1 : n.pairs.length = n1 at *
  generalize hn2 : n.keys.length = n2 at *
  generalize hn3 : n.kids.length = n3 at *
  clear hlf hn1 hn2 hn3
  go_wp2_with fail
  refine hen.mono ?_
  clear hen V0 V1 V2 V3
  generalize w2.alloc (.cells #[.bool lf, .slice p1 n1 r1, .slice p2 n2 r2, .slice p3 n3 r3] 26) = W3 at *
  rintro e w4 ⟨u4, rfl, ho4, hb4⟩
  have hb04 := hb03.trans (hb4.mono hb03.size)
  have hg4 := (hb04.block _ z0).trans hg0
  have hgN := (hb4.block _ hlA).trans hgA
  obtain ⟨q0, q1, q2, q3, f0, f1, f2, f3⟩ := box4 hg4
  obtain ⟨y0, y1, y2, y3, _⟩ := box4' hgN
  have HZ : Hid _ := fin_node hg4 (NdOwn.zero w4 (w.heap.size + 1)) (by omega)
  have hN4 : NdOwn w4 (w.heap.size + 1) (.agg #[.bool lf, .slice p1 n1 r1, .slice p2 n2 r2, .slice p3 n3 r3]) n := (hoA.below hb4).mono (by omega)
  have HF : Hid _ := fin_node hg4 hN4 (by omega)
  have hBw : Below w.heap.size w w4 := hB0.trans (hb04.mono hB0.size)
  have cx := (hrx w4 hb04).conv
  have cu := ho4.rd.conv
  clear hg4 hgN hgA hg0 hoA hN4 hrx hr
  cases hk : nodeOk n with
  | false =>
    have e1 : nodeE n = 50 := by unfold nodeE; rw [hk]; rfl
    have e2 : Hid (ndE xs = 11) := by unfold Hid; rw [hE, hI, hk]; rfl
    have e3 : Hid (ndN xs = nd0) := by unfold Hid; rw [hN, e2.out]; rfl
    rw [e1]
    clear e1 hE hN hI hk cx cu ho4
    go_wp2
    exact ret_node2 rfl w.heap.size _ _ _ _ rfl _ rfl HZ.out.1 rfl ⟨_, by rw [e2.out]; rfl, by rw [e3.out]; exact NdOwn.mono HZ.out.2.1 (by omega), hBw.trans (HZ.out.2.2 _ (Nat.le_refl _))⟩
  | true =>
    have e1 : nodeE n = 0 := by unfold nodeE; rw [hk]; rfl
    have e0 : encL n = blockL n := by unfold encL; rw [hk]; rfl
    rw [e0] at cu
    by_cases hxx : blockL n = xs
    · have e2 : Hid (ndE xs = 0) := by unfold Hid; rw [hE, hI, hk]; simp [hxx]
      have e3 : Hid (ndN xs = n) := by unfold Hid; rw [hN, e2.out]; rfl
      rw [e1]
      rw [hxx] at cu
      clear e1 e0 hE hN hI hk ho4 hxx
      go_wp2
      exact ret_node2 rfl w.heap.size _ _ _ _ rfl _ rfl HF.out.1 rfl ⟨_, by rw [e2.out]; rfl, by rw [e3.out]; exact NdOwn.mono HF.out.2.1 (by omega), hBw.trans (HF.out.2.2 _ (Nat.le_refl _))⟩
    · have e2 : Hid (ndE xs = 11) := by unfold Hid; rw [hE, hI, hk]; simp [hxx]
      have e3 : Hid (ndN xs = nd0) := by unfold Hid; rw [hN, e2.out]; rfl
      have hbq := beq_strOf (blockL_byt hk) hy
      rw [decide_eq_false hxx] at hbq
      rw [e1]
      clear e1 e0 hE hN hI hk ho4 hxx
      generalize strOfNums (blockL n) = A at *
      generalize strOfNums xs = B at *
      go_wp2
      exact ret_node2 rfl w.heap.size _ _ _ _ rfl _ rfl HZ.out.1 rfl ⟨_, by rw [e2.out]; rfl, by rw [e3.out]; exact NdOwn.mono HZ.out.2.1 (by omega), hBw.trans (HZ.out.2.2 _ (Nat.le_refl _))⟩

theorem kdecode_any (w : World) (v : Value) (xs : List Int) (hr : Rd w v xs) (hy : Byt xs) :
    Calls Try.prog 17 #[v] w fun e w' => ∃ u, e = .returned (.tuple #[u, .int .i64 (ndE xs)]) ∧ NdOwn w' w.heap.size u (ndN xs) ∧ Below w.heap.size w w' := by
  by_cases ho : opE xs = 0
  · exact kdecode_yes w v xs hr hy ho
  · have e : ndE xs = opE xs := by unfold ndE; rw [if_neg ho]
    have e2 : ndN xs = nd0 := by unfold ndN; rw [e, if_neg ho]
    rw [e, e2]
    exact kdecode_no w v xs hr hy ho

theorem knum (W : World) (v : Value) (xs : List Int) (k : Nat) (h : Rd W v xs) (hy : Byt xs) (h1 : 1 ≤ k) (h8 : k ≤ 8) (hl : k ≤ xs.length) : Calls Try.prog 41 #[v, .int .i64 k] W fun e w' => e = .returned (.tuple #[.int .u64 (valB (xs.take k)), .int .i64 0]) ∧ W = w' := by
  have hE : numE xs (k : Int) = 0 := by unfold numE; rw [if_neg (by omega), if_neg (by omega)]
  have hV : numV xs (k : Int) = (valB (xs.take k) : Int) := by unfold numV; rw [hE, Int.toNat_natCast]; rfl
  have := refNumber_any W v xs (k : Int) h hy
  rw [hE, hV] at this
  exact this

set_option maxHeartbeats 1000000 in
theorem kdecodeHead_bad (w : World) (v : Value) (xs : List Int) (hr : Rd w v xs) (hy : Byt xs) (ho : ¬ opE xs = 0) :
    Calls Try.prog 19 #[v] w fun e w' => e = .returned (.tuple #[hdV hd0, .int .i64 (opE xs)]) ∧ Below w.heap.size w w' := by
  have hB0 : Below w.heap.size w (w.alloc (.cells #[.int .u64 0, .int .u64 0, .int .u64 0, .int .u32 0, .int .u32 0, .int .u32 0] 40)) := (Below.refl _ w).alloc (Nat.le_refl _) _
  have hg0 := heap_alloc_new w (.cells #[.int .u64 0, .int .u64 0, .int .u64 0, .int .u32 0, .int .u32 0, .int .u32 0] 40)
  have hop := kopen_any _ v xs (hr.below hB0) hy
  generalize opE xs = E at *
  generalize hW0 : w.alloc (.cells #[.int .u64 0, .int .u64 0, .int .u64 0, .int .u32 0, .int .u32 0, .int .u32 0] 40) = W0 at *
  have z0 : w.heap.size < W0.heap.size := (Array.getElem?_eq_some_iff.1 hg0).1
  go_enter Try.func19, Try.ntmps19
  go_wp2_with fail
  refine hop.mono ?_
  clear hW0
  rintro e w1 ⟨u1, rfl, _, hb1⟩
  have hg1 := (hb1.block _ z0).trans hg0
  obtain ⟨⟨b0, b1, b2, b3, b4, b5⟩, d0, d1, d2, d3, d4, d5⟩ := box6 hg1
  have HZ : Hid _ := fin_head (.int .u64 0) (.int .u64 0) (.int .u64 0) (.int .u32 0) (.int .u32 0) (.int .u32 0) hg1
  clear hg1 hg0 hop
  go_wp2
  exact ret_head2 rfl w.heap.size _ _ _ _ _ _ rfl _ rfl HZ.out.1 rfl ⟨rfl, hB0.trans ((hb1.mono (by omega)).trans (HZ.out.2 _ (Nat.le_refl _)))⟩

set_option maxHeartbeats 4000000 in
theorem kdecodeHead_good (w : World) (u : Value) (xs : List Int) (hr : Rd w u xs) (hy : Byt xs) (ho : opE xs = 0) :
    Calls Try.prog 19 #[u] w fun e w' => e = .returned (.tuple #[hdV (hdH xs), .int .i64 (hdE xs)]) ∧ Below w.heap.size w w' := by
  have h512 : xs.length = 512 := by
    unfold opE at ho
    split at ho
    · assumption
    · cases ho
  have hB0 : Below w.heap.size w (w.alloc (.cells #[.int .u64 0, .int .u64 0, .int .u64 0, .int .u32 0, .int .u32 0, .int .u32 0] 40)) := (Below.refl _ w).alloc (Nat.le_refl _) _
  have hg0 := heap_alloc_new w (.cells #[.int .u64 0, .int .u64 0, .int .u64 0, .int .u32 0, .int .u32 0, .int .u32 0] 40)
  have hop := kopen_any _ u xs (hr.below hB0) hy
  have hbl : (bodyB xs).length = 508 := by unfold bodyB; rw [List.length_take]; omega
  have hby : Byt (bodyB xs) := hy.take _
  rw [ho] at hop
  have hE : hdE xs = if headBlock (rdHead (bodyB xs)) = xs then 0 else 11 := by
    unfold hdE; rw [if_pos ho]; unfold hdIs
    by_cases hq : headBlock (rdHead (bodyB xs)) = xs <;> simp [hq]
  have hN : hdH xs = if hdE xs = 0 then rdHead (bodyB xs) else hd0 := rfl
  have hok := rdHead_ok hby
  have hek := fun W => kencodeHead_any W _ hok
  have hbb := headBlock_byt (rdHead (bodyB xs))
  have hrh : rdHead (bodyB xs) = ⟨valB (((bodyB xs).drop 8).take 8), valB (((bodyB xs).drop 16).take 8), valB (((bodyB xs).drop 24).take 8), valB (((bodyB xs).drop 32).take 4), valB (((bodyB xs).drop 36).take 4), valB (((bodyB xs).drop 40).take 4)⟩ := rfl
  generalize hW0 : w.alloc (.cells #[.int .u64 0, .int .u64 0, .int .u64 0, .int .u32 0, .int .u32 0, .int .u32 0] 40) = W0 at *
  have z0 : w.heap.size < W0.heap.size := (Array.getElem?_eq_some_iff.1 hg0).1
  go_enter Try.func19, Try.ntmps19
  go_wp2_with fail
  refine hop.mono ?_
  clear hW0 hop ho
  rintro e w1 ⟨u1, rfl, ho1, hb1⟩
  replace ho1 := ho1 trivial
  have hr1 := ho1.rd
  obtain ⟨g1, c1, rfl, hc1, hm1⟩ := ho1.open (by omega)
  rw [hbl] at hr1 hc1 ⊢
  unfold maxLen at hm1
  have hnum : ∀ (p k : Nat), p + k ≤ 508 → 1 ≤ k → k ≤ 8 → ∀ W, Below w1.heap.size w1 W → Calls Try.prog 41 #[.slice (some ⟨g1, 0 + p, none⟩) (508 - p) (c1 - p), .int .i64 k] W fun e w' => e = .returned (.tuple #[.int .u64 (valB (((bodyB xs).drop p).take k)), .int .i64 0]) ∧ W = w' := fun p k hp h1 h8 W hW => by
    have := (hr1.mid p (508 - p) (by omega) (by omega)).below hW
    rw [List.take_of_length_le (by rw [List.length_drop]; omega)] at this
    exact knum W _ _ k this (hby.drop _) h1 h8 (by rw [List.length_drop]; omega)
  have m8 : ∀ W, Below w1.heap.size w1 W → Calls Try.prog 41 #[.slice (some ⟨g1, 8, none⟩) 500 (c1 - 8), .int .i64 8] W fun e w' => e = .returned (.tuple #[.int .u64 (valB (((bodyB xs).drop 8).take 8)), .int .i64 0]) ∧ W = w' := fun W hW => by have := hnum 8 8 (by omega) (by omega) (by omega) W hW; rw [Nat.zero_add] at this; exact this
  have m16 : ∀ W, Below w1.heap.size w1 W → Calls Try.prog 41 #[.slice (some ⟨g1, 16, none⟩) 492 (c1 - 16), .int .i64 8] W fun e w' => e = .returned (.tuple #[.int .u64 (valB (((bodyB xs).drop 16).take 8)), .int .i64 0]) ∧ W = w' := fun W hW => by have := hnum 16 8 (by omega) (by omega) (by omega) W hW; rw [Nat.zero_add] at this; exact this
  have m24 : ∀ W, Below w1.heap.size w1 W → Calls Try.prog 41 #[.slice (some ⟨g1, 24, none⟩) 484 (c1 - 24), .int .i64 8] W fun e w' => e = .returned (.tuple #[.int .u64 (valB (((bodyB xs).drop 24).take 8)), .int .i64 0]) ∧ W = w' := fun W hW => by have := hnum 24 8 (by omega) (by omega) (by omega) W hW; rw [Nat.zero_add] at this; exact this
  have m32 : ∀ W, Below w1.heap.size w1 W → Calls Try.prog 41 #[.slice (some ⟨g1, 32, none⟩) 476 (c1 - 32), .int .i64 4] W fun e w' => e = .returned (.tuple #[.int .u64 (valB (((bodyB xs).drop 32).take 4)), .int .i64 0]) ∧ W = w' := fun W hW => by have := hnum 32 4 (by omega) (by omega) (by omega) W hW; rw [Nat.zero_add] at this; exact this
  have m36 : ∀ W, Below w1.heap.size w1 W → Calls Try.prog 41 #[.slice (some ⟨g1, 36, none⟩) 472 (c1 - 36), .int .i64 4] W fun e w' => e = .returned (.tuple #[.int .u64 (valB (((bodyB xs).drop 36).take 4)), .int .i64 0]) ∧ W = w' := fun W hW => by have := hnum 36 4 (by omega) (by omega) (by omega) W hW; rw [Nat.zero_add] at this; exact this
  have m40 : ∀ W, Below w1.heap.size w1 W → Calls Try.prog 41 #[.slice (some ⟨g1, 40, none⟩) 468 (c1 - 40), .int .i64 4] W fun e w' => e = .returned (.tuple #[.int .u64 (valB (((bodyB xs).drop 40).take 4)), .int .i64 0]) ∧ W = w' := fun W hW => by have := hnum 40 4 (by omega) (by omega) (by omega) W hW; rw [Nat.zero_add] at this; exact this
  rw [hrh] at hok hek hbb hE hN
  clear hnum hrh
  generalize (valB (((bodyB xs).drop 8).take 8) : Int) = s at *
  generalize (valB (((bodyB xs).drop 16).take 8) : Int) = v at *
  generalize (valB (((bodyB xs).drop 24).take 8) : Int) = l at *
  generalize (valB (((bodyB xs).drop 32).take 4) : Int) = r at *
  generalize (valB (((bodyB xs).drop 36).take 4) : Int) = n at *
  generalize (valB (((bodyB xs).drop 40).take 4) : Int) = i at *
  obtain ⟨s0, s1, v0, v1, l0, l1, r0, r1, n0, n1, i0, i1⟩ := hok
  dsimp only at *
  have wr3 : IntKind.wrap .u32 r = r := by rw [IntKind.wrap_u32]; omega
  have wr4 : IntKind.wrap .u32 n = n := by rw [IntKind.wrap_u32]; omega
  have wr5 : IntKind.wrap .u32 i = i := by rw [IntKind.wrap_u32]; omega
  unfold hdV at hek
  dsimp only at hek
  generalize headBlock ⟨s, v, l, r, n, i⟩ = BK at *
  have hrx : ∀ W, Below W0.heap.size W0 W → Rd W u xs := fun W hW => (hr.below hB0).below hW
  clear ho1 hr1 hr
  go_wp2_with fail
  refine (m8 _ ((Below.refl _ w1).alloc (Nat.le_refl _) _)).mono ?_
  rintro e w' ⟨rfl, rfl⟩
  go_wp2_with fail
  refine (m16 _ ((Below.refl _ w1).alloc (Nat.le_refl _) _)).mono ?_
  rintro e w' ⟨rfl, rfl⟩
  go_wp2_with fail
  refine (m24 _ ((Below.refl _ w1).alloc (Nat.le_refl _) _)).mono ?_
  rintro e w' ⟨rfl, rfl⟩
  go_wp2_with fail
  refine (m32 _ ((Below.refl _ w1).alloc (Nat.le_refl _) _)).mono ?_
  rintro e w' ⟨rfl, rfl⟩
  go_wp2_with fail
  refine (m36 _ ((Below.refl _ w1).alloc (Nat.le_refl _) _)).mono ?_
  rintro e w' ⟨rfl, rfl⟩
  go_wp2_with fail
  refine (m40 _ ((Below.refl _ w1).alloc (Nat.le_refl _) _)).mono ?_
  rintro e w' ⟨rfl, rfl⟩
  clear m8 m16 m24 m32 m36 m40
  have hbA := (Below.refl w1.heap.size w1).alloc (Nat.le_refl _) (.cells #[.int .u64 s, .int .u64 v, .int .u64 l, .int .u32 r, .int .u32 n, .int .u32 i] 40)
  have hgA := heap_alloc_new w1 (.cells #[.int .u64 s, .int .u64 v, .int .u64 l, .int .u32 r, .int .u32 n, .int .u32 i] 40)
  have hb0A := hb1.trans (hbA.mono hb1.size)
  go_wp2_with fail
  clear wr3 wr4 wr5
  generalize w1.alloc (.cells #[.int .u64 s, .int .u64 v, .int .u64 l, .int .u32 r, .int .u32 n, .int .u32 i] 40) = W6 at *
  have hlA : w1.heap.size < W6.heap.size := (Array.getElem?_eq_some_iff.1 hgA).1
  have hq : ∀ j x, #[Value.int .u64 s, .int .u64 v, .int .u64 l, .int .u32 r, .int .u32 n, .int .u32 i][j]? = some x → ∀ W, Below W6.heap.size W6 W → W.cell? ⟨w1.heap.size, j, none⟩ = some x := fun j x hx W hW => by
    rw [cell_of_row W _ j _ _ (0, 0) ((hW.block _ hlA).trans hgA)]; exact hx
  have q0 := hq 0 _ rfl
  have q1 := hq 1 _ rfl
  have q2 := hq 2 _ rfl
  have q3 := hq 3 _ rfl
  have q4 := hq 4 _ rfl
  have q5 := hq 5 _ rfl
  have cB : ∀ W, Below W6.heap.size W6 W → (convert 28 9 u).run Try.prog W = .ok (.string (strOfNums xs)) W := fun W hW => (hrx W (hb0A.trans (hW.mono hb0A.size))).conv
  clear hq hrx hbA
  by_cases hxx : BK = xs
  · have e2 : Hid (hdE xs = 0) := by unfold Hid; rw [hE, if_pos hxx]
    have e3 : Hid (hdH xs = ⟨s, v, l, r, n, i⟩) := by unfold Hid; rw [hN, e2.out]; rfl
    rw [hxx] at hek
    clear hE hN hbb hxx
    refine wp_region_noPanic ?_
    go_region_held (fun W => Below W6.heap.size W6 W) (first | assumption | exact (Below.refl _ _).drew | exact keep2 (by assumption) (by assumption))
      (first
        | (go_at_call 23; refine (hek _).mono ?_; rintro e w8 ⟨u8, rfl, ho8, hb8⟩; have k8 := ho8.rd.conv))
    refine NoPanic.normal ?_
    have hlast : Below W6.heap.size W6 w8 := by assumption
    clear q0 q1 q2 q3 q4 q5 cB k8 hek ho8 hb8
    have hb08 := hb0A.trans (hlast.mono hb0A.size)
    have hg8 := (hb08.block _ z0).trans hg0
    have hgn := (hlast.block _ hlA).trans hgA
    obtain ⟨⟨b0, b1, b2, b3, b4, b5⟩, d0, d1, d2, d3, d4, d5⟩ := box6 hg8
    obtain ⟨⟨x0, x1, x2, x3, x4, x5⟩, f0⟩ := box6 hgn
    have HF : Hid _ := fin_head (.int .u64 s) (.int .u64 v) (.int .u64 l) (.int .u32 r) (.int .u32 n) (.int .u32 i) hg8
    have hBw : Below w.heap.size w w8 := hB0.trans (hb08.mono hB0.size)
    clear hg8 hgn hg0 hgA f0
    go_wp2
    exact ret_head2 rfl w.heap.size _ _ _ _ _ _ rfl _ rfl HF.out.1 rfl ⟨by rw [e2.out, e3.out]; rfl, hBw.trans (HF.out.2 _ (Nat.le_refl _))⟩
  · have e2 : Hid (hdE xs = 11) := by unfold Hid; rw [hE, if_neg hxx]
    have e3 : Hid (hdH xs = hd0) := by unfold Hid; rw [hN, e2.out]; rfl
    have hbq := beq_strOf hbb hy
    rw [decide_eq_false hxx] at hbq
    have hek2 : ∀ W, Calls Try.prog 23 #[.agg #[.int .u64 s, .int .u64 v, .int .u64 l, .int .u32 r, .int .u32 n, .int .u32 i]] W fun e w' => ∃ u', e = .returned u' ∧ (convert 28 9 u').run Try.prog w' = .ok (.string (strOfNums BK)) w' ∧ Below W.heap.size W w' := fun W => (hek W).mono fun e w' ⟨u', h1, h2, h3⟩ => ⟨u', h1, h2.rd.conv, h3⟩
    clear hek
    clear hE hN hbb hxx
    generalize strOfNums BK = A at *
    generalize strOfNums xs = B at *
    refine wp_region_noPanic ?_
    go_region_held (fun W => Below W6.heap.size W6 W) (first | assumption | exact (Below.refl _ _).drew | exact keep2 (by assumption) (by assumption))
      (first
        | (go_at_call 23; refine (hek2 _).mono ?_; rintro e w8 ⟨u8, rfl, k8, hb8⟩))
    refine NoPanic.normal ?_
    have hlast : Below W6.heap.size W6 w8 := by assumption
    clear q0 q1 q2 q3 q4 q5 cB k8 hek2 hb8
    have hb08 := hb0A.trans (hlast.mono hb0A.size)
    have hg8 := (hb08.block _ z0).trans hg0
    obtain ⟨⟨b0, b1, b2, b3, b4, b5⟩, d0, d1, d2, d3, d4, d5⟩ := box6 hg8
    have HZ : Hid _ := fin_head (.int .u64 0) (.int .u64 0) (.int .u64 0) (.int .u32 0) (.int .u32 0) (.int .u32 0) hg8
    have hBw : Below w.heap.size w w8 := hB0.trans (hb08.mono hB0.size)
    clear hg8 hg0 hgA
    go_wp2
    exact ret_head2 rfl w.heap.size _ _ _ _ _ _ rfl _ rfl HZ.out.1 rfl ⟨by rw [e2.out, e3.out]; rfl, hBw.trans (HZ.out.2 _ (Nat.le_refl _))⟩

theorem kdecodeHead_any (w : World) (u : Value) (xs : List Int) (hr : Rd w u xs) (hy : Byt xs) :
    Calls Try.prog 19 #[u] w fun e w' => e = .returned (.tuple #[hdV (hdH xs), .int .i64 (hdE xs)]) ∧ Below w.heap.size w w' := by
  by_cases ho : opE xs = 0
  · exact kdecodeHead_good w u xs hr hy ho
  · have e : hdE xs = opE xs := by unfold hdE; rw [if_neg ho]
    have e2 : hdH xs = hd0 := by unfold hdH; rw [e, if_neg ho]
    rw [e, e2]
    exact kdecodeHead_bad w u xs hr hy ho

/-- Cells that can be written. -/
def Wr (w : World) (g n : Nat) : Prop := ∀ j, j < n → (∃ u, w.cell? ⟨g, j, none⟩ = some u) ∧ w.frozen? ⟨g, j, none⟩ = false

theorem Wr.set {w : World} {g n : Nat} (h : Wr w g n) (b i : Nat) (x : Value) : Wr (w.setCell ⟨b, i, none⟩ x) g n := by
  intro j hj
  obtain ⟨⟨u, hu⟩, hf⟩ := h j hj
  refine ⟨?_, by rw [World.frozen?_setCell]; exact hf⟩
  by_cases e : (⟨b, i, none⟩ : Addr) = ⟨g, j, none⟩
  · rw [e]
    exact ⟨x, World.cell?_setCell_same' _ _ _ (by rw [hu]; rfl)⟩
  · exact ⟨u, (World.cell?_setCell_other _ _ _ _ e).trans hu⟩

theorem wr_alloc {w : World} {g n : Nat} (h : Wr w g n) (hg : n = 0 ∨ g < w.heap.size) (o : Obj) : Wr (w.alloc o) g n := by
  intro j hj
  have hg : g < w.heap.size := by omega
  obtain ⟨⟨u, hu⟩, hf⟩ := h j hj
  have hb := Below.heap_alloc w o g hg
  exact ⟨⟨u, (World.cell?_of_block (a := ⟨g, j, none⟩) hb).trans hu⟩, (World.frozen?_of_block (a := ⟨g, j, none⟩) hb).trans hf⟩

theorem wr_own {w : World} {base e k : Nat} {a : Option Addr} {n c : Nat} {xs : List Value} (h : w.ownsRow base e k (.slice a n c) n xs) : ∃ g, (0 < n → a = some ⟨g, 0, none⟩ ∧ base ≤ g ∧ g < w.heap.size) ∧ (0 < n → Wr w g (n * k)) ∧ n ≤ maxLen := by
  obtain ⟨h1, h2⟩ := h
  rcases h2 with ⟨e, h0⟩ | ⟨g, cap, cur, e, hb, hg, hn, hm, hs, ht⟩
  · exact ⟨0, fun hp => by omega, fun hp => by omega, by omega⟩
  · simp only [Value.slice.injEq] at e
    obtain ⟨rfl, _, rfl⟩ := e
    refine ⟨g, fun _ => ⟨rfl, hb, (Array.getElem?_eq_some_iff.1 hg).1⟩, fun _ j hj => ?_, by omega⟩
    have hle : n * k ≤ c * k := Nat.mul_le_mul_right k hn
    have hjc : j < cur.size := by omega
    exact ⟨⟨cur[j], by rw [cell_of_row _ _ j _ _ (0, 0) hg]; exact Array.getElem?_eq_getElem hjc⟩, frozen_of_row _ g j _ _ hg⟩

set_option maxHeartbeats 4000000 in
theorem spoil_any (w : World) (base : Nat) (v : Value) (n : Nd) (h : NdOwn w base v n) (hb : base ≤ w.heap.size) :
    Calls Try.prog 21 #[v] w fun e w' => e = .returned (.tuple #[]) ∧ Below base w w' := by
  obtain ⟨p, q, r, rfl, hp, hq, hr⟩ := h
  obtain ⟨a1, c1, rfl⟩ := row_slice hp
  obtain ⟨a2, c2, rfl⟩ := row_slice hq
  obtain ⟨a3, c3, rfl⟩ := row_slice hr
  obtain ⟨g1, k1, m1, l1⟩ := wr_own hp
  obtain ⟨g2, k2, m2, l2⟩ := wr_own hq
  obtain ⟨g3, k3, m3, l3⟩ := wr_own hr
  clear hp hq hr
  generalize n.leaf = lf at *
  generalize n.pairs.length = n1 at *
  generalize n.keys.length = n2 at *
  generalize n.kids.length = n3 at *
  unfold maxLen at l1 l2 l3
  have hg0 := heap_alloc_new w (.cells #[.bool lf, .slice a1 n1 c1, .slice a2 n2 c2, .slice a3 n3 c3] 26)
  have hB0 : Below base w (w.alloc (.cells #[.bool lf, .slice a1 n1 c1, .slice a2 n2 c2, .slice a3 n3 c3] 26)) := (Below.refl _ w).alloc hb _
  have m1' : 0 < n1 → Wr (w.alloc (.cells #[.bool lf, .slice a1 n1 c1, .slice a2 n2 c2, .slice a3 n3 c3] 26)) g1 (n1 * 2) := fun hp => wr_alloc (m1 hp) (.inr (k1 hp).2.2) _
  have m2' : 0 < n2 → Wr (w.alloc (.cells #[.bool lf, .slice a1 n1 c1, .slice a2 n2 c2, .slice a3 n3 c3] 26)) g2 (n2 * 1) := fun hp => wr_alloc (m2 hp) (.inr (k2 hp).2.2) _
  have m3' : 0 < n3 → Wr (w.alloc (.cells #[.bool lf, .slice a1 n1 c1, .slice a2 n2 c2, .slice a3 n3 c3] 26)) g3 (n3 * 1) := fun hp => wr_alloc (m3 hp) (.inr (k3 hp).2.2) _
  clear m1 m2 m3
  go_enter Try.func21, Try.ntmps21
  go_wp2
  generalize w.alloc (.cells #[.bool lf, .slice a1 n1 c1, .slice a2 n2 c2, .slice a3 n3 c3] 26) = W0 at *
  go_loopw [2, 8] (fun u t wr => ∃ k : Nat, k ≤ n1 ∧ t = .int .i64 k ∧ wr.heap[w.heap.size]? = some (.cells #[.bool lf, .slice a1 n1 c1, .slice a2 n2 c2, .slice a3 n3 c3] 26 (0, 0)) ∧ Hid ((0 < n1 → Wr wr g1 (n1 * 2)) ∧ (0 < n2 → Wr wr g2 (n2 * 1)) ∧ (0 < n3 → Wr wr g3 (n3 * 1)) ∧ Below base w wr)) (fun _ t _ => n1 - (intOf t).toNat)
  case atStart => exact ⟨0, Nat.zero_le _, rfl, hg0, m1', m2', m3', hB0⟩
  case round =>
    clear hg0 m1' m2' m3' hB0
    obtain ⟨k, hk, rfl, hg, HH⟩ := hrel
    obtain ⟨y0, y1, y2, y3, _⟩ := box4' hg
    by_cases hlt : k < n1
    · obtain ⟨rfl, hbg, hlg⟩ := k1 (by omega)
      obtain ⟨⟨u, hu⟩, hf⟩ := HH.out.1 (by omega) (k * 2) (by omega)
      have hltI : (k : Int) < n1 := by omega
      go_wp2_with fail
      go_roundw
      case rel => exact ⟨k + 1, by omega, by go_num, by rw [heap_setCell_other _ _ _ _ (by show w.heap.size ≠ g1; omega)]; exact hg, fun hp => (HH.out.1 hp).set _ _ _, fun hp => (HH.out.2.1 hp).set _ _ _, fun hp => (HH.out.2.2.1 hp).set _ _ _, HH.out.2.2.2.setCell (p := ⟨g1, _, none⟩) hbg _⟩
      case measure => simp [intOf]; omega
    · have hltI : ¬ (k : Int) < n1 := by omega
      go_wp2
      clear y0 y1 y2 y3
      go_loopw [3, 20] (fun u t wr => ∃ k : Nat, k ≤ n2 ∧ t = .int .i64 k ∧ wr.heap[w.heap.size]? = some (.cells #[.bool lf, .slice a1 n1 c1, .slice a2 n2 c2, .slice a3 n3 c3] 26 (0, 0)) ∧ Hid ((0 < n2 → Wr wr g2 (n2 * 1)) ∧ (0 < n3 → Wr wr g3 (n3 * 1)) ∧ Below base w wr)) (fun _ t _ => n2 - (intOf t).toNat)
      case atStart => exact ⟨0, Nat.zero_le _, rfl, hg, HH.out.2.1, HH.out.2.2.1, HH.out.2.2.2⟩
      case round =>
        clear hg HH hltI
        obtain ⟨k, hk, rfl, hg, HH⟩ := hrel
        obtain ⟨y0, y1, y2, y3, _⟩ := box4' hg
        by_cases hlt : k < n2
        · obtain ⟨rfl, hbg, hlg⟩ := k2 (by omega)
          obtain ⟨⟨u, hu⟩, hf⟩ := HH.out.1 (by omega) k (by omega)
          have hltI : (k : Int) < n2 := by omega
          go_wp2_with fail
          go_roundw
          case rel => exact ⟨k + 1, by omega, by go_num, by rw [heap_setCell_other _ _ _ _ (by show w.heap.size ≠ g2; omega)]; exact hg, fun hp => (HH.out.1 hp).set _ _ _, fun hp => (HH.out.2.1 hp).set _ _ _, HH.out.2.2.setCell (p := ⟨g2, _, none⟩) hbg _⟩
          case measure => simp [intOf]; omega
        · have hltI : ¬ (k : Int) < n2 := by omega
          go_wp2
          clear y0 y1 y2 y3
          go_loopw [4, 31] (fun u t wr => ∃ k : Nat, k ≤ n3 ∧ t = .int .i64 k ∧ wr.heap[w.heap.size]? = some (.cells #[.bool lf, .slice a1 n1 c1, .slice a2 n2 c2, .slice a3 n3 c3] 26 (0, 0)) ∧ Hid ((0 < n3 → Wr wr g3 (n3 * 1)) ∧ Below base w wr)) (fun _ t _ => n3 - (intOf t).toNat)
          case atStart => exact ⟨0, Nat.zero_le _, rfl, hg, HH.out.2.1, HH.out.2.2⟩
          case round =>
            clear hg HH hltI
            obtain ⟨k, hk, rfl, hg, HH⟩ := hrel
            obtain ⟨y0, y1, y2, y3, _⟩ := box4' hg
            by_cases hlt : k < n3
            · obtain ⟨rfl, hbg, hlg⟩ := k3 (by omega)
              obtain ⟨⟨u, hu⟩, hf⟩ := HH.out.1 (by omega) k (by omega)
              have hltI : (k : Int) < n3 := by omega
              go_wp2_with fail
              go_roundw
              case rel => exact ⟨k + 1, by omega, by go_num, by rw [heap_setCell_other _ _ _ _ (by show w.heap.size ≠ g3; omega)]; exact hg, fun hp => (HH.out.1 hp).set _ _ _, HH.out.2.setCell (p := ⟨g3, _, none⟩) hbg _⟩
              case measure => simp [intOf]; omega
            · have hltI : ¬ (k : Int) < n3 := by omega
              go_wp2
              first
                | go_end0
                | refine bodyPost_ret (results_none rfl _ _ _) rfl ?_
              exact ⟨rfl, HH.out.2⟩

end Go.Proofs.Ytanbjdcffcnfgaa
