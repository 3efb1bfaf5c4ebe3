/- pairsIn: the pairs that a leaf's bytes tell; slices.Collect of them. -/
import Derived.Test.YthgdbjpefjjeaaaGreatQIter2
import Derived.Test.YthgdbjpefjjeaaaGreatQCheck
import Derived.Test.YthgdbjpefjjeaaaGreatReadText
namespace Go.Proofs.YthgdbjpefjjeaaaGreat
open Go.RowKit Go.Shelf
set_option linter.unusedVariables false
set_option linter.unusedSimpArgs false
set_option maxRecDepth 100000
attribute [local go_sem] Oper.semAt_some

/-- The pairs that bytes begin with, as far as they go. -/
def prd : Nat → List Int → List (ByteArray × ByteArray)
  | 0, _ => []
  | m + 1, xs => if xs.length < 14 then [] else if readE (xs.drop 14) = 0 then (strOfNums (xs.take 14), readS (xs.drop 14)) :: prd m (xs.drop (14 + (readN (xs.drop 14)).toNat)) else []

theorem prd_short {m : Nat} {xs : List Int} (h : xs.length < 14) : prd m xs = [] := by
  cases m with
  | zero => rfl
  | succ m => unfold prd; rw [if_pos h]
theorem prd_bad {m : Nat} {xs : List Int} (h : readE (xs.drop 14) ≠ 0) : prd m xs = [] := by
  cases m with
  | zero => rfl
  | succ m =>
    unfold prd
    split
    all_goals first | rfl | exact if_neg h
theorem prd_next {m : Nat} {xs : List Int} (h : ¬ xs.length < 14) (h2 : readE (xs.drop 14) = 0) : prd (m + 1) xs = (strOfNums (xs.take 14), readS (xs.drop 14)) :: prd m (xs.drop (14 + (readN (xs.drop 14)).toNat)) := by
  conv => lhs; unfold prd
  rw [if_neg h, if_pos h2]

theorem readN_le {xs : List Int} (hb : Byt xs) (h : readE xs = 0) : 1 ≤ readN xs ∧ readN xs ≤ xs.length ∧ readN xs ≤ 256 := by
  cases xs with
  | nil => simp [readE] at h
  | cons c r =>
    have hc := hb c (by simp)
    unfold readE at h
    unfold readN
    dsimp only at h ⊢
    split at h
    · cases h
    · rename_i hh
      rw [if_neg hh, List.length_cons]
      omega

theorem prd_len (m : Nat) : ∀ xs, (prd m xs).length ≤ m := by
  induction m with
  | zero => intro xs; simp [prd]
  | succ m ih =>
    intro xs
    unfold prd
    split
    · simp
    · split
      · rw [List.length_cons]; have := ih (xs.drop (14 + (readN (xs.drop 14)).toNat)); omega
      · simp

theorem pairsIn_any (w : World) (a : Option Addr) (n cap : Nat) (c : Int) : Calls Tryz.prog 93 #[.slice a n cap, .int .i64 c] w fun e w' => e = .returned (.func (.func 111) #[] #[.pointer (some ⟨w.heap.size + 1, 0, none⟩), .pointer (some ⟨w.heap.size, 0, none⟩)]) ∧ w' = (w.alloc (.cells #[.slice a n cap] 86)).alloc (.cells #[.int .i64 c] 3) := by
  go_enter Tryz.func93, Tryz.ntmps93
  go_wp2
  go_ret
  exact ⟨rfl, rfl⟩

set_option maxHeartbeats 4000000 in
theorem pairs_stops (n : Nat) (hn : 1 ≤ n) (B1 B2 b off len cap cnt : Nat) (xs : List Int) (w : World) (hB1 : B1 < w.heap.size) (hB2 : B2 < w.heap.size) (hcnt : cnt ≤ 255) (hlen : len ≤ 100000)
    (hc1 : w.cell? ⟨B1, 0, none⟩ = some (.int .i64 cnt)) (hc2 : w.cell? ⟨B2, 0, none⟩ = some (.slice (some ⟨b, off, none⟩) len cap)) (hr : Rd w (.slice (some ⟨b, off, none⟩) len cap) xs) (hy : Byt xs) (hp : 0 < len) :
    SeqStopsK Fence.wide n Tryz.prog 111 #[.pointer (some ⟨B1, 0, none⟩), .pointer (some ⟨B2, 0, none⟩)] (fun p : ByteArray × ByteArray => #[kvV p]) (Below w.heap.size) (fun ys => ys = prd cnt xs) (fun _ => True) cnt w := fun l J Jx W hW hJ hJx hY h0 => by
  have hc1' := (hW.cell (p := ⟨B1, 0, none⟩) hB1).trans hc1
  have hc2' := (hW.cell (p := ⟨B2, 0, none⟩) hB2).trans hc2
  have hrW := hr.below hW
  have hl := rd_length hr
  have hmax := hr.capMax
  unfold maxLen at hmax
  refine callsIn_of_wp Tryz.func111 rfl trivial ?_ rfl
  simp only [Tryz.ntmps111, List.size_toArray, List.length_cons, List.length_nil, Nat.reduceAdd, Nat.reduceSub, Array.replicate_succ, Array.replicate_zero, List.push_toArray, List.append_toArray, List.nil_append, List.cons_append]
  gi_wp2
  gi_loopw [4, 5, 6, 7, 8, 10] (fun at4 u5 u6 u7 u8 i wr => ∃ (k A : Nat) (pre : List (ByteArray × ByteArray)), k ≤ cnt ∧ A ≤ len ∧ pre.length = k ∧ i = .int .i64 k ∧ at4 = .int .i64 A ∧ pre ++ prd (cnt - k) (xs.drop A) = prd cnt xs ∧ J pre wr ∧ Below w.heap.size W wr)
    (fun _ _ _ _ _ i _ => cnt - (intOf i).toNat)
  case atStart => exact ⟨0, 0, [], Nat.zero_le _, Nat.zero_le _, rfl, rfl, rfl, rfl, h0, Below.refl _ _⟩
  case round =>
    obtain ⟨k, A, pre, hk, hA, hpl, rfl, rfl, hpr, hJs, hnx⟩ := hrel
    by_cases hlt : k < cnt
    · have hd1 := (hnx.cell (p := ⟨B1, 0, none⟩) hB1).trans hc1'
      have hd2 := (hnx.cell (p := ⟨B2, 0, none⟩) hB2).trans hc2'
      by_cases h14 : len < A + 14
      · have hz : prd (cnt - k) (xs.drop A) = [] := prd_short (by rw [List.length_drop]; omega)
        rw [hz, List.append_nil] at hpr
        subst hpr
        have h14' : (len : Int) < (A : Int) + 14 := by omega
        gi_wp2
        refine bodyPost_ret (results_none rfl _ _ _) rfl ?_
        exact ⟨⟨_, rfl⟩, .inl ⟨_, rfl, hJs⟩⟩
      · have h14' : ¬ (len : Int) < (A : Int) + 14 := by omega
        have hcap := hr.cap
        have hrwr : Rd wr (.slice (some ⟨b, off, none⟩) len cap) xs := by
          have := hr.below (hW.trans (hnx.mono (Nat.le_refl _)))
          exact this
        by_cases hq : A + 14 = len
        · have hz : prd (cnt - k) (xs.drop A) = [] := prd_bad (by rw [List.drop_drop, List.drop_of_length_le (by omega)]; decide)
          rw [hz, List.append_nil] at hpr
          subst hpr
          have hrt : ∀ x c, c ≤ maxLen → Calls Tryz.prog 112 #[.slice (some x) 0 c] wr fun e w' => e = .returned (.tuple #[.string ⟨#[]⟩, .int .i64 0, .int .i64 10]) ∧ w' = wr := fun x c hc => readText_any wr _ [] ⟨some x, c, rfl, Nat.zero_le _, hc, (by intro e; cases e), fun h => absurd rfl h⟩ Byt.nil
          have e0 : len - (A + 14) = 0 := by omega
          by_cases hq2 : A + 14 = cap
          · have hq3 : (cap : Int) = (A : Int) + 14 := by omega
            have e1 : cap - (A + 14) = 0 := by omega
            clear hrwr hrW hr
            gi_wp2
            refine ⟨trivial, ?_⟩
            refine (callsIn_wide.2 (by first | exact hrt _ _ (by unfold maxLen; omega) | (rw [e0]; exact hrt _ _ (by unfold maxLen; omega)))).mono ?_
            rintro e w5 ⟨rfl, rfl⟩
            gi_wp2
            refine ⟨fun _ h => (by cases h), ?_⟩
            gi_wp2
            refine bodyPost_ret (results_none rfl _ _ _) rfl ?_
            exact ⟨⟨_, rfl⟩, .inl ⟨_, rfl, hJs⟩⟩
          · have hq3 : ¬ (cap : Int) = (A : Int) + 14 := by omega
            clear hrwr hrW hr
            gi_wp2
            refine ⟨trivial, ?_⟩
            refine (callsIn_wide.2 (by first | exact hrt _ _ (by unfold maxLen; omega) | (rw [e0]; exact hrt _ _ (by unfold maxLen; omega)))).mono ?_
            rintro e w5 ⟨rfl, rfl⟩
            gi_wp2
            refine ⟨fun _ h => (by cases h), ?_⟩
            gi_wp2
            refine bodyPost_ret (results_none rfl _ _ _) rfl ?_
            exact ⟨⟨_, rfl⟩, .inl ⟨_, rfl, hJs⟩⟩
        · have hlc : A + 14 < cap := by omega
          have hrv := hrwr.mid (A + 14) (len - (A + 14)) (by omega) hp
          have hrk := hrwr.mid A 14 (by omega) hp
          have hdt : (xs.drop (A + 14)).take (len - (A + 14)) = (xs.drop A).drop 14 := by rw [List.drop_drop]; exact List.take_of_length_le (by rw [List.length_drop]; omega)
          rw [hdt] at hrv
          have hyv : Byt ((xs.drop A).drop 14) := (hy.drop A).drop 14
          have hrt := readText_any wr _ _ hrv hyv
          have hcv := hrk.conv
          by_cases hE : readE ((xs.drop A).drop 14) = 0
          · obtain ⟨hN1, hN2, hN3⟩ := readN_le hyv hE
            rw [List.length_drop, List.length_drop] at hN2
            obtain ⟨m, hm⟩ : ∃ m, cnt - k = m + 1 := ⟨cnt - k - 1, by omega⟩
            have hnxt := prd_next (m := m) (xs := xs.drop A) (by rw [List.length_drop]; omega) hE
            rw [← hm] at hnxt
            rw [hE] at hrt
            obtain ⟨fn, tmps, assign, body, hyi, hR⟩ := hY pre (strOfNums ((xs.drop A).take 14), readS ((xs.drop A).drop 14)) wr hJs (by omega)
            unfold kvV at hyi
            dsimp only at hyi
            obtain ⟨N, hN⟩ : ∃ N : Nat, readN ((xs.drop A).drop 14) = N := ⟨(readN ((xs.drop A).drop 14)).toNat, by omega⟩
            rw [hN] at hrt hN1 hN2 hN3 hnxt
            rw [Int.toNat_natCast] at hnxt
            have HP : Hid (pre ++ [(strOfNums ((xs.drop A).take 14), readS ((xs.drop A).drop 14))] ++ prd (cnt - (k + 1)) (xs.drop (A + 14 + N)) = prd cnt xs) := by
              unfold Hid
              rw [← hpr, hnxt, List.append_assoc, show cnt - (k + 1) = m from by omega, show A + 14 + N = A + (14 + N) from by omega, ← List.drop_drop]
              rfl
            generalize strOfNums ((xs.drop A).take 14) = KK at *
            generalize readS ((xs.drop A).drop 14) = SS at *
            clear hrv hrk hyv hdt hrwr hrW hr hnxt hE hN hpr
            gi_wp2
            refine ⟨trivial, ?_⟩
            refine (callsIn_wide.2 hrt).mono ?_
            rintro e w5 ⟨rfl, rfl⟩
            gi_wp2
            refine hR.mono ?_
            rintro e W3 (⟨rfl, hJ3, hk3⟩ | ⟨rfl, hJx3⟩)
            · gi_wp2
              go_roundw
              case rel => exact ⟨k + 1, A + 14 + N, _, by omega, by omega, by rw [List.length_append, hpl]; rfl, by go_num, by go_num, HP.out, hJ3, hnx.trans hk3⟩
              case measure => simp [intOf]; omega
            · gi_wp2
              refine bodyPost_ret (results_none rfl _ _ _) rfl ?_
              exact ⟨⟨_, rfl⟩, .inr ⟨_, trivial, hJx3⟩⟩
          · have hz : prd (cnt - k) (xs.drop A) = [] := prd_bad hE
            rw [hz, List.append_nil] at hpr
            subst hpr
            generalize readE ((xs.drop A).drop 14) = E at *
            generalize readS ((xs.drop A).drop 14) = SS at *
            generalize readN ((xs.drop A).drop 14) = NN at *
            clear hrv hrk hyv hdt hrwr hrW hr
            gi_wp2
            refine ⟨trivial, ?_⟩
            refine (callsIn_wide.2 hrt).mono ?_
            rintro e w5 ⟨rfl, rfl⟩
            gi_wp2
            refine ⟨fun _ h => (by cases h), ?_⟩
            gi_wp2
            refine bodyPost_ret (results_none rfl _ _ _) rfl ?_
            exact ⟨⟨_, rfl⟩, .inl ⟨_, rfl, hJs⟩⟩
    · obtain rfl : k = cnt := by omega
      rw [Nat.sub_self] at hpr
      have hpr' : pre = prd k xs := by rw [← hpr]; exact (List.append_nil _).symm
      gi_wp2
      go_end0
      exact ⟨⟨_, rfl⟩, .inl ⟨_, hpr', hJs⟩⟩

theorem Tryz.infoKV : (Tryz.prog.info? 85).map (fun i => (i.zero, i.size, i.bytes)) = some (some (.agg #[.string ⟨#[]⟩, .string ⟨#[]⟩]), 2, 32) := by kernel_rfl

set_option maxHeartbeats 4000000 in
theorem appendSeq_any (g : Nat) (lb : Array Value) (eg : ∀ args w, (callFunc g args).run Tryz.prog w = .ok (.enter g args) w) (ps : List (ByteArray × ByteArray)) (N : Nat) (hN : N ≤ 255) (w : World)
    (hseq : SeqStopsK Fence.wide 2 Tryz.prog g lb (fun p : ByteArray × ByteArray => #[kvV p]) (Below w.heap.size) (fun ys => ys = ps) (fun _ => True) N w) :
    Calls Tryz.prog 110 #[.slice none 0 0, .func (.func g) #[] lb] w fun e w' => ∃ v, e = .returned v ∧ w'.ownsRow w.heap.size 85 2 v ps.length (ps.flatMap kvE) ∧ Below w.heap.size w w' := by
  obtain ⟨i0, hi, hz0, hz1, hz2⟩ := info_parts Tryz.infoKV
  refine (callsIn_wide (n := 3)).1 ?_
  refine callsIn_of_wp_marks Tryz.func110 rfl trivial ?_ rfl
  refine wpIn_wide.2 ?_
  simp only [Tryz.ntmps110, List.size_toArray, List.length_cons, List.length_nil, Nat.reduceAdd, Nat.reduceSub, Array.replicate_succ, Array.replicate_zero, List.push_toArray, List.append_toArray, List.nil_append, List.cons_append]
  go_wp2
  refine (wpIn_wide (n := 3)).1 ?_
  have bB := Boxed.new w 37 (.slice none 0 0)
  have hB0 : Below w.heap.size w (w.alloc (.cells #[.slice none 0 0] 37)) := (Below.refl _ w).alloc (Nat.le_refl _) _
  have hs0 : (w.alloc (.cells #[.slice none 0 0] 37)).heap.size = w.heap.size + 1 := by simp
  generalize w.alloc (.cells #[.slice none 0 0] 37) = W0 at *
  refine wpIn_rangeFunc_ownH rfl (by decide) (gf := g) (lb := lb) rfl trivial eg hseq belowK_t (belowK_b (by omega)) hB0 (fun _ => rfl)
    (fun pre W => ((∃ v, Boxed W w.heap.size 37 v ∧ W.ownsRow w.heap.size 85 2 v pre.length (pre.flatMap kvE) ∧ ∃ a c, v = .slice a pre.length c)) ∧ Below w.heap.size w W)
    (fun _ _ _ => False)
    (OwnFrom.and (Own.from (holdsRow_own w.heap.size w.heap.size 37 85 2 (fun pre : List (ByteArray × ByteArray) => pre.length) (fun pre => pre.flatMap kvE) (fun pre v => ∃ a c, v = .slice a pre.length c)) _) (ownFrom_below (Nat.le_refl _) (by omega)))
    (fun _ _ _ _ _ hs _ _ => hs)
    ⟨⟨_, bB, World.ownsRow_nil _ _ _ _, _, _, rfl⟩, hB0⟩
    (fun x a' W => ∃ Bx, (W.cell? ⟨Bx, 0, none⟩ = some (.string x.1) ∧ W.cell? ⟨Bx, 1, none⟩ = some (.string x.2)) ∧ a' = { tmps := #[.slice none 0 0, .func (.func g) #[] lb, .pointer (some ⟨w.heap.size, 0, none⟩), undef, .slice none 0 0, .pointer (some ⟨Bx, 0, none⟩), .func (.func g) #[] lb, .agg #[.string x.1, .string x.2], undef, undef, undef, undef, undef], defers := [] })
    (fun x a' => Own.from (fun s A B row hs hg hr => by
      obtain ⟨Bx, hs, e⟩ := hs
      exact ⟨Bx, ⟨cell_kept hs.1 hg hr, cell_kept hs.2 hg hr⟩, e⟩) _) ?assign ?body ?done ?stop
  case assign =>
    rintro l pre x W K ⟨⟨v, hv, hr, hsv⟩, hB⟩ hK
    unfold kvV
    gi_wp2
    exact hK _ _ ((KeepsOthers.alloc _ _).from _) ((Below.refl _ W).alloc hB.size _) ⟨⟨v, hv.alloc _, World.ownsRow.kept hr (World.grownBy_alloc W _ none) (by cases hq : v.ownBlock <;> simp), hsv⟩, hB.alloc hB.size _⟩ ⟨W.heap.size, ⟨by simp, by simp⟩, rfl⟩
  case body =>
    rintro l pre x a' W hl0 hrec ⟨⟨v, hv, hr, a4, c4, rfl⟩, hB⟩ ⟨Bx, ⟨hx0, hx1⟩, rfl⟩ hlen
    have hvc := hv.cell
    have hvf := hv.frozen
    have hbs := hB.size
    have hnw : ∀ j u, (kvE x)[j]? = some u → (W.alloc (.cells #[.string x.1, .string x.2] 85)).cell? ((⟨W.heap.size, 0, none⟩ : Addr).add j) = some u := by
      intro j u hj
      have hadd : (⟨W.heap.size, 0, none⟩ : Addr).add j = ⟨W.heap.size, j, none⟩ := by unfold Addr.add; split <;> simp_all
      rw [hadd, cell_of_row _ _ j _ _ _ (heap_alloc_new W _)]
      rw [← hj]
      unfold kvE
      exact List.getElem?_toArray
    gi_wp2_with (gi_at_builtin; refine wpListIn_append_own _ rfl _ _ 37 rfl w.heap.size 85 i0 _ 2 32 Tryz.underlying37 hi hz0 hz1 hz2 rfl (by decide) _ _ _ rfl (hr.alloc _) ⟨W.heap.size, 0, none⟩ 1 1 (kvE x) rfl rfl hnw (by simp [kvE, Value.oneCell']) (by unfold maxLen; omega) (by omega) (by simp; omega) ?_; intro v' w1 hown' hgrow _; obtain ⟨g', cap', rfl⟩ := ownsRow_succ hown'; obtain ⟨hv1, hv2, hr2, hk2, hb2⟩ := hv.appended (by decide) hr hbs (Nat.le_refl _) hown' hgrow; have hc1 := hv1.cell; have hf1 := hv1.frozen)
    exact ⟨hk2.from _, hb2, ⟨_, hv2, by rw [List.length_append, List.flatMap_append, List.flatMap_singleton]; exact hr2, _, _, by rw [List.length_append]; rfl⟩, hB.trans hb2⟩
  case done =>
    rintro D ys W hD rfl ⟨⟨v, hv, hr, a4, c4, rfl⟩, hB⟩ hK
    have hvc := hv.cell
    go_wp2
    refine ⟨by simp, .inl ⟨_, _, rfl, run_takeDeferred hK, ?_⟩⟩
    refine ⟨_, results_tmp rfl _ _ _, _, rfl, ?_, hB.trans (belowK_b (w := w) (Nat.le_refl _) W D _ _ (by omega) hK rfl rfl)⟩
    exact ownsRow_putObj hr _ hK rfl
  case stop =>
    rintro D c pre W _ _ h _
    exact h.elim

theorem collect_any (g : Nat) (lb : Array Value) (eg : ∀ args w, (callFunc g args).run Tryz.prog w = .ok (.enter g args) w) (ps : List (ByteArray × ByteArray)) (N : Nat) (hN : N ≤ 255) (w : World)
    (hseq : SeqStopsK Fence.wide 2 Tryz.prog g lb (fun p : ByteArray × ByteArray => #[kvV p]) (Below w.heap.size) (fun ys => ys = ps) (fun _ => True) N w) :
    Calls Tryz.prog 92 #[.func (.func g) #[] lb] w fun e w' => ∃ v, e = .returned v ∧ w'.ownsRow w.heap.size 85 2 v ps.length (ps.flatMap kvE) ∧ Below w.heap.size w w' := by
  have h := appendSeq_any g lb eg ps N hN w hseq
  go_enter Tryz.func92, Tryz.ntmps92
  go_wp2_with (go_at_call 110; refine h.mono ?_; rintro e w5 ⟨v5, rfl, ho5, hb5⟩)
  go_ret
  exact ⟨_, rfl, ho5, hb5⟩

end Go.Proofs.YthgdbjpefjjeaaaGreat
