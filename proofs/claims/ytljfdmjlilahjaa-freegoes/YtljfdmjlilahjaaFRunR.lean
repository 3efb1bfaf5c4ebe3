/- The contracts of the document's TakeRun and Sweep. -/
import Derived.Test.YtljfdmjlilahjaaFAll
import Derived.Test.YtljfdmjlilahjaaFRun
import Derived.Test.YtljfdmjlilahjaaFMark
namespace Go.Proofs.Ytljfdmjlilahjaa
open Go.RowKit
set_option linter.unusedVariables false
set_option linter.unusedSimpArgs false
set_option maxRecDepth 4000

theorem rtakeRun_arg {w : World} {p : Nat} (n : Int) (hn : n < 1) : Calls Try.prog 11 #[ptr p, .int .i64 n] w fun e w' => e = .returned (.tuple #[.int .i64 0, .int .i64 1]) ∧ w' = w := by
  unfold ptr
  go_enter Try.func11, Try.ntmps11
  go_wp2
  go_ret2
  exact ⟨rfl, rfl⟩

/-- All from i up to k are free. -/
def freeB (ks : List Nat) (i k : Nat) : Bool := decide (∀ m, m < k → i ≤ m → ks.getD m 0 = 1)

theorem freeB_next {ks : List Nat} {i k : Nat} (h : i ≤ k) : freeB ks i (k + 1) = (freeB ks i k && decide (ks.getD k 0 = 1)) := by
  unfold freeB
  by_cases h1 : ∀ m, m < k → i ≤ m → ks.getD m 0 = 1
  · rw [decide_eq_true h1, Bool.true_and]
    refine decide_eq_decide.2 ⟨fun q => q k (by omega) h, fun q m hm hi => ?_⟩
    rcases Nat.lt_or_ge m k with r | r
    · exact h1 m r hi
    · rw [show m = k from by omega]; exact q
  · rw [decide_eq_false h1, Bool.false_and]
    exact decide_eq_false (fun q => h1 (fun m hm hi => q m (by omega) hi))

theorem freeB_run {ks : List Nat} {i N : Nat} : freeB ks i (i + N) = true ↔ RunAt ks N i := by
  unfold freeB
  rw [decide_eq_true_iff]
  constructor
  · intro h j hj
    exact h (i + j) (by omega) (by omega)
  · intro h m hm hi
    have := h (m - i) (by omega)
    rw [show i + (m - i) = m from by omega] at this
    exact this

set_option maxHeartbeats 4000000 in
theorem rtakeRun_ok {w : World} {p h : Nat} {s : Fr} (H : RAt w p h s) (hk : FrOk s) (N : Nat) (hN : 1 ≤ N) (hN2 : N ≤ 9223372036854775807) :
    Calls Try.prog 11 #[ptr p, .int .i64 N] w fun e w' => ∃ r, e = .returned (.tuple #[.int .i64 (runV s r), .int .i64 (runE r)]) ∧ IsFirst s.ks N r ∧ RAt w' p h (runF s N r) ∧ Sole [h] w w' := by
  have hm := hk.most
  have hNI : ¬ (N : Int) < 1 := by omega
  obtain ⟨cap, c0, c1, h1, h2, hp, hh, hne, hc⟩ := FrAt.opened H
  have HH : Hid (RAt w p h s) := H
  have hc' : ∀ j, j < s.ks.length → w.cell? ⟨h, j, none⟩ = some (.int .i64 ((s.ks.getD j 0 : Nat) - 1 : Int)) := fun j hj => (hc j _ (by rw [List.getElem?_eq_getElem hj, List.getD_eq_getElem?_getD, List.getElem?_eq_getElem hj]; rfl)).1
  have hrun : ∀ i, RunAt s.ks N i → i + N ≤ s.ks.length := fun i h => run_in h hN
  unfold ptr at *
  clear H hk hc
  obtain ⟨lo, ks⟩ := s
  dsimp only at *
  generalize hn : ks.length = n at *
  go_enter Try.func11, Try.ntmps11
  go_wp2
  go_loop [6] (fun t => ∃ i : Nat, i ≤ n + 1 ∧ t = .int .i64 i ∧ Hid (∀ i', i' < i → ¬ RunAt ks N i')) (fun t => n + 2 - (intOf t).toNat)
  case atStart => exact ⟨0, Nat.zero_le _, rfl, fun i' h => by omega⟩
  case round =>
    obtain ⟨i, hi, rfl, HN⟩ := hrel
    by_cases hlt : i + N ≤ n
    · have hltI : (N : Int) ≤ (n : Int) - i := by omega
      have hiN : (i : Int) ≤ 1024 := by omega
      go_wp2
      go_loop [7, 8] (fun f t => ∃ k : Nat, i ≤ k ∧ k ≤ i + N ∧ t = .int .i64 k ∧ f = .bool (freeB ks i k)) (fun _ t => i + N - (intOf t).toNat)
      case atStart => exact ⟨i, Nat.le_refl _, by omega, rfl, by rw [show freeB ks i i = true from decide_eq_true (fun m h1 h2 => by omega)]⟩
      case round =>
        obtain ⟨k, hik, hkN, rfl, rfl⟩ := hrel
        by_cases hkl : k < i + N
        · have hkI : (k : Int) < (i : Int) + N := by omega
          have hkn : k < n := by omega
          have xk := hc' k hkn
          have hnx := freeB_next (ks := ks) hik
          generalize hfb : freeB ks i k = B at *
          generalize hK : ks.getD k 0 = K at *
          clear hc' hrun hfb hK
          cases B with
          | false =>
            have HX : Hid (freeB ks i (k + 1) = false) := hnx
            clear hnx xk
            go_wp2
            go_round
            case rel => exact ⟨k + 1, by omega, by omega, by go_num, by rw [HX.out]⟩
            case measure => simp [intOf]; omega
          | true =>
            by_cases hk1 : K = 1
            · have HX : Hid (freeB ks i (k + 1) = true) := by unfold Hid; rw [hnx, decide_eq_true hk1]; rfl
              have hkI1 : (K : Int) - 1 = 0 := by omega
              clear hnx hk1
              go_wp2
              go_round
              case rel => exact ⟨k + 1, by omega, by omega, by go_num, by rw [HX.out]⟩
              case measure => simp [intOf]; omega
            · have HX : Hid (freeB ks i (k + 1) = false) := by unfold Hid; rw [hnx, decide_eq_false hk1]; rfl
              have hkI1 : ¬ (K : Int) - 1 = 0 := by omega
              have hkI2 : ((K : Int) - 1 == 0) = false := beq_eq_false_iff_ne.2 hkI1
              clear hnx hk1
              go_wp2
              go_round
              case rel => exact ⟨k + 1, by omega, by omega, by go_num, by rw [HX.out]⟩
              case measure => simp [intOf]; omega
        · obtain rfl : k = i + N := by omega
          have hkI : ¬ ((i + N : Nat) : Int) < (i : Int) + N := by omega
          have hfr := freeB_run (ks := ks) (i := i) (N := N)
          generalize hfb : freeB ks i (i + N) = B at *
          clear hfb
          cases B with
          | false =>
            have HX : Hid (∀ i', i' < i + 1 → ¬ RunAt ks N i') := fun i' hi' hr => by
              rcases Nat.lt_or_ge i' i with q | q
              · exact HN.out i' q hr
              · have : i' = i := by omega
                subst this
                cases hfr.2 hr
            clear hfr HN hc' hrun
            go_wp2
            go_round
            case rel => exact ⟨i + 1, by omega, by go_num, HX⟩
            case measure => simp [intOf]; omega
          | true =>
            have HF : Hid (IsFirst ks N (some i)) := ⟨hfr.1 rfl, HN.out⟩
            clear hfr HN hc' hrun
            go_wp2
            go_loopw [9] (fun t wr => ∃ j : Nat, j ≤ N ∧ t = .int .i64 ((i + j : Nat) : Int) ∧ Hid (RAt wr p h ⟨lo, setRun ks i j⟩) ∧ Sole [h] w wr) (fun t _ => i + N - (intOf t).toNat)
            case atStart => exact ⟨0, Nat.zero_le _, rfl, HH, Sole.refl _ _⟩
            case round =>
              clear hkI
              obtain ⟨j, hj, rfl, HP, HS⟩ := hrel
              obtain ⟨cp, d0, d1, e1, e2, _, _, _, dc⟩ := FrAt.opened HP.out
              have hsl := setRun_len ks i j
              dsimp only at d0 d1 e1 dc
              rw [hsl, hn] at d1 e1
              by_cases hjl : j < N
              · have hjI : ((i + j : Nat) : Int) < (i : Int) + N := by omega
                have hij : i + j < (setRun ks i j).length := by omega
                obtain ⟨hcj, hfj⟩ := dc (i + j) _ (List.getElem?_eq_getElem hij)
                have HP' : Hid (RAt (wr.setCell ⟨h, i + j, none⟩ (.int .i64 1)) p h ⟨lo, setRun ks i (j + 1)⟩) := FrAt.put HP.out (i + j) 2
                have hijn : ((i + j : Nat) : Int) < n := by omega
                generalize (setRun ks i j)[i + j] = K at *
                generalize hq : i + j = q at *
                clear dc hsl hij HP
                go_wp2_with fail
                go_roundw
                case rel => exact ⟨j + 1, by omega, by rw [show i + (j + 1) = q + 1 from by omega]; go_num, HP', HS.trans (Sole.setCell _ _ (by simp))⟩
                case measure => simp [intOf]; omega
              · obtain rfl : j = N := by omega
                have hjI : ¬ ((i + j : Nat) : Int) < (i : Int) + j := by omega
                generalize hq : i + j = q at *
                clear dc
                go_wp2
                go_ret2
                exact ⟨some i, rfl, HF.out, HP.out, HS⟩
    · have hltI : ¬ (N : Int) ≤ (n : Int) - i := by omega
      have HF : Hid (IsFirst ks N none) := fun i' hr => by
        have h3 := hrun i' hr
        exact HN.out i' (by omega) hr
      clear hc' hrun HN
      go_wp2
      go_ret2
      exact ⟨none, rfl, HF.out, HH.out, Sole.refl _ _⟩

set_option maxHeartbeats 4000000 in
theorem rsweep_any {w : World} {p h : Nat} {s : Fr} (H : RAt w p h s) (hk : FrOk s) (v : Value) (l : List Int) (hr : ∀ W, Sole [h] w W → RdI W v l) :
    Calls Try.prog 17 #[ptr p, v] w fun e w' => e = .returned (.int .i64 (swept s l)) ∧ RAt w' p h (sweepF s l) ∧ Sole [h] w w' := by
  have hm := hk.most
  obtain ⟨cap, c0, c1, h1, h2, hp, hh, hne, hc⟩ := FrAt.opened H
  have hsl := sweepK_len s l
  have hsg := sweepK_ge s l
  have hsn := sweepN_le s l
  have hk1 : ∀ j, s.ks.getD j 0 = 3 ∧ ¬ ((s.lo + j : Nat) : Int) ∈ l → sweepK s l (j + 1) = (sweepK s l j).set j 1 ∧ sweepN s l (j + 1) = sweepN s l j + 1 := fun j hq => ⟨by conv => lhs; unfold sweepK; rw [if_pos hq], by conv => lhs; unfold sweepN; rw [if_pos hq]⟩
  have hk2 : ∀ j, ¬ (s.ks.getD j 0 = 3 ∧ ¬ ((s.lo + j : Nat) : Int) ∈ l) → sweepK s l (j + 1) = sweepK s l j ∧ sweepN s l (j + 1) = sweepN s l j := fun j hq => ⟨by conv => lhs; unfold sweepK; rw [if_neg hq], by conv => lhs; unfold sweepN; rw [if_neg hq]⟩
  have hk0 : sweepK s l 0 = s.ks ∧ sweepN s l 0 = 0 := ⟨rfl, rfl⟩
  obtain ⟨lo, ks⟩ := s
  unfold ptr sweepF swept at *
  generalize sweepK ⟨lo, ks⟩ l = SK at *
  generalize sweepN ⟨lo, ks⟩ l = SN at *
  dsimp only at *
  obtain ⟨a2, cp2, hv, hl2, hm2, _⟩ := hr w (Sole.refl _ _)
  unfold maxLen at hm2
  have H1 : RAt w p h ⟨lo, SK 0⟩ := by rw [hk0.1]; exact H
  have hget : ∀ j, j < ks.length → ks[j]? = some (ks.getD j 0) := fun j hj => by rw [List.getElem?_eq_getElem hj, List.getD_eq_getElem?_getD, List.getElem?_eq_getElem hj]; rfl
  subst hv
  clear H hk hc
  generalize hn : ks.length = n at *
  go_enter Try.func17, Try.ntmps17
  go_wp2
  go_loopw [5, 16] (fun x t wr => ∃ j : Nat, j ≤ n ∧ t = .int .i64 j ∧ x = .int .i64 (SN j) ∧ Hid (RAt wr p h ⟨lo, SK j⟩) ∧ Sole [h] w wr) (fun _ t _ => n - (intOf t).toNat)
  case atStart => exact ⟨0, Nat.zero_le _, rfl, by rw [hk0.2]; rfl, H1, Sole.refl _ _⟩
  case round =>
    clear H1
    obtain ⟨j, hj, rfl, rfl, HP, HS⟩ := hrel
    obtain ⟨wA, hA⟩ : ∃ wA, wA = wr := ⟨_, rfl⟩
    subst hA
    by_cases hlt : j < n
    · have hltI : (j : Int) < n := by omega
      obtain ⟨cp, d0, d1, e1, e2, _, _, _, dc⟩ := FrAt.opened HP.out
      dsimp only at d0 d1 e1 dc
      have hsl' := hsl j
      rw [hsl'] at d1 e1
      obtain ⟨hcj, hfj⟩ := dc j (ks.getD j 0) (by rw [hsg j j (Nat.le_refl _)]; exact hget j hlt)
      have HP1 : Hid (RAt (wA.setCell ⟨h, j, none⟩ (.int .i64 0)) p h ⟨lo, (SK j).set j 1⟩) := FrAt.put HP.out j 1
      have q1 := hk1 j
      have q2 := hk2 j
      have q3 := hsn j
      obtain ⟨_, _, hv, _, _, hcc⟩ := hr wA HS
      simp only [Value.slice.injEq] at hv
      obtain ⟨rfl, _, rfl⟩ := hv
      have hlJ : ∀ i, i < l.length → l[i]? = some (l.getD i 0) := fun i hi => by rw [List.getElem?_eq_getElem hi, List.getD_eq_getElem?_getD, List.getElem?_eq_getElem hi]; rfl
      obtain ⟨y, hy⟩ : ∃ y : Int, y = (lo : Int) + j := ⟨_, rfl⟩
      have hyb : y ≤ 2048 := by omega
      have hym : ((lo + j : Nat) : Int) = y := by omega
      rw [hym] at q1 q2
      clear hget hsl hsg hk1 hk2 hr dc hsl'
      generalize ks.getD j 0 = K at *
      go_wp2_with fail
      go_loop [8, 23] (fun kp t => ∃ i : Nat, i ≤ l.length ∧ t = .int .i64 i ∧ kp = .bool (decide (y ∈ l.take i))) (fun _ t => l.length - (intOf t).toNat)
      case atStart => exact ⟨0, Nat.zero_le _, rfl, by simp⟩
      case round =>
        obtain ⟨i, hi, rfl, rfl⟩ := hrel
        by_cases hil : i < l.length
        · have hiI : (i : Int) < l.length := by omega
          obtain ⟨g2, o2, rfl, hg2, hc2⟩ := hcc (by omega)
          have xi := hc2 i _ (hlJ i hil)
          have hT : Hid (decide (y ∈ l.take (i + 1)) = (decide (y ∈ l.take i) || decide (l.getD i 0 = y))) := by
            unfold Hid
            rw [takeI_next (hlJ i hil)]
            by_cases q : y ∈ l.take i
            · simp [q]
            · simp only [List.mem_append, q, false_or, List.mem_singleton, decide_false, Bool.false_or]
              exact decide_eq_decide.2 ⟨Eq.symm, Eq.symm⟩
          clear hc2 hcc hlJ q1 q2
          generalize l.getD i 0 = x at *
          generalize hD : decide (y ∈ l.take i) = D at *
          clear hD
          cases D with
          | true =>
            go_wp2
            go_round
            case rel => exact ⟨i + 1, by omega, by go_num, by rw [hT.out]; rfl⟩
            case measure => simp [intOf]; omega
          | false =>
            by_cases hxy : x = y
            · have hxy' : x = (lo : Int) + j := by omega
              have HX : Hid (decide (y ∈ l.take (i + 1)) = true) := by unfold Hid; rw [hT.out, decide_eq_true hxy]; rfl
              clear hxy hT hy hym
              go_wp2
              go_round
              case rel => exact ⟨i + 1, by omega, by go_num, by rw [HX.out]⟩
              case measure => simp [intOf]; omega
            · have hxy' : ¬ x = (lo : Int) + j := by omega
              have hxy2 : (x == (lo : Int) + j) = false := beq_eq_false_iff_ne.2 hxy'
              have HX : Hid (decide (y ∈ l.take (i + 1)) = false) := by unfold Hid; rw [hT.out, decide_eq_false hxy]; rfl
              clear hxy hT hy hym
              go_wp2
              go_round
              case rel => exact ⟨i + 1, by omega, by go_num, by rw [HX.out]⟩
              case measure => simp [intOf]; omega
        · obtain rfl : i = l.length := by omega
          have hiI : ¬ (l.length : Int) < l.length := by omega
          rw [List.take_length]
          clear hcc hlJ
          by_cases h3 : K = 3
          · have h3I : (K : Int) - 1 = 2 := by omega
            by_cases hin : y ∈ l
            · rw [decide_eq_true hin]
              obtain ⟨r1, r2⟩ := q2 (fun hq => hq.2 hin)
              have R1 : Hid (SK (j + 1) = SK j) := r1
              have R2 : Hid (SN (j + 1) = SN j) := r2
              have h3b : ((K : Int) - 1 == 2) = true := beq_iff_eq.2 h3I
              clear q1 q2 r1 r2 hin h3 HP1
              go_wp2_with fail
              go_roundw
              case rel => exact ⟨j + 1, by omega, by go_num, by rw [R2.out], by rw [R1.out]; exact HP, HS⟩
              case measure => simp [intOf]; omega
            · rw [decide_eq_false hin]
              obtain ⟨r1, r2⟩ := q1 ⟨h3, hin⟩
              have R1 : Hid (SK (j + 1) = (SK j).set j 1) := r1
              have R2 : Hid (SN (j + 1) = SN j + 1) := r2
              generalize SN j = C at *
              have h3b : ((K : Int) - 1 == 2) = true := beq_iff_eq.2 h3I
              clear q1 q2 r1 r2 hin h3
              go_wp2_with fail
              go_roundw
              case rel => exact ⟨j + 1, by omega, by go_num, by rw [R2.out]; go_num, by rw [R1.out]; exact HP1, HS.trans (Sole.setCell _ _ (by simp))⟩
              case measure => simp [intOf]; omega
          · have h3I : ¬ (K : Int) - 1 = 2 := by omega
            obtain ⟨r1, r2⟩ := q2 (fun hq => h3 hq.1)
            have R1 : Hid (SK (j + 1) = SK j) := r1
            have R2 : Hid (SN (j + 1) = SN j) := r2
            generalize decide (y ∈ l) = D at *
            have h3b : ((K : Int) - 1 == 2) = false := beq_eq_false_iff_ne.2 h3I
            clear q1 q2 r1 r2 h3 HP1
            go_wp2_with fail
            go_roundw
            case rel => exact ⟨j + 1, by omega, by go_num, by rw [R2.out], by rw [R1.out]; exact HP, HS⟩
            case measure => simp [intOf]; omega
    · obtain rfl : j = n := by omega
      have hltI : ¬ (j : Int) < j := by omega
      clear hget hsl hsg hk1 hk2 hsn hr
      go_wp2
      go_ret
      exact ⟨rfl, HP.out, HS⟩

end Go.Proofs.Ytljfdmjlilahjaa
