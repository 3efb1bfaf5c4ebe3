/- The contracts of free's firstRun, TakeRun, Take. -/
import Derived.Test.YtljfdmjlilahjaaFSmall
import Derived.WalkMore
namespace Go.Proofs.Ytljfdmjlilahjaa
open Go.RowKit
set_option linter.unusedVariables false
set_option linter.unusedSimpArgs false
set_option maxRecDepth 4000

/-- N free ones side by side from i on. -/
def RunAt (ks : List Nat) (N i : Nat) : Prop := ∀ j, j < N → ks.getD (i + j) 0 = 1
/-- The first run: where it begins, or none. -/
def IsFirst (ks : List Nat) (N : Nat) : Option Nat → Prop
  | none => ∀ i, ¬ RunAt ks N i
  | some b => RunAt ks N b ∧ ∀ i, i < b → ¬ RunAt ks N i

theorem run_in {ks : List Nat} {N i : Nat} (h : RunAt ks N i) (hN : 1 ≤ N) : i + N ≤ ks.length := by
  have h1 := h (N - 1) (by omega)
  rcases Nat.lt_or_ge (i + (N - 1)) ks.length with h2 | h2
  · omega
  · rw [List.getD_eq_getElem?_getD, List.getElem?_eq_none h2] at h1
    cases h1

theorem first_unique {ks : List Nat} {N : Nat} {a b : Option Nat} (ha : IsFirst ks N a) (hb : IsFirst ks N b) : a = b := by
  cases a with
  | none =>
    cases b with
    | none => rfl
    | some b => exact absurd hb.1 (ha b)
  | some a =>
    cases b with
    | none => exact absurd ha.1 (hb a)
    | some b =>
      rcases Nat.lt_trichotomy a b with h | h | h
      · exact absurd ha.1 (hb.2 a h)
      · rw [h]
      · exact absurd hb.1 (ha.2 b h)

def foundV : Option Nat → Bool
  | none => false
  | some _ => true
def firstV : Option Nat → Int
  | none => 0
  | some b => b

set_option maxHeartbeats 4000000 in
theorem firstRun_any {w : World} {p h : Nat} {s : Fr} (H : PAt w p h s) (hk : FrOk s) (N : Nat) (hN : 1 ≤ N) (hN2 : N ≤ 9223372036854775807) :
    Calls Try.prog 27 #[ptr p, .int .i64 N] w fun e w' => ∃ r, e = .returned (.tuple #[.int .i64 (firstV r), .bool (foundV r)]) ∧ IsFirst s.ks N r ∧ w' = w := by
  obtain ⟨cap, c0, c1, h1, h2, hp, hh, hne, hc⟩ := FrAt.opened H
  have hm := hk.most
  unfold ptr
  have hc' : ∀ j, j < s.ks.length → w.cell? ⟨h, j, none⟩ = some (.int .i64 (s.ks.getD j 0)) := fun j hj => (hc j _ (by rw [List.getElem?_eq_getElem hj, List.getD_eq_getElem?_getD, List.getElem?_eq_getElem hj]; rfl)).1
  have hout : ∀ j, s.ks.length ≤ j → s.ks.getD j 0 = 0 := fun j hj => by rw [List.getD_eq_getElem?_getD, List.getElem?_eq_none hj]; rfl
  clear hc H hk
  generalize s.ks = ks at *
  generalize s.lo = lo at *
  obtain ⟨n, hn⟩ : ∃ n, ks.length = n := ⟨_, rfl⟩
  rw [hn] at c1 h1 hm hc' hout
  go_enter Try.func27, Try.ntmps27
  go_wp2
  go_step3
  go_wp2
  go_step3
  go_wp2
  go_loop [6, 7, 8, 9] (fun f g e b => ∃ k : Nat, k ≤ n + 1 ∧ e = .int .i64 k ∧ f = .int .i64 0 ∧ g = .bool false ∧ Hid (∀ i, i < k → ¬ RunAt ks N i)) (fun _ _ e _ => n + 2 - (intOf e).toNat)
  case atStart => exact ⟨0, Nat.zero_le _, rfl, rfl, rfl, fun i hi => by omega⟩
  case round =>
    obtain ⟨k, hk, rfl, rfl, rfl, HK⟩ := hrel
    by_cases hlt : k < n
    · have hltI : (k : Int) < n := by omega
      go_wp2
      go_loop [6, 7, 8] (fun f g e => ∃ m : Nat, k ≤ m ∧ m ≤ n ∧ e = .int .i64 m ∧ f = .int .i64 0 ∧ g = .bool false ∧ Hid (∀ i, k ≤ i → i < m → ks.getD i 0 = 1) ∧ Hid (m < k + N)) (fun _ _ e => n + 1 - (intOf e).toNat)
      case atStart => exact ⟨k, Nat.le_refl _, by omega, rfl, rfl, rfl, fun i h1 h2 => by omega, by unfold Hid; omega⟩
      case round =>
        obtain ⟨m, hkm, hmn, rfl, rfl, rfl, HM, HN⟩ := hrel
        by_cases hmlt : m < n ∧ ks.getD m 0 = 1
        · obtain ⟨hm1, hm2⟩ := hmlt
          have hmI : (m : Int) < n := by omega
          have xm := hc' m hm1
          rw [hm2] at xm
          clear hc' hout
          by_cases hfull : m + 1 = k + N
          · have hfI : (m : Int) - k + 1 = N := by omega
            have HF : Hid (IsFirst ks N (some k)) := ⟨fun j hj => by
              rcases Nat.lt_or_ge (k + j) m with h | h
              · exact HM.out _ (by omega) h
              · rw [show k + j = m from by omega]; exact hm2, HK.out⟩
            clear hm2 HM HN HK
            go_wp2
            (try rw [Exit.noGoto_ret])
            go_ret2
            exact ⟨some k, rfl, HF.out, rfl⟩
          · have hfI : ¬ (m : Int) - k + 1 = N := by omega
            have HM' : Hid (∀ i, k ≤ i → i < m + 1 → ks.getD i 0 = 1) := fun i h1 h2 => by
              rcases Nat.lt_or_ge i m with h | h
              · exact HM.out i h1 h
              · rw [show i = m from by omega]; exact hm2
            have HN' : Hid (m + 1 < k + N) := by have := HN.out; unfold Hid; omega
            clear hm2 HM HN
            go_wp2
            go_round
            case rel => exact ⟨m + 1, by omega, by omega, by go_num, rfl, rfl, HM', HN'⟩
            case measure => simp [intOf]; omega
        · have HK' : Hid (∀ i, i < m + 1 → ¬ RunAt ks N i) := fun i hi hrun => by
            rcases Nat.lt_or_ge i k with h | h
            · exact HK.out i h hrun
            · have h3 := HN.out
              have h4 : ¬ ks.getD m 0 = 1 := fun e => by
                rcases Nat.lt_or_ge m n with q | q
                · exact hmlt ⟨q, e⟩
                · rw [hout m q] at e; cases e
              have h5 := hrun (m - i) (by omega)
              rw [show i + (m - i) = m from by omega] at h5
              exact h4 h5
          by_cases hm1 : m < n
          · have hmI : (m : Int) < n := by omega
            have xm := hc' m hm1
            have hm2 : ¬ ((ks.getD m 0 : Nat) : Int) = 1 := fun e => hmlt ⟨hm1, by omega⟩
            generalize ks.getD m 0 = K at *
            clear hc' hout hmlt HM HN HK
            go_wp2
            go_round
            case rel => exact ⟨m + 1, by omega, by go_num, rfl, rfl, HK'⟩
            case measure => simp [intOf]; omega
          · have hmI : ¬ (m : Int) < n := by omega
            clear hc' hout hmlt HM HN HK
            go_wp2
            go_round
            case rel => exact ⟨m + 1, by omega, by go_num, rfl, rfl, HK'⟩
            case measure => simp [intOf]; omega
    · have hltI : ¬ (k : Int) < n := by omega
      have HF : Hid (IsFirst ks N none) := fun i hrun => by
        have h3 := run_in hrun hN
        exact HK.out i (by omega) hrun
      clear hc' hout HK
      go_wp2
      (try rw [Exit.noGoto_ret])
      go_ret2
      exact ⟨none, rfl, HF.out, rfl⟩

/-- The run's blocks taken. -/
def setRun (ks : List Nat) (b : Nat) : Nat → List Nat
  | 0 => ks
  | j + 1 => (setRun ks b j).set (b + j) 2

theorem setRun_len (ks : List Nat) (b : Nat) : ∀ j, (setRun ks b j).length = ks.length
  | 0 => rfl
  | j + 1 => by unfold setRun; rw [List.length_set]; exact setRun_len ks b j

def runV (s : Fr) : Option Nat → Int
  | none => 0
  | some b => s.lo + b
def runE : Option Nat → Int
  | none => 5
  | some _ => 0
def runF (s : Fr) (N : Nat) : Option Nat → Fr
  | none => s
  | some b => ⟨s.lo, setRun s.ks b N⟩

theorem takeRun_arg {w : World} {p : Nat} (n : Int) (hn : n < 1) : Calls Try.prog 12 #[ptr p, .int .i64 n] w fun e w' => e = .returned (.tuple #[.int .i64 0, .int .i64 1]) ∧ w' = w := by
  unfold ptr
  go_enter Try.func12, Try.ntmps12
  go_wp2
  go_ret2
  exact ⟨rfl, rfl⟩

set_option maxHeartbeats 4000000 in
theorem takeRun_ok {w : World} {p h : Nat} {s : Fr} (H : PAt w p h s) (hk : FrOk s) (N : Nat) (hN : 1 ≤ N) (hN2 : N ≤ 9223372036854775807) :
    Calls Try.prog 12 #[ptr p, .int .i64 N] w fun e w' => ∃ r, e = .returned (.tuple #[.int .i64 (runV s r), .int .i64 (runE r)]) ∧ IsFirst s.ks N r ∧ PAt w' p h (runF s N r) ∧ Sole [h] w w' := by
  have hf := firstRun_any H hk N hN hN2
  have hm := hk.most
  have hNI : ¬ (N : Int) < 1 := by omega
  unfold ptr at *
  go_enter Try.func12, Try.ntmps12
  go_wp2_with fail
  refine hf.mono ?_
  clear hf
  rintro e w1 ⟨r, rfl, hF, rfl⟩
  cases r with
  | none =>
    have HF : Hid (IsFirst s.ks N none) := hF
    have HH : Hid (PAt w1 p h s) := H
    unfold firstV foundV
    clear hF H
    go_wp2
    go_ret2
    exact ⟨none, rfl, HF.out, HH.out, Sole.refl _ _⟩
  | some b =>
    have hin := run_in hF.1 hN
    have HF : Hid (IsFirst s.ks N (some b)) := hF
    unfold firstV foundV
    clear hF
    go_wp2
    go_loopw [8, 20] (fun q t wr => ∃ j : Nat, j ≤ N ∧ t = .int .i64 j ∧ Hid (PAt wr p h ⟨s.lo, setRun s.ks b j⟩) ∧ Sole [h] w1 wr) (fun _ t _ => N - (intOf t).toNat)
    case atStart => exact ⟨0, Nat.zero_le _, rfl, H, Sole.refl _ _⟩
    case round =>
      clear H
      obtain ⟨j, hj, rfl, HP, HS⟩ := hrel
      obtain ⟨cap, c0, c1, h1, h2, hp, hh, hne, hc⟩ := FrAt.opened HP.out
      have hsl := setRun_len s.ks b j
      dsimp only at c0 c1 h1 hc
      by_cases hlt : j < N
      · have hltI : (j : Int) < N := by omega
        have hbj : b + j < (setRun s.ks b j).length := by omega
        obtain ⟨hcj, hfj⟩ := hc (b + j) _ (List.getElem?_eq_getElem hbj)
        have HP' : Hid (PAt (wr.setCell ⟨h, b + j, none⟩ (.int .i64 2)) p h ⟨s.lo, setRun s.ks b (j + 1)⟩) := FrAt.put HP.out (b + j) 2
        rw [hsl] at c1 h1
        generalize (setRun s.ks b j)[b + j] = K at *
        clear hc hsl hbj HP
        have hbI : (b : Int) + j < s.ks.length := by omega
        generalize s.ks.length = n at *
        generalize hlo : s.lo = lo at *
        go_wp2_with fail
        go_roundw
        case rel => exact ⟨j + 1, by omega, by go_num, HP', HS.trans (Sole.setCell _ _ (by simp))⟩
        case measure => simp [intOf]; omega
      · obtain rfl : j = N := by omega
        have hltI : ¬ (j : Int) < j := by omega
        clear hc
        generalize hlo : s.lo = lo at *
        go_wp2
        go_ret2
        exact ⟨some b, by unfold runV runE; rw [hlo]; rfl, HF.out, by unfold runF; rw [hlo]; exact HP.out, HS⟩

theorem take_any {w : World} {p h : Nat} {s : Fr} (H : PAt w p h s) (hk : FrOk s) :
    Calls Try.prog 10 #[ptr p] w fun e w' => ∃ r, e = .returned (.tuple #[.int .i64 (runV s r), .int .i64 (runE r)]) ∧ IsFirst s.ks 1 r ∧ PAt w' p h (runF s 1 r) ∧ Sole [h] w w' := by
  have hl := takeRun_ok H hk 1 (by omega) (by omega)
  unfold ptr at *
  go_enter Try.func10, Try.ntmps10
  go_wp2_with fail
  refine hl.mono ?_
  rintro e w1 ⟨r, rfl, h1, h2, h3⟩
  go_wp2
  go_ret2
  exact ⟨r, rfl, h1, h2, h3⟩

end Go.Proofs.Ytljfdmjlilahjaa
