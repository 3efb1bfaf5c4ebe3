/- Full, LiveMath, ArmedMath, SafeMath: in one text. -/
import Derived.Test.YtckcdmkgmbicfaaGreatDSmall
import Derived.Test.YtckcdmkgmbicfaaGreatDRead
namespace Go.Proofs.YtckcdmkgmbicfaaGreat
open Go.RowKit
set_option linter.unusedVariables false
set_option linter.unusedSimpArgs false
set_option maxRecDepth 4000

open Go.RowKit Go.Maps

/-- A block of one kind, its place added. -/
def fullB (v : Int) : List Int := (List.range 512).map fun i : Nat => (v + (i : Int)) % 256

def fullRow (v : Int) (k : Nat) : List Int := (List.range 512).map fun i : Nat => if i < k then (v + (i : Int)) % 256 else 0

theorem fullRow_length (v : Int) (k : Nat) : (fullRow v k).length = 512 := by simp [fullRow]

theorem fullRow_zero (v : Int) : fullRow v 0 = List.replicate 512 0 := by
  apply List.ext_getElem
  · rw [fullRow_length, List.length_replicate]
  · intro i h1 h2
    simp only [fullRow, List.getElem_map, List.getElem_replicate, Nat.not_lt_zero, if_false]

theorem fullRow_full (v : Int) : fullRow v 512 = fullB v := by
  apply List.ext_getElem
  · simp [fullRow, fullB]
  · intro i h1 h2
    have : i < 512 := by simpa [fullRow] using h1
    simp [fullRow, fullB, this]

theorem fullRow_set (v : Int) (k : Nat) : (fullRow v k).set k ((v + (k : Int)) % 256) = fullRow v (k + 1) := by
  apply List.ext_getElem
  · simp [fullRow]
  · intro i h1 h2
    rw [List.getElem_set]
    simp only [fullRow, List.getElem_map, List.getElem_range]
    split
    · rename_i e; subst e; simp
    · by_cases h : i < k
      · simp [h, show i < k + 1 by omega]
      · simp [h, show ¬ i < k + 1 by omega]

theorem fullB_blk (v : Int) : Blk (fullB v) := by
  refine ⟨by simp [fullB], fun x hx => ?_⟩
  obtain ⟨i, _, rfl⟩ := List.mem_map.1 hx
  omega

def shortN (n : Int) : Int := (n.tmod 1030 + 1030) % 1030

theorem shortN_in (n : Int) : 0 ≤ shortN n ∧ shortN n < 1030 := by
  unfold shortN
  omega

theorem keysOf_eq {M : Int → Option (List Int)} {l : List Int} (hr : l.Pairwise (· < ·)) (hb : ∀ i ∈ l, 0 ≤ i ∧ i < 1024) (hm : ∀ i, i ∈ l ↔ (M i).isSome = true) : keysOf M = l := by
  have hn : l.Nodup := hr.imp (fun h e => by omega)
  have hp : (keysOf M).Perm l := (List.perm_ext_iff_of_nodup (keysOf_nodup M) hn).2 (fun i => by
    rw [mem_keysOf (fun i c hc => hb i ((hm i).2 (by rw [hc]; rfl))) i, hm i])
  exact List.Perm.eq_of_pairwise (le := fun a b : Int => a ≤ b) (fun a b _ _ h1 h2 => Int.le_antisymm h1 h2) ((keysOf_rising M).imp (fun h => Int.le_of_lt h)) (hr.imp (fun h => Int.le_of_lt h)) hp

theorem writeOut_ok {s : St} {i : Int} {xs : List Int} (ho : s.off = false) (h0 : 0 ≤ i) (h1 : i < s.blocks) (hl : xs.length = 512) (hd : due s = false) : writeOut s i xs = (0, doneSt s i xs) := by
  have hu : useErr s i = 0 := by unfold useErr; rw [ho]; simp; omega
  unfold writeOut
  rw [if_neg (by simpa using hu), if_neg (by simpa using hl), hd]
  rfl

theorem fullB_len (v : Int) : (fullB v).length = 512 := (fullB_blk v).1

def lv0 : St := freshSt 4
def lv1 : St := doneSt lv0 1 (fullB 7)
def lv2 : St := doneSt lv1 3 (fullB 9)
def lv3 : St := cutSt lv2 ⟨#[0, 1]⟩
def lv4 : St := { lv3 with off := false }
def lv5 : St := armSt lv4 1 ⟨#[]⟩
def lv6 : St := doneSt lv5 2 (fullB 1)
def lv7 : St := cutSt lv6 lv6.mask

theorem lv_w1 : writeOut lv0 1 (fullB 7) = (0, lv1) := writeOut_ok rfl (by decide) (by decide) (fullB_len 7) rfl
theorem lv_w2 : writeOut lv1 3 (fullB 9) = (0, lv2) := writeOut_ok rfl (by decide) (by decide) (fullB_len 9) rfl

theorem lv_keys : keysOf lv2.pend = [1, 3] := by
  refine keysOf_eq (by simp) (by simp) (fun i => ?_)
  show _ ↔ (upd (upd (fun _ => none) 1 (some (fullB 7))) 3 (some (fullB 9)) i).isSome = true
  unfold upd
  by_cases h3 : i = 3
  · simp [h3]
  · by_cases h1 : i = 1
    · simp [h1]
    · simp [h3, h1]

theorem lv3_eq : lv3 = { settleSt (settleSt lv2 1 false) 3 true with off := true, armed := false, left := 0, mask := ⟨#[]⟩ } := by
  unfold lv3 cutSt
  rw [lv_keys]
  rfl

theorem lv4_on : lv4.off = false := rfl
theorem lv4_blocks : lv4.blocks = 4 := by unfold lv4; rw [lv3_eq]; rfl
theorem lv4_use1 : useErr lv4 1 = 0 := by unfold useErr; rw [lv4_on, lv4_blocks]; rfl
theorem lv4_use3 : useErr lv4 3 = 0 := by unfold useErr; rw [lv4_on, lv4_blocks]; rfl
theorem lv4_pend (i : Int) : lv4.pend i = none := by
  unfold lv4; rw [lv3_eq]
  show upd (upd (upd (upd (fun _ => none) 1 (some (fullB 7))) 3 (some (fullB 9))) 1 none) 3 none i = none
  unfold upd
  by_cases h3 : i = 3
  · simp [h3]
  · by_cases h1 : i = 1
    · simp [h1]
    · simp [h3, h1]
theorem lv4_see1 : seen lv4 1 = zeroB := by
  unfold seen; rw [lv4_pend]
  unfold lv4; rw [lv3_eq]
  simp only [settleSt, safeSt, if_true, Bool.false_eq_true, if_false, Option.getD_none]
  rw [upd_other _ _ _ (by decide)]
  simp only [lv2, lv1, lv0, doneSt, countSt, freshSt, Bool.false_eq_true, if_false]
theorem lv4_see3 : seen lv4 3 = fullB 9 := by
  unfold seen; rw [lv4_pend]
  have hp : lv2.pend 3 = some (fullB 9) := by simp only [lv2, doneSt, upd_same]
  unfold lv4; rw [lv3_eq]
  simp only [settleSt, safeSt, if_true, Bool.false_eq_true, if_false, Option.getD_none, upd_same]
  rw [upd_other _ _ _ (by decide), hp, Option.getD_some]

theorem lv5_eq : lv5 = { lv4 with armed := true, left := 1, mask := ⟨#[]⟩ } := by
  unfold lv5 armSt; rw [lv4_on]; simp [lv4_on]

theorem lv_w6 : writeOut lv5 2 (fullB 1) = (0, lv6) := by
  refine writeOut_ok ?_ (by decide) ?_ (fullB_len 1) ?_
  · rw [lv5_eq]; exact lv4_on
  · rw [lv5_eq]; simp only [lv4_blocks]; decide
  · rw [lv5_eq]; simp [due]

theorem lv6_eq : lv6 = { lv4 with armed := true, left := 0, mask := ⟨#[]⟩, writes := wr1 lv4.writes, pend := upd lv4.pend 2 (some (fullB 1)) } := by
  unfold lv6 doneSt countSt; rw [lv5_eq]; simp

theorem lv_bar : barOut lv6 = (20, lv7) := by
  unfold barOut
  have h1 : lv6.off = false := by rw [lv6_eq]; exact lv4_on
  have h2 : due lv6 = true := by rw [lv6_eq]; simp [due]
  rw [h1, h2]; simp [lv7]

theorem lv7_off : lv7.off = true := rfl

theorem settleN_writes (f : Nat → Bool) (s : St) (ks : List Int) : ∀ k, (settleN f s ks k).writes = s.writes
  | 0 => rfl
  | k + 1 => by
    have := settleN_writes f s ks k
    unfold settleN settleSt safeSt
    split <;> exact this

theorem lv7_writes : lv7.writes = 3 := by
  have h2 : lv2.writes = 2 := by simp [lv2, lv1, lv0, doneSt, countSt, freshSt, wr1, wrap64]
  have h4 : lv4.writes = 2 := by unfold lv4; rw [lv3_eq]; simp only [settleSt, safeSt, if_true, Bool.false_eq_true, if_false]; exact h2
  have h6 : lv6.writes = 3 := by rw [lv6_eq]; simp [h4, wr1, wrap64]
  unfold lv7 cutSt
  simp only [settleN_writes]
  exact h6

theorem lv2_on : lv2.off = false := rfl
theorem lv3_off : lv3.off = true := rfl

open Go.RowKit Go.Maps

theorem settleN_off (f : Nat → Bool) (s : St) (ks : List Int) : ∀ k, (settleN f s ks k).off = s.off
  | 0 => rfl
  | k + 1 => by
    have := settleN_off f s ks k
    unfold settleN settleSt safeSt
    split <;> exact this
theorem settleN_armed (f : Nat → Bool) (s : St) (ks : List Int) : ∀ k, (settleN f s ks k).armed = s.armed
  | 0 => rfl
  | k + 1 => by
    have := settleN_armed f s ks k
    unfold settleN settleSt safeSt
    split <;> exact this
theorem settleN_left (f : Nat → Bool) (s : St) (ks : List Int) : ∀ k, (settleN f s ks k).left = s.left
  | 0 => rfl
  | k + 1 => by
    have := settleN_left f s ks k
    unfold settleN settleSt safeSt
    split <;> exact this

/-- 'd' of 'n' writes were done. -/
structure Arm (n d : Int) (s : St) : Prop where
  b : s.blocks = 8
  d0 : 0 ≤ d
  d1 : d ≤ n
  n1 : n ≤ 1030
  w : s.writes = d
  on : s.off = false → s.armed = true ∧ s.left = n - d

theorem arm_cut {n d : Int} {s : St} (h : Arm n d s) (m : ByteArray) : Arm n d (cutSt s m) :=
  ⟨by unfold cutSt; simp only [settleN_blocks]; exact h.b, h.d0, h.d1, h.n1, by unfold cutSt; simp only [settleN_writes]; exact h.w, fun e => by unfold cutSt at e; cases e⟩

theorem cut_off (s : St) (m : ByteArray) : (cutSt s m).off = true := by unfold cutSt; rfl

theorem arm_bar {n d : Int} {s : St} (h : Arm n d s) : Arm n d (barOut s).2 ∧ (((barOut s).1 = 0 ∧ d < n ∧ (barOut s).2.off = false) ∨ ((barOut s).1 = 20 ∧ (barOut s).2.off = true)) := by
  unfold barOut
  cases ho : s.off
  · obtain ⟨ha, hl⟩ := h.on ho
    by_cases hd : s.left ≤ 0
    · have : due s = true := by simp [due, ha, hd]
      rw [this]
      simp only [Bool.false_eq_true, if_false, if_true]
      exact ⟨arm_cut h _, .inr ⟨trivial, cut_off _ _⟩⟩
    · have : due s = false := by simp [due, hd]
      rw [this]
      simp only [Bool.false_eq_true, if_false]
      have e1 : (allSafe s).off = false := by unfold allSafe; rw [settleN_off]; exact ho
      refine ⟨⟨?_, h.d0, h.d1, h.n1, ?_, fun _ => ?_⟩, .inl ⟨trivial, by omega, e1⟩⟩
      · unfold allSafe; rw [settleN_blocks]; exact h.b
      · unfold allSafe; rw [settleN_writes]; exact h.w
      · unfold allSafe; rw [settleN_armed, settleN_left]; exact ⟨ha, hl⟩
  · simp only [if_true]
    exact ⟨h, .inr ⟨trivial, ho⟩⟩

theorem arm_write {n d : Int} {s : St} (h : Arm n d s) {i : Int} (h0 : 0 ≤ i) (h1 : i < 8) {xs : List Int} (hl : xs.length = 512) :
    ((writeOut s i xs).1 = 0 ∧ d < n ∧ Arm n (d + 1) (writeOut s i xs).2) ∨ ((writeOut s i xs).1 = 20 ∧ (writeOut s i xs).2.off = true ∧ Arm n d (writeOut s i xs).2) := by
  cases ho : s.off
  · obtain ⟨ha, hle⟩ := h.on ho
    have hu : useErr s i = 0 := by unfold useErr; rw [ho, h.b]; simp; omega
    by_cases hd : s.left ≤ 0
    · have hdu : due s = true := by simp [due, ha, hd]
      have e : writeOut s i xs = (20, cutSt s s.mask) := by unfold writeOut; rw [if_neg (by simpa using hu), if_neg (by simpa using hl), hdu]; simp
      rw [e]
      exact .inr ⟨rfl, cut_off _ _, arm_cut h _⟩
    · have hdu : due s = false := by simp [due, hd]
      have e : writeOut s i xs = (0, doneSt s i xs) := writeOut_ok ho h0 (by rw [h.b]; exact h1) hl hdu
      rw [e]
      have hn := h.n1
      have hd1 := h.d1
      have hd0 := h.d0
      refine .inl ⟨rfl, by omega, ?_, by omega, by omega, h.n1, ?_, fun _ => ?_⟩
      · unfold doneSt countSt; rw [ha]; exact h.b
      · unfold doneSt; simp only [h.w, wr1, wrap64]; omega
      · unfold doneSt countSt; rw [ha]; simp only [if_true]; exact ⟨trivial, by omega⟩
  · have e : writeOut s i xs = (20, s) := by
      have hu : useErr s i = 20 := by unfold useErr; rw [ho]; rfl
      unfold writeOut; rw [hu]; simp
    rw [e]
    exact .inr ⟨rfl, ho, h⟩

theorem arm_start {n : Int} (h0 : 0 ≤ n) (h1 : n ≤ 1030) : Arm n 0 (armSt (freshSt 8) n ⟨#[]⟩) := by
  have e : armSt (freshSt 8) n ⟨#[]⟩ = { freshSt 8 with armed := true, left := n, mask := ⟨#[]⟩ } := by unfold armSt; simp [freshSt, h0]
  rw [e]
  exact ⟨rfl, Int.le_refl _, h0, h1, rfl, fun _ => ⟨rfl, by simp⟩⟩

theorem mod8_in (z : Int) : 0 ≤ (z.tmod 8 + 8) % 8 ∧ (z.tmod 8 + 8) % 8 < 8 := by omega

open Go.RowKit Go.Maps

theorem take_succ_mem {ks : List Int} {k : Nat} (hk : k < ks.length) (j : Int) : j ∈ ks.take (k + 1) ↔ j ∈ ks.take k ∨ j = ks.getD k 0 := by
  have e : ks.take (k + 1) = ks.take k ++ [ks.getD k 0] := by
    rw [List.take_add_one, List.getElem?_eq_getElem hk, List.getD_eq_getElem?_getD, List.getElem?_eq_getElem hk]
    rfl
  rw [e, List.mem_append, List.mem_singleton]

theorem settleSt_pend (s : St) (i : Int) (b : Bool) : (settleSt s i b).pend = upd s.pend i none := by
  unfold settleSt
  rfl

theorem settleN_pend (f : Nat → Bool) (s : St) (ks : List Int) : ∀ k, k ≤ ks.length → ∀ j, (settleN f s ks k).pend j = if j ∈ ks.take k then none else s.pend j
  | 0, _, j => by simp [settleN]
  | k + 1, hk, j => by
    have ih := settleN_pend f s ks k (by omega)
    unfold settleN
    rw [settleSt_pend]
    by_cases e : j = ks.getD k 0
    · subst e
      rw [upd_same, if_pos ((take_succ_mem (by omega) _).2 (.inr rfl))]
    · rw [upd_other _ _ _ e, ih]
      by_cases h : j ∈ ks.take k
      · rw [if_pos h, if_pos ((take_succ_mem (by omega) _).2 (.inl h))]
      · rw [if_neg h, if_neg (fun h' => ((take_succ_mem (by omega) _).1 h').elim h e)]

theorem nodup_take {ks : List Int} (hn : ks.Nodup) {k : Nat} (hk : k < ks.length) : ks.getD k 0 ∉ ks.take k := by
  intro h
  obtain ⟨m, hm, e⟩ := List.mem_iff_getElem.1 h
  rw [List.length_take] at hm
  rw [List.getElem_take, List.getD_eq_getElem?_getD, List.getElem?_eq_getElem hk] at e
  have hp := List.pairwise_iff_getElem.1 hn m k (by omega) hk (by omega)
  exact hp e

/-- Each block's safe bytes are what they were, or what was pending. -/
theorem settleN_safe (f : Nat → Bool) (s : St) (ks : List Int) (hn : ks.Nodup) : ∀ k, k ≤ ks.length → ∀ j, (settleN f s ks k).safe j = s.safe j ∨ (j ∈ ks.take k ∧ (settleN f s ks k).safe j = (s.pend j).getD zeroB)
  | 0, _, j => .inl rfl
  | k + 1, hk, j => by
    have ih := settleN_safe f s ks hn k (by omega) j
    have hp := settleN_pend f s ks k (by omega) (ks.getD k 0)
    rw [if_neg (nodup_take hn (by omega))] at hp
    unfold settleN settleSt safeSt
    cases f k
    · simp only [Bool.false_eq_true, if_false]
      exact ih.imp id (fun h => ⟨(take_succ_mem (by omega) _).2 (.inl h.1), h.2⟩)
    · simp only [if_true]
      by_cases e : j = ks.getD k 0
      · subst e
        rw [upd_same, hp]
        exact .inr ⟨(take_succ_mem (by omega) _).2 (.inr rfl), rfl⟩
      · rw [upd_other _ _ _ e]
        exact ih.imp id (fun h => ⟨(take_succ_mem (by omega) _).2 (.inl h.1), h.2⟩)

/-- All survives: each that was settled is what was pending. -/
theorem settleN_all (s : St) (ks : List Int) (hn : ks.Nodup) : ∀ k, k ≤ ks.length → ∀ j, (settleN (fun _ => true) s ks k).safe j = if j ∈ ks.take k then (s.pend j).getD zeroB else s.safe j
  | 0, _, j => by simp [settleN]
  | k + 1, hk, j => by
    have ih := settleN_all s ks hn k (by omega) j
    have hp := settleN_pend (fun _ => true) s ks k (by omega) (ks.getD k 0)
    rw [if_neg (nodup_take hn (by omega))] at hp
    unfold settleN settleSt safeSt
    simp only [if_true]
    by_cases e : j = ks.getD k 0
    · subst e
      rw [upd_same, hp, if_pos ((take_succ_mem (by omega) _).2 (.inr rfl))]
    · rw [upd_other _ _ _ e, ih]
      by_cases h : j ∈ ks.take k
      · rw [if_pos h, if_pos ((take_succ_mem (by omega) _).2 (.inl h))]
      · rw [if_neg h, if_neg (fun h' => ((take_succ_mem (by omega) _).1 h').elim h e)]

theorem good_keys {s : St} (h : Good s) (j : Int) : j ∈ keysOf s.pend ↔ (s.pend j).isSome = true :=
  mem_keysOf (fun i c hc => ⟨(h.pend i c hc).1, by have := (h.pend i c hc).2.1; have := h.b1; omega⟩) j

theorem allSafe_pend {s : St} (h : Good s) (j : Int) : (allSafe s).pend j = none := by
  unfold allSafe
  rw [settleN_pend _ _ _ _ (Nat.le_refl _), List.take_length]
  by_cases hj : j ∈ keysOf s.pend
  · rw [if_pos hj]
  · rw [if_neg hj]
    rw [good_keys h] at hj
    simpa using hj

theorem allSafe_safe {s : St} (h : Good s) (j : Int) : (allSafe s).safe j = seen s j := by
  unfold allSafe seen
  rw [settleN_all s _ (keysOf_nodup _) _ (Nat.le_refl _), List.take_length]
  by_cases hj : j ∈ keysOf s.pend
  · rw [if_pos hj]
    rw [good_keys h] at hj
    obtain ⟨c, hc⟩ := Option.isSome_iff_exists.1 hj
    rw [hc]; rfl
  · rw [if_neg hj]
    rw [good_keys h] at hj
    cases hc : s.pend j with
    | none => rfl
    | some c => rw [hc] at hj; simp at hj

theorem cut_pend {s : St} (h : Good s) (m : ByteArray) (j : Int) : (cutSt s m).pend j = none := by
  have e : (cutSt s m).pend j = (settleN (surv m) s (keysOf s.pend) (keysOf s.pend).length).pend j := by simp only [cutSt]
  rw [e, settleN_pend _ _ _ _ (Nat.le_refl _), List.take_length]
  by_cases hj : j ∈ keysOf s.pend
  · rw [if_pos hj]
  · rw [if_neg hj]
    rw [good_keys h] at hj
    simpa using hj

theorem cut_safe {s : St} (h : Good s) (m : ByteArray) (j : Int) : (cutSt s m).safe j = s.safe j ∨ ∃ c, s.pend j = some c ∧ (cutSt s m).safe j = c := by
  have e : (cutSt s m).safe j = (settleN (surv m) s (keysOf s.pend) (keysOf s.pend).length).safe j := by simp only [cutSt]
  rw [e]
  rcases settleN_safe (surv m) s (keysOf s.pend) (keysOf_nodup _) _ (Nat.le_refl _) j with h1 | ⟨h1, h2⟩
  · exact .inl h1
  · rw [List.take_length, good_keys h] at h1
    obtain ⟨c, hc⟩ := Option.isSome_iff_exists.1 h1
    exact .inr ⟨c, hc, by rw [h2, hc]; rfl⟩

theorem cut_blocks (s : St) (m : ByteArray) : (cutSt s m).blocks = s.blocks := by unfold cutSt; simp only [settleN_blocks]

/-- A disk of eight blocks, on, not armed. -/
structure Un (s : St) : Prop where
  b : s.blocks = 8
  on : s.off = false
  un : s.armed = false

theorem un_due {s : St} (h : Un s) : due s = false := by unfold due; rw [h.un]; rfl

theorem un_done {s : St} (h : Un s) (i : Int) (xs : List Int) : Un (doneSt s i xs) := by
  unfold doneSt countSt
  rw [h.un]
  exact ⟨h.b, h.on, h.un⟩

theorem done_safe {s : St} (h : Un s) (i : Int) (xs : List Int) : (doneSt s i xs).safe = s.safe := by
  unfold doneSt countSt
  rw [h.un]
  rfl

theorem done_pend (s : St) (i : Int) (xs : List Int) : (doneSt s i xs).pend = upd s.pend i (some xs) := by
  unfold doneSt
  rfl

theorem done_seen {s : St} (h : Un s) (i : Int) (xs : List Int) (j : Int) : seen (doneSt s i xs) j = upd (seen s) i xs j := by
  unfold seen
  rw [done_safe h, done_pend]
  by_cases e : j = i
  · subst e; rw [upd_same, upd_same]; rfl
  · rw [upd_other _ _ _ e, upd_other _ _ _ e]

theorem un_write {s : St} (h : Un s) {i : Int} {xs : List Int} (hl : xs.length = 512) :
    (0 ≤ i ∧ i < 8 ∧ writeOut s i xs = (0, doneSt s i xs)) ∨ ((i < 0 ∨ 8 ≤ i) ∧ writeOut s i xs = (21, s)) := by
  by_cases hi : i < 0 ∨ 8 ≤ i
  · refine .inr ⟨hi, ?_⟩
    have hu : useErr s i = 21 := by unfold useErr; rw [h.on, h.b]; simp [hi]
    unfold writeOut
    rw [hu]
    simp
  · exact .inl ⟨by omega, by omega, writeOut_ok h.on (by omega) (by rw [h.b]; omega) hl (un_due h)⟩

theorem un_bar {s : St} (h : Un s) : barOut s = (0, allSafe s) := by
  unfold barOut
  rw [h.on, un_due h]
  simp

theorem un_allSafe {s : St} (h : Un s) : Un (allSafe s) := by
  unfold allSafe
  exact ⟨by rw [settleN_blocks]; exact h.b, by rw [settleN_off]; exact h.on, by rw [settleN_armed]; exact h.un⟩

theorem un_fresh : Un (freshSt 8) := ⟨rfl, rfl, rfl⟩

theorem un_use {s : St} (h : Un s) {i : Int} (h0 : 0 ≤ i) (h1 : i < 8) : useErr s i = 0 := by
  unfold useErr; rw [h.on, h.b]; simp; omega

end Go.Proofs.YtckcdmkgmbicfaaGreat
