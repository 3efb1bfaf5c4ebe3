/- What the chapter's examples come to. -/
import Derived.Test.YtjfhcbokfbbbhaaDRead
import Derived.Test.YtjfhcbokfbbbhaaFull
namespace Go.Proofs.Ytjfhcbokfbbbhaa
open Go.RowKit Go.Maps
set_option linter.unusedVariables false

theorem keysOf_eq {M : Int → Option (List Int)} {l : List Int} (hr : l.Pairwise (· < ·)) (hb : ∀ i ∈ l, 0 ≤ i ∧ i < 1024) (hm : ∀ i, i ∈ l ↔ (M i).isSome = true) : keysOf M = l := by
  have hn : l.Nodup := hr.imp (fun h e => by omega)
  have hp : (keysOf M).Perm l := (List.perm_ext_iff_of_nodup (keysOf_nodup M) hn).2 (fun i => by
    rw [mem_keysOf (fun i c hc => hb i ((hm i).2 (by rw [hc]; rfl))) i, hm i])
  exact List.Perm.eq_of_pairwise (le := fun a b : Int => a ≤ b) (fun a b _ _ h1 h2 => Int.le_antisymm h1 h2) ((keysOf_rising M).imp (fun h => Int.le_of_lt h)) (hr.imp (fun h => Int.le_of_lt h)) hp

theorem writeOut_ok {s : St} {i : Int} {xs : List Int} (ho : s.off = false) (h0 : 0 ≤ i) (h1 : i < s.blocks) (hl : xs.length = 512) (hd : due s = false) : writeOut s i xs = (0, doneSt s i xs) := by
  have hu : useErr s i = 0 := by unfold useErr; rw [ho]; simp; omega
  unfold writeOut
  rw [if_neg (by simpa using hu), if_neg (by simpa using hl), hd]
  rfl

theorem fullB_len (v : Int) : (fullB v).length = 512 := (fullB_blk v).1

def lv0 : St := freshSt 4
def lv1 : St := doneSt lv0 1 (fullB 7)
def lv2 : St := doneSt lv1 3 (fullB 9)
def lv3 : St := cutSt lv2 ⟨#[0, 1]⟩
def lv4 : St := { lv3 with off := false }
def lv5 : St := armSt lv4 1 ⟨#[]⟩
def lv6 : St := doneSt lv5 2 (fullB 1)
def lv7 : St := cutSt lv6 lv6.mask

theorem lv_w1 : writeOut lv0 1 (fullB 7) = (0, lv1) := writeOut_ok rfl (by decide) (by decide) (fullB_len 7) rfl
theorem lv_w2 : writeOut lv1 3 (fullB 9) = (0, lv2) := writeOut_ok rfl (by decide) (by decide) (fullB_len 9) rfl

theorem lv_keys : keysOf lv2.pend = [1, 3] := by
  refine keysOf_eq (by simp) (by simp) (fun i => ?_)
  show _ ↔ (upd (upd (fun _ => none) 1 (some (fullB 7))) 3 (some (fullB 9)) i).isSome = true
  unfold upd
  by_cases h3 : i = 3
  · simp [h3]
  · by_cases h1 : i = 1
    · simp [h1]
    · simp [h3, h1]

theorem lv3_eq : lv3 = { settleSt (settleSt lv2 1 false) 3 true with off := true, armed := false, left := 0, mask := ⟨#[]⟩ } := by
  unfold lv3 cutSt
  rw [lv_keys]
  rfl

theorem lv4_on : lv4.off = false := rfl
theorem lv4_blocks : lv4.blocks = 4 := by unfold lv4; rw [lv3_eq]; rfl
theorem lv4_use1 : useErr lv4 1 = 0 := by unfold useErr; rw [lv4_on, lv4_blocks]; rfl
theorem lv4_use3 : useErr lv4 3 = 0 := by unfold useErr; rw [lv4_on, lv4_blocks]; rfl
theorem lv4_pend (i : Int) : lv4.pend i = none := by
  unfold lv4; rw [lv3_eq]
  show upd (upd (upd (upd (fun _ => none) 1 (some (fullB 7))) 3 (some (fullB 9))) 1 none) 3 none i = none
  unfold upd
  by_cases h3 : i = 3
  · simp [h3]
  · by_cases h1 : i = 1
    · simp [h1]
    · simp [h3, h1]
theorem lv4_see1 : seen lv4 1 = zeroB := by
  unfold seen; rw [lv4_pend]
  unfold lv4; rw [lv3_eq]
  simp only [settleSt, safeSt, if_true, Bool.false_eq_true, if_false, Option.getD_none]
  rw [upd_other _ _ _ (by decide)]
  simp only [lv2, lv1, lv0, doneSt, countSt, freshSt, Bool.false_eq_true, if_false]
theorem lv4_see3 : seen lv4 3 = fullB 9 := by
  unfold seen; rw [lv4_pend]
  have hp : lv2.pend 3 = some (fullB 9) := by simp only [lv2, doneSt, upd_same]
  unfold lv4; rw [lv3_eq]
  simp only [settleSt, safeSt, if_true, Bool.false_eq_true, if_false, Option.getD_none, upd_same]
  rw [upd_other _ _ _ (by decide), hp, Option.getD_some]

theorem lv5_eq : lv5 = { lv4 with armed := true, left := 1, mask := ⟨#[]⟩ } := by
  unfold lv5 armSt; rw [lv4_on]; simp [lv4_on]

theorem lv_w6 : writeOut lv5 2 (fullB 1) = (0, lv6) := by
  refine writeOut_ok ?_ (by decide) ?_ (fullB_len 1) ?_
  · rw [lv5_eq]; exact lv4_on
  · rw [lv5_eq]; simp only [lv4_blocks]; decide
  · rw [lv5_eq]; simp [due]

theorem lv6_eq : lv6 = { lv4 with armed := true, left := 0, mask := ⟨#[]⟩, writes := wr1 lv4.writes, pend := upd lv4.pend 2 (some (fullB 1)) } := by
  unfold lv6 doneSt countSt; rw [lv5_eq]; simp

theorem lv_bar : barOut lv6 = (20, lv7) := by
  unfold barOut
  have h1 : lv6.off = false := by rw [lv6_eq]; exact lv4_on
  have h2 : due lv6 = true := by rw [lv6_eq]; simp [due]
  rw [h1, h2]; simp [lv7]

theorem lv7_off : lv7.off = true := rfl

theorem settleN_writes (f : Nat → Bool) (s : St) (ks : List Int) : ∀ k, (settleN f s ks k).writes = s.writes
  | 0 => rfl
  | k + 1 => by
    have := settleN_writes f s ks k
    unfold settleN settleSt safeSt
    split <;> exact this

theorem lv7_writes : lv7.writes = 3 := by
  have h2 : lv2.writes = 2 := by simp [lv2, lv1, lv0, doneSt, countSt, freshSt, wr1, wrap64]
  have h4 : lv4.writes = 2 := by unfold lv4; rw [lv3_eq]; simp only [settleSt, safeSt, if_true, Bool.false_eq_true, if_false]; exact h2
  have h6 : lv6.writes = 3 := by rw [lv6_eq]; simp [h4, wr1, wrap64]
  unfold lv7 cutSt
  simp only [settleN_writes]
  exact h6

theorem lv2_on : lv2.off = false := rfl
theorem lv3_off : lv3.off = true := rfl

end Go.Proofs.Ytjfhcbokfbbbhaa
