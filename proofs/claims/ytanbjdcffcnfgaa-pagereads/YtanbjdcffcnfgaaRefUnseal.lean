/- The contract of the document's Unseal. -/
import Derived.Test.YtanbjdcffcnfgaaRefSeal
import Derived.Deep.RegionWith
namespace Go.Proofs.Ytanbjdcffcnfgaa
open Go.RowKit
set_option linter.unusedVariables false
set_option maxRecDepth 4000

set_option maxHeartbeats 400000 in
theorem refUnseal_short (w : World) (a : Option Addr) (n cap : Nat) (hn : n < 4) : Calls Try.prog 59 #[.slice a n cap] w fun e w' => e = .returned (.tuple #[.slice none 0 0, .int .i64 10]) ∧ w = w' := by
  have hn' : (n : Int) < 4 := by omega
  go_enter Try.func59, Try.ntmps59
  go_wp2
  go_ret2
  exact ⟨rfl, rfl⟩

set_option maxHeartbeats 1000000 in
theorem refUnseal_no (w : World) (b off n cap : Nat) (xs body : List Int) (hcap : n + 4 ≤ cap) (hm : cap ≤ maxLen) (hyx : Byt xs) (hy : Byt body)
    (hx : Rd w (.slice (some ⟨b, off, none⟩) (n + 4) cap) xs) (hr : Rd w (.slice (some ⟨b, off, none⟩) n cap) body) (hle : n ≤ 140737488351232) (hq : ((strOfNums (body ++ sealB body)).toList == (strOfNums xs).toList) = false) :
    Calls Try.prog 59 #[.slice (some ⟨b, off, none⟩) (n + 4) cap] w fun e w' => e = .returned (.tuple #[.slice none 0 0, .int .i64 12]) ∧ Below w.heap.size w w' := by
  unfold maxLen at hm
  have hn' : ¬ (n : Int) + 4 < 4 := by omega
  have hrd : Rd w.drew (.slice (some ⟨b, off, none⟩) n cap) body := hr
  have hcx : ∀ W, Below w.heap.size w W → (convert 28 9 (.slice (some ⟨b, off, none⟩) (n + 4) cap)).run Try.prog W = .ok (.string (strOfNums xs)) W := fun W hb => (hx.below hb).conv
  have hcx0 := (show Rd w.drew (.slice (some ⟨b, off, none⟩) (n + 4) cap) xs from hx).conv
  generalize strOfNums xs = sx at *
  generalize hse : strOfNums (body ++ sealB body) = sb at *
  have hsb : Hid _ := hse
  clear hse
  go_enter Try.func59, Try.ntmps59
  go_wp2
  go_region_with (go_at_call 48; refine (refSeal_any _ _ body hrd hy (by rw [rd_length hr]; exact hle)).mono ?_; rintro e w1 ⟨u, rfl, ho1, hb1⟩; have k0 := hcx w1 ((Below.refl _ w).drew.trans hb1); have k1 := (hsb.out ▸ ho1.rd.conv))
  all_goals
    go_wp2
    go_ret2
    exact ⟨rfl, (Below.refl _ w).drew.trans hb1⟩

set_option maxHeartbeats 1000000 in
theorem refUnseal_yes (w : World) (b off n cap : Nat) (xs body : List Int) (hcap : n + 4 ≤ cap) (hm : cap ≤ maxLen) (hyx : Byt xs) (hy : Byt body)
    (hx : Rd w (.slice (some ⟨b, off, none⟩) (n + 4) cap) xs) (hr : Rd w (.slice (some ⟨b, off, none⟩) n cap) body) (hle : n ≤ 140737488351232) (hq : ((strOfNums (body ++ sealB body)).toList == (strOfNums xs).toList) = true) :
    Calls Try.prog 59 #[.slice (some ⟨b, off, none⟩) (n + 4) cap] w fun e w' => ∃ u, e = .returned (.tuple #[u, .int .i64 0]) ∧ Own w' w.heap.size u body ∧ Below w.heap.size w w' := by
  unfold maxLen at hm
  have hn' : ¬ (n : Int) + 4 < 4 := by omega
  have hrd : Rd w.drew (.slice (some ⟨b, off, none⟩) n cap) body := hr
  have hcx : ∀ W, Below w.heap.size w W → (convert 28 9 (.slice (some ⟨b, off, none⟩) (n + 4) cap)).run Try.prog W = .ok (.string (strOfNums xs)) W := fun W hb => (hx.below hb).conv
  have hcx0 := (show Rd w.drew (.slice (some ⟨b, off, none⟩) (n + 4) cap) xs from hx).conv
  generalize strOfNums xs = sx at *
  generalize hse : strOfNums (body ++ sealB body) = sb at *
  have hsb : Hid _ := hse
  clear hse
  go_enter Try.func59, Try.ntmps59
  go_wp2
  go_region_with (go_at_call 48; refine (refSeal_any _ _ body hrd hy (by rw [rd_length hr]; exact hle)).mono ?_; rintro e w1 ⟨u, rfl, ho1, hb1⟩; have k0 := hcx w1 ((Below.refl _ w).drew.trans hb1); have k1 := (hsb.out ▸ ho1.rd.conv))
  all_goals
    have hb2 : Below w.heap.size w w1 := (Below.refl _ w).drew.trans hb1
    have hz2 := hb2.size
    have hr2 := hr.below hb2
    have hl2 := rd_length hr2
    clear k0 k1 hb1 hcx hcx0 hrd ho1
    go_wp2_with (at_builtin; refine wpList_append_rd rfl _ _ rfl w.heap.size _ [] rfl (Own.nil _ _) _ _ rfl hr2 ?c1 ?c2 ?_)
    case c1 => simp; omega
    case c2 => exact hz2
    intro v3 w3 ho3 hg3
    have hb3 := below_grown hb2 hz2 (Own.nil w1 w.heap.size) hg3
    clear hg3
    go_wp2
    go_ret2
    exact ⟨_, rfl, ho3, hb3⟩

theorem refUnseal_any (w : World) (v : Value) (xs : List Int) (h : Rd w v xs) (hy : Byt xs) (hl : xs.length ≤ 140737488351232) :
    Calls Try.prog 59 #[v] w fun e w' => ∃ u, e = .returned (.tuple #[u, .int .i64 (unE xs)]) ∧ Own w' w.heap.size u (unB xs) ∧ Below w.heap.size w w' := by
  obtain ⟨a, cap, rfl, hcap, hm, hnn, hne⟩ := h
  have hx : Rd w (.slice a xs.length cap) xs := ⟨a, cap, rfl, hcap, hm, hnn, hne⟩
  by_cases h4 : xs.length < 4
  · have e1 : unE xs = 10 := if_pos h4
    have e2 : unB xs = [] := by unfold unB; rw [e1]; rfl
    rw [e1, e2]
    refine (refUnseal_short w a _ cap h4).mono ?_
    rintro e w' ⟨rfl, rfl⟩
    exact ⟨_, rfl, Own.nil _ _, Below.refl _ _⟩
  · obtain ⟨b, off, rfl, hbl, hc⟩ := hne (by intro e; subst e; simp at h4)
    have hbody : (bodyB xs).length = xs.length - 4 := by unfold bodyB; simp
    have hn : xs.length = (xs.length - 4) + 4 := by omega
    have hyb : Byt (bodyB xs) := hy.take _
    have hbs := beq_strOf (seal_byt hyb) hy
    generalize hm4 : xs.length - 4 = n at *
    have hr : Rd w (.slice (some ⟨b, off, none⟩) n cap) (bodyB xs) := by
      refine ⟨_, cap, by rw [hbody], by omega, hm, (by intro e; cases e), fun _ => ⟨b, off, rfl, hbl, fun i hi => ?_⟩⟩
      rw [hc i (by omega)]
      unfold bodyB
      rw [hm4]
      simp [show i < n from by omega]
    rw [hn] at hx ⊢
    by_cases hq : tailB xs = sealB (bodyB xs)
    · have e1 : unE xs = 0 := by unfold unE; rw [if_neg h4, if_pos hq]
      have e2 : unB xs = bodyB xs := by unfold unB; rw [e1]; rfl
      rw [e1, e2]
      exact refUnseal_yes w b off n cap xs (bodyB xs) (by omega) hm hy hyb hx hr (by omega) (hbs.trans (decide_eq_true (by rw [← hq]; exact body_tail xs)))
    · have e1 : unE xs = 12 := by unfold unE; rw [if_neg h4, if_neg hq]
      have e2 : unB xs = [] := by unfold unB; rw [e1]; rfl
      rw [e1, e2]
      refine (refUnseal_no w b off n cap xs (bodyB xs) (by omega) hm hy hyb hx hr (by omega) (hbs.trans (decide_eq_false (fun e => hq ?_)))).mono ?_
      · have h1 := body_tail xs
        exact (List.append_cancel_left (e.trans h1.symm)).symm
      · rintro e w' ⟨rfl, hb⟩
        exact ⟨_, rfl, Own.nil _ _, hb⟩

end Go.Proofs.Ytanbjdcffcnfgaa
