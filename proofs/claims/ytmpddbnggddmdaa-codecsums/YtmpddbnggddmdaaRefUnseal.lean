/- The contract of the document's Unseal: the same answers as codec's. -/
import Derived.Test.YtmpddbnggddmdaaSums
namespace Go.Proofs.Ytmpddbnggddmdaa
open Go.RowKit
set_option linter.unusedVariables false

set_option maxHeartbeats 400000 in
theorem refUnseal_short (w : World) (a : Option Addr) (n cap : Nat) (hn : n < 4) : Calls Try.prog 22 #[.slice a n cap] w fun e w' => e = .returned (.tuple #[.slice none 0 0, .int .i64 10]) ∧ w = w' := by
  have hn' : (n : Int) < 4 := by omega
  go_enter Try.func22, Try.ntmps22
  go_wp2
  go_ret2
  exact ⟨rfl, rfl⟩

theorem strOf_inj {a b : List Int} (ha : Byt a) (hb : Byt b) (h : strOfNums a = strOfNums b) : a = b := by
  have : toU a = toU b := by
    have := congrArg (fun s : ByteArray => s.data.toList) h
    simpa [strOfNums_data, toU] using this
  exact toU_inj a b ha hb this

set_option maxHeartbeats 1000000 in
theorem refUnseal_no (w : World) (b off n cap : Nat) (xs body : List Int) (hcap : n + 4 ≤ cap) (hm : cap ≤ maxLen) (hyx : Byt xs) (hy : Byt body)
    (hx : Rd w (.slice (some ⟨b, off, none⟩) (n + 4) cap) xs) (hr : Rd w (.slice (some ⟨b, off, none⟩) n cap) body) (hle : n ≤ 140737488351232) (hq : ((strOfNums (body ++ sealB body)).toList == (strOfNums xs).toList) = false) :
    Calls Try.prog 22 #[.slice (some ⟨b, off, none⟩) (n + 4) cap] w fun e w' => e = .returned (.tuple #[.slice none 0 0, .int .i64 12]) ∧ Below w.heap.size w w' := by
  unfold maxLen at hm
  have hn' : ¬ (n : Int) + 4 < 4 := by omega
  have hrd : Rd w.drew (.slice (some ⟨b, off, none⟩) n cap) body := hr
  have hcx : ∀ W, Below w.heap.size w W → (convert 23 9 (.slice (some ⟨b, off, none⟩) (n + 4) cap)).run Try.prog W = .ok (.string (strOfNums xs)) W := fun W hb => (hx.below hb).conv
  have hcx0 := (show Rd w.drew (.slice (some ⟨b, off, none⟩) (n + 4) cap) xs from hx).conv
  generalize strOfNums xs = sx at *
  generalize hse : strOfNums (body ++ sealB body) = sb at *
  have hsb : Hid _ := hse
  clear hse
  go_enter Try.func22, Try.ntmps22
  go_wp2
  go_region_with (go_at_call 25; refine (refSeal_any _ _ body hrd hy (by rw [rd_length hr]; exact hle)).mono ?_; rintro e w1 ⟨u, rfl, ho1, hb1⟩; have k0 := hcx w1 ((Below.refl _ w).drew.trans hb1); have k1 := (hsb.out ▸ ho1.rd.conv))
  all_goals
    go_wp2
    go_ret2
    exact ⟨rfl, (Below.refl _ w).drew.trans hb1⟩

set_option maxHeartbeats 1000000 in
theorem refUnseal_yes (w : World) (b off n cap : Nat) (xs body : List Int) (hcap : n + 4 ≤ cap) (hm : cap ≤ maxLen) (hyx : Byt xs) (hy : Byt body)
    (hx : Rd w (.slice (some ⟨b, off, none⟩) (n + 4) cap) xs) (hr : Rd w (.slice (some ⟨b, off, none⟩) n cap) body) (hle : n ≤ 140737488351232) (hq : ((strOfNums (body ++ sealB body)).toList == (strOfNums xs).toList) = true) :
    Calls Try.prog 22 #[.slice (some ⟨b, off, none⟩) (n + 4) cap] w fun e w' => ∃ u, e = .returned (.tuple #[u, .int .i64 0]) ∧ Own w' w.heap.size u body ∧ Below w.heap.size w w' := by
  unfold maxLen at hm
  have hn' : ¬ (n : Int) + 4 < 4 := by omega
  have hrd : Rd w.drew (.slice (some ⟨b, off, none⟩) n cap) body := hr
  have hcx : ∀ W, Below w.heap.size w W → (convert 23 9 (.slice (some ⟨b, off, none⟩) (n + 4) cap)).run Try.prog W = .ok (.string (strOfNums xs)) W := fun W hb => (hx.below hb).conv
  have hcx0 := (show Rd w.drew (.slice (some ⟨b, off, none⟩) (n + 4) cap) xs from hx).conv
  generalize strOfNums xs = sx at *
  generalize hse : strOfNums (body ++ sealB body) = sb at *
  have hsb : Hid _ := hse
  clear hse
  go_enter Try.func22, Try.ntmps22
  go_wp2
  go_region_with (go_at_call 25; refine (refSeal_any _ _ body hrd hy (by rw [rd_length hr]; exact hle)).mono ?_; rintro e w1 ⟨u, rfl, ho1, hb1⟩; have k0 := hcx w1 ((Below.refl _ w).drew.trans hb1); have k1 := (hsb.out ▸ ho1.rd.conv))
  all_goals
    have hb2 : Below w.heap.size w w1 := (Below.refl _ w).drew.trans hb1
    have hz2 := hb2.size
    have hr2 := hr.below hb2
    have hl2 := rd_length hr2
    clear k0 k1 hb1 hcx hcx0 hrd ho1
    go_wp2_with (at_builtin; refine wpList_append_rd rfl _ _ rfl w.heap.size _ [] rfl (Own.nil _ _) _ _ rfl hr2 ?c1 ?c2 ?_)
    case c1 => simp; omega
    case c2 => exact hz2
    intro v3 w3 ho3 hg3
    have hb3 := below_grown hb2 hz2 (Own.nil w1 w.heap.size) hg3
    clear hg3
    go_wp2
    go_ret2
    exact ⟨_, rfl, ho3, hb3⟩

end Go.Proofs.Ytmpddbnggddmdaa
