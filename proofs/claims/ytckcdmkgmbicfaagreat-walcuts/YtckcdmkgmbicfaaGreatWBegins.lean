/- The contract of the law's begins: a beginning of the records that holds all that are safe. -/
import Derived.Test.YtckcdmkgmbicfaaGreatMW1
namespace Go.Proofs.YtckcdmkgmbicfaaGreat
open Go.RowKit
set_option linter.unusedVariables false
set_option linter.unusedSimpArgs false
set_option maxRecDepth 4000

theorem RdR.take {B : List Nat} {w : World} {a : Option Addr} {n cap : Nat} {l : List Rc} (h : RdR B w (.slice a n cap) l) (k : Nat) (hk : k ≤ l.length) : RdR B w (.slice a k cap) (l.take k) := by
  obtain ⟨a', c', e, h1, h2, h3, h4⟩ := h
  simp only [Value.slice.injEq] at e
  obtain ⟨rfl, rfl, rfl⟩ := e
  have hl : (l.take k).length = k := by rw [List.length_take]; omega
  refine ⟨a, cap, by rw [hl], by rw [hl]; omega, h2, h3, fun hp => ?_⟩
  rw [hl] at hp
  obtain ⟨b, off, rfl, hb, hB, hc⟩ := h4 (by omega)
  refine ⟨b, off, rfl, hb, hB, fun i x hx => hc i x ?_⟩
  rw [List.getElem?_take] at hx
  split at hx
  · exact hx
  · cases hx

set_option maxHeartbeats 4000000 in
theorem begins_eq {w : World} {p k : Nat} {S B : List Nat} {s : Lg} {a : Option Addr} {cap : Nat} (H : LgAt w p B s) (hk : LgOk s) (hd : s.done ≤ k) (hkl : k ≤ s.recs.length) (hcap : k ≤ cap) (hcm : cap ≤ maxLen) (h : 0 < k → ∃ b off gs, a = some ⟨b, off, none⟩ ∧ RecsOwn w b off gs (s.recs.take k) S) (hSB : ∀ j ∈ S, j ∉ B) :
    Calls Tryz.prog 26 #[.slice a k cap, ptrW p] w fun e w' => e = .returned (.bool true) ∧ Sole S w w' := by
  obtain ⟨al, capl, c0, c1, c2, c3, hp, k1, k2, k3, hR, _⟩ := H.opened
  have hl : (s.recs.take k).length = k := by rw [List.length_take]; omega
  have cc := known_eq (w := w) (rs := s.recs.take k) (S := S) (B := B) (a := a) (cap := cap) (by rw [hl]; exact hcap) hcm (by rw [hl]; exact h) (hR.take k hkl) hSB
  rw [hl] at cc
  have hm := hk.recs
  unfold maxLen at hcm
  obtain ⟨rs, dn, cn, nx⟩ := s
  dsimp only at *
  have d1 : (dn : Int) ≤ k := by omega
  have d2 : (k : Int) ≤ rs.length := by omega
  unfold ptrW
  clear h hR H hk hl
  generalize rs.length = n at *
  go_enter Tryz.func26, Tryz.ntmps26
  cases al with
  | none =>
    obtain rfl := k3 rfl
    obtain rfl : k = 0 := by omega
    obtain rfl : n = 0 := by omega
    go_wp2_with fail
    refine cc.mono ?_
    rintro e w1 ⟨rfl, hS⟩
    go_wp2
    go_ret
    exact ⟨rfl, hS⟩
  | some ad =>
    go_wp2_with fail
    refine cc.mono ?_
    rintro e w1 ⟨rfl, hS⟩
    go_wp2
    go_ret
    exact ⟨rfl, hS⟩

end Go.Proofs.YtckcdmkgmbicfaaGreat
