/- The contract of the document's Seal. -/
import Derived.Test.YtanbjdcffcnfgaaRefSum
namespace Go.Proofs.Ytanbjdcffcnfgaa
open Go.RowKit
set_option linter.unusedVariables false
set_option maxRecDepth 4000

set_option maxHeartbeats 400000 in
theorem refSeal_any (w : World) (v : Value) (xs : List Int) (h : Rd w v xs) (hy : Byt xs) (hn : xs.length ≤ 140737488351232) : Calls Try.prog 48 #[v] w fun e w' => ∃ u, e = .returned u ∧ Own w' w.heap.size u (xs ++ sealB xs) ∧ Below w.heap.size w w' := by
  have hS := sumS_lt xs hy
  go_enter Try.func48, Try.ntmps48
  go_wp2_with fail
  refine (refSum_any _ _ _ h hy).mono ?_
  rintro e w1 ⟨rfl, rfl⟩
  have HX : Hid (sealB xs = lowRow (sumS xs) 4) := rfl
  generalize sumS xs = S at *
  have hle := Nat.le_refl w.heap.size
  go_wp2_with (at_builtin; refine wpList_append_rd rfl _ _ rfl w.heap.size _ [] rfl (Own.nil _ _) _ _ rfl h ?c1 ?c2 ?_)
  case c1 => simp; omega
  case c2 => exact hle
  intro v2 w2 ho2 hg2
  have hb2 : Below w.heap.size w w2 := below_grown (Below.refl _ _) (Nat.le_refl _) (Own.nil w w.heap.size) hg2
  have hs2 := hb2.size
  clear hg2
  obtain ⟨L, hL⟩ : ∃ L : List Int, L = [(S : Int) % 256, (S : Int) / 256 % 256, (S : Int) / 65536 % 256, (S : Int) / 16777216] := ⟨_, rfl⟩
  have HL : Hid (lowRow S 4 = L) := by rw [hL]; exact low_four S hS
  have hl4 : L.length = 4 := by rw [hL]; rfl
  have hLc : #[Value.int .u8 ((S : Int) % 256), Value.int .u8 ((S : Int) / 256 % 256), Value.int .u8 ((S : Int) / 65536 % 256), Value.int .u8 ((S : Int) / 16777216)].toList = L.map (Value.int .u8) := by rw [hL]; rfl
  have hb3 : Below w2.heap.size w2 (w2.alloc (.cells #[Value.int .u8 ((S : Int) % 256), Value.int .u8 ((S : Int) / 256 % 256), Value.int .u8 ((S : Int) / 65536 % 256), Value.int .u8 ((S : Int) / 16777216)] 5)) := (Below.refl _ _).alloc (Nat.le_refl _) _
  have hr3 : Rd (w2.alloc (.cells #[Value.int .u8 ((S : Int) % 256), Value.int .u8 ((S : Int) / 256 % 256), Value.int .u8 ((S : Int) / 65536 % 256), Value.int .u8 ((S : Int) / 16777216)] 5)) (.slice (some ⟨w2.heap.size, 0, none⟩) 4 4) L := Rd.laid hl4.symm (by decide) hLc
  have ho3 := ho2.below hb3
  have hb4 := hb2.trans (hb3.mono hs2)
  have hs4 := hb4.size
  clear hL hLc hb3
  go_wp2_with (at_builtin; refine wpList_append_rd rfl _ _ rfl w.heap.size _ _ rfl ho3 _ _ rfl hr3 ?c1 ?c2 ?_)
  case c1 => omega
  case c2 => exact hs4
  intro v5 w5 ho5 hg5
  have hb5 := below_grown hb4 hs4 ho3 hg5
  clear hg5 ho3 hr3
  go_wp2
  go_ret
  exact ⟨_, rfl, by rw [HX.out, HL.out]; exact ho5, hb5⟩

end Go.Proofs.Ytanbjdcffcnfgaa
