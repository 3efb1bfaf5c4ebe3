/- The contracts of the document's fixed and block. -/
import Derived.Test.YtanbjdcffcnfgaaQHead
import Derived.Test.YtanbjdcffcnfgaaRefFixed
import Derived.Test.YtanbjdcffcnfgaaRefSeal
namespace Go.Proofs.Ytanbjdcffcnfgaa
open Go.RowKit
set_option linter.unusedVariables false
set_option linter.unusedSimpArgs false
set_option maxRecDepth 4000

theorem fix_eq {x : Int} {k : Nat} (h0 : 0 ≤ x) (h1 : 1 ≤ k) (h8 : k ≤ 8) (hx : x < 2 ^ (8 * k)) : fixE x k = 0 ∧ fixL x k = fixB x.toNat k ∧ x < 2 ^ 64 := by
  have h64 : x < 2 ^ 64 := Int.lt_of_lt_of_le hx (by
    have : (2 : Nat) ^ (8 * k) ≤ 2 ^ 64 := Nat.pow_le_pow_right (by decide) (by omega)
    exact_mod_cast this)
  have hE : fixE x k = 0 := by
    unfold fixE
    rw [if_neg (by omega), Int.toNat_natCast, if_neg]
    rw [Int.ediv_eq_zero_of_lt h0 hx]; decide
  exact ⟨hE, by unfold fixL; rw [hE, Int.toNat_natCast]; rfl, h64⟩

theorem kfix_own (w : World) (base : Nat) (v : Value) (xs : List Int) (x : Int) (k : Nat) (h0 : 0 ≤ x) (h1 : 1 ≤ k) (h8 : k ≤ 8) (hx : x < 2 ^ (8 * k)) (ho : Own w base v xs) (hb : base ≤ w.heap.size) (hl : xs.length ≤ 100000) :
    Calls Try.prog 31 #[v, .int .u64 x, .int .i64 k] w fun e w' => ∃ u, e = .returned u ∧ Own w' base u (xs ++ fixB x.toNat k) ∧ Below base w w' := by
  obtain ⟨e1, e2, h64⟩ := fix_eq h0 h1 h8 hx
  have hf := refFixed_any w x k h0 h64
  rw [e1, e2] at hf
  have hlen : (fixB x.toNat k).length = k := fixB_length _ _
  generalize fixB x.toNat k = F at *
  clear e1 e2
  go_enter Try.func31, Try.ntmps31
  go_wp2_with fail
  refine hf.mono ?_
  rintro e w1 ⟨u1, rfl, ho1, hb1⟩
  have ho' := ho.below hb1
  have hr1 := ho1.rd
  have hs1 := hb1.size
  clear ho
  go_wp2_with (at_builtin; refine wpList_append_rd rfl _ _ rfl base _ _ rfl ho' _ _ rfl hr1 ?c1 ?c2 ?_)
  case c1 => omega
  case c2 => omega
  intro v2 w2 ho2 hg2
  have hb2 : Below base w1 w2 := below_grown (Below.refl _ _) (by omega) ho' hg2
  clear hg2 ho' hr1
  go_wp2
  go_ret
  exact ⟨_, rfl, ho2, (hb1.mono hb).trans hb2⟩

set_option maxHeartbeats 2000000 in
theorem kfix_full (w : World) (g : Nat) (xs : List Int) (x : Int) (k : Nat) (h0 : 0 ≤ x) (h1 : 1 ≤ k) (h8 : k ≤ 8) (hx : x < 2 ^ (8 * k)) (hr : Rd w (.slice (some ⟨g, 0, none⟩) xs.length xs.length) xs) (hne : xs ≠ []) (hl : xs.length ≤ 100000) :
    Calls Try.prog 31 #[.slice (some ⟨g, 0, none⟩) xs.length xs.length, .int .u64 x, .int .i64 k] w fun e w' => ∃ u, e = .returned u ∧ Own w' w.heap.size u (xs ++ fixB x.toNat k) ∧ Below w.heap.size w w' := by
  obtain ⟨e1, e2, h64⟩ := fix_eq h0 h1 h8 hx
  have hf := refFixed_any w x k h0 h64
  rw [e1, e2] at hf
  have hlen : (fixB x.toNat k).length = k := fixB_length _ _
  generalize fixB x.toNat k = F at *
  clear e1 e2
  go_enter Try.func31, Try.ntmps31
  go_wp2_with fail
  refine hf.mono ?_
  rintro e w1 ⟨u1, rfl, ho1, hb1⟩
  have hr0 := hr.below hb1
  have hr1 := ho1.rd
  obtain ⟨g1, c1, rfl, _, _⟩ := ho1.open (by omega)
  obtain ⟨i, hi, hz0, hz1, hz2⟩ := info_parts Try.info5
  have hcellsOf : ∀ (b : Nat) (n c : Nat) (ys : List Int), Rd w1 (.slice (some ⟨b, 0, none⟩) n c) ys → ∀ j u, (ys.map (Value.int .u8))[j]? = some u → w1.cell? ((⟨b, 0, none⟩ : Addr).add j) = some u := fun b n c ys h j u hj => by
    have hj' : j < ys.length := by
      rcases Nat.lt_or_ge j ys.length with h | h
      · exact h
      · rw [List.getElem?_eq_none (by simpa using h)] at hj; cases hj
    obtain ⟨a, cap, e, _, _, _, h3⟩ := h
    obtain ⟨b', off, e', hlt, hc⟩ := h3 (by intro e; subst e; simp at hj')
    simp only [Value.slice.injEq] at e
    obtain ⟨ea, _, _⟩ := e
    rw [e'] at ea
    simp only [Option.some.injEq, Addr.mk.injEq] at ea
    obtain ⟨rfl, rfl, _⟩ := ea
    have hadd : (⟨b, 0, none⟩ : Addr).add j = ⟨b, 0 + j, none⟩ := by unfold Addr.add; split <;> simp_all
    rw [hadd, hc j hj', ← hj]
    simp [List.getElem?_eq_getElem hj']
  have hap := run_append_grow (P := Try.prog) w1 28 28 5 i (.int .u8 0) Try.underlying28 hi hz0 ⟨g, 0, none⟩ xs.length xs.length (xs.map (Value.int .u8)) (by rw [hz1]; simp) (hcellsOf _ _ _ _ hr0) ⟨g1, 0, none⟩ F.length c1 (F.map (Value.int .u8)) (by rw [hz1]; simp) (hcellsOf _ _ _ _ hr1) (by omega) (by omega) (by rw [hz2]; exact growslice_fits (by omega) (by omega))
  have hge := grownCap_ge w1 (xs.length + F.length) xs.length 5
  have hle := grownCap_le_maxLen w1 (xs.length + F.length) xs.length 5 (by unfold maxLen; omega)
  generalize grownCap w1 (xs.length + F.length) xs.length 5 = C at *
  have hbA : Below w1.heap.size w1 (w1.drew.alloc (.cells ((xs.map (Value.int .u8)).toArray ++ (F.map (Value.int .u8)).toArray ++ Builtin.zeroCells (Value.int .u8 0).cells (C - (xs.length + F.length))) 5)) := (Below.refl _ w1).drew.alloc (Nat.le_refl _) _
  have hoA : Own (w1.drew.alloc (.cells ((xs.map (Value.int .u8)).toArray ++ (F.map (Value.int .u8)).toArray ++ Builtin.zeroCells (Value.int .u8 0).cells (C - (xs.length + F.length))) 5)) w.heap.size (.slice (some ⟨w1.heap.size, 0, none⟩) (xs.length + F.length) C) (xs ++ F) := by
    unfold Own
    rw [List.length_append]
    refine ⟨by simp, .inr ⟨w1.heap.size, C, _, rfl, hb1.size, heap_alloc_new w1.drew _, hge, hle, ?_, ?_⟩⟩
    · simp [Builtin.zeroCells, Value.cells]; omega
    · simp only [Array.toList_append, List.map_append]
      rw [Nat.mul_one, List.take_left' (by simp)]
  clear hcellsOf hr0 hr1 ho1
  generalize w1.drew.alloc (.cells ((xs.map (Value.int .u8)).toArray ++ (F.map (Value.int .u8)).toArray ++ Builtin.zeroCells (Value.int .u8 0).cells (C - (xs.length + F.length))) 5) = W3 at hap hoA hbA
  rw [hlen] at hap hoA ⊢
  clear hlen
  go_wp2_with (at_builtin; refine wpList_append_run rfl _ _ rfl rfl _ _ rfl rfl _ _ hap ?_)
  clear hap
  go_ret
  exact ⟨_, rfl, hoA, hb1.trans (hbA.mono hb1.size)⟩

def lenOfV : Value → Nat
  | .slice _ n _ => n
  | _ => 0

theorem own_form {w : World} {base : Nat} {v : Value} {xs : List Int} (h : Own w base v xs) : ∃ a c, v = .slice a xs.length c := by
  rcases h.2 with ⟨e, h0⟩ | ⟨g, cap, cur, e, _⟩
  · exact ⟨none, 0, by rw [e, h0]⟩
  · exact ⟨_, _, e⟩

theorem zeros_next (xs : List Int) (j : Nat) : xs ++ List.replicate (j + 1) 0 = (xs ++ List.replicate j 0) ++ [0] := by
  rw [List.append_assoc, ← List.replicate_succ']

set_option maxHeartbeats 1000000 in
theorem kblock_any (w : World) (base : Nat) (v : Value) (xs : List Int) (ho : Own w base v xs) (hy : Byt xs) (hb : base ≤ w.heap.size) (hl : xs.length ≤ 508) :
    Calls Try.prog 30 #[v] w fun e w' => ∃ u, e = .returned u ∧ Own w' base u (sealed (padL xs)) ∧ Below base w w' := by
  have hpy := padL_byt hy
  have hpl := padL_length hl
  go_enter Try.func30, Try.ntmps30
  go_wp2
  obtain ⟨a0, c0, e0⟩ := own_form ho
  subst e0
  go_loopw [0] (fun u wr => ∃ (j : Nat) (a : Option Addr) (c : Nat), xs.length + j ≤ 508 ∧ u = .slice a (xs.length + j : Nat) c ∧ Own wr base (.slice a (xs.length + j : Nat) c) (xs ++ List.replicate j 0) ∧ Below base w wr ∧ base ≤ wr.heap.size) (fun u _ => 508 - lenOfV u)
  case atStart => exact ⟨0, a0, c0, by omega, rfl, by simpa using ho, Below.refl _ _, hb⟩
  case round =>
    clear ho
    obtain ⟨j, a, c, hj, rfl, hoj, hbj, hbs⟩ := hrel
    have hln : (xs ++ List.replicate j 0).length = xs.length + j := by simp
    obtain ⟨wA, hA⟩ : ∃ wA, wA = wr := ⟨_, rfl⟩
    subst hA
    by_cases hlt : xs.length + j < 508
    · have hbB : Below wA.heap.size wA (wA.alloc (.cells #[.int .u8 0] 5)) := (Below.refl _ _).alloc (Nat.le_refl _) _
      have hrB : Rd (wA.alloc (.cells #[.int .u8 0] 5)) (.slice (some ⟨wA.heap.size, 0, none⟩) 1 1) [0] := Rd.laid rfl (by decide) rfl
      have hoB := hoj.below hbB
      have hsB := hbB.size
      have hnx := zeros_next xs j
      clear hoj
      generalize xs ++ List.replicate j 0 = L at *
      have hltI : ((xs.length + j : Nat) : Int) < 508 := by omega
      generalize hnn : xs.length = n at *
      clear hnn
      go_wp2_with (at_builtin; refine wpList_append_rd rfl _ _ rfl base _ _ rfl hoB _ _ rfl hrB ?c1 ?c2 ?_)
      case c1 => simp; omega
      case c2 => omega
      intro v2 w2 ho2 hg2
      have hb2 : Below base wA w2 := below_grown (hbB.mono hbs) (by omega) hoB hg2
      rw [← hnx] at ho2
      have hsz2 : base ≤ w2.heap.size := Nat.le_trans hbs hb2.size
      obtain ⟨a2, c2, e2⟩ := own_form ho2
      rw [show (xs ++ List.replicate (j + 1) (0 : Int)).length = n + (j + 1) from by rw [hnx, List.length_append, hln]; rfl] at e2
      subst e2
      clear hg2 hoB hrB
      go_wp2_with fail
      go_roundw
      case rel => exact ⟨j + 1, a2, c2, by omega, rfl, ho2, hbj.trans hb2, hsz2⟩
      case measure => simp only [lenOfV]; omega
    · have hj8 : j = 508 - xs.length := by omega
      subst hj8
      have hltI : ¬ (((xs.length + (508 - xs.length) : Nat) : Int)) < 508 := by omega
      have hpad : xs ++ List.replicate (508 - xs.length) 0 = padL xs := rfl
      rw [hpad] at hoj
      have hsl := refSeal_any wA _ _ hoj.rd hpy (by omega)
      have e8 : xs.length + (508 - xs.length) = 508 := by omega
      rw [e8] at hsl hoj ⊢
      clear hlt hln hpad hltI e8
      go_wp2_with fail
      refine hsl.mono ?_
      rintro e w2 ⟨u2, rfl, ho2, hb2⟩
      go_wp2
      go_ret
      exact ⟨_, rfl, ho2.mono hbs, hbj.trans (hb2.mono hbs)⟩

end Go.Proofs.Ytanbjdcffcnfgaa
