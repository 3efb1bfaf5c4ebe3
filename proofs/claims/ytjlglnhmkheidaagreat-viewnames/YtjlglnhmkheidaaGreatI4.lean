/- JChk, JSmall, ILive, ILaw, IMath: in one text. -/
import Derived.Test.YtjlglnhmkheidaaGreatI1
import Derived.Test.YtjlglnhmkheidaaGreatI3
import Derived.Test.YtjlglnhmkheidaaGreatI2
import Derived.Test.YtjlglnhmkheidaaGreatM2
import Derived.Test.YtjlglnhmkheidaaGreatIEncode
namespace Go.Proofs.YtjlglnhmkheidaaGreat
open Go.RowKit
set_option linter.unusedVariables false
set_option linter.unusedSimpArgs false
set_option maxRecDepth 4000

set_option maxHeartbeats 1000000 in
theorem refCheck_m01 (w : World) (m l s : Int) (hm : m < 0) : Calls Tryz.prog 82 #[.agg #[.int .i64 1, .int .i64 m, .int .i64 l, .int .i64 s]] w fun e w' => e = .returned (.int .i64 11) ∧ Below w.heap.size w w' := by
  go_enter Tryz.func82, Tryz.ntmps82
  go_wp2
  go_ret
  exact ⟨rfl, (Below.refl _ w).alloc (Nat.le_refl _) _⟩

set_option maxHeartbeats 1000000 in
theorem refCheck_m02 (w : World) (m l s : Int) (hm : m < 0) : Calls Tryz.prog 82 #[.agg #[.int .i64 2, .int .i64 m, .int .i64 l, .int .i64 s]] w fun e w' => e = .returned (.int .i64 11) ∧ Below w.heap.size w w' := by
  go_enter Tryz.func82, Tryz.ntmps82
  go_wp2
  go_ret
  exact ⟨rfl, (Below.refl _ w).alloc (Nat.le_refl _) _⟩

set_option maxHeartbeats 1000000 in
theorem refCheck_m0k (w : World) (k m l s : Int) (hm : m < 0) (h1 : k ≠ 1) (h2 : k ≠ 2) : Calls Tryz.prog 82 #[.agg #[.int .i64 k, .int .i64 m, .int .i64 l, .int .i64 s]] w fun e w' => e = .returned (.int .i64 11) ∧ Below w.heap.size w w' := by
  go_enter Tryz.func82, Tryz.ntmps82
  go_wp2
  go_ret
  exact ⟨rfl, (Below.refl _ w).alloc (Nat.le_refl _) _⟩

set_option maxHeartbeats 1000000 in
theorem refCheck_m11 (w : World) (m l s : Int) (hm : 511 < m) : Calls Tryz.prog 82 #[.agg #[.int .i64 1, .int .i64 m, .int .i64 l, .int .i64 s]] w fun e w' => e = .returned (.int .i64 11) ∧ Below w.heap.size w w' := by
  go_enter Tryz.func82, Tryz.ntmps82
  go_wp2
  go_ret
  exact ⟨rfl, (Below.refl _ w).alloc (Nat.le_refl _) _⟩

set_option maxHeartbeats 1000000 in
theorem refCheck_m12 (w : World) (m l s : Int) (hm : 511 < m) : Calls Tryz.prog 82 #[.agg #[.int .i64 2, .int .i64 m, .int .i64 l, .int .i64 s]] w fun e w' => e = .returned (.int .i64 11) ∧ Below w.heap.size w w' := by
  go_enter Tryz.func82, Tryz.ntmps82
  go_wp2
  go_ret
  exact ⟨rfl, (Below.refl _ w).alloc (Nat.le_refl _) _⟩

set_option maxHeartbeats 1000000 in
theorem refCheck_m1k (w : World) (k m l s : Int) (hm : 511 < m) (h1 : k ≠ 1) (h2 : k ≠ 2) : Calls Tryz.prog 82 #[.agg #[.int .i64 k, .int .i64 m, .int .i64 l, .int .i64 s]] w fun e w' => e = .returned (.int .i64 11) ∧ Below w.heap.size w w' := by
  go_enter Tryz.func82, Tryz.ntmps82
  go_wp2
  go_ret
  exact ⟨rfl, (Below.refl _ w).alloc (Nat.le_refl _) _⟩

set_option maxHeartbeats 1000000 in
theorem refCheck_a (w : World) (m l s : Int) (hm0 : 0 ≤ m) (hm1 : m ≤ 511) (hl : l < 1) : Calls Tryz.prog 82 #[.agg #[.int .i64 1, .int .i64 m, .int .i64 l, .int .i64 s]] w fun e w' => e = .returned (.int .i64 11) ∧ Below w.heap.size w w' := by
  go_enter Tryz.func82, Tryz.ntmps82
  go_wp2
  go_ret
  exact ⟨rfl, (Below.refl _ w).alloc (Nat.le_refl _) _⟩

set_option maxHeartbeats 1000000 in
theorem refCheck_b (w : World) (m l s : Int) (hm0 : 0 ≤ m) (hm1 : m ≤ 511) (hl0 : 1 ≤ l) (hl : 15 < l) : Calls Tryz.prog 82 #[.agg #[.int .i64 1, .int .i64 m, .int .i64 l, .int .i64 s]] w fun e w' => e = .returned (.int .i64 11) ∧ Below w.heap.size w w' := by
  go_enter Tryz.func82, Tryz.ntmps82
  go_wp2
  go_ret
  exact ⟨rfl, (Below.refl _ w).alloc (Nat.le_refl _) _⟩

set_option maxHeartbeats 1000000 in
theorem refCheck_c (w : World) (m l s : Int) (hm0 : 0 ≤ m) (hm1 : m ≤ 511) (hl0 : 1 ≤ l) (hl1 : l ≤ 15) (hs : s < 0) : Calls Tryz.prog 82 #[.agg #[.int .i64 1, .int .i64 m, .int .i64 l, .int .i64 s]] w fun e w' => e = .returned (.int .i64 11) ∧ Below w.heap.size w w' := by
  go_enter Tryz.func82, Tryz.ntmps82
  go_wp2
  go_ret
  exact ⟨rfl, (Below.refl _ w).alloc (Nat.le_refl _) _⟩

set_option maxHeartbeats 1000000 in
theorem refCheck_d (w : World) (m l s : Int) (hm0 : 0 ≤ m) (hm1 : m ≤ 511) (hl0 : 1 ≤ l) (hl1 : l ≤ 15) (hs0 : 0 ≤ s) (hs : 512 < s) : Calls Tryz.prog 82 #[.agg #[.int .i64 1, .int .i64 m, .int .i64 l, .int .i64 s]] w fun e w' => e = .returned (.int .i64 11) ∧ Below w.heap.size w w' := by
  have hsd : decide (s ≤ 512) = false := decide_eq_false (by omega)
  go_enter Tryz.func82, Tryz.ntmps82
  go_wp2
  go_ret
  exact ⟨rfl, (Below.refl _ w).alloc (Nat.le_refl _) _⟩

set_option maxHeartbeats 1000000 in
theorem refCheck_e (w : World) (m l s : Int) (hm0 : 0 ≤ m) (hm1 : m ≤ 511) (hl0 : 1 ≤ l) (hl1 : l ≤ 15) (hs0 : 0 ≤ s) (hs : s ≤ 512) : Calls Tryz.prog 82 #[.agg #[.int .i64 1, .int .i64 m, .int .i64 l, .int .i64 s]] w fun e w' => e = .returned (.int .i64 0) ∧ Below w.heap.size w w' := by
  go_enter Tryz.func82, Tryz.ntmps82
  go_wp2
  go_ret
  exact ⟨rfl, (Below.refl _ w).alloc (Nat.le_refl _) _⟩

set_option maxHeartbeats 1000000 in
theorem refCheck_f (w : World) (m l s : Int) (hm0 : 0 ≤ m) (hm1 : m ≤ 511) (hl : l ≠ 1) : Calls Tryz.prog 82 #[.agg #[.int .i64 2, .int .i64 m, .int .i64 l, .int .i64 s]] w fun e w' => e = .returned (.int .i64 11) ∧ Below w.heap.size w w' := by
  go_enter Tryz.func82, Tryz.ntmps82
  go_wp2
  go_ret
  exact ⟨rfl, (Below.refl _ w).alloc (Nat.le_refl _) _⟩

set_option maxHeartbeats 1000000 in
theorem refCheck_g (w : World) (m l s : Int) (hm0 : 0 ≤ m) (hm1 : m ≤ 511) (hl : l = 1) (hs : s ≠ 0) : Calls Tryz.prog 82 #[.agg #[.int .i64 2, .int .i64 m, .int .i64 l, .int .i64 s]] w fun e w' => e = .returned (.int .i64 11) ∧ Below w.heap.size w w' := by
  have hsb : (s == 0) = false := by rw [beq_eq_false_iff_ne]; exact hs
  go_enter Tryz.func82, Tryz.ntmps82
  go_wp2
  go_ret
  exact ⟨rfl, (Below.refl _ w).alloc (Nat.le_refl _) _⟩

set_option maxHeartbeats 1000000 in
theorem refCheck_h (w : World) (m l s : Int) (hm0 : 0 ≤ m) (hm1 : m ≤ 511) (hl : l = 1) (hs : s = 0) : Calls Tryz.prog 82 #[.agg #[.int .i64 2, .int .i64 m, .int .i64 l, .int .i64 s]] w fun e w' => e = .returned (.int .i64 0) ∧ Below w.heap.size w w' := by
  go_enter Tryz.func82, Tryz.ntmps82
  go_wp2
  go_ret
  exact ⟨rfl, (Below.refl _ w).alloc (Nat.le_refl _) _⟩

set_option maxHeartbeats 1000000 in
theorem refCheck_i (w : World) (k m l s : Int) (hm0 : 0 ≤ m) (hm1 : m ≤ 511) (h1 : k ≠ 1) (h2 : k ≠ 2) : Calls Tryz.prog 82 #[.agg #[.int .i64 k, .int .i64 m, .int .i64 l, .int .i64 s]] w fun e w' => e = .returned (.int .i64 11) ∧ Below w.heap.size w w' := by
  go_enter Tryz.func82, Tryz.ntmps82
  go_wp2
  go_ret
  exact ⟨rfl, (Below.refl _ w).alloc (Nat.le_refl _) _⟩


theorem inoE_is (k m l s : Int) : inoE k m l s = if (0 ≤ m ∧ m ≤ 511) ∧ ((k = 1 ∧ (1 ≤ l ∧ l ≤ 15) ∧ 0 ≤ s ∧ s ≤ 512) ∨ (k = 2 ∧ l = 1 ∧ s = 0)) then 0 else 11 := by
  unfold inoE inoOk
  by_cases h1 : k = 1
  · subst h1
    simp [inB]
  · by_cases h2 : k = 2
    · subst h2
      simp [inB]
    · simp [inB, h1, h2]

theorem irefCheck_any (w : World) (k m l s : Int) : Calls Tryz.prog 82 #[.agg #[.int .i64 k, .int .i64 m, .int .i64 l, .int .i64 s]] w fun e w' => e = .returned (.int .i64 (inoE k m l s)) ∧ Below w.heap.size w w' := by
  rw [inoE_is]
  by_cases h1 : k = 1
  · subst h1
    by_cases a : m < 0
    · rw [if_neg (by omega)]; exact refCheck_m01 w m l s a
    · by_cases b : 511 < m
      · rw [if_neg (by omega)]; exact refCheck_m11 w m l s b
      · by_cases c : l < 1
        · rw [if_neg (by omega)]; exact refCheck_a w m l s (by omega) (by omega) c
        · by_cases d : 15 < l
          · rw [if_neg (by omega)]; exact refCheck_b w m l s (by omega) (by omega) (by omega) d
          · by_cases e : s < 0
            · rw [if_neg (by omega)]; exact refCheck_c w m l s (by omega) (by omega) (by omega) (by omega) e
            · by_cases f : 512 < s
              · rw [if_neg (by omega)]; exact refCheck_d w m l s (by omega) (by omega) (by omega) (by omega) (by omega) f
              · rw [if_pos (by omega)]; exact refCheck_e w m l s (by omega) (by omega) (by omega) (by omega) (by omega) (by omega)
  · by_cases h2 : k = 2
    · subst h2
      by_cases a : m < 0
      · rw [if_neg (by omega)]; exact refCheck_m02 w m l s a
      · by_cases b : 511 < m
        · rw [if_neg (by omega)]; exact refCheck_m12 w m l s b
        · by_cases c : l = 1
          · by_cases d : s = 0
            · rw [if_pos (by omega)]; exact refCheck_h w m l s (by omega) (by omega) c d
            · rw [if_neg (by omega)]; exact refCheck_g w m l s (by omega) (by omega) c d
          · rw [if_neg (by omega)]; exact refCheck_f w m l s (by omega) (by omega) c
    · rw [if_neg (by omega)]
      by_cases a : m < 0
      · exact refCheck_m0k w k m l s a h1 h2
      · by_cases b : 511 < m
        · exact refCheck_m1k w k m l s b h1 h2
        · exact refCheck_i w k m l s (by omega) (by omega) h1 h2

set_option maxHeartbeats 1000000 in
/-- The document's 'fixed': a number's bytes behind what stands. -/
theorem refFix_any (w : World) (B : Nat) (v : Value) (xs : List Int) (n : Int) (k : Nat) (ho : Own w B v xs) (hB : B ≤ w.heap.size) (hx : xs.length ≤ 1000) (h1 : 1 ≤ k) (h2 : k ≤ 8) (h0 : 0 ≤ n) (hn : n < 2 ^ (8 * k)) (h63 : n < 2 ^ 63) :
    Calls Tryz.prog 85 #[v, .int .i64 n, .int .i64 k] w fun e w' => ∃ v', e = .returned v' ∧ Own w' B v' (xs ++ fixB n.toNat k) ∧ Below B w w' := by
  have hL := fixL_in n k h1 h2 h0 hn
  have HW : IntKind.u64.wrap n = n := by rw [IntKind.wrap_u64]; omega
  go_enter Tryz.func85, Tryz.ntmps85
  go_wp2_with fail
  refine (refFixed_any _ n k h0 (by omega)).mono ?_
  rintro e w1 ⟨v1, rfl, ho1, hb1⟩
  rw [hL] at ho1
  have ho' := ho.below hb1
  have hsz := hb1.size
  go_wp2_with (at_builtin; refine wpList_append_rd rfl _ _ rfl B _ _ rfl ho' _ _ rfl ho1.rd ?c1 ?c2 ?_)
  case c1 => rw [fixB_length]; omega
  case c2 => omega
  intro v3 w3 ho3 hg3
  go_wp2
  go_ret
  exact ⟨_, rfl, ho3, below_grown (hb1.mono hB) (by omega) ho' hg3⟩

set_option maxHeartbeats 1000000 in
theorem refNum_any (w : World) (s : ByteArray) (hs : s.size ≤ 4) : Calls Tryz.prog 61 #[.string s] w fun e w' => e = .returned (.int .i64 (valB (strB s))) ∧ w = w' := by
  have hlen := strB_length s
  have hy := strB_byt s
  go_enter Tryz.func61, Tryz.ntmps61
  go_wp2
  go_loop [3, 4] (fun n t => ∃ i : Nat, i ≤ s.size ∧ t = .int .i64 i ∧ n = .int .i64 (valB ((strB s).take i))) (fun _ t => s.size - (intOf t).toNat)
  case atStart => exact ⟨0, Nat.zero_le _, rfl, rfl⟩
  case round =>
    obtain ⟨i, hi, rfl, rfl⟩ := hrel
    by_cases hlt : i < s.size
    · have hV := valB_small ((strB s).take i) (hy.take i) 4 (by simp; omega) (by omega)
      have hsu := valB_succ (strB s) i (by omega)
      have hb : ((strB s).getD i 0) = ((s[i]'hlt).toNat : Int) := by
        rw [List.getD_eq_getElem?_getD, List.getElem?_eq_getElem (by omega)]
        simp [strB]
        rfl
      rw [hb, Int.toNat_natCast] at hsu
      have hbl := (s[i]'hlt).toNat_lt
      have HS : Hid (valB ((strB s).take (i + 1)) = valB ((strB s).take i) * 256 + (s[i]'hlt).toNat) := hsu
      generalize valB ((strB s).take i) = V at *
      clear hb hsu hy hlen
      go_wp2
      go_round
      case rel => exact ⟨i + 1, by omega, by go_num, by rw [HS.out]; go_num⟩
      case measure => simp [intOf]; omega
    · obtain rfl : i = s.size := by omega
      have HT : Hid ((strB s).take s.size = strB s) := by unfold Hid; rw [← hlen, List.take_length]
      rw [HT.out]
      go_wp2
      go_ret
      exact ⟨rfl, rfl⟩

def exR : It := ⟨1, 6, 1, 258, 0, zeroC⟩
def exT : It := ⟨0, 0, 0, 0, 7, zeroC⟩

theorem exR_ok : ItOk exR := ⟨⟨by decide, by decide, by decide, by decide, by decide, by decide, by decide, by decide⟩, by decide, by decide, ch_zero⟩
theorem exT_ok : ItOk exT := ⟨⟨by decide, by decide, by decide, by decide, by decide, by decide, by decide, by decide⟩, by decide, by decide, ch_zero⟩
theorem exR_enc : encE 1 exR = 0 ∧ encS 1 exR = ⟨#[1, 0, 6, 1, 1, 2]⟩ := by
  obtain ⟨e1, e2⟩ := enc_yes (p := 1) (by decide) (x := exR) (by decide)
  exact ⟨e1, e2.trans (by decide)⟩
theorem exT_enc : encE 2 exT = 0 ∧ encS 2 exT = ⟨#[0, 0, 0, 7]⟩ := by
  obtain ⟨e1, e2⟩ := enc_yes (p := 2) (by decide) (x := exT) (by decide)
  exact ⟨e1, e2.trans (by decide)⟩
theorem exR_dec : decE 1 ⟨#[1, 0, 6, 1, 1, 2]⟩ = 0 ∧ decI 1 ⟨#[1, 0, 6, 1, 1, 2]⟩ = exR := by
  obtain ⟨e1, e2⟩ := dec_yes (p := 1) (by decide) (s := ⟨#[1, 0, 6, 1, 1, 2]⟩) (by decide)
  exact ⟨e1, e2.trans rfl⟩

/-- A load, guarded or not, whose outcome is told. -/
theorem iloadG {ops : Array Oper} {rest : List Oper} {o : Oper} {a : Act} {w : World} {Q : Exit → Act → World → Prop} (hw : Region.wanted o (yielded ops a.tmps) = true) (ty : TypeId) (x : Operand) (ho : o.op = .load ty x)
    (q : Addr) (hx : a.eval x = .pointer (some q)) (v : Value) (hl : (Instr.loadAt ty (.pointer (some q))).run Tryz.prog w = .ok v w)
    (h : wpList Tryz.prog ops Q rest (a.put o.dst v) w) : wpList Tryz.prog ops Q (o :: rest) a w :=
  BigFrame.wpList_want hw fun K hK => by
    unfold Oper.wp execOp
    simp only [ho, hx, hl, Sem.run_bind, Sem.run_pure, Result.andThen_ok]
    exact hK _ _ h

/-- A chunk lies in the block 'g', a variable of its own. -/
structure IChAt (w : World) (g : Nat) (b : List Int) : Prop where
  row : w.heap[g]? = some (.cells (bytesV b) 43 (0, 0))
theorem IChAt.lt {w : World} {g : Nat} {b : List Int} (h : IChAt w g b) : g < w.heap.size := (Array.getElem?_eq_some_iff.1 h.row).1
theorem IChAt.below {w w' : World} {g : Nat} {b : List Int} (h : IChAt w g b) (hb : Below w.heap.size w w') : IChAt w' g b := ⟨(hb.block g h.lt).trans h.row⟩
theorem IChAt.load {w : World} {g : Nat} {b : List Int} (h : IChAt w g b) (hb : b.length = 32) : (Instr.loadAt 43 (.pointer (some ⟨g, 0, none⟩))).run Tryz.prog w = .ok (.agg (bytesV b)) w := by
  have hl := run_loadVar_row (P := Tryz.prog) w g _ 43 (bytesV b) _ _ h.row Tryz.underlying43 rfl (by rw [bytesV_size, hb]; exact size_chunk)
  simp only [Instr.loadAt, Instr.sureAddr, Sem.run_bind, Sem.run_pure, Result.andThen_ok, hl]

/-- An inode lies in the block 'g', a variable of its own. -/
structure InAt (w : World) (g : Nat) (k m l s : Int) : Prop where
  row : w.heap[g]? = some (.cells #[.int .i64 k, .int .i64 m, .int .i64 l, .int .i64 s] 42 (0, 0))
theorem InAt.lt {w : World} {g : Nat} {k m l s : Int} (h : InAt w g k m l s) : g < w.heap.size := (Array.getElem?_eq_some_iff.1 h.row).1
theorem InAt.below {w w' : World} {g : Nat} {k m l s : Int} (h : InAt w g k m l s) (hb : Below w.heap.size w w') : InAt w' g k m l s := ⟨(hb.block g h.lt).trans h.row⟩
theorem InAt.load {w : World} {g : Nat} {k m l s : Int} (h : InAt w g k m l s) : (Instr.loadAt 42 (.pointer (some ⟨g, 0, none⟩))).run Tryz.prog w = .ok (.agg #[.int .i64 k, .int .i64 m, .int .i64 l, .int .i64 s]) w := by
  have hl := run_loadVar_row (P := Tryz.prog) w g _ 42 _ _ _ h.row Tryz.underlying42 rfl size_inode
  simp only [Instr.loadAt, Instr.sureAddr, Sem.run_bind, Sem.run_pure, Result.andThen_ok, hl]

theorem ItOk.mk' {k m l s t : Int} {b : List Int} (h : InoOk k m l s) (ht : (Lit.int .u32 t).wf = true) (hb : Ch b) : ItOk ⟨k, m, l, s, t, b⟩ := ⟨h, (bounds_u32 ht).1, (bounds_u32 ht).2, hb⟩

/-! ### What follows of Encode and Decode -/
theorem encOk_iff {p : Int} {x : It} : encOk p x = true ↔ giveI p x = x ∧ standsB p x = true := by
  unfold encOk; rw [Bool.and_eq_true, itEq_iff]

theorem encE_0 {p : Int} {x : It} : encE p x = 0 ↔ wid p ≠ 0 ∧ encOk p x = true := by
  by_cases hp : wid p = 0
  · rw [(enc_arg hp x).1]
    exact ⟨fun h => absurd h (by decide), fun h => absurd hp h.1⟩
  · cases ho : encOk p x with
    | false => rw [(enc_no hp ho).1]; exact ⟨fun h => absurd h (by decide), fun h => absurd h.2 (by decide)⟩
    | true => rw [(enc_yes hp ho).1]; exact ⟨fun _ => ⟨hp, rfl⟩, fun _ => rfl⟩

theorem encE_or {p : Int} (hp : wid p ≠ 0) (x : It) : encE p x = 0 ∨ encE p x = 11 := by
  cases ho : encOk p x with
  | false => exact .inr (enc_no hp ho).1
  | true => exact .inl (enc_yes hp ho).1

theorem fixB1 (N : Nat) : fixB N 1 = [((N % 256 : Nat) : Int)] := by simp [fixB, dig]
theorem fixB2 (N : Nat) : fixB N 2 = [((N / 256 % 256 : Nat) : Int), ((N % 256 : Nat) : Int)] := by simp [fixB, dig, List.range_succ]
theorem fixB4 (N : Nat) : fixB N 4 = [((N / 16777216 % 256 : Nat) : Int), ((N / 65536 % 256 : Nat) : Int), ((N / 256 % 256 : Nat) : Int), ((N % 256 : Nat) : Int)] := by simp [fixB, dig, List.range_succ]

theorem fixB_val1 (xs : List Int) (h : Byt xs) (hl : xs.length = 1) : fixB (valB xs) 1 = xs := by
  match xs, hl with
  | [a], _ =>
    have ha := h a (by simp)
    rw [fixB1]
    simp only [valB, List.foldl_cons, List.foldl_nil]
    congr 1
    omega

theorem fixB_val2 (xs : List Int) (h : Byt xs) (hl : xs.length = 2) : fixB (valB xs) 2 = xs := by
  match xs, hl with
  | [a, b], _ =>
    have ha := h a (by simp)
    have hb := h b (by simp)
    rw [fixB2]
    simp only [valB, List.foldl_cons, List.foldl_nil]
    refine List.cons_eq_cons.2 ⟨by omega, List.cons_eq_cons.2 ⟨by omega, rfl⟩⟩

theorem fixB_val4 (xs : List Int) (h : Byt xs) (hl : xs.length = 4) : fixB (valB xs) 4 = xs := by
  match xs, hl with
  | [a, b, c, d], _ =>
    have ha := h a (by simp)
    have hb := h b (by simp)
    have hc := h c (by simp)
    have hd := h d (by simp)
    rw [fixB4]
    simp only [valB, List.foldl_cons, List.foldl_nil]
    refine List.cons_eq_cons.2 ⟨by omega, List.cons_eq_cons.2 ⟨by omega, List.cons_eq_cons.2 ⟨by omega, List.cons_eq_cons.2 ⟨by omega, rfl⟩⟩⟩⟩

theorem recL_byt (k m l s : Int) : Byt (recL k m l s) := (((fixB_byt _ _).append (fixB_byt _ _)).append (fixB_byt _ _)).append (fixB_byt _ _)
theorem recL_length (k m l s : Int) : (recL k m l s).length = 6 := by simp [recL, fixB_length]

theorem wrL_byt {p : Int} {x : It} (h : ItOk x) : Byt (wrL p x) := by
  unfold wrL
  split
  · exact recL_byt _ _ _ _
  · split
    · exact fixB_byt _ _
    · exact h.ch.2

theorem wrL_length {p : Int} {x : It} (h : ItOk x) (hp : wid p ≠ 0) : ((wrL p x).length : Int) = wid p := by
  rcases wid_cases p with ⟨rfl, hw⟩ | ⟨rfl, hw⟩ | ⟨rfl, hw⟩ | ⟨h1, h2, h3, hw⟩
  · rw [hw, wrL_1, recL_length]; rfl
  · rw [hw, wrL_2, fixB_length]; rfl
  · rw [hw, wrL_3 (by decide) (by decide), h.ch.1]; rfl
  · exact absurd hw hp

/-- What was written is read as what it was. -/
theorem rdI_wrL {p : Int} {x : It} (h : ItOk x) (hp : wid p ≠ 0) (hs : standsB p x = true) : rdI p (wrL p x) = giveI p x := by
  rcases wid_cases p with ⟨rfl, hw⟩ | ⟨rfl, hw⟩ | ⟨rfl, hw⟩ | ⟨h1, h2, h3, hw⟩
  · obtain ⟨⟨k0, k1⟩, ⟨m0, m1⟩, ⟨l0, l1⟩, s0, s1⟩ := inoOk_bounds hs
    rw [rdI_1, giveI_1, wrL_1]
    have e : recL x.kind x.mode x.links x.size = fixB x.kind.toNat 1 ++ (fixB x.mode.toNat 2 ++ (fixB x.links.toNat 1 ++ fixB x.size.toNat 2)) := by simp [recL]
    rw [e]
    have a0 := fixB_length x.kind.toNat 1
    have a1 := fixB_length x.mode.toNat 2
    have a2 := fixB_length x.links.toNat 1
    have a3 := fixB_length x.size.toNat 2
    have b0 := valB_fixB x.kind.toNat 1 (by omega)
    have b1 := valB_fixB x.mode.toNat 2 (by omega)
    have b2 := valB_fixB x.links.toNat 1 (by omega)
    have b3 := valB_fixB x.size.toNat 2 (by omega)
    generalize fixB x.kind.toNat 1 = A0 at *
    generalize fixB x.mode.toNat 2 = A1 at *
    generalize fixB x.links.toNat 1 = A2 at *
    generalize fixB x.size.toNat 2 = A3 at *
    match A0, a0, A1, a1, A2, a2, A3, a3 with
    | [u0], _, [u1, u2], _, [u3], _, [u4, u5], _ =>
      have c0 : valB (List.take 1 ([u0] ++ ([u1, u2] ++ ([u3] ++ [u4, u5])))) = x.kind.toNat := b0
      have c1 : valB (List.take 2 (List.drop 1 ([u0] ++ ([u1, u2] ++ ([u3] ++ [u4, u5]))))) = x.mode.toNat := b1
      have c2 : valB (List.take 1 (List.drop 3 ([u0] ++ ([u1, u2] ++ ([u3] ++ [u4, u5]))))) = x.links.toNat := b2
      have c3 : valB (List.take 2 (List.drop 4 ([u0] ++ ([u1, u2] ++ ([u3] ++ [u4, u5]))))) = x.size.toNat := b3
      rw [c0, c1, c2, c3, Int.toNat_of_nonneg (by omega), Int.toNat_of_nonneg (by omega), Int.toNat_of_nonneg (by omega), Int.toNat_of_nonneg (by omega)]
  · rw [rdI_2, giveI_2, wrL_2, valB_fixB _ _ (by have := h.t0; have := h.t1; omega), Int.toNat_of_nonneg h.t0]
  · rw [rdI_3 (by decide) (by decide), giveI_3 (by decide) (by decide), wrL_3 (by decide) (by decide)]
  · exact absurd hw hp

theorem stands_giveI (p : Int) (x : It) : standsB p (giveI p x) = standsB p x := by
  by_cases h1 : p = 1
  · subst h1; rfl
  · by_cases h2 : p = 2
    · subst h2; rfl
    · rw [stands_3 h1 h2, stands_3 h1 h2]

/-- What is read is written as this value. -/
theorem wrL_rdI {p : Int} {xs : List Int} (h : Byt xs) (hl : (xs.length : Int) = wid p) (hp : wid p ≠ 0) : wrL p (rdI p xs) = xs := by
  rcases wid_cases p with ⟨rfl, hw⟩ | ⟨rfl, hw⟩ | ⟨rfl, hw⟩ | ⟨h1, h2, h3, hw⟩
  · rw [wrL_1, rdI_1]
    rw [hw] at hl
    dsimp only
    unfold recL
    rw [Int.toNat_natCast, Int.toNat_natCast, Int.toNat_natCast, Int.toNat_natCast]
    rw [fixB_val1 _ (h.take 1) (by simp; omega), fixB_val2 _ ((h.drop 1).take 2) (by simp; omega), fixB_val1 _ ((h.drop 3).take 1) (by simp; omega), fixB_val2 _ ((h.drop 4).take 2) (by simp; omega)]
    match xs, hl with
    | [a, b, c, d, e, f], _ => rfl
  · rw [wrL_2, rdI_2]
    rw [hw] at hl
    dsimp only
    rw [Int.toNat_natCast, fixB_val4 xs h (by omega)]
  · rw [wrL_3 (by decide) (by decide), rdI_3 (by decide) (by decide)]
  · exact absurd hw hp

theorem back_1 {p : Int} {x : It} (h : ItOk x) (he : encE p x = 0) : decE p (encS p x) = 0 ∧ decI p (encS p x) = x ∧ (encS p x).size ≤ 34 := by
  obtain ⟨hp, ho⟩ := encE_0.1 he
  obtain ⟨hg, hs⟩ := encOk_iff.1 ho
  have e1 : encS p x = strOfNums (wrL p x) := (enc_yes hp ho).2
  have e2 : strB (encS p x) = wrL p x := by rw [e1]; exact istrB_strOf (wrL_byt h)
  have e3 : ((encS p x).size : Int) = wid p := by rw [e1, istrOfNums_size]; exact wrL_length h hp
  have e4 : rdI p (strB (encS p x)) = x := by rw [e2, rdI_wrL h hp hs, hg]
  have e5 : decOk p (encS p x) = true := by unfold decOk; rw [e4, hs, decide_eq_true e3]; rfl
  obtain ⟨d1, d2⟩ := dec_yes hp e5
  refine ⟨d1, d2.trans e4, ?_⟩
  rcases wid_cases p with ⟨_, hw⟩ | ⟨_, hw⟩ | ⟨_, hw⟩ | ⟨_, _, _, hw⟩ <;> omega

theorem back_2 {p : Int} {s : ByteArray} (hd : decE p s ≠ 0) : decI p s = it0 := by
  unfold decI; rw [if_neg hd]

theorem back_3 {p : Int} {s : ByteArray} (hd : decE p s = 0) : encE p (decI p s) = 0 ∧ encS p (decI p s) = s := by
  have hp : wid p ≠ 0 := fun h => by rw [(dec_arg h s).1] at hd; cases hd
  have ho : decOk p s = true := by
    cases ho : decOk p s with
    | true => rfl
    | false => rw [(dec_no hp ho).1] at hd; cases hd
  rw [(dec_yes hp ho).2]
  unfold decOk at ho
  rw [Bool.and_eq_true, decide_eq_true_iff] at ho
  have hl : ((strB s).length : Int) = wid p := by rw [strB_length]; exact ho.1
  obtain ⟨e1, e2⟩ := enc_yes hp (x := rdI p (strB s)) (encOk_iff.2 ⟨giveI_rdI _ _, ho.2⟩)
  refine ⟨e1, ?_⟩
  rw [e2, wrL_rdI (strB_byt s) hl hp, strOfNums_strB]

end Go.Proofs.YtjlglnhmkheidaaGreat
