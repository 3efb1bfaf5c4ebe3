/- WLay, WMay, WPiece, WPc, WTry, WRead, WParse, WRing, WMathA: in one text. -/
import Derived.Test.YtckcdmkgmbicfaaGreatMW1
import Derived.Test.YtckcdmkgmbicfaaGreatText
import Derived.Test.YtckcdmkgmbicfaaGreatFixed
import Derived.Test.YtckcdmkgmbicfaaGreatSumMath
import Derived.Test.YtckcdmkgmbicfaaGreatLaws
import Derived.WalkKit
import Derived.Defers
import Derived.Recover
import Derived.WalkLawsBesides
import Derived.Test.YtckcdmkgmbicfaaGreatNumber
import Derived.Test.YtckcdmkgmbicfaaGreatReadText
import Derived.Test.YtckcdmkgmbicfaaGreatDState
import Derived.Test.YtckcdmkgmbicfaaGreatTextMath
namespace Go.Proofs.YtckcdmkgmbicfaaGreat
open Go.RowKit
set_option linter.unusedVariables false
set_option linter.unusedSimpArgs false
set_option maxRecDepth 4000

set_option maxHeartbeats 2000000 in
theorem plength_any {B : List Nat} {w : World} {v : Value} {l : List ByteArray} (hr : RdT B w v l) (hx : TxOk l) :
    Calls Tryz.prog 70 #[v] w fun e w' => e = .returned (.int .i64 (lenG l)) ∧ w' = w := by
  obtain ⟨a, cap, rfl, h1, h2, _, h4⟩ := hr
  unfold maxLen at h2
  unfold TxOk at hx
  have hlt := fun i x => lenG_take (l := l) (i := i) (x := x)
  have hle := fun i => lenG_le (l := l) i
  have h0 : lenG (l.take 0) = 0 := rfl
  have hfull : lenG (l.take l.length) = lenG l := by rw [List.take_length]
  obtain ⟨U, hU⟩ : ∃ U : Nat → Nat, ∀ i, lenG (l.take i) = U i := ⟨_, fun _ => rfl⟩
  simp only [hU] at hlt hle h0 hfull
  generalize lenG l = T at *
  clear hU
  go_enter Tryz.func70, Tryz.ntmps70
  go_wp2
  go_loop [3, 8] (fun x t => ∃ i : Nat, i ≤ l.length ∧ t = .int .i64 i ∧ x = .int .i64 (U i)) (fun _ t => l.length - (RowKit.intOf t).toNat)
  case atStart => exact ⟨0, Nat.zero_le _, rfl, by rw [h0]; rfl⟩
  case round =>
    obtain ⟨i, hi, rfl, rfl⟩ := hrel
    by_cases hil : i < l.length
    · have hiI : (i : Int) < l.length := by omega
      obtain ⟨b, off, rfl, _, _, hc⟩ := h4 (by omega)
      have hxi : l[i]? = some l[i] := List.getElem?_eq_getElem hil
      have xi := hc i _ hxi
      have hn := hlt i _ hxi
      have hb := hle (i + 1)
      generalize l[i] = x at *
      clear hc h4 hlt hle hxi
      have HN : Hid (U (i + 1) = U i + (2 + x.size)) := hn
      generalize U i = C at *
      go_wp2
      go_round
      case rel => exact ⟨i + 1, by omega, by go_num, by rw [HN.out]; go_num⟩
      case measure => simp [RowKit.intOf]; omega
    · obtain rfl : i = l.length := by omega
      have hiI : ¬ (l.length : Int) < l.length := by omega
      rw [hfull]
      clear h4 hlt hle
      go_wp2
      go_ret
      exact ⟨rfl, rfl⟩

theorem isLong_any (w : World) (s : ByteArray) (hs : s.size ≤ 9223372036854775807) : Calls Tryz.prog 69 #[.string s] w fun e w' => e = .returned (.bool (decide (255 < s.size))) ∧ w' = w := by
  by_cases h : 255 < s.size
  · have hI : (255 : Int) < s.size := by omega
    rw [decide_eq_true h]
    go_enter Tryz.func69, Tryz.ntmps69
    go_wp2
    go_ret
    exact ⟨by simp [hI], rfl⟩
  · have hI : ¬ (255 : Int) < s.size := by omega
    rw [decide_eq_false h]
    go_enter Tryz.func69, Tryz.ntmps69
    go_wp2
    go_ret
    exact ⟨by simp [hI], rfl⟩

theorem wfixed_any (w : World) (n k : Int) (h0 : 0 ≤ n) (h1 : n < 2 ^ 64) : Calls Tryz.prog 80 #[.int .u64 n, .int .i64 k] w fun e w' => ∃ a c, e = .returned (.slice a (fixL n k).length c) ∧ Own w' w.heap.size (.slice a (fixL n k).length c) (fixL n k) ∧ Below w.heap.size w w' := by
  have cf := fixed_any w n k h0 h1
  go_enter Tryz.func80, Tryz.ntmps80
  go_wp2_with fail
  refine cf.mono ?_
  rintro e w1 ⟨v, rfl, ho, hb⟩
  obtain ⟨a, c, rfl⟩ : ∃ a c, v = .slice a (fixL n k).length c := by
    rcases ho.2 with ⟨rfl, h0⟩ | ⟨g, cap, cur, rfl, _⟩
    · exact ⟨none, 0, by rw [h0]⟩
    · exact ⟨_, _, rfl⟩
  go_wp2
  go_ret
  exact ⟨a, c, rfl, ho, hb⟩

/-- A record's bytes. -/
def layL : List ByteArray → List Int
  | [] => []
  | s :: l => textB s ++ layL l

theorem lay_append (l l' : List ByteArray) : layL (l ++ l') = layL l ++ layL l' := by
  induction l with
  | nil => rfl
  | cons s l ih => simp only [List.cons_append, layL, ih, List.append_assoc]

theorem lay_take {l : List ByteArray} {i : Nat} {x : ByteArray} (h : l[i]? = some x) : layL (l.take (i + 1)) = layL (l.take i) ++ textB x := by
  rw [List.take_add_one, h, lay_append]
  simp [layL]

theorem textB_len (s : ByteArray) : (textB s).length ≤ 256 := by
  unfold textB
  split
  · simp
  · rw [List.length_cons, strB_length]; omega

theorem lay_len : ∀ (l : List ByteArray), (layL l).length ≤ 256 * l.length
  | [] => Nat.le_refl _
  | s :: l => by
    have h1 := lay_len l
    have h2 := textB_len s
    unfold layL
    rw [List.length_append, List.length_cons]
    omega

set_option maxHeartbeats 4000000 in
theorem lay_any {B : List Nat} {w : World} {v : Value} {l : List ByteArray} (hr : RdT B w v l) (hl : l.length ≤ 1000000) (hsz : ∀ x ∈ l, x.size ≤ maxLen) :
    Calls Tryz.prog 71 #[v] w fun e w' => ∃ a c, e = .returned (.slice a (layL l).length c) ∧ Own w' w.heap.size (.slice a (layL l).length c) (layL l) ∧ Below w.heap.size w w' := by
  have hr0 : Hid (RdT B w v l) := hr
  obtain ⟨a, cap, rfl, h1, h2, _, h4⟩ := hr
  unfold maxLen at h2
  have hlt := fun i x => lay_take (l := l) (i := i) (x := x)
  have hle : ∀ i, (layL (l.take i)).length ≤ 256000000 := fun i => by
    have := lay_len (l.take i)
    rw [List.length_take] at this
    omega
  have hful : layL (l.take l.length) = layL l := by rw [List.take_length]
  have hz : layL (l.take 0) = [] := rfl
  obtain ⟨U, hU⟩ : ∃ U : Nat → List Int, ∀ i, layL (l.take i) = U i := ⟨_, fun _ => rfl⟩
  simp only [hU] at hlt hle hful hz
  rw [← hful]
  clear hU hful
  go_enter Tryz.func71, Tryz.ntmps71
  go_wp2
  go_loopw [3, 10] (fun x t wr => ∃ (i : Nat) (aU : Option Addr) (cU : Nat), i ≤ l.length ∧ t = .int .i64 i ∧ x = .slice aU (U i).length cU ∧ Own wr w.heap.size (.slice aU (U i).length cU) (U i) ∧ Below w.heap.size w wr) (fun _ t _ => l.length - (RowKit.intOf t).toNat)
  case atStart => exact ⟨0, none, 0, Nat.zero_le _, rfl, by rw [hz]; rfl, by rw [hz]; exact Own.nil _ _, Below.refl _ _⟩
  case round =>
    obtain ⟨i, aU, cU, hi, rfl, rfl, hown, HB⟩ := hrel
    obtain ⟨wA, hA⟩ : ∃ wA, wA = wr := ⟨_, rfl⟩
    subst hA
    by_cases hil : i < l.length
    · have hiI : (i : Int) < l.length := by omega
      obtain ⟨b, off, rfl, hb, _, hc⟩ := h4 (by omega)
      have hxi : l[i]? = some l[i] := List.getElem?_eq_getElem hil
      have xi := (HB.cell (p := ⟨b, off + i, none⟩) hb).trans (hc i _ hxi)
      have hn := hlt i _ hxi
      have hs := hsz _ (List.getElem_mem hil)
      have hli := hle i
      generalize l[i] = x at *
      have ct := text_any wA x hs
      have htl := textB_len x
      have HN : Hid (U (i + 1) = U i ++ textB x) := hn
      clear hc h4 hlt hle hsz hxi hn hr0
      generalize U i = V at *
      generalize hVL : V.length = L at *
      go_wp2_with fail
      refine ct.mono ?_
      rintro e w2 ⟨vt, rfl, hot, hb2⟩
      clear ct xi
      have hown2 : Own w2 w.heap.size (.slice aU L cU) V := World.ownsRow.kept hown (row := Option.none) ⟨hb2.os, hb2.tape, hb2.output, hb2.size, fun k hk _ => hb2.block k hk⟩ (by cases hv : (Value.slice aU L cU).ownBlock <;> simp)
      have hrt := hot.rd
      have hsA := HB.size
      have hs2 := hb2.size
      obtain ⟨at', ct', rfl⟩ : ∃ a c, vt = .slice a (textB x).length c := by
        rcases hot.2 with ⟨rfl, h0⟩ | ⟨g, cap, cur, rfl, _⟩
        · exact ⟨none, 0, by rw [h0]⟩
        · exact ⟨_, _, rfl⟩
      generalize textE x = TE at *
      generalize hTX : textB x = TX at *
      generalize hTL : TX.length = TN at *
      go_wp2_with (at_builtin; refine wpList_append_rd rfl _ _ rfl w.heap.size _ V rfl hown2 _ TX rfl hrt (by omega) (by omega) ?_; intro v3 w3 ho3 hg3)
      have hb3 : Below w.heap.size w w3 := (HB.trans (hb2.mono HB.size)).grown hg3 (by omega) (fun k hk => (World.ownsRow.lt hown2 k hk).1)
      obtain ⟨a3, c3, rfl⟩ : ∃ a c, v3 = .slice a (V ++ TX).length c := by
        rcases ho3.2 with ⟨rfl, h0⟩ | ⟨g, cap, cur, rfl, _⟩
        · exact ⟨none, 0, by rw [h0]⟩
        · exact ⟨_, _, rfl⟩
      clear hown hown2 hg3 hot hrt
      go_wp2_with fail
      go_roundw
      case rel => exact ⟨i + 1, a3, c3, by omega, by go_num, by rw [HN.out], by rw [HN.out]; exact ho3, hb3⟩
      case measure => simp [RowKit.intOf]; omega
    · obtain rfl : i = l.length := by omega
      have hiI : ¬ (l.length : Int) < l.length := by omega
      clear h4 hlt hle hr0
      go_wp2
      go_ret
      exact ⟨aU, cU, rfl, hown, HB⟩

def anyLong (l : List ByteArray) : Bool := l.any (fun s => decide (255 < s.size))

set_option maxHeartbeats 2000000 in
theorem indexLong_any {B : List Nat} {w : World} {v : Value} {l : List ByteArray} (hr : RdT B w v l) (hsz : ∀ x ∈ l, x.size ≤ 9223372036854775807) :
    Calls Tryz.prog 97 #[v, .func (.func 69) #[] #[]] w fun e w' => ∃ r : Int, e = .returned (.int .i64 r) ∧ (decide (0 ≤ r) = anyLong l) ∧ w' = w := by
  obtain ⟨a, lc, rfl, g1, g2, _, g3⟩ := hr
  unfold maxLen at g2
  have hnx := fun i x => any_take (l := l) (i := i) (x := x) (fun s => decide (255 < s.size))
  have htk : ∀ i, (l.take i).any (fun s => decide (255 < s.size)) = true → anyLong l = true := fun i h => by
    obtain ⟨x, hx, hq⟩ := List.any_eq_true.1 h
    exact List.any_eq_true.2 ⟨x, List.mem_of_mem_take hx, hq⟩
  have hful : (l.take l.length).any (fun s => decide (255 < s.size)) = anyLong l := by rw [List.take_length]; rfl
  obtain ⟨A, hA⟩ : ∃ A : Nat → Bool, ∀ i, (l.take i).any (fun s => decide (255 < s.size)) = A i := ⟨_, fun _ => rfl⟩
  have hA0 : A 0 = false := by rw [← hA]; rfl
  simp only [hA] at hnx htk hful
  clear hA
  generalize anyLong l = R at *
  go_enter Tryz.func97, Tryz.ntmps97
  go_wp2
  go_loop [5, 8] (fun q t => ∃ i : Nat, i ≤ l.length ∧ t = .int .i64 i ∧ Hid (A i = false)) (fun _ t => l.length - (RowKit.intOf t).toNat)
  case atStart => exact ⟨0, Nat.zero_le _, rfl, hA0⟩
  case round =>
    obtain ⟨i, hi, rfl, HA⟩ := hrel
    by_cases hlt : i < l.length
    · have hltI : (i : Int) < l.length := by omega
      obtain ⟨b, off, rfl, hb, _, hcs⟩ := g3 (by omega)
      have hx : l[i]? = some l[i] := List.getElem?_eq_getElem hlt
      have hcx := hcs i _ hx
      have hn1 := hnx i _ hx
      have ht1 := htk (i + 1)
      have cl := isLong_any w l[i] (hsz _ (List.getElem_mem hlt))
      rw [HA.out, Bool.false_or] at hn1
      generalize l[i] = x at *
      clear hcs g3 hnx htk hx hful hsz
      go_wp2_with fail
      refine cl.mono ?_
      clear cl
      rintro e w5 ⟨rfl, rfl⟩
      cases hd : decide (255 < x.size) with
      | true =>
        rw [hd] at hn1
        have HT : Hid (R = true) := ht1 hn1
        clear ht1 hn1 hd
        go_wp2
        go_ret
        exact ⟨_, rfl, by rw [HT.out]; simp, rfl⟩
      | false =>
        rw [hd] at hn1
        have HT : Hid (A (i + 1) = false) := hn1
        clear ht1 hn1 hd
        go_wp2
        go_round
        case rel => exact ⟨i + 1, by omega, by go_num, HT⟩
        case measure => simp [RowKit.intOf]; omega
    · obtain rfl : i = l.length := by omega
      have hltI : ¬ (l.length : Int) < l.length := by omega
      have HT : Hid (R = false) := by unfold Hid; rw [← hful]; exact HA.out
      clear g3 hnx htk hful
      go_wp2
      go_ret
      exact ⟨_, rfl, by rw [HT.out]; decide, rfl⟩

theorem containsLong_any {B : List Nat} {w : World} {v : Value} {l : List ByteArray} (hr : RdT B w v l) (hsz : ∀ x ∈ l, x.size ≤ 9223372036854775807) :
    Calls Tryz.prog 68 #[v, .func (.func 69) #[] #[]] w fun e w' => e = .returned (.bool (anyLong l)) ∧ w' = w := by
  have hl := indexLong_any hr hsz
  go_enter Tryz.func68, Tryz.ntmps68
  go_wp2_with fail
  refine hl.mono ?_
  rintro e w1 ⟨r, rfl, h1, rfl⟩
  have HT : Hid (decide (0 ≤ r) = anyLong l) := h1
  clear h1 hl
  go_wp2
  go_ret
  exact ⟨by rw [← HT.out]; rfl, rfl⟩

set_option maxHeartbeats 2000000 in
theorem mayBe_any {B : List Nat} {w : World} {v : Value} {l : List ByteArray} (hr : RdT B w v l) (hsz : ∀ x ∈ l, x.size ≤ 140737488355328) :
    Calls Tryz.prog 41 #[v] w fun e w' => e = .returned (.bool (!longB l)) ∧ w' = w := by
  have cc := containsLong_any hr (fun x hx => by have := hsz x hx; omega)
  have hsum : ∀ m : List ByteArray, (∀ x ∈ m, x.size ≤ 140737488355328) → lenG m ≤ 140737488355330 * m.length := fun m => by
    induction m with
    | nil => intro _; exact Nat.le_refl _
    | cons s m ih =>
      intro h
      have h1 := ih (fun x hx => h x (List.mem_cons_of_mem _ hx))
      have h2 := h s (List.mem_cons_self ..)
      unfold lenG
      rw [List.length_cons]
      omega
  have hr' := hr
  obtain ⟨a, cap, rfl, h1, h2, _, _⟩ := hr
  unfold maxLen at h2
  have hB : longB l = (decide (255 < l.length) || decide (4096 < lenG l) || anyLong l) := rfl
  rw [hB]
  clear hB
  by_cases hl : 255 < l.length
  · have hlI : ¬ (l.length : Int) ≤ 255 := by omega
    rw [decide_eq_true hl]
    generalize decide (4096 < lenG l) = D1 at *
    generalize anyLong l = D2 at *
    clear cc hr'
    go_enter Tryz.func41, Tryz.ntmps41
    go_wp2
    go_ret
    exact ⟨by simp, rfl⟩
  · have hlI : (l.length : Int) ≤ 255 := by omega
    rw [decide_eq_false hl, Bool.false_or]
    have hT : lenG l ≤ 140737488355330 * l.length := hsum l hsz
    have cl := plength_any hr' (show TxOk l from by unfold TxOk; have := Nat.mul_le_mul_left 140737488355330 (show l.length ≤ 255 by omega); omega)
    clear hsum hr'
    cases hL : anyLong l with
    | true =>
      rw [hL] at cc
      rw [Bool.or_true]
      clear cl
      go_enter Tryz.func41, Tryz.ntmps41
      go_wp2_with fail
      refine cc.mono ?_
      rintro e w1 ⟨rfl, rfl⟩
      clear cc
      go_wp2
      go_ret
      exact ⟨rfl, rfl⟩
    | false =>
      rw [hL] at cc
      rw [Bool.or_false]
      have hD : decide ((lenG l : Int) ≤ 4096) = !decide (4096 < lenG l) := by
        by_cases h : 4096 < lenG l
        · rw [decide_eq_true h, decide_eq_false (by omega)]; rfl
        · rw [decide_eq_false h, decide_eq_true (by omega)]; rfl
      have HD : Hid (decide ((lenG l : Int) ≤ 4096) = !decide (4096 < lenG l)) := hD
      clear hD
      go_enter Tryz.func41, Tryz.ntmps41
      go_wp2_with fail
      refine cc.mono ?_
      rintro e w1 ⟨rfl, rfl⟩
      clear cc
      go_wp2_with fail
      refine cl.mono ?_
      rintro e w1 ⟨rfl, rfl⟩
      clear cl
      go_wp2
      go_ret
      exact ⟨by rw [← HD.out]; rfl, rfl⟩

/-- How many pieces so many bytes make. -/
def piecesN (n : Nat) : Nat := if n = 0 then 1 else (n + 487) / 488

theorem blocksFor_any (w : World) (n : Nat) (hn : n ≤ 70000) :
    Calls Tryz.prog 72 #[.int .i64 (n : Int)] w fun e w' => e = .returned (.int .i64 ((piecesN n : Nat) : Int)) ∧ w' = w := by
  go_enter Tryz.func72, Tryz.ntmps72
  go_wp2
  all_goals
    go_ret
    refine ⟨?_, rfl⟩
    simp only [Array.getD_eq_getD_getElem?, List.getElem?_toArray, List.getElem?_cons_succ, List.getElem?_cons_zero, Option.getD_some, Ending.returned.injEq, Value.int.injEq, true_and]
    unfold piecesN
    split <;> omega

/-- Behind a record's last block. -/
theorem end_any (w : World) (a : Int) (x : Option Addr) (n c : Nat) (h0 : 0 ≤ a) (h1 : a + (n : Int) ≤ 18446744073709551615) :
    Calls Tryz.prog 73 #[.agg #[.int .u64 a, .slice x n c]] w fun e w' => e = .returned (.int .u64 (a + (n : Int))) ∧ Below w.heap.size w w' := by
  have hB := (Below.refl w.heap.size w).alloc (Nat.le_refl _) (.cells #[.int .u64 a, .slice x n c] 94)
  have hg := heap_alloc_new w (.cells #[.int .u64 a, .slice x n c] 94)
  have c0 := cell_of_row _ _ 0 _ _ (0, 0) hg
  have c1 := cell_of_row _ _ 1 _ _ (0, 0) hg
  go_enter Tryz.func73, Tryz.ntmps73
  have w1 : IntKind.u64.wrap (n : Int) = (n : Int) := by
    show (n : Int) % 18446744073709551616 = _
    omega
  have w2 : IntKind.u64.wrap (a + (n : Int)) = a + (n : Int) := by
    show (a + (n : Int)) % 18446744073709551616 = _
    omega
  go_wp2
  go_ret
  exact ⟨rfl, hB⟩

/-- A piece. -/
structure Pc where
  kind : Nat
  tail : Nat
  at_ : Nat
  index : Nat
  length : Nat
  body : List Int

/-- Its numbers fit. -/
structure PcOk (p : Pc) : Prop where
  kind : p.kind < 256
  tail : p.tail < 18446744073709551616
  at_ : p.at_ < 18446744073709551616
  index : p.index < 256
  length : p.length < 65536
  byt : Byt p.body
  body : p.body.length ≤ 488

def headL (p : Pc) : List Int := fixB p.kind 1 ++ (fixB p.tail 8 ++ (fixB p.at_ 8 ++ (fixB p.index 1 ++ fixB p.length 2)))
def padL (p : Pc) : List Int := (headL p ++ p.body) ++ List.replicate (488 - p.body.length) 0
def encP (p : Pc) : List Int := padL p ++ sealB (padL p)

/-- The piece that a block's bytes are, if they are one. -/
def bodyP (b : List Int) : Pc := ⟨valB (b.take 1), valB ((b.drop 1).take 8), valB ((b.drop 9).take 8), valB ((b.drop 17).take 1), valB ((b.drop 18).take 2), b.drop 20⟩
def rdP (xs : List Int) : Option Pc := if unE xs = 0 then some (bodyP (unB xs)) else none

theorem headL_length (p : Pc) : (headL p).length = 20 := by simp [headL, fixB_length]
theorem padL_length {p : Pc} (h : p.body.length ≤ 488) : (padL p).length = 508 := by simp [padL, headL_length]; omega
theorem encP_length {p : Pc} (h : p.body.length ≤ 488) : (encP p).length = 512 := by simp [encP, padL_length h, sealB_length]
theorem headL_byt (p : Pc) : Byt (headL p) := (fixB_byt _ _).append ((fixB_byt _ _).append ((fixB_byt _ _).append ((fixB_byt _ _).append (fixB_byt _ _))))
theorem byt_zeros (n : Nat) : Byt (List.replicate n 0) := fun x hx => by rw [List.eq_of_mem_replicate hx]; omega
theorem padL_byt {p : Pc} (h : Byt p.body) : Byt (padL p) := ((headL_byt p).append h).append (byt_zeros _)
theorem encP_byt {p : Pc} (h : Byt p.body) : Byt (encP p) := seal_byt (padL_byt h)
theorem encP_blk {p : Pc} (h : PcOk p) : (encP p).length = 512 ∧ Byt (encP p) := ⟨encP_length h.body, encP_byt h.byt⟩

/-- It with as many bytes as a block has room for. -/
def full (p : Pc) : Pc := { p with body := p.body ++ List.replicate (488 - p.body.length) 0 }

theorem take_fix (n k : Nat) (l : List Int) : (fixB n k ++ l).take k = fixB n k := by
  have := fixB_length n k
  rw [List.take_append_of_le_length (by omega), List.take_of_length_le (by omega)]
theorem drop_fix (n k : Nat) (l : List Int) : (fixB n k ++ l).drop k = l := by
  have := fixB_length n k
  rw [List.drop_append_of_le_length (by omega), List.drop_of_length_le (by omega), List.nil_append]

theorem bodyP_pad {p : Pc} (h : PcOk p) : bodyP (padL p) = full p := by
  have e : padL p = fixB p.kind 1 ++ (fixB p.tail 8 ++ (fixB p.at_ 8 ++ (fixB p.index 1 ++ (fixB p.length 2 ++ (p.body ++ List.replicate (488 - p.body.length) 0))))) := by simp [padL, headL]
  have d1 : (padL p).drop 1 = fixB p.tail 8 ++ (fixB p.at_ 8 ++ (fixB p.index 1 ++ (fixB p.length 2 ++ (p.body ++ List.replicate (488 - p.body.length) 0)))) := by rw [e, drop_fix]
  have d9 : (padL p).drop 9 = fixB p.at_ 8 ++ (fixB p.index 1 ++ (fixB p.length 2 ++ (p.body ++ List.replicate (488 - p.body.length) 0))) := by rw [show (9 : Nat) = 1 + 8 from rfl, ← List.drop_drop, d1, drop_fix]
  have d17 : (padL p).drop 17 = fixB p.index 1 ++ (fixB p.length 2 ++ (p.body ++ List.replicate (488 - p.body.length) 0)) := by rw [show (17 : Nat) = 9 + 8 from rfl, ← List.drop_drop, d9, drop_fix]
  have d18 : (padL p).drop 18 = fixB p.length 2 ++ (p.body ++ List.replicate (488 - p.body.length) 0) := by rw [show (18 : Nat) = 17 + 1 from rfl, ← List.drop_drop, d17, drop_fix]
  have d20 : (padL p).drop 20 = p.body ++ List.replicate (488 - p.body.length) 0 := by rw [show (20 : Nat) = 18 + 2 from rfl, ← List.drop_drop, d18, drop_fix]
  have t0 : (padL p).take 1 = fixB p.kind 1 := by rw [e, take_fix]
  unfold bodyP full
  rw [d1, d9, d17, d18, d20, t0, take_fix, take_fix, take_fix, take_fix, valB_fixB _ _ h.kind, valB_fixB _ _ h.tail, valB_fixB _ _ h.at_, valB_fixB _ _ h.index, valB_fixB _ _ h.length]

/-- What was written is read as what it was. -/
theorem rdP_enc {p : Pc} (h : PcOk p) : rdP (encP p) = some (full p) := by
  unfold rdP encP
  rw [if_pos (unE_seal _), unB_seal, bodyP_pad h]

theorem byt_drop_take {b : List Int} (h : Byt b) (i j : Nat) : Byt ((b.drop i).take j) := (h.drop i).take j
theorem valB_lt' (b : List Int) (h : Byt b) (i j : Nat) : valB ((b.drop i).take j) < 256 ^ j := by
  have h1 := valB_lt _ (byt_drop_take h i j)
  have h2 : ((b.drop i).take j).length ≤ j := by simp; omega
  exact Nat.lt_of_lt_of_le h1 (Nat.pow_le_pow_right (by decide) h2)

/-- Whatever is read, its numbers fit. -/
theorem bodyP_ok {b : List Int} (h : Byt b) (hl : b.length = 508) : PcOk (bodyP b) ∧ (bodyP b).body.length = 488 := by
  have l : (b.drop 20).length = 488 := by simp [hl]
  refine ⟨⟨Nat.lt_of_lt_of_eq (valB_lt' b h 0 1) (by decide), Nat.lt_of_lt_of_eq (valB_lt' b h 1 8) (by decide), Nat.lt_of_lt_of_eq (valB_lt' b h 9 8) (by decide), Nat.lt_of_lt_of_eq (valB_lt' b h 17 1) (by decide), Nat.lt_of_lt_of_eq (valB_lt' b h 18 2) (by decide), h.drop 20, ?_⟩, l⟩
  show (b.drop 20).length ≤ 488
  omega

theorem unB_len {xs : List Int} (hl : xs.length = 512) (hu : unE xs = 0) : (unB xs).length = 508 := by
  unfold unB; rw [if_pos hu]; simp [bodyB, hl]
theorem unB_byt {xs : List Int} (h : Byt xs) : Byt (unB xs) := by
  unfold unB
  split
  · exact h.take _
  · exact Byt.nil

theorem rdP_ok {xs : List Int} {p : Pc} (h : Byt xs) (hl : xs.length = 512) (hp : rdP xs = some p) : PcOk p ∧ p.body.length = 488 := by
  unfold rdP at hp
  split at hp
  · rename_i hu
    cases hp
    exact bodyP_ok (unB_byt h) (unB_len hl hu)
  · cases hp

/-- Whoever reads gives up. -/
def GaveUp (e : Ending) : Prop := ∃ x : Int, e = .panicked [{ v := .iface 24 (.int .i64 x), recovered := false }]

theorem must_bytes_ok (w : World) (a : Option Addr) (n c : Nat) : Calls Tryz.prog 83 #[.slice a n c, .int .i64 0] w fun e w' => e = .returned (.slice a n c) ∧ w' = w := by
  go_enter Tryz.func83, Tryz.ntmps83
  go_wp2
  go_ret
  exact ⟨rfl, rfl⟩

theorem must_bytes_no (w : World) (v : Value) (x : Int) (hx : ¬ x = 0) : Calls Tryz.prog 83 #[v, .int .i64 x] w fun e w' => GaveUp e ∧ w' = w := by
  go_enter Tryz.func83, Tryz.ntmps83
  go_wp2
  exact ⟨rfl, ⟨x, rfl⟩, rfl⟩

theorem must_u64_ok (w : World) (v : Int) : Calls Tryz.prog 107 #[.int .u64 v, .int .i64 0] w fun e w' => e = .returned (.int .u64 v) ∧ w' = w := by
  go_enter Tryz.func107, Tryz.ntmps107
  go_wp2
  go_ret
  exact ⟨rfl, rfl⟩

theorem must_u64_no (w : World) (v : Value) (x : Int) (hx : ¬ x = 0) : Calls Tryz.prog 107 #[v, .int .i64 x] w fun e w' => GaveUp e ∧ w' = w := by
  go_enter Tryz.func107, Tryz.ntmps107
  go_wp2
  exact ⟨rfl, ⟨x, rfl⟩, rfl⟩

theorem must_str_ok (w : World) (v : ByteArray) : Calls Tryz.prog 145 #[.string v, .int .i64 0] w fun e w' => e = .returned (.string v) ∧ w' = w := by
  go_enter Tryz.func145, Tryz.ntmps145
  go_wp2
  go_ret
  exact ⟨rfl, rfl⟩

theorem must_str_no (w : World) (v : Value) (x : Int) (hx : ¬ x = 0) : Calls Tryz.prog 145 #[v, .int .i64 x] w fun e w' => GaveUp e ∧ w' = w := by
  go_enter Tryz.func145, Tryz.ntmps145
  go_wp2
  exact ⟨rfl, ⟨x, rfl⟩, rfl⟩

/-- The deferred closure, of a frame that panics. -/
theorem catchP_no (p : Addr) (b : Bool) (u : TypeId) (pv : Value) (older : List PanicEntry) (w : World) (hc : w.cell? p = some (.bool b)) (hz : w.frozen? p = false) :
    CallsD Tryz.prog 82 #[.pointer (some p)] (.panicking ({ v := .iface u pv, recovered := false } :: older)) w fun e u' w' =>
      e = .returned (.tuple #[]) ∧ u' = .panicking ({ v := .iface u pv, recovered := true } :: older) ∧ w' = w.setCell p (.bool false) := by
  refine callsD_of_wpS Tryz.func82 rfl fun c₀ cs hu => ?_
  apply wpS_region
  simp [wpOpsS, go_sem, recoverD, hu, Tryz.ntmps82, Exit.thenS, hc, hz, bodyPostS, results, Tryz.results82]

/-- The deferred closure, of a frame that returns. -/
theorem catchP_ok (p : Addr) (b : Bool) (w : World) (hc : w.cell? p = some (.bool b)) (hz : w.frozen? p = false) :
    CallsD Tryz.prog 82 #[.pointer (some p)] .returning w fun e u' w' =>
      e = .returned (.tuple #[]) ∧ u' = .returning ∧ w' = w.setCell p (.bool true) := by
  refine callsD_of_wpS Tryz.func82 rfl fun c₀ cs hu => ?_
  apply wpS_region
  simp [wpOpsS, go_sem, recoverD, hu, Tryz.ntmps82, Exit.thenS, hc, hz, bodyPostS, results, Tryz.results82]
  cases c₀
  simp_all

/-- The deferred closure, of a frame that panics. -/
theorem catchW_no (p : Addr) (b : Bool) (u : TypeId) (pv : Value) (older : List PanicEntry) (w : World) (hc : w.cell? p = some (.bool b)) (hz : w.frozen? p = false) :
    CallsD Tryz.prog 121 #[.pointer (some p)] (.panicking ({ v := .iface u pv, recovered := false } :: older)) w fun e u' w' =>
      e = .returned (.tuple #[]) ∧ u' = .panicking ({ v := .iface u pv, recovered := true } :: older) ∧ w' = w.setCell p (.bool false) := by
  refine callsD_of_wpS Tryz.func121 rfl fun c₀ cs hu => ?_
  apply wpS_region
  simp [wpOpsS, go_sem, recoverD, hu, Tryz.ntmps121, Exit.thenS, hc, hz, bodyPostS, results, Tryz.results121]

/-- The deferred closure, of a frame that returns. -/
theorem catchW_ok (p : Addr) (b : Bool) (w : World) (hc : w.cell? p = some (.bool b)) (hz : w.frozen? p = false) :
    CallsD Tryz.prog 121 #[.pointer (some p)] .returning w fun e u' w' =>
      e = .returned (.tuple #[]) ∧ u' = .returning ∧ w' = w.setCell p (.bool true) := by
  refine callsD_of_wpS Tryz.func121 rfl fun c₀ cs hu => ?_
  apply wpS_region
  simp [wpOpsS, go_sem, recoverD, hu, Tryz.ntmps121, Exit.thenS, hc, hz, bodyPostS, results, Tryz.results121]
  cases c₀
  simp_all

theorem run_loadVar_bool (w : World) (p : Addr) (b : Bool) (hc : w.cell? p = some (.bool b)) : (loadVar 4 p).run Tryz.prog w = .ok (.bool b) w := by
  simp [loadVar, go_sem, Tryz.underlying4, hc]

/-- It holds also where what lies below n has turned. -/
def Keeps (n : Nat) (w : World) (Φ : World → Prop) : Prop := ∀ W, w.heap.size ≤ W.heap.size → (∀ k, n ≤ k → k < w.heap.size → W.heap[k]? = w.heap[k]?) → Φ W

set_option maxHeartbeats 2000000 in
theorem attemptP_no (w : World) (caps : Array Value) (h : ∀ W, Below w.heap.size w W → Calls Tryz.prog 59 caps W fun e w' => GaveUp e ∧ Below W.heap.size W w') :
    Calls Tryz.prog 58 #[.func (Fn.func 59) #[] caps] w fun e w' => e = .returned (.tuple #[.agg #[.int .u8 0, .int .u64 0, .int .u64 0, .int .i64 0, .int .i64 0, .slice none 0 0], .bool false]) ∧ Below w.heap.size w w' := by
  have hmf : ∀ (fn : Fn) (first cap : Array Value) (w : World), (Instr.makeFunc fn first cap).run Tryz.prog w = .ok (.func fn first cap) w := fun _ _ _ _ => rfl
  go_enter_defers Tryz.func58, Tryz.ntmps58
  obtain ⟨W2, hW2⟩ : ∃ W2, ((w.alloc (.cells #[.int .u8 0, .int .u64 0, .int .u64 0, .int .i64 0, .int .i64 0, .slice none 0 0] 82)).alloc (.cells #[.bool false] 4)) = W2 := ⟨_, rfl⟩
  have hz0 : (w.alloc (.cells #[.int .u8 0, .int .u64 0, .int .u64 0, .int .i64 0, .int .i64 0, .slice none 0 0] 82)).heap.size = w.heap.size + 1 := by simp
  have hz2 : W2.heap.size = w.heap.size + 2 := by rw [← hW2]; simp
  have hg1 : W2.heap[w.heap.size + 1]? = some (.cells #[.bool false] 4 (0, 0)) := by rw [← hW2, ← hz0]; exact heap_alloc_new _ _
  have hg0 : W2.heap[w.heap.size]? = some (.cells #[.int .u8 0, .int .u64 0, .int .u64 0, .int .i64 0, .int .i64 0, .slice none 0 0] 82 (0, 0)) := by
    have hb : Below (w.heap.size + 1) (w.alloc (.cells #[.int .u8 0, .int .u64 0, .int .u64 0, .int .i64 0, .int .i64 0, .slice none 0 0] 82)) W2 := by rw [← hW2]; exact (Below.refl _ _).alloc (by omega) _
    exact (hb.block _ (by omega)).trans (heap_alloc_new w _)
  have hbW : Below w.heap.size w W2 := by rw [← hW2]; exact ((Below.refl _ w).alloc (Nat.le_refl _) _).alloc (by omega) _
  have hl1 := (Array.getElem?_eq_some_iff.1 hg1).1
  go_wp2_with fail
  (try rw [hW2])
  refine (h W2 hbW).mono ?_
  clear hW2 h
  rintro e w1 ⟨⟨x, rfl⟩, hb1⟩
  have k1 := (hb1.block _ hl1).trans hg1
  have k0 := (hb1.block _ (show w.heap.size < W2.heap.size by omega)).trans hg0
  have hc : w1.cell? ⟨w.heap.size + 1, 0, none⟩ = some (.bool false) := by rw [cell_of_row _ _ 0 _ _ (0, 0) k1]; rfl
  have hf := frozen_of_row w1 (w.heap.size + 1) 0 _ 4 k1
  have k0' : (w1.setCell ⟨w.heap.size + 1, 0, none⟩ (.bool false)).heap[w.heap.size]? = some (.cells #[.int .u8 0, .int .u64 0, .int .u64 0, .int .i64 0, .int .i64 0, .slice none 0 0] 82 (0, 0)) := (Below.heap_setCell _ _ _ _ (by show w.heap.size ≠ w.heap.size + 1; omega)).trans k0
  have k1' : (w1.setCell ⟨w.heap.size + 1, 0, none⟩ (.bool false)).heap[w.heap.size + 1]? = some (.cells #[.bool false] 4 (0, 0)) := heap_setCell_same w1 (w.heap.size + 1) 0 _ 4 _ k1
  have hB : Below w.heap.size w (w1.setCell ⟨w.heap.size + 1, 0, none⟩ (.bool false)) := (hbW.trans (hb1.mono hbW.size)).setCell (p := ⟨w.heap.size + 1, 0, none⟩) (by show w.heap.size ≤ w.heap.size + 1; omega) _
  have hl := run_loadVar_row (P := Tryz.prog) (w1.setCell ⟨w.heap.size + 1, 0, none⟩ (.bool false)) w.heap.size 82 82 #[.int .u8 0, .int .u64 0, .int .u64 0, .int .i64 0, .int .i64 0, .slice none 0 0] (0, 0) _ k0' Tryz.underlying82 rfl (by kernel_rfl)
  refine leaves_cons (f := 82) (args := #[.pointer (some ⟨w.heap.size + 1, 0, none⟩)]) (by simp) (by simp [go_sem]) ?_
  refine (catchP_no ⟨w.heap.size + 1, 0, none⟩ false _ _ [] _ hc hf).mono ?_
  rintro e u' w'' ⟨rfl, rfl, rfl⟩
  have hcb : (w1.setCell ⟨w.heap.size + 1, 0, none⟩ (.bool false)).cell? ⟨w.heap.size + 1, 0, none⟩ = some (.bool false) := by rw [cell_of_row _ _ 0 _ _ (0, 0) k1']; rfl
  generalize w1.setCell ⟨w.heap.size + 1, 0, none⟩ (.bool false) = W9 at *
  have hlb := run_loadVar_bool W9 ⟨w.heap.size + 1, 0, none⟩ false hcb
  show ∃ v, (results Tryz.f58 _).run Tryz.prog W9 = .ok v W9 ∧ _
  refine ⟨_, ?_, rfl, hB⟩
  simp [results, Tryz.results58, asAddr, hl, hlb, Result.andThen]

set_option maxHeartbeats 2000000 in
theorem attemptP_ok (w : World) (caps : Array Value) (a : Int) (b : Int) (c : Int) (d : Int) (f : Int) (Φ : Value → World → Prop) (h : ∀ W, Below w.heap.size w W → Calls Tryz.prog 59 caps W fun e w' => ∃ ad n cp, e = .returned (.agg #[.int .u8 a, .int .u64 b, .int .u64 c, .int .i64 d, .int .i64 f, .slice ad n cp]) ∧ Keeps W.heap.size w' (Φ (.slice ad n cp)) ∧ Below W.heap.size W w') :
    Calls Tryz.prog 58 #[.func (Fn.func 59) #[] caps] w fun e w' => ∃ ad n cp, e = .returned (.tuple #[.agg #[.int .u8 a, .int .u64 b, .int .u64 c, .int .i64 d, .int .i64 f, .slice ad n cp], .bool true]) ∧ Keeps w.heap.size w' (Φ (.slice ad n cp)) ∧ Below w.heap.size w w' := by
  have hmf : ∀ (fn : Fn) (first cap : Array Value) (w : World), (Instr.makeFunc fn first cap).run Tryz.prog w = .ok (.func fn first cap) w := fun _ _ _ _ => rfl
  go_enter_defers Tryz.func58, Tryz.ntmps58
  obtain ⟨W2, hW2⟩ : ∃ W2, ((w.alloc (.cells #[.int .u8 0, .int .u64 0, .int .u64 0, .int .i64 0, .int .i64 0, .slice none 0 0] 82)).alloc (.cells #[.bool false] 4)) = W2 := ⟨_, rfl⟩
  have hz0 : (w.alloc (.cells #[.int .u8 0, .int .u64 0, .int .u64 0, .int .i64 0, .int .i64 0, .slice none 0 0] 82)).heap.size = w.heap.size + 1 := by simp
  have hz2 : W2.heap.size = w.heap.size + 2 := by rw [← hW2]; simp
  have hg1 : W2.heap[w.heap.size + 1]? = some (.cells #[.bool false] 4 (0, 0)) := by rw [← hW2, ← hz0]; exact heap_alloc_new _ _
  have hg0 : W2.heap[w.heap.size]? = some (.cells #[.int .u8 0, .int .u64 0, .int .u64 0, .int .i64 0, .int .i64 0, .slice none 0 0] 82 (0, 0)) := by
    have hb : Below (w.heap.size + 1) (w.alloc (.cells #[.int .u8 0, .int .u64 0, .int .u64 0, .int .i64 0, .int .i64 0, .slice none 0 0] 82)) W2 := by rw [← hW2]; exact (Below.refl _ _).alloc (by omega) _
    exact (hb.block _ (by omega)).trans (heap_alloc_new w _)
  have hbW : Below w.heap.size w W2 := by rw [← hW2]; exact ((Below.refl _ w).alloc (Nat.le_refl _) _).alloc (by omega) _
  have hl1 := (Array.getElem?_eq_some_iff.1 hg1).1
  go_wp2_with fail
  (try rw [hW2])
  refine (h W2 hbW).mono ?_
  clear hW2 h
  rintro e w1 ⟨ad, n, cp, rfl, hfr, hb1⟩
  have k1 := (hb1.block _ hl1).trans hg1
  have k0 := (hb1.block _ (show w.heap.size < W2.heap.size by omega)).trans hg0
  have q0 : w1.cell? ⟨w.heap.size, 0, none⟩ = some (.int .u8 0) := by rw [cell_of_row _ _ 0 _ _ (0, 0) k0]; rfl
  have q1 : w1.cell? ⟨w.heap.size, 1, none⟩ = some (.int .u64 0) := by rw [cell_of_row _ _ 1 _ _ (0, 0) k0]; rfl
  have q2 : w1.cell? ⟨w.heap.size, 2, none⟩ = some (.int .u64 0) := by rw [cell_of_row _ _ 2 _ _ (0, 0) k0]; rfl
  have q3 : w1.cell? ⟨w.heap.size, 3, none⟩ = some (.int .i64 0) := by rw [cell_of_row _ _ 3 _ _ (0, 0) k0]; rfl
  have q4 : w1.cell? ⟨w.heap.size, 4, none⟩ = some (.int .i64 0) := by rw [cell_of_row _ _ 4 _ _ (0, 0) k0]; rfl
  have q5 : w1.cell? ⟨w.heap.size, 5, none⟩ = some (.slice none 0 0) := by rw [cell_of_row _ _ 5 _ _ (0, 0) k0]; rfl
  have f0 := fun j => frozen_of_row w1 w.heap.size j _ _ k0
  have hc : w1.cell? ⟨w.heap.size + 1, 0, none⟩ = some (.bool false) := by rw [cell_of_row _ _ 0 _ _ (0, 0) k1]; rfl
  have hf := frozen_of_row w1 (w.heap.size + 1) 0 _ 4 k1
  have f00 := f0 0
  have f01 := f0 1
  have f02 := f0 2
  have f03 := f0 3
  have f04 := f0 4
  have f05 := f0 5
  have g1 := heap_setCell_same w1 w.heap.size 0 _ _ (.int .u8 a) k0
  have g2 := heap_setCell_same _ w.heap.size 1 _ _ (.int .u64 b) g1
  have g3 := heap_setCell_same _ w.heap.size 2 _ _ (.int .u64 c) g2
  have g4 := heap_setCell_same _ w.heap.size 3 _ _ (.int .i64 d) g3
  have g5 := heap_setCell_same _ w.heap.size 4 _ _ (.int .i64 f) g4
  have g6 := heap_setCell_same _ w.heap.size 5 _ _ (.slice ad n cp) g5
  go_wp2_with fail
  obtain ⟨W5, hW5⟩ : ∃ W5, ((((((w1.setCell ⟨w.heap.size, 0, none⟩ (.int .u8 a)).setCell ⟨w.heap.size, 1, none⟩ (.int .u64 b)).setCell ⟨w.heap.size, 2, none⟩ (.int .u64 c)).setCell ⟨w.heap.size, 3, none⟩ (.int .i64 d)).setCell ⟨w.heap.size, 4, none⟩ (.int .i64 f)).setCell ⟨w.heap.size, 5, none⟩ (.slice ad n cp)) = W5 := ⟨_, rfl⟩
  have hsz5 : W5.heap.size = w1.heap.size := by rw [← hW5]; simp [World.setCell]
  have hoth : ∀ k, k ≠ w.heap.size → W5.heap[k]? = w1.heap[k]? := fun k hk => by
    rw [← hW5, heap_setCell_other _ _ _ _ hk, heap_setCell_other _ _ _ _ hk, heap_setCell_other _ _ _ _ hk, heap_setCell_other _ _ _ _ hk, heap_setCell_other _ _ _ _ hk, heap_setCell_other _ _ _ _ hk]
  rw [hW5] at g6
  have hB5 : Below w.heap.size w W5 := by
    have h1 := hbW.trans (hb1.mono hbW.size)
    rw [← hW5]
    exact ((((((h1.setCell (p := ⟨w.heap.size, 0, none⟩) (Nat.le_refl _) _).setCell (p := ⟨w.heap.size, 1, none⟩) (Nat.le_refl _) _).setCell (p := ⟨w.heap.size, 2, none⟩) (Nat.le_refl _) _).setCell (p := ⟨w.heap.size, 3, none⟩) (Nat.le_refl _) _).setCell (p := ⟨w.heap.size, 4, none⟩) (Nat.le_refl _) _).setCell (p := ⟨w.heap.size, 5, none⟩) (Nat.le_refl _) _)
  rw [hW5]
  clear hW5 g1 g2 g3 g4 g5
  have k15 := (hoth (w.heap.size + 1) (by omega)).trans k1
  have gg : (W5.setCell ⟨w.heap.size + 1, 0, none⟩ (.bool true)).heap[w.heap.size + 1]? = some (.cells #[.bool true] 4 (0, 0)) := heap_setCell_same W5 (w.heap.size + 1) 0 _ 4 (.bool true) k15
  obtain ⟨W6, hW6⟩ : ∃ W6, W5.setCell ⟨w.heap.size + 1, 0, none⟩ (.bool true) = W6 := ⟨_, rfl⟩
  have hsz6 : W6.heap.size = w1.heap.size := by rw [← hW6, ← hsz5]; simp [World.setCell]
  have hoth6 : ∀ k, k ≠ w.heap.size + 1 → W6.heap[k]? = W5.heap[k]? := fun k hk => by rw [← hW6]; exact heap_setCell_other _ _ _ _ hk
  have hB6 : Below w.heap.size w W6 := by rw [← hW6]; exact hB5.setCell (p := ⟨w.heap.size + 1, 0, none⟩) (by show w.heap.size ≤ w.heap.size + 1; omega) _
  rw [hW6] at gg ⊢
  clear hW6
  have hc6 : W6.cell? ⟨w.heap.size + 1, 0, none⟩ = some (.bool true) := by rw [cell_of_row _ _ 0 _ _ (0, 0) gg]; rfl
  have hf6 := frozen_of_row W6 (w.heap.size + 1) 0 _ 4 gg
  refine leaves_cons (f := 82) (args := #[.pointer (some ⟨w.heap.size + 1, 0, none⟩)]) (by simp) (by simp [go_sem]) ?_
  refine (catchP_ok ⟨w.heap.size + 1, 0, none⟩ true _ hc6 hf6).mono ?_
  rintro e u' w'' ⟨rfl, rfl, rfl⟩
  have gh : (W6.setCell ⟨w.heap.size + 1, 0, none⟩ (.bool true)).heap[w.heap.size + 1]? = some (.cells #[.bool true] 4 (0, 0)) := heap_setCell_same W6 (w.heap.size + 1) 0 _ 4 (.bool true) gg
  have hsz7 : (W6.setCell ⟨w.heap.size + 1, 0, none⟩ (.bool true)).heap.size = w1.heap.size := by rw [← hsz6]; simp [World.setCell]
  have hoth7 : ∀ k, k ≠ w.heap.size + 1 → (W6.setCell ⟨w.heap.size + 1, 0, none⟩ (.bool true)).heap[k]? = W6.heap[k]? := fun k hk => heap_setCell_other _ _ _ _ hk
  have hB7 : Below w.heap.size w (W6.setCell ⟨w.heap.size + 1, 0, none⟩ (.bool true)) := hB6.setCell (p := ⟨w.heap.size + 1, 0, none⟩) (by show w.heap.size ≤ w.heap.size + 1; omega) _
  generalize W6.setCell ⟨w.heap.size + 1, 0, none⟩ (.bool true) = W9 at *
  have hcb : W9.cell? ⟨w.heap.size + 1, 0, none⟩ = some (.bool true) := by rw [cell_of_row _ _ 0 _ _ (0, 0) gh]; rfl
  have g0' := (hoth7 w.heap.size (by omega)).trans ((hoth6 w.heap.size (by omega)).trans g6)
  have hl := run_loadVar_row (P := Tryz.prog) W9 w.heap.size 82 82 #[.int .u8 a, .int .u64 b, .int .u64 c, .int .i64 d, .int .i64 f, .slice ad n cp] (0, 0) _ g0' Tryz.underlying82 rfl (by kernel_rfl)
  have hlb := run_loadVar_bool W9 ⟨w.heap.size + 1, 0, none⟩ true hcb
  have hfin : Keeps w.heap.size W9 (Φ (.slice ad n cp)) := fun W h1 h2 => hfr W (by omega) (fun k hk1 hk2 => by
    rw [h2 k (by omega) (by omega), hoth7 k (by omega), hoth6 k (by omega), hoth k (by omega)])
  show ∃ v, (results Tryz.f58 _).run Tryz.prog W9 = .ok v W9 ∧ _
  refine ⟨_, ?_, ad, n, cp, rfl, hfin, hB7⟩
  simp [results, Tryz.results58, asAddr, hl, hlb, Result.andThen]

/-- A reader in block q: what is left to read. -/
structure RdrAt (w : World) (q : Nat) (xs : List Int) (m : Nat := 0) : Prop where
  body : ∃ v, w.heap[q]? = some (.cells #[v] 147 (0, 0)) ∧ Rd w v xs ∧ (xs ≠ [] → ∀ b off n c, v = .slice (some ⟨b, off, none⟩) n c → m ≤ b ∧ b < q)
  byt : Byt xs

theorem rd_drop {w : World} {b off n cap : Nat} {xs : List Int} (h : Rd w (.slice (some ⟨b, off, none⟩) n cap) xs) (k : Nat) (hk : k ≤ xs.length) : Rd w (.slice (some ⟨b, off + k, none⟩) (n - k) (cap - k)) (xs.drop k) := by
  obtain ⟨a, c, e, h1, h2, h3, h4⟩ := h
  simp only [Value.slice.injEq] at e
  obtain ⟨rfl, rfl, rfl⟩ := e
  have hl : (xs.drop k).length = xs.length - k := List.length_drop
  refine ⟨_, _, by rw [hl], by rw [hl]; omega, by omega, (by intro e; cases e), fun hne => ?_⟩
  have hp : k < xs.length := by
    rcases Nat.lt_or_ge k xs.length with q | q
    · exact q
    · exact absurd (List.drop_of_length_le q) hne
  obtain ⟨b', off', e', hlt, hc⟩ := h4 (by intro e; subst e; simp at hp)
  simp only [Option.some.injEq, Addr.mk.injEq] at e'
  obtain ⟨rfl, rfl, _⟩ := e'
  refine ⟨b, _, rfl, hlt, fun i hi => ?_⟩
  rw [hl] at hi
  have := hc (k + i) (by omega)
  rw [show off + k + i = off + (k + i) from by omega, this]
  simp [List.getD_eq_getElem?_getD, List.getElem?_drop]

/-- It stays while only blocks behind it turn. -/
theorem RdrAt.keep {w w' : World} {q m : Nat} {xs : List Int} (h : RdrAt w q xs m) (hs : w.heap.size ≤ w'.heap.size) (hb : ∀ k, k ≤ q → w'.heap[k]? = w.heap[k]?) : RdrAt w' q xs m := by
  obtain ⟨v, hq, hr, hvq⟩ := h.body
  refine ⟨⟨v, (hb q (Nat.le_refl _)).trans hq, ?_, hvq⟩, h.byt⟩
  obtain ⟨a, c, rfl, h1, h2, h3, h4⟩ := hr
  refine ⟨a, c, rfl, h1, h2, h3, fun hne => ?_⟩
  obtain ⟨b, off, rfl, hlt, hc⟩ := h4 hne
  exact ⟨b, off, rfl, by omega, fun i hi => (World.cell?_of_block (a := ⟨b, off + i, none⟩) (hb b (Nat.le_of_lt (hvq hne b off _ _ rfl).2))).trans (hc i hi)⟩

/-- Bytes lie in another block than the reader. -/
theorem rd_not {w : World} {q : Nat} {v u : Value} {xs : List Int} {ad : Addr} {n cap : Nat} (hq : w.heap[q]? = some (.cells #[.slice (some ad) n cap] 147 (0, 0))) (h : Rd w v xs) (hne : xs ≠ []) : ∃ b off c, v = .slice (some ⟨b, off, none⟩) xs.length c ∧ b ≠ q := by
  obtain ⟨a, c, rfl, h1, h2, h3, h4⟩ := h
  obtain ⟨b, off, rfl, hlt, hc⟩ := h4 hne
  refine ⟨b, off, c, rfl, fun e => ?_⟩
  subst e
  have hp : 0 < xs.length := List.length_pos_iff.2 hne
  have h0 := hc 0 hp
  rw [cell_of_row _ _ _ _ _ (0, 0) hq] at h0
  have := (Array.getElem?_eq_some_iff.1 h0)
  obtain ⟨hlt0, he⟩ := this
  simp at hlt0
  have e0 : off = 0 := by omega
  subst e0
  simp at he

set_option maxHeartbeats 2000000 in
theorem number_ok {w : World} {q m : Nat} {xs : List Int} (H : RdrAt w q xs m) (k : Nat) (hk1 : 1 ≤ k) (hk8 : k ≤ 8) (hk : k ≤ xs.length) :
    Calls Tryz.prog 86 #[.pointer (some ⟨q, 0, none⟩), .int .i64 k] w fun e w' => e = .returned (.int .u64 (valB (xs.take k))) ∧ RdrAt w' q (xs.drop k) m ∧ Sole [q] w w' := by
  obtain ⟨v, hq, hr, hvq⟩ := H.body
  have hby := H.byt
  have hne : xs ≠ [] := by intro e; subst e; simp at hk; omega
  have cn := number_any w v xs k hr hby
  have hE : numE xs k = 0 := by
    unfold numE
    rw [if_neg (by omega), if_neg (by omega)]
  have hV : numV xs k = (valB (xs.take k) : Int) := by unfold numV; rw [if_pos hE, Int.toNat_natCast]
  rw [hE, hV] at cn
  have hr' := hr
  obtain ⟨a, cap, rfl, h1, h2, h3, h4⟩ := hr
  obtain ⟨b, off, rfl, hlt, hc⟩ := h4 hne
  obtain ⟨b', off', c', e', hbq⟩ := rd_not (u := .bool true) hq hr' hne
  simp only [Value.slice.injEq, Option.some.injEq, Addr.mk.injEq] at e'
  obtain ⟨⟨rfl, rfl, _⟩, _, rfl⟩ := e'
  have hd := rd_drop hr' k hk
  have x0 : w.cell? ⟨q, 0, none⟩ = some (.slice (some ⟨b, off, none⟩) xs.length cap) := by rw [cell_of_row _ _ 0 _ _ (0, 0) hq]; rfl
  have f0 := frozen_of_row w q 0 _ _ hq
  have g1 := heap_setCell_same w q 0 _ _ (.slice (some ⟨b, off + k, none⟩) (xs.length - k) (cap - k)) hq
  have cm := must_u64_ok w (valB (xs.take k))
  unfold maxLen at h2
  have hkI : (k : Int) ≤ xs.length := by omega
  have HF : Hid (RdrAt (w.setCell ⟨q, 0, none⟩ (.slice (some ⟨b, off + k, none⟩) (xs.length - k) (cap - k))) q (xs.drop k) m) := by
    refine ⟨⟨_, g1, ?_, fun _ b2 o2 n2 c2 e2 => by simp only [Value.slice.injEq, Option.some.injEq, Addr.mk.injEq] at e2; rw [← e2.1.1]; exact hvq hne b off _ _ rfl⟩, fun x hx => hby x (List.mem_of_mem_drop hx)⟩
    obtain ⟨a2, c2, e2, j1, j2, j3, j4⟩ := hd
    refine ⟨a2, c2, e2, j1, j2, j3, fun hne2 => ?_⟩
    obtain ⟨b2, o2, e3, hl2, hc2⟩ := j4 hne2
    have hb2 : b2 = b := by
      simp only [Value.slice.injEq] at e2
      rw [← e2.1] at e3
      simp only [Option.some.injEq, Addr.mk.injEq] at e3
      exact e3.1.symm
    exact ⟨b2, o2, e3, by simpa [World.setCell] using hl2, fun i hi => (World.cell?_of_block (a := ⟨b2, o2 + i, none⟩) (heap_setCell_other _ _ _ _ (by show b2 ≠ q; rw [hb2]; exact hbq))).trans (hc2 i hi)⟩
  have HE : cap = k → Hid (RdrAt (w.setCell ⟨q, 0, none⟩ (.slice (some ⟨b, off, none⟩) 0 0)) q (xs.drop k) m) := fun hcap => by
    have hnil : xs.drop k = [] := List.drop_of_length_le (by omega)
    refine ⟨⟨_, heap_setCell_same w q 0 _ _ (.slice (some ⟨b, off, none⟩) 0 0) hq, ?_, fun _ b2 o2 n2 c2 e2 => by simp only [Value.slice.injEq, Option.some.injEq, Addr.mk.injEq] at e2; rw [← e2.1.1]; exact hvq hne b off _ _ rfl⟩, fun x hx => hby x (List.mem_of_mem_drop hx)⟩
    rw [hnil]
    exact ⟨_, 0, rfl, Nat.le_refl _, by decide, (by intro e; cases e), fun h => absurd rfl h⟩
  generalize (valB (xs.take k) : Int) = V at *
  clear hc h4 hr' hd hq g1 hE hV hne
  generalize hn : xs.length = n at *
  go_enter Tryz.func86, Tryz.ntmps86
  go_wp2_with fail
  refine cn.mono ?_
  rintro e w1 ⟨rfl, rfl⟩
  clear cn
  go_wp2_with fail
  refine cm.mono ?_
  rintro e w1 ⟨rfl, rfl⟩
  clear cm
  by_cases hcap : cap = k
  · have HE' := HE hcap
    clear HE HF
    subst hcap
    go_wp2
    go_ret
    exact ⟨rfl, HE'.out, Sole.setCell _ _ (by simp)⟩
  · clear HE
    go_wp2
    go_ret
    exact ⟨rfl, HF.out, Sole.setCell _ _ (by simp)⟩

theorem number_no {w : World} {q m : Nat} {xs : List Int} (H : RdrAt w q xs m) (k : Nat) (hk1 : 1 ≤ k) (hk8 : k ≤ 8) (hk : xs.length < k) :
    Calls Tryz.prog 86 #[.pointer (some ⟨q, 0, none⟩), .int .i64 k] w fun e w' => GaveUp e ∧ w' = w := by
  obtain ⟨v, hq, hr, hvq⟩ := H.body
  have cn := number_any w v xs k hr H.byt
  have hE : numE xs k = 10 := by
    unfold numE
    rw [if_neg (by omega), if_pos (by omega)]
  have hV : numV xs k = 0 := by unfold numV; rw [if_neg (by rw [hE]; decide)]
  rw [hE, hV] at cn
  obtain ⟨a, cap, rfl, _⟩ := hr
  have x0 : w.cell? ⟨q, 0, none⟩ = some (.slice a xs.length cap) := by rw [cell_of_row _ _ 0 _ _ (0, 0) hq]; rfl
  have cm := must_u64_no w (.int .u64 0) 10 (by decide)
  clear hq hE hV
  generalize xs.length = n at *
  go_enter Tryz.func86, Tryz.ntmps86
  go_wp2_with fail
  refine cn.mono ?_
  rintro e w1 ⟨rfl, rfl⟩
  clear cn
  go_wp2_with fail
  refine cm.mono ?_
  rintro e w1 ⟨⟨x, rfl⟩, rfl⟩
  exact ⟨rfl, ⟨x, rfl⟩, rfl⟩

set_option maxHeartbeats 2000000 in
theorem text_ok {w : World} {q m : Nat} {xs : List Int} (H : RdrAt w q xs m) (hE : readE xs = 0) :
    Calls Tryz.prog 132 #[.pointer (some ⟨q, 0, none⟩)] w fun e w' => e = .returned (.string (readS xs)) ∧ RdrAt w' q (xs.drop (readN xs).toNat) m ∧ Sole [q] w w' := by
  obtain ⟨v, hq, hr, hvq⟩ := H.body
  have hby := H.byt
  have hne : xs ≠ [] := by intro e; subst e; simp [readE] at hE
  have ct := readText_any w v xs hr hby
  obtain ⟨k, hk, hkl, hk1⟩ : ∃ k : Nat, readN xs = (k : Int) ∧ k ≤ xs.length ∧ 1 ≤ k := by
    cases xs with
    | nil => exact absurd rfl hne
    | cons c r =>
      have hc := hby c (List.mem_cons_self ..)
      unfold readE at hE
      unfold readN
      dsimp only at *
      split at hE
      · cases hE
      · rename_i hn
        rw [if_neg hn]
        exact ⟨1 + c.toNat, by omega, by rw [List.length_cons]; omega, by omega⟩
  rw [hE, hk] at ct
  rw [hk, Int.toNat_natCast]
  have hr' := hr
  obtain ⟨a, cap, rfl, h1, h2, h3, h4⟩ := hr
  obtain ⟨b, off, rfl, hlt, hc⟩ := h4 hne
  obtain ⟨b', off', c', e', hbq⟩ := rd_not (u := .bool true) hq hr' hne
  simp only [Value.slice.injEq, Option.some.injEq, Addr.mk.injEq] at e'
  obtain ⟨⟨rfl, rfl, _⟩, _, rfl⟩ := e'
  have hd := rd_drop hr' k hkl
  have x0 : w.cell? ⟨q, 0, none⟩ = some (.slice (some ⟨b, off, none⟩) xs.length cap) := by rw [cell_of_row _ _ 0 _ _ (0, 0) hq]; rfl
  have f0 := frozen_of_row w q 0 _ _ hq
  have g1 := heap_setCell_same w q 0 _ _ (.slice (some ⟨b, off + k, none⟩) (xs.length - k) (cap - k)) hq
  unfold maxLen at h2
  have hkI : (k : Int) ≤ xs.length := by omega
  have HF : Hid (RdrAt (w.setCell ⟨q, 0, none⟩ (.slice (some ⟨b, off + k, none⟩) (xs.length - k) (cap - k))) q (xs.drop k) m) := by
    refine ⟨⟨_, g1, ?_, fun _ b2 o2 n2 c2 e2 => by simp only [Value.slice.injEq, Option.some.injEq, Addr.mk.injEq] at e2; rw [← e2.1.1]; exact hvq hne b off _ _ rfl⟩, fun x hx => hby x (List.mem_of_mem_drop hx)⟩
    obtain ⟨a2, c2, e2, j1, j2, j3, j4⟩ := hd
    refine ⟨a2, c2, e2, j1, j2, j3, fun hne2 => ?_⟩
    obtain ⟨b2, o2, e3, hl2, hc2⟩ := j4 hne2
    have hb2 : b2 = b := by
      simp only [Value.slice.injEq] at e2
      rw [← e2.1] at e3
      simp only [Option.some.injEq, Addr.mk.injEq] at e3
      exact e3.1.symm
    exact ⟨b2, o2, e3, by simpa [World.setCell] using hl2, fun i hi => (World.cell?_of_block (a := ⟨b2, o2 + i, none⟩) (heap_setCell_other _ _ _ _ (by show b2 ≠ q; rw [hb2]; exact hbq))).trans (hc2 i hi)⟩
  have HE : cap = k → Hid (RdrAt (w.setCell ⟨q, 0, none⟩ (.slice (some ⟨b, off, none⟩) 0 0)) q (xs.drop k) m) := fun hcap => by
    have hnil : xs.drop k = [] := List.drop_of_length_le (by omega)
    refine ⟨⟨_, heap_setCell_same w q 0 _ _ (.slice (some ⟨b, off, none⟩) 0 0) hq, ?_, fun _ b2 o2 n2 c2 e2 => by simp only [Value.slice.injEq, Option.some.injEq, Addr.mk.injEq] at e2; rw [← e2.1.1]; exact hvq hne b off _ _ rfl⟩, fun x hx => hby x (List.mem_of_mem_drop hx)⟩
    rw [hnil]
    exact ⟨_, 0, rfl, Nat.le_refl _, by decide, (by intro e; cases e), fun h => absurd rfl h⟩
  have cm : ∀ W, Calls Tryz.prog 145 #[.string (readS xs), .int .i64 0] W fun e w' => e = .returned (.string (readS xs)) ∧ w' = W := fun W => must_str_ok W (readS xs)
  generalize readS xs = T at *
  clear hc h4 hr' hd hq g1 hE hk hne
  generalize hn : xs.length = n at *
  go_enter Tryz.func132, Tryz.ntmps132
  go_wp2_with fail
  refine ct.mono ?_
  rintro e w1 ⟨rfl, rfl⟩
  clear ct
  by_cases hcap : cap = k
  · have HE' := HE hcap
    clear HE HF
    subst hcap
    go_wp2_with fail
    refine (cm _).mono ?_
    rintro e w2 ⟨rfl, rfl⟩
    clear cm
    go_wp2
    go_ret
    exact ⟨rfl, HE'.out, Sole.setCell _ _ (by simp)⟩
  · clear HE
    go_wp2_with fail
    refine (cm _).mono ?_
    rintro e w2 ⟨rfl, rfl⟩
    clear cm
    go_wp2
    go_ret
    exact ⟨rfl, HF.out, Sole.setCell _ _ (by simp)⟩

theorem text_no {w : World} {q m : Nat} {xs : List Int} (H : RdrAt w q xs m) (hne : xs ≠ []) (hE : ¬ readE xs = 0) :
    Calls Tryz.prog 132 #[.pointer (some ⟨q, 0, none⟩)] w fun e w' => GaveUp e ∧ Sole [q] w w' := by
  obtain ⟨v, hq, hr, hvq⟩ := H.body
  have ct := readText_any w v xs hr H.byt
  have hN : readN xs = 0 := by
    cases xs with
    | nil => rfl
    | cons c r =>
      unfold readE at hE
      unfold readN
      dsimp only at *
      split at hE
      · rename_i h; rw [if_pos h]
      · exact absurd rfl hE
  rw [hN] at ct
  obtain ⟨a, cap, rfl, h1, h2, h3, h4⟩ := hr
  obtain ⟨b, off, rfl, hlt, hc⟩ := h4 hne
  unfold maxLen at h2
  have hp : 0 < xs.length := List.length_pos_iff.2 hne
  have x0 : w.cell? ⟨q, 0, none⟩ = some (.slice (some ⟨b, off, none⟩) xs.length cap) := by rw [cell_of_row _ _ 0 _ _ (0, 0) hq]; rfl
  have f0 := frozen_of_row w q 0 _ _ hq
  have cm : ∀ W, Calls Tryz.prog 145 #[.string (readS xs), .int .i64 (readE xs)] W fun e w' => GaveUp e ∧ w' = W := fun W => must_str_no W (.string (readS xs)) (readE xs) hE
  generalize readS xs = T at *
  generalize readE xs = E at *
  have hcap0 : ¬ cap = 0 := by omega
  clear hc h4 hq hne
  generalize xs.length = n at *
  go_enter Tryz.func132, Tryz.ntmps132
  go_wp2_with fail
  refine ct.mono ?_
  rintro e w1 ⟨rfl, rfl⟩
  clear ct
  go_wp2_with fail
  refine (cm _).mono ?_
  rintro e w2 ⟨⟨x, rfl⟩, rfl⟩
  exact ⟨rfl, ⟨x, rfl⟩, Sole.setCell _ _ (by simp)⟩

/-- Which texts the bytes are; none: they are not. -/
def parseG : Nat → List Int → Option (List ByteArray)
  | 0, xs => if xs = [] then some [] else none
  | f + 1, xs => if xs = [] then some [] else if readE xs = 0 then (parseG f (xs.drop (readN xs).toNat)).map (readS xs :: ·) else none

theorem parse_nil (f : Nat) : parseG f [] = some [] := by cases f <;> rfl

/-- What readGroup tells. -/
def GroupOut (w : World) (r : Option (List ByteArray)) (e : Ending) (w' : World) : Prop :=
  Below w.heap.size w w' ∧ match r with
    | some L => ∃ u, e = .returned u ∧ w'.ownsRow (w.heap.size + 1) 9 1 u L.length (strC L)
    | none => GaveUp e

theorem grown_sole {w w' : World} {q : Nat} (h : Sole [q] w w') : w.grownBy w' (some q) :=
  ⟨h.os, h.tape, h.output, h.size, fun k hk hn => h.block k hk (fun e => hn (by simp only [List.mem_singleton] at e; rw [e]))⟩

/-- A slice's length, off its value. -/
def lenOf : Value → Nat
  | .slice _ n _ => n
  | _ => 0

set_option maxHeartbeats 4000000 in
theorem readGroup_any (w : World) (v : Value) (xs : List Int) (hr : Rd w v xs) (hby : Byt xs) (hlen : xs.length ≤ 1000000) :
    Calls Tryz.prog 122 #[v] w fun e w' => GroupOut w (parseG xs.length xs) e w' := by
  obtain ⟨a, cap, rfl, h1, h2, h3, h4⟩ := hr
  obtain ⟨W1, hW1⟩ : ∃ W1, w.alloc (.cells #[.slice a xs.length cap] 147) = W1 := ⟨_, rfl⟩
  have hb1 : Below w.heap.size w W1 := by rw [← hW1]; exact (Below.refl _ w).alloc (Nat.le_refl _) _
  have hg1 : W1.heap[w.heap.size]? = some (.cells #[.slice a xs.length cap] 147 (0, 0)) := by rw [← hW1]; exact heap_alloc_new w _
  have hz1 : W1.heap.size = w.heap.size + 1 := by rw [← hW1]; simp
  have hR1 : RdrAt W1 w.heap.size xs := by
    refine ⟨⟨_, hg1, ⟨a, cap, rfl, h1, h2, h3, fun hne => ?_⟩, fun hne b off n c e => ⟨Nat.zero_le _, ?_⟩⟩, hby⟩
    · obtain ⟨b, off, e, hlt, hc⟩ := h4 hne
      exact ⟨b, off, e, by omega, fun i hi => (hb1.cell (p := ⟨b, off + i, none⟩) hlt).trans (hc i hi)⟩
    · simp only [Value.slice.injEq] at e
      obtain ⟨b', off', e', hlt, _⟩ := h4 hne
      rw [e'] at e
      simp only [Option.some.injEq, Addr.mk.injEq] at e
      omega
  generalize hN : parseG xs.length xs = R at *
  have HN : Hid (parseG xs.length xs = R) := hN
  clear hN h4 hg1
  unfold maxLen at h2
  go_enter Tryz.func122, Tryz.ntmps122
  go_wp2_with fail
  (try rw [hW1])
  clear hW1
  go_loopw [4] (fun x wr => ∃ (M : Nat) (U : List ByteArray) (ys : List Int) (aU : Option Addr) (cU : Nat), M + U.length = xs.length ∧ ys.length ≤ M ∧ x = .slice aU U.length cU ∧ wr.ownsRow (w.heap.size + 1) 9 1 (.slice aU U.length cU) U.length (strC U) ∧ RdrAt wr w.heap.size ys ∧ Hid ((parseG M ys).map (U ++ ·) = R) ∧ Below w.heap.size w wr ∧ w.heap.size + 1 ≤ wr.heap.size) (fun x _ => xs.length - lenOf x)
  case atStart => exact ⟨xs.length, [], xs, none, 0, rfl, Nat.le_refl _, rfl, World.ownsRow_nil _ _ _ _, hR1, by unfold Hid; rw [HN.out]; cases R <;> simp, hb1, by omega⟩
  case round =>
    clear hR1 HN
    obtain ⟨M, U, ys, aU, cU, hM, hys, rfl, hown, HR, HP, HB, hsz⟩ := hrel
    obtain ⟨wA, hA⟩ : ∃ wA, wA = wr := ⟨_, rfl⟩
    subst hA
    obtain ⟨vr, hq, hrd, _⟩ := HR.body
    obtain ⟨ar, cr, rfl, r1, r2, _⟩ := hrd
    unfold maxLen at r2
    have x0 : wA.cell? ⟨w.heap.size, 0, none⟩ = some (.slice ar ys.length cr) := by rw [cell_of_row _ _ 0 _ _ (0, 0) hq]; rfl
    by_cases hne : ys = []
    · subst hne
      have HO : Hid (GroupOut w R (.returned (.slice aU U.length cU)) wA) := by
        have := HP.out
        rw [parse_nil] at this
        simp only [Option.map_some, List.append_nil] at this
        refine ⟨HB, ?_⟩
        rw [← this]
        exact ⟨_, rfl, hown⟩
      rw [List.length_nil] at x0
      clear HP HR hown hq
      go_wp2
      go_ret
      exact HO.out
    · have hpos : 0 < ys.length := List.length_pos_iff.2 hne
      have hposI : (0 : Int) < ys.length := by omega
      obtain ⟨M', rfl⟩ : ∃ M', M = M' + 1 := ⟨M - 1, by omega⟩
      have hstep : parseG (M' + 1) ys = if readE ys = 0 then (parseG M' (ys.drop (readN ys).toNat)).map (readS ys :: ·) else none := by
        conv => lhs; unfold parseG
        rw [if_neg hne]
      by_cases hE : readE ys = 0
      · have ct := text_ok HR hE
        have hk1 : 1 ≤ (readN ys).toNat := by
          cases ys with
          | nil => exact absurd rfl hne
          | cons c r =>
            have hc := HR.byt c (List.mem_cons_self ..)
            unfold readE at hE
            unfold readN
            dsimp only at *
            split at hE
            · cases hE
            · rename_i hn
              rw [if_neg hn]
              omega
        have HP' : Hid ((parseG M' (ys.drop (readN ys).toNat)).map ((U ++ [readS ys]) ++ ·) = R) := by
          have := HP.out
          rw [hstep, if_pos hE] at this
          unfold Hid
          rw [← this]
          cases parseG M' (ys.drop (readN ys).toNat) with
          | none => rfl
          | some L => simp
        have hys' : (ys.drop (readN ys).toNat).length ≤ M' := by rw [List.length_drop]; omega
        generalize readS ys = T at *
        generalize ys.drop (readN ys).toNat = ys' at *
        clear HP hstep HR hq hE hk1 hne
        generalize ys.length = n at *
        go_wp2_with fail
        refine ct.mono ?_
        rintro e w2 ⟨rfl, HR2, hS2⟩
        clear ct x0
        have hz2 := hS2.size
        have ho2 : w2.ownsRow (w.heap.size + 1) 9 1 (.slice aU U.length cU) U.length (strC U) := World.ownsRow.kept hown (grown_sole hS2) (by
          cases hv : (Value.slice aU U.length cU).ownBlock with
          | none => simp
          | some k =>
            right
            intro e
            have := (World.ownsRow.lt hown k hv).1
            have e2 := Option.some.inj e
            omega)
        have hB2 : Below w.heap.size w w2 := hS2.belowOf HB HB.size (by simp)
        obtain ⟨W3, hW3⟩ : ∃ W3, w2.alloc (.cells #[.string T] 9) = W3 := ⟨_, rfl⟩
        have hb3 : Below w2.heap.size w2 W3 := by rw [← hW3]; exact (Below.refl _ w2).alloc (Nat.le_refl _) _
        have hg3 : W3.heap[w2.heap.size]? = some (.cells #[.string T] 9 (0, 0)) := by rw [← hW3]; exact heap_alloc_new w2 _
        have hl3 := (Array.getElem?_eq_some_iff.1 hg3).1
        have ho3 : W3.ownsRow (w.heap.size + 1) 9 1 (.slice aU U.length cU) U.length (strC U) := World.ownsRow.kept ho2 (row := Option.none) ⟨hb3.os, hb3.tape, hb3.output, hb3.size, fun k hk _ => hb3.block k hk⟩ (by cases hv : (Value.slice aU U.length cU).ownBlock <;> simp)
        have hrd3 : RdT [w2.heap.size] W3 (.slice (some ⟨w2.heap.size, 0, none⟩) 1 1) [T] := ⟨_, 1, rfl, Nat.le_refl _, by decide, (by intro e; cases e), fun _ => ⟨w2.heap.size, 0, rfl, hl3, by simp, fun i x hi => by
          match i, hi with
          | 0, hi =>
            simp only [List.getElem?_cons_zero, Option.some.injEq] at hi
            subst hi
            rw [cell_of_row _ _ _ _ _ (0, 0) hg3]
            rfl
          | i + 1, hi => simp at hi⟩⟩
        have hUl : U.length + [T].length ≤ 1000000000 := by simp; omega
        clear hown hg3
        generalize hUL : U.length = L at *
        go_wp2_with (at_builtin; refine wpList_append_strs rfl _ _ rfl (w.heap.size + 1) _ U rfl (by rw [hUL]; exact ho3) [w2.heap.size] _ [T] rfl hrd3 (by rw [hUL]; exact hUl) (by omega) ?_; intro v4 w4 ho4 hg4; obtain ⟨a4, c4, rfl⟩ := rowS_slice ho4)
        have hsz4 := hg4.size
        have hown4 := fun k hk => (World.ownsRow.lt ho3 k hk).1
        have hB4 : Below w.heap.size w w4 := (hB2.trans (hb3.mono hB2.size)).grown hg4 (by have := hb3.size; omega) (fun k hk => by have := hown4 k hk; omega)
        have HR4 : RdrAt w4 w.heap.size ys' := HR2.keep (by have := hb3.size; omega) (fun k hk => by
          rw [hg4.block k (by have := hb3.size; omega) (fun e => by have := hown4 k e.symm; omega)]
          exact hb3.block k (by omega))
        have hl4 : (U ++ [T]).length = L + 1 := by rw [List.length_append, hUL]; rfl
        rw [hl4] at ho4
        have hsz4' : w.heap.size + 1 ≤ w4.heap.size := by have := hb3.size; omega
        clear ho3 ho2 hrd3 hg4 HR2 hown4
        go_wp2_with fail
        go_roundw
        case rel => exact ⟨M', U ++ [T], ys', a4, c4, by rw [hl4]; omega, hys', by rw [hl4], by rw [hl4]; exact ho4, HR4, HP', hB4, hsz4'⟩
        case measure => simp [lenOf]; omega
      · have ct := text_no HR hne hE
        have hR : R = none := by have := HP.out; rw [hstep, if_neg hE] at this; exact this.symm
        subst hR
        clear HP hstep HR hown hq
        generalize ys.length = n at *
        go_wp2_with fail
        refine ct.mono ?_
        rintro e w2 ⟨⟨x, rfl⟩, hS⟩
        refine ⟨rfl, ?_⟩
        exact ⟨hS.belowOf HB HB.size (by simp), ⟨x, rfl⟩⟩

def TextsOk (g : List ByteArray) : Prop := ∀ x ∈ g, x.size ≤ 255

theorem parse_lay_f : ∀ (g : List ByteArray) (f : Nat), (layL g).length ≤ f → TextsOk g → parseG f (layL g) = some g
  | [], f, _, _ => parse_nil f
  | x :: g, f, hf, hx => by
    have hs : x.size ≤ 255 := hx x (by simp)
    have e : layL (x :: g) = (x.size : Int) :: (strB x ++ layL g) := by
      show textB x ++ layL g = _
      unfold textB
      rw [if_neg (by omega)]
      rfl
    rw [e] at hf ⊢
    simp only [List.length_cons, List.length_append] at hf
    obtain ⟨f', rfl⟩ : ∃ f', f = f' + 1 := ⟨f - 1, by omega⟩
    have hn : (readN ((x.size : Int) :: (strB x ++ layL g))).toNat = 1 + x.size := by
      have hE := back_E x (layL g)
      unfold readN readE at *
      simp only [Int.toNat_natCast] at *
      split at hE
      · cases hE
      · rename_i h
        rw [if_neg h]
        omega
    have hd : ((x.size : Int) :: (strB x ++ layL g)).drop (1 + x.size) = layL g := by
      rw [Nat.add_comm, List.drop_succ_cons, List.drop_append_of_le_length (by rw [strB_length]; exact Nat.le_refl _), List.drop_of_length_le (by rw [strB_length]; exact Nat.le_refl _), List.nil_append]
    unfold parseG
    rw [if_neg (by simp), if_pos (back_E x _), hn, hd, back_S, parse_lay_f g f' (by omega) (fun y hy => hx y (List.mem_cons_of_mem _ hy))]
    rfl

theorem parse_lay (g : List ByteArray) (h : TextsOk g) : parseG (layL g).length (layL g) = some g := parse_lay_f g _ (Nat.le_refl _) h

/-- A piece that was found, and where it stands. -/
structure Fd where
  p : Pc
  block : Nat

/-- A record all of which is there. -/
structure Wh where
  at_ : Nat
  blocks : List Nat
  group : List ByteArray
  begins : Bool

/-- Whether the first n are the pieces from i on of the record a. -/
def runOk (a : Nat) : Nat → List Fd → Nat → Bool
  | 0, _, _ => true
  | _ + 1, [], _ => false
  | n + 1, x :: r, i => decide (x.p.at_ = a) && decide (x.p.index = i) && runOk a n r (i + 1)

def bodyOf (fs : List Fd) : List Int := fs.flatMap fun x => x.p.body

/-- The record whose pieces stand first. -/
def wholeOf : List Fd → Option Wh
  | [] => none
  | x :: r => if runOk x.p.at_ (piecesN x.p.length) (x :: r) 0 then
      (parseG ((bodyOf ((x :: r).take (piecesN x.p.length))).take x.p.length).length ((bodyOf ((x :: r).take (piecesN x.p.length))).take x.p.length)).map fun g =>
        ⟨x.p.at_, ((x :: r).take (piecesN x.p.length)).map (·.block), g, decide (x.p.kind = 2)⟩
      else none

/-- The records that are kept, from e on. -/
def keepL : List Fd → Nat → List Wh
  | [], _ => []
  | x :: r, e => match wholeOf (x :: r) with
    | some w => if w.at_ = e ∨ (e < w.at_ ∧ w.begins = true) then w :: keepL r (w.at_ + w.blocks.length) else keepL r e
    | none => keepL r e
def keepE : List Fd → Nat → Nat
  | [], e => e
  | x :: r, e => match wholeOf (x :: r) with
    | some w => if w.at_ = e ∨ (e < w.at_ ∧ w.begins = true) then keepE r (w.at_ + w.blocks.length) else keepE r e
    | none => keepE r e

theorem keepL_cons (x : Fd) (r : List Fd) (e : Nat) : keepL (x :: r) e = match wholeOf (x :: r) with
    | some w => if w.at_ = e ∨ (e < w.at_ ∧ w.begins = true) then w :: keepL r (w.at_ + w.blocks.length) else keepL r e
    | none => keepL r e := rfl
theorem keepE_cons (x : Fd) (r : List Fd) (e : Nat) : keepE (x :: r) e = match wholeOf (x :: r) with
    | some w => if w.at_ = e ∨ (e < w.at_ ∧ w.begins = true) then keepE r (w.at_ + w.blocks.length) else keepE r e
    | none => keepE r e := rfl
theorem whole_cons (x : Fd) (r : List Fd) : wholeOf (x :: r) = if runOk x.p.at_ (piecesN x.p.length) (x :: r) 0 then
      (parseG ((bodyOf ((x :: r).take (piecesN x.p.length))).take x.p.length).length ((bodyOf ((x :: r).take (piecesN x.p.length))).take x.p.length)).map fun g =>
        (⟨x.p.at_, ((x :: r).take (piecesN x.p.length)).map (·.block), g, decide (x.p.kind = 2)⟩ : Wh)
      else none := rfl

theorem piecesN_pos (n : Nat) : 0 < piecesN n := by
  unfold piecesN
  split
  · exact Nat.one_pos
  · omega

theorem runOk_mem {a : Nat} : ∀ {n : Nat} {fs : List Fd} {i : Nat}, runOk a n fs i = true → ∀ j, i ≤ j → j < i + n → ∃ y ∈ fs, y.p.at_ = a ∧ y.p.index = j
  | 0, _, _, _, j, h1, h2 => by omega
  | _ + 1, [], _, h, _, _, _ => by simp [runOk] at h
  | n + 1, x :: r, i, h, j, h1, h2 => by
    simp only [runOk, Bool.and_eq_true, decide_eq_true_eq] at h
    rcases Nat.eq_or_lt_of_le h1 with e | e
    · exact ⟨x, by simp, h.1.1, by rw [h.1.2, e]⟩
    · obtain ⟨y, hy, h3⟩ := runOk_mem h.2 j (by omega) (by omega)
      exact ⟨y, List.mem_cons_of_mem _ hy, h3⟩

theorem runOk_at {a : Nat} : ∀ {n : Nat} {fs : List Fd} {i : Nat}, runOk a n fs i = true → ∀ j, j < n → ∃ y, fs[j]? = some y ∧ y.p.at_ = a ∧ y.p.index = i + j
  | 0, _, _, _, j, h2 => by omega
  | _ + 1, [], _, h, _, _ => by simp [runOk] at h
  | n + 1, x :: r, i, h, j, h2 => by
    simp only [runOk, Bool.and_eq_true, decide_eq_true_eq] at h
    cases j with
    | zero => exact ⟨x, rfl, h.1.1, h.1.2⟩
    | succ j =>
      obtain ⟨y, hy, h3, h4⟩ := runOk_at h.2 j (by omega)
      exact ⟨y, hy, h3, by omega⟩

theorem runOk_of {a : Nat} : ∀ {n : Nat} {fs : List Fd} {i : Nat}, (∀ j, j < n → ∃ y, fs[j]? = some y ∧ y.p.at_ = a ∧ y.p.index = i + j) → runOk a n fs i = true
  | 0, _, _, _ => rfl
  | n + 1, [], _, h => by obtain ⟨y, hy, _⟩ := h 0 (by omega); simp at hy
  | n + 1, x :: r, i, h => by
    obtain ⟨y, hy, h1, h2⟩ := h 0 (by omega)
    simp only [List.getElem?_cons_zero, Option.some.injEq] at hy
    subst hy
    simp only [runOk, Bool.and_eq_true, decide_eq_true_eq]
    exact ⟨⟨h1, h2⟩, runOk_of fun j hj => by
      obtain ⟨z, hz, h3, h4⟩ := h (j + 1) (by omega)
      exact ⟨z, by simpa using hz, h3, by omega⟩⟩

theorem whole_none {x : Fd} {r : List Fd} {j : Nat} (hj : j < piecesN x.p.length) (h : ∀ y, (x :: r)[j]? = some y → ¬ (y.p.at_ = x.p.at_ ∧ y.p.index = j)) : wholeOf (x :: r) = none := by
  rw [whole_cons, if_neg]
  intro hr
  obtain ⟨y, hy, h1, h2⟩ := runOk_at hr j hj
  exact h y hy ⟨h1, by omega⟩

theorem whole_at {x : Fd} {r : List Fd} {w : Wh} (h : wholeOf (x :: r) = some w) : w.at_ = x.p.at_ ∧ w.begins = decide (x.p.kind = 2) ∧ runOk x.p.at_ (piecesN x.p.length) (x :: r) 0 = true := by
  rw [whole_cons] at h
  split at h
  · rename_i hr
    rw [Option.map_eq_some_iff] at h
    obtain ⟨g, _, rfl⟩ := h
    exact ⟨rfl, rfl, hr⟩
  · cases h

/-- Whatever is passed by. -/
def Skip (fs : List Fd) (e : Nat) (x : Fd) : Prop :=
  x.p.index ≠ 0 ∨ x.p.at_ < e ∨ (e < x.p.at_ ∧ x.p.kind ≠ 2) ∨ ∃ j, j < piecesN x.p.length ∧ ∀ y ∈ fs, y.p.at_ = x.p.at_ → y.p.index ≠ j

theorem skip_keep {x : Fd} {r fs : List Fd} {e : Nat} (h : Skip fs e x) (hs : ∀ y ∈ x :: r, y ∈ fs) : keepL (x :: r) e = keepL r e ∧ keepE (x :: r) e = keepE r e := by
  rw [keepL_cons, keepE_cons]
  cases hw : wholeOf (x :: r) with
  | none => exact ⟨rfl, rfl⟩
  | some w =>
    obtain ⟨h1, h2, h3⟩ := whole_at hw
    have hno : ¬ (w.at_ = e ∨ (e < w.at_ ∧ w.begins = true)) := by
      rw [h1, h2]
      rcases h with h | h | h | ⟨j, hj, h⟩
      · exfalso
        have hp := piecesN_pos x.p.length
        obtain ⟨m, hm⟩ : ∃ m, piecesN x.p.length = m + 1 := ⟨_, (Nat.succ_pred_eq_of_pos hp).symm⟩
        rw [hm] at h3
        simp only [runOk, Bool.and_eq_true, decide_eq_true_eq] at h3
        exact h h3.1.2
      · omega
      · simp only [decide_eq_true_eq]; omega
      · exfalso
        obtain ⟨y, hy, ha, hi⟩ := runOk_mem h3 j (Nat.zero_le _) (by omega)
        exact h y (hs y hy) ha hi
    simp only [if_neg hno, and_self]

theorem skip_all {e : Nat} {R fs : List Fd} : ∀ {L : List Fd}, (∀ x ∈ L, Skip fs e x) → (∀ y ∈ L ++ R, y ∈ fs) → keepL (L ++ R) e = keepL R e ∧ keepE (L ++ R) e = keepE R e
  | [], _, _ => ⟨rfl, rfl⟩
  | x :: L, h, hs => by
    have h1 := skip_keep (r := L ++ R) (h x (by simp)) hs
    have h2 := skip_all (L := L) (R := R) (fun y hy => h y (List.mem_cons_of_mem _ hy)) (fun y hy => hs y (List.mem_cons_of_mem _ hy))
    rw [List.cons_append, h1.1, h1.2]
    exact h2

/-- A record that was appended: its number, its kind (1 follows, 2 begins), its tail, its texts, its blocks. -/
structure Rr where
  at_ : Nat
  kind : Nat
  tail : Nat
  group : List ByteArray
  blocks : List Nat

def Rr.bytes (r : Rr) : List Int := layL r.group
def Rr.pc (r : Rr) (j : Nat) : Pc := full ⟨r.kind, r.tail, r.at_, j, r.bytes.length, (r.bytes.drop (488 * j)).take 488⟩
def Rr.fin (r : Rr) : Nat := r.at_ + r.blocks.length
def Rr.fd (r : Rr) (j : Nat) : Fd := ⟨r.pc j, r.blocks.getD j 0⟩
def Rr.fds (r : Rr) : List Fd := (List.range r.blocks.length).map r.fd
def Rr.wh (r : Rr) : Wh := ⟨r.at_, r.blocks, r.group, decide (r.kind = 2)⟩

structure RrOk (c : Nat) (r : Rr) : Prop where
  kind : r.kind = 1 ∨ r.kind = 2
  len : r.blocks.length = piecesN r.bytes.length
  nodup : r.blocks.Nodup
  lt : ∀ b ∈ r.blocks, b < c
  texts : TextsOk r.group

theorem RrOk.pos {c : Nat} {r : Rr} (h : RrOk c r) : 0 < r.blocks.length := by rw [h.len]; exact piecesN_pos _
theorem RrOk.finlt {c : Nat} {r : Rr} (h : RrOk c r) : r.at_ < r.fin := by have := h.pos; unfold Rr.fin; omega

theorem runOk_range (r : Rr) (R : List Fd) : ∀ (n i : Nat), runOk r.at_ n ((List.range' i n).map r.fd ++ R) i = true
  | 0, _ => rfl
  | n + 1, i => by
    rw [List.range'_succ, List.map_cons, List.cons_append]
    simp only [runOk, Bool.and_eq_true, decide_eq_true_eq]
    exact ⟨⟨rfl, rfl⟩, runOk_range r R n (i + 1)⟩

theorem take_488 (b : List Int) : ∀ (n i : Nat), (List.range' i n).flatMap (fun j => (full ⟨0, 0, 0, j, 0, (b.drop (488 * j)).take 488⟩ : Pc).body) = ((b.drop (488 * i)) ++ List.replicate (488 * (i + n) - b.length) 0).take (488 * n)
  | 0, i => by simp
  | n + 1, i => by
    rw [List.range'_succ, List.flatMap_cons, take_488 b n (i + 1)]
    simp only [full]
    have e1 : b.drop (488 * (i + 1)) = (b.drop (488 * i)).drop 488 := by rw [List.drop_drop]; congr 1
    rw [e1]
    generalize hb : b.drop (488 * i) = d
    have hl : d.length = b.length - 488 * i := by rw [← hb]; simp
    rcases Nat.lt_or_ge d.length 488 with h | h
    · have e2 : d.drop 488 = [] := List.drop_of_length_le (by omega)
      have e3 : d.take 488 = d := List.take_of_length_le (by omega)
      rw [e2, e3, List.nil_append, List.take_append, List.take_of_length_le (l := d) (by omega)]
      rw [List.append_assoc]
      congr 1
      rw [List.take_replicate, List.take_replicate, List.replicate_append_replicate]
      congr 1
      omega
    · have e4 : (d.take 488).length = 488 := by simp; omega
      rw [e4, Nat.sub_self, List.replicate_zero, List.append_nil]
      rw [show 488 * (n + 1) = 488 + 488 * n from by omega, List.take_add]
      rw [List.take_append_of_le_length h, List.drop_append_of_le_length h]
      congr 4
      omega

theorem piecesN_room (n : Nat) : n ≤ 488 * piecesN n := by
  unfold piecesN
  split
  · omega
  · omega

theorem fds_range (r : Rr) : r.fds = (List.range' 0 r.blocks.length).map r.fd := by unfold Rr.fds; rw [List.range_eq_range']

theorem map_block (r : Rr) : r.fds.map (·.block) = r.blocks := by
  unfold Rr.fds
  rw [List.map_map]
  apply List.ext_getElem
  · simp
  · intro i h1 h2
    simp [Rr.fd, List.getD_eq_getElem?_getD] at *
    rw [List.getElem?_eq_getElem h2]; rfl

theorem whole_rec {c : Nat} {r : Rr} (h : RrOk c r) (R : List Fd) : wholeOf (r.fds ++ R) = some r.wh := by
  have hp := h.pos
  obtain ⟨m, hm⟩ : ∃ m, r.blocks.length = m + 1 := ⟨_, (Nat.succ_pred_eq_of_pos hp).symm⟩
  have hcons : r.fds ++ R = r.fd 0 :: ((List.range' 1 m).map r.fd ++ R) := by rw [fds_range, hm, List.range'_succ]; rfl
  have hlen : r.fds.length = r.blocks.length := by simp [Rr.fds]
  have htake : (r.fds ++ R).take (piecesN r.bytes.length) = r.fds := by
    rw [← h.len, List.take_append_of_le_length (by omega), List.take_of_length_le (by omega)]
  have hrun : runOk r.at_ (piecesN r.bytes.length) (r.fds ++ R) 0 = true := by
    rw [← h.len, fds_range]; exact runOk_range r R _ 0
  have hbody : (bodyOf r.fds).take r.bytes.length = r.bytes := by
    have e := take_488 r.bytes r.blocks.length 0
    have e2 : bodyOf r.fds = (List.range' 0 r.blocks.length).flatMap (fun j => (full ⟨0, 0, 0, j, 0, (r.bytes.drop (488 * j)).take 488⟩ : Pc).body) := by
      unfold bodyOf
      rw [fds_range, List.flatMap_map]
      rfl
    rw [e2, e, Nat.mul_zero, List.drop_zero, Nat.zero_add]
    have hr := piecesN_room r.bytes.length
    rw [← h.len] at hr
    rw [List.take_take, Nat.min_eq_left hr, List.take_append_of_le_length (Nat.le_refl _), List.take_of_length_le (Nat.le_refl _)]
  have hw : wholeOf (r.fds ++ R) = if runOk r.at_ (piecesN r.bytes.length) (r.fds ++ R) 0 then
      (parseG ((bodyOf ((r.fds ++ R).take (piecesN r.bytes.length))).take r.bytes.length).length ((bodyOf ((r.fds ++ R).take (piecesN r.bytes.length))).take r.bytes.length)).map fun g =>
        (⟨r.at_, ((r.fds ++ R).take (piecesN r.bytes.length)).map (·.block), g, decide (r.kind = 2)⟩ : Wh)
      else none := by rw [hcons]; rfl
  rw [hw, if_pos hrun, htake, hbody, map_block]
  unfold Rr.bytes
  rw [parse_lay _ h.texts]
  rfl

/-- One behind the other, from e on. -/
def Chain : Nat → List Rr → Prop
  | _, [] => True
  | e, r :: l => (r.at_ = e ∨ (e < r.at_ ∧ r.kind = 2)) ∧ Chain r.fin l
def chainE : Nat → List Rr → Nat
  | e, [] => e
  | _, r :: l => chainE r.fin l

theorem keep_rec {c e : Nat} {r : Rr} (h : RrOk c r) (hc : r.at_ = e ∨ (e < r.at_ ∧ r.kind = 2)) (R fs : List Fd) : keepL (r.fds ++ R) e = r.wh :: keepL R r.fin ∧ keepE (r.fds ++ R) e = keepE R r.fin := by
  have hw := whole_rec h R
  have hp := h.pos
  obtain ⟨m, hm⟩ : ∃ m, r.blocks.length = m + 1 := ⟨_, (Nat.succ_pred_eq_of_pos hp).symm⟩
  have hcons : r.fds ++ R = r.fd 0 :: ((List.range' 1 m).map r.fd ++ R) := by rw [fds_range, hm, List.range'_succ]; rfl
  have hc2 : r.wh.at_ = e ∨ (e < r.wh.at_ ∧ r.wh.begins = true) := by
    rcases hc with hc | hc
    · exact .inl hc
    · exact .inr ⟨hc.1, decide_eq_true hc.2⟩
  have hsk := skip_all (e := r.fin) (R := R) (fs := (List.range' 1 m).map r.fd ++ R) (L := (List.range' 1 m).map r.fd) (fun x hx => by
    obtain ⟨j, hj, rfl⟩ := List.mem_map.1 hx
    have := (List.mem_range'_1.1 hj).1
    exact .inl (by show j ≠ 0; omega)) (fun _ h => h)
  rw [hcons] at hw ⊢
  rw [keepL_cons, keepE_cons, hw]
  simp only [if_pos hc2]
  have ef : r.wh.at_ + r.wh.blocks.length = r.fin := rfl
  rw [ef, hsk.1, hsk.2]
  exact ⟨rfl, rfl⟩

theorem keep_chain {c : Nat} (R : List Fd) : ∀ {K : List Rr} {e : Nat}, (∀ r ∈ K, RrOk c r) → Chain e K → keepL (K.flatMap Rr.fds ++ R) e = K.map Rr.wh ++ keepL R (chainE e K) ∧ keepE (K.flatMap Rr.fds ++ R) e = keepE R (chainE e K)
  | [], _, _, _ => ⟨rfl, rfl⟩
  | r :: K, e, hk, hc => by
    have h1 := keep_rec (hk r (by simp)) hc.1 (K.flatMap Rr.fds ++ R) []
    have h2 := keep_chain R (K := K) (e := r.fin) (fun x hx => hk x (List.mem_cons_of_mem _ hx)) hc.2
    rw [List.flatMap_cons, List.append_assoc, h1.1, h1.2, h2.1, h2.2]
    exact ⟨rfl, rfl⟩

/-- Two lists that rise by a key and have the same members are the same. -/
theorem rising_key {α : Type} (key : α → Nat) : ∀ (l m : List α), l.Pairwise (fun a b => key a < key b) → m.Pairwise (fun a b => key a < key b) → (∀ v, v ∈ l ↔ v ∈ m) → l = m
  | [], [], _, _, _ => rfl
  | [], y :: m, _, _, h => by have := (h y).2 (List.mem_cons_self); cases this
  | x :: l, [], _, _, h => by have := (h x).1 (List.mem_cons_self); cases this
  | x :: l, y :: m, h1, h2, h => by
    obtain ⟨a1, a2⟩ := List.pairwise_cons.1 h1
    obtain ⟨b1, b2⟩ := List.pairwise_cons.1 h2
    have e : x = y := by
      rcases List.mem_cons.1 ((h x).1 (List.mem_cons_self)) with p | p
      · exact p
      · rcases List.mem_cons.1 ((h y).2 (List.mem_cons_self)) with q | q
        · exact q.symm
        · have := b1 x p; have := a1 y q; omega
    subst e
    rw [rising_key key l m a2 b2 (fun v => ?_)]
    constructor
    · intro hv
      rcases List.mem_cons.1 ((h v).1 (List.mem_cons_of_mem _ hv)) with e | e
      · subst e; have := a1 v hv; omega
      · exact e
    · intro hv
      rcases List.mem_cons.1 ((h v).2 (List.mem_cons_of_mem _ hv)) with e | e
      · subst e; have := b1 v hv; omega
      · exact e

/-- A list that rises by a key: those below, those at, those above. -/
theorem split_key {α : Type} (key : α → Nat) (a : Nat) : ∀ (l : List α), l.Pairwise (fun x y => key x ≤ key y) → l = l.filter (fun x => decide (key x < a)) ++ (l.filter (fun x => decide (key x = a)) ++ l.filter (fun x => decide (a < key x)))
  | [], _ => rfl
  | x :: l, h => by
    obtain ⟨h1, h2⟩ := List.pairwise_cons.1 h
    have ih := split_key key a l h2
    rcases Nat.lt_trichotomy (key x) a with c | c | c
    · rw [List.filter_cons_of_pos (by simpa using c), List.filter_cons_of_neg (by simp; omega), List.filter_cons_of_neg (by simp; omega), List.cons_append, ← ih]
    · have e1 : l.filter (fun x => decide (key x < a)) = [] := List.filter_eq_nil_iff.2 (fun y hy => by have := h1 y hy; simp; omega)
      rw [List.filter_cons_of_neg (by simp; omega), List.filter_cons_of_pos (by simpa using c), List.filter_cons_of_neg (by simp; omega), e1, List.nil_append, List.cons_append]
      rw [e1, List.nil_append] at ih
      rw [← ih]
    · have e1 : l.filter (fun x => decide (key x < a)) = [] := List.filter_eq_nil_iff.2 (fun y hy => by have := h1 y hy; simp; omega)
      have e2 : l.filter (fun x => decide (key x = a)) = [] := List.filter_eq_nil_iff.2 (fun y hy => by have := h1 y hy; simp; omega)
      rw [List.filter_cons_of_neg (by simp; omega), List.filter_cons_of_neg (by simp; omega), List.filter_cons_of_pos (by simpa using c), e1, e2, List.nil_append, List.nil_append]
      rw [e1, e2, List.nil_append, List.nil_append] at ih
      rw [← ih]

def leD (x y : Fd) : Prop := x.p.at_ < y.p.at_ ∨ (x.p.at_ = y.p.at_ ∧ x.p.index ≤ y.p.index)

/-- A piece that is no record's that is kept: it does not begin, or lies ahead of the tail, or has lost others of its record, or follows what is lost. -/
def Junk (fs : List Fd) (e : Nat) (K : List Rr) (x : Fd) : Prop :=
  (∀ r ∈ K, x.p.at_ ≠ r.at_) ∧ (x.p.index ≠ 0 ∨ x.p.at_ < e ∨ (∃ j, j < piecesN x.p.length ∧ ∀ y ∈ fs, y.p.at_ = x.p.at_ → y.p.index ≠ j) ∨ (x.p.kind ≠ 2 ∧ e < x.p.at_ ∧ ∀ r ∈ K, r.at_ < x.p.at_ → r.fin < x.p.at_))
theorem Junk.skip {fs : List Fd} {e : Nat} {K : List Rr} {x : Fd} (h : Junk fs e K x) : Skip fs e x := by
  rcases h.2 with h | h | h | h
  · exact .inl h
  · exact .inr (.inl h)
  · exact .inr (.inr (.inr h))
  · exact .inr (.inr (.inl ⟨h.2.1, h.1⟩))

theorem fd_at (r : Rr) (j : Nat) : (r.fd j).p.at_ = r.at_ := rfl
theorem fd_index (r : Rr) (j : Nat) : (r.fd j).p.index = j := rfl
theorem mem_fds {r : Rr} {y : Fd} : y ∈ r.fds ↔ ∃ j, j < r.blocks.length ∧ r.fd j = y := by
  unfold Rr.fds
  rw [List.mem_map]
  constructor
  · rintro ⟨j, hj, e⟩; exact ⟨j, List.mem_range.1 hj, e⟩
  · rintro ⟨j, hj, e⟩; exact ⟨j, List.mem_range.2 hj, e⟩
theorem fds_rise (r : Rr) : r.fds.Pairwise (fun a b => a.p.index < b.p.index) := by
  unfold Rr.fds
  rw [List.pairwise_map]
  exact List.pairwise_lt_range.imp (fun h => h)

theorem chain_ge : ∀ {K : List Rr} {e c : Nat}, (∀ r ∈ K, RrOk c r) → Chain e K → ∀ r ∈ K, e ≤ r.at_
  | [], _, _, _, _, r, hr => by cases hr
  | s :: K, e, c, hk, hc, r, hr => by
    have h1 := hc.1
    have h2 := (hk s List.mem_cons_self).finlt
    rcases List.mem_cons.1 hr with rfl | hr
    · omega
    · have := chain_ge (fun r hr => hk r (List.mem_cons_of_mem _ hr)) hc.2 r hr
      omega

/-- What is kept of a sorted list of pieces. -/
theorem keep_junk {c : Nat} {fs : List Fd} : ∀ (K : List Rr) (e : Nat) (L : List Fd), (∀ r ∈ K, RrOk c r) → Chain e K → L.Pairwise leD → L.Nodup → (∀ y ∈ L, y ∈ fs) → (∀ y ∈ L, y ∈ K.flatMap Rr.fds ∨ Junk fs e K y) → (∀ y ∈ K.flatMap Rr.fds, y ∈ L) → keepL L e = K.map Rr.wh ∧ keepE L e = chainE e K
  | [], e, L, _, _, _, _, hs, hj, _ => by
    have h1 := skip_all (e := e) (R := []) (fs := fs) (L := L) (fun x hx => by
      rcases hj x hx with h | h
      · simp at h
      · exact h.skip) (fun y hy => hs y (by simpa using hy))
    rw [List.append_nil] at h1
    exact h1
  | r :: K, e, L, hk, hc, hL, hn, hs, hj, hm => by
    have hr := hk r List.mem_cons_self
    have hfin := hr.finlt
    have hge := chain_ge (fun s hs => hk s (List.mem_cons_of_mem _ hs)) hc.2
    have hLat : L.Pairwise (fun x y => x.p.at_ ≤ y.p.at_) := hL.imp (fun {a b} h => by rcases h with h | h <;> omega)
    have hsp := split_key (fun x : Fd => x.p.at_) r.at_ L hLat
    have hmem : ∀ y ∈ L, y.p.at_ = r.at_ → y ∈ r.fds := fun y hy ha => by
      rcases hj y hy with h | h
      · rw [List.flatMap_cons, List.mem_append] at h
        rcases h with h | h
        · exact h
        · obtain ⟨s, hsK, hys⟩ := List.mem_flatMap.1 h
          obtain ⟨j, _, e⟩ := mem_fds.1 hys
          have := hge s hsK
          have : y.p.at_ = s.at_ := by rw [← e]; rfl
          omega
      · exact absurd ha (h.1 r List.mem_cons_self)
    have hmid : L.filter (fun x => decide (x.p.at_ = r.at_)) = r.fds := by
      refine rising_key (fun x : Fd => x.p.index) _ _ ?_ (fds_rise r) (fun y => ?_)
      · have h1 : (L.filter (fun x => decide (x.p.at_ = r.at_))).Pairwise (fun a b => leD a b ∧ a ≠ b) := (hL.and hn).filter _
        refine h1.imp_of_mem (fun {a b} ma mb hab => ?_)
        obtain ⟨ma1, ma2⟩ := List.mem_filter.1 ma
        obtain ⟨mb1, mb2⟩ := List.mem_filter.1 mb
        have ea : a.p.at_ = r.at_ := by simpa using ma2
        have eb : b.p.at_ = r.at_ := by simpa using mb2
        obtain ⟨i, _, ha⟩ := mem_fds.1 (hmem a ma1 ea)
        obtain ⟨j, _, hb⟩ := mem_fds.1 (hmem b mb1 eb)
        have hne : i ≠ j := fun q => hab.2 (by rw [← ha, ← hb, q])
        have ia : a.p.index = i := by rw [← ha]; rfl
        have ib : b.p.index = j := by rw [← hb]; rfl
        rcases hab.1 with h | h <;> omega
      · rw [List.mem_filter]
        constructor
        · rintro ⟨h1, h2⟩; exact hmem y h1 (by simpa using h2)
        · intro h
          refine ⟨hm y (by rw [List.flatMap_cons]; exact List.mem_append_left _ h), ?_⟩
          obtain ⟨j, _, e⟩ := mem_fds.1 h
          simp [← e, fd_at]
    rw [hmid] at hsp
    obtain ⟨L1, hL1⟩ : ∃ L1, L.filter (fun x => decide (x.p.at_ < r.at_)) = L1 := ⟨_, rfl⟩
    obtain ⟨L2, hL2⟩ : ∃ L2, L.filter (fun x => decide (r.at_ < x.p.at_)) = L2 := ⟨_, rfl⟩
    have m1 : ∀ y ∈ L1, y ∈ L ∧ y.p.at_ < r.at_ := fun y hy => by rw [← hL1, List.mem_filter] at hy; simpa using hy
    have m2 : ∀ y, y ∈ L2 ↔ y ∈ L ∧ r.at_ < y.p.at_ := fun y => by rw [← hL2, List.mem_filter]; simp
    have p2 : L2.Pairwise leD := by rw [← hL2]; exact hL.filter _
    have n2 : L2.Nodup := by rw [← hL2]; exact hn.filter _
    rw [hL1, hL2] at hsp
    have h1 := skip_all (e := e) (R := r.fds ++ L2) (fs := fs) (L := L1) (fun x hx => by
      obtain ⟨hxL, hxa⟩ := m1 x hx
      rcases hj x hxL with h | h
      · rw [List.flatMap_cons, List.mem_append] at h
        rcases h with h | h
        · obtain ⟨j, _, e⟩ := mem_fds.1 h
          have : x.p.at_ = r.at_ := by rw [← e]; rfl
          omega
        · obtain ⟨s, hsK, hys⟩ := List.mem_flatMap.1 h
          obtain ⟨j, _, e⟩ := mem_fds.1 hys
          have := hge s hsK
          have : x.p.at_ = s.at_ := by rw [← e]; rfl
          omega
      · exact h.skip) (fun y hy => hs y (by rw [hsp]; exact hy))
    have h2 := keep_rec hr hc.1 L2 fs
    have h3 := keep_junk (fs := fs) K r.fin L2 (fun s hs => hk s (List.mem_cons_of_mem _ hs)) hc.2 p2 n2 (fun y hy => hs y ((m2 y).1 hy).1) (fun y hy => by
      obtain ⟨hyL, hya⟩ := (m2 y).1 hy
      rcases hj y hyL with h | h
      · rw [List.flatMap_cons, List.mem_append] at h
        rcases h with h | h
        · obtain ⟨j, _, e⟩ := mem_fds.1 h
          have : y.p.at_ = r.at_ := by rw [← e]; rfl
          omega
        · exact .inl h
      · refine .inr ⟨fun s hs => h.1 s (List.mem_cons_of_mem _ hs), ?_⟩
        rcases h.2 with h | h | h | h
        · exact .inl h
        · have := hc.1; omega
        · exact .inr (.inr (.inl h))
        · exact .inr (.inr (.inr ⟨h.1, h.2.2 r List.mem_cons_self hya, fun s hs => h.2.2 s (List.mem_cons_of_mem _ hs)⟩))) (fun y hy => by
      obtain ⟨s, hsK, hys⟩ := List.mem_flatMap.1 hy
      obtain ⟨j, _, e⟩ := mem_fds.1 hys
      have h1 := hge s hsK
      have h2 : y.p.at_ = s.at_ := by rw [← e]; rfl
      exact (m2 y).2 ⟨hm y (by rw [List.flatMap_cons]; exact List.mem_append_right _ hy), by omega⟩)
    rw [hsp, h1.1, h1.2, h2.1, h2.2, h3.1, h3.2]
    exact ⟨rfl, rfl⟩

end Go.Proofs.YtckcdmkgmbicfaaGreat
