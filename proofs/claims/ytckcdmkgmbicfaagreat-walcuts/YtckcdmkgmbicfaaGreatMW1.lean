/- WBase, WRef, WSame, WGroup, WKnown: in one text. -/
import Derived.Test.YtckcdmkgmbicfaaGreatBase
import Derived.Below
import Derived.Laws.AppendOwn
import Derived.Laws.AppendOwnNone
import Derived.Test.YtckcdmkgmbicfaaGreatDState
import Derived.BigQuiet
import Derived.Deep.QuietTactic
import Derived.OwnWalk
import Derived.Deep.RegionHeld3
namespace Go.Proofs.YtckcdmkgmbicfaaGreat
open Go.RowKit
set_option linter.unusedVariables false
set_option linter.unusedSimpArgs false
set_option maxRecDepth 4000

/-- The slice value 'v' reads as the texts 'l', in a block of 'B'. -/
def RdT (B : List Nat) (w : World) (v : Value) (l : List ByteArray) : Prop :=
  ∃ a cap, v = .slice a l.length cap ∧ l.length ≤ cap ∧ cap ≤ maxLen ∧ (a = none → cap = 0) ∧ (0 < l.length → ∃ b off, a = some ⟨b, off, none⟩ ∧ b < w.heap.size ∧ b ∈ B ∧ ∀ (i : Nat) (x : ByteArray), l[i]? = some x → w.cell? ⟨b, off + i, none⟩ = some (.string x))

theorem RdT.mono {B B' : List Nat} {w : World} {v : Value} {l : List ByteArray} (h : RdT B w v l) (hB : ∀ k ∈ B, k ∈ B') : RdT B' w v l := by
  obtain ⟨a, cap, rfl, h1, h2, h3, h4⟩ := h
  refine ⟨a, cap, rfl, h1, h2, h3, fun hp => ?_⟩
  obtain ⟨b, off, rfl, hl, hb, hc⟩ := h4 hp
  exact ⟨b, off, rfl, hl, hB b hb, hc⟩

theorem RdT.keep {B : List Nat} {w w' : World} {v : Value} {l : List ByteArray} (h : RdT B w v l) (hs : w.heap.size ≤ w'.heap.size) (hb : ∀ k ∈ B, k < w.heap.size → w'.heap[k]? = w.heap[k]?) : RdT B w' v l := by
  obtain ⟨a, cap, rfl, h1, h2, h3, h4⟩ := h
  refine ⟨a, cap, rfl, h1, h2, h3, fun hp => ?_⟩
  obtain ⟨b, off, rfl, hl, hbb, hc⟩ := h4 hp
  exact ⟨b, off, rfl, by omega, hbb, fun i x hi => (World.cell?_of_block (a := ⟨b, off + i, none⟩) (hb b hbb hl)).trans (hc i x hi)⟩

theorem RdT.below {B : List Nat} {w w' : World} {v : Value} {l : List ByteArray} (h : RdT B w v l) (hb : Below w.heap.size w w') : RdT B w' v l :=
  h.keep hb.size (fun k _ hk => hb.block k hk)

/-- A record. -/
structure Rc where
  num : Nat
  grp : List ByteArray

/-- The slice value 'v' reads as the records 'l', the row and the texts in blocks of 'B'. E: the elements' type. -/
def RdR (B : List Nat) (w : World) (v : Value) (l : List Rc) : Prop :=
  ∃ a cap, v = .slice a l.length cap ∧ l.length ≤ cap ∧ cap ≤ maxLen ∧ (a = none → cap = 0) ∧ (0 < l.length → ∃ b off, a = some ⟨b, off, none⟩ ∧ b < w.heap.size ∧ b ∈ B ∧ ∀ (i : Nat) (x : Rc), l[i]? = some x → w.cell? ⟨b, off + i * 2, none⟩ = some (.int .u64 x.num) ∧ ∃ g, w.cell? ⟨b, off + i * 2 + 1, none⟩ = some g ∧ RdT B w g x.grp)

theorem RdR.keep {B : List Nat} {w w' : World} {v : Value} {l : List Rc} (h : RdR B w v l) (hs : w.heap.size ≤ w'.heap.size) (hb : ∀ k ∈ B, k < w.heap.size → w'.heap[k]? = w.heap[k]?) : RdR B w' v l := by
  obtain ⟨a, cap, rfl, h1, h2, h3, h4⟩ := h
  refine ⟨a, cap, rfl, h1, h2, h3, fun hp => ?_⟩
  obtain ⟨b, off, rfl, hl, hbb, hc⟩ := h4 hp
  refine ⟨b, off, rfl, by omega, hbb, fun i x hi => ?_⟩
  obtain ⟨c1, g, c2, hg⟩ := hc i x hi
  exact ⟨(World.cell?_of_block (a := ⟨b, off + i * 2, none⟩) (hb b hbb hl)).trans c1, g, (World.cell?_of_block (a := ⟨b, off + i * 2 + 1, none⟩) (hb b hbb hl)).trans c2, hg.keep hs hb⟩

theorem RdR.below {B : List Nat} {w w' : World} {v : Value} {l : List Rc} (h : RdR B w v l) (hb : Below w.heap.size w w') : RdR B w' v l :=
  h.keep hb.size (fun k _ hk => hb.block k hk)

theorem RdR.nil (B : List Nat) (w : World) : RdR B w (.slice none 0 0) [] := ⟨none, 0, rfl, Nat.le_refl _, by decide, fun _ => rfl, fun h => by simp at h⟩
theorem RdT.nil (B : List Nat) (w : World) : RdT B w (.slice none 0 0) [] := ⟨none, 0, rfl, Nat.le_refl _, by decide, fun _ => rfl, fun h => by simp at h⟩

/-- The document's log. -/
structure Lg where
  recs : List Rc
  done : Nat
  count : Nat
  next : Nat

structure LgOk (s : Lg) : Prop where
  next : s.next ≤ 18446744073709551615
  nums : ∀ r ∈ s.recs, r.num ≤ 18446744073709551615
  done : s.done ≤ s.recs.length
  count : s.count ≤ 1000
  recs : s.recs.length ≤ 1000000

/-- Where it lies: the variable in block p, its rows in blocks of B. -/
structure LgAt (w : World) (p : Nat) (B : List Nat) (s : Lg) : Prop where
  body : ∃ v, w.heap[p]? = some (.cells #[v, .int .i64 s.done, .int .i64 s.count, .int .u64 s.next] 41 (0, 0)) ∧ RdR B w v s.recs
  apart : p ∉ B

def ptrW (p : Nat) : Value := .pointer (some ⟨p, 0, none⟩)

theorem LgAt.keep {w w' : World} {p : Nat} {B : List Nat} {s : Lg} (h : LgAt w p B s) (hs : w.heap.size ≤ w'.heap.size) (hp : w'.heap[p]? = w.heap[p]?) (hb : ∀ k ∈ B, k < w.heap.size → w'.heap[k]? = w.heap[k]?) : LgAt w' p B s := by
  obtain ⟨v, h1, h2⟩ := h.body
  exact ⟨⟨v, hp.trans h1, h2.keep hs hb⟩, h.apart⟩

theorem LgAt.below {w w' : World} {p : Nat} {B : List Nat} {s : Lg} (h : LgAt w p B s) (hb : Below w.heap.size w w') : LgAt w' p B s := by
  obtain ⟨v, h1, h2⟩ := h.body
  exact h.keep hb.size (hb.block p (Array.getElem?_eq_some_iff.1 h1).1) (fun k _ hk => hb.block k hk)

/-- What is read of it. -/
theorem LgAt.opened {w : World} {p : Nat} {B : List Nat} {s : Lg} (h : LgAt w p B s) : ∃ a cap, w.cell? ⟨p, 0, none⟩ = some (.slice a s.recs.length cap) ∧ w.cell? ⟨p, 1, none⟩ = some (.int .i64 s.done) ∧ w.cell? ⟨p, 2, none⟩ = some (.int .i64 s.count) ∧ w.cell? ⟨p, 3, none⟩ = some (.int .u64 s.next) ∧ p < w.heap.size ∧ s.recs.length ≤ cap ∧ cap ≤ 9223372036854775807 ∧ (a = none → cap = 0) ∧ RdR B w (.slice a s.recs.length cap) s.recs ∧ ∀ j, w.frozen? ⟨p, j, none⟩ = false := by
  obtain ⟨v, h1, h2⟩ := h.body
  have h2' := h2
  obtain ⟨a, cap, rfl, k1, k2, k3, k4⟩ := h2
  unfold maxLen at k2
  exact ⟨a, cap, cell_of_row w _ 0 _ _ (0, 0) h1, cell_of_row w _ 1 _ _ (0, 0) h1, cell_of_row w _ 2 _ _ (0, 0) h1, cell_of_row w _ 3 _ _ (0, 0) h1, (Array.getElem?_eq_some_iff.1 h1).1, k1, by omega, k3, h2', fun j => frozen_of_row w p j _ _ h1⟩

/-- A record's length. -/
def lenG : List ByteArray → Nat
  | [] => 0
  | s :: l => 2 + s.size + lenG l

theorem lenG_append (l l' : List ByteArray) : lenG (l ++ l') = lenG l + lenG l' := by
  induction l with
  | nil => simp [lenG]
  | cons s l ih => simp only [List.cons_append, lenG, ih]; omega

theorem lenG_take {l : List ByteArray} {i : Nat} {x : ByteArray} (h : l[i]? = some x) : lenG (l.take (i + 1)) = lenG (l.take i) + (2 + x.size) := by
  rw [List.take_add_one, h, lenG_append]
  simp [lenG]

theorem lenG_le {l : List ByteArray} (i : Nat) : lenG (l.take i) ≤ lenG l := by
  have : lenG l = lenG (l.take i) + lenG (l.drop i) := by rw [← lenG_append, List.take_append_drop]
  omega

/-- Texts that memory may hold. -/
def TxOk (l : List ByteArray) : Prop := lenG l ≤ 4611686018427387904

theorem txOk_at {l : List ByteArray} {i : Nat} {x : ByteArray} (h : l[i]? = some x) : 2 + x.size ≤ lenG l := by
  have h1 := lenG_take h
  have h2 := lenG_le (l := l) (i + 1)
  omega

set_option maxHeartbeats 2000000 in
theorem length_any {B : List Nat} {w : World} {v : Value} {l : List ByteArray} (hr : RdT B w v l) (hx : TxOk l) :
    Calls Tryz.prog 40 #[v] w fun e w' => e = .returned (.int .i64 (lenG l)) ∧ w' = w := by
  obtain ⟨a, cap, rfl, h1, h2, _, h4⟩ := hr
  unfold maxLen at h2
  unfold TxOk at hx
  have hlt := fun i x => lenG_take (l := l) (i := i) (x := x)
  have hle := fun i => lenG_le (l := l) i
  have h0 : lenG (l.take 0) = 0 := rfl
  have hfull : lenG (l.take l.length) = lenG l := by rw [List.take_length]
  obtain ⟨U, hU⟩ : ∃ U : Nat → Nat, ∀ i, lenG (l.take i) = U i := ⟨_, fun _ => rfl⟩
  simp only [hU] at hlt hle h0 hfull
  generalize lenG l = T at *
  clear hU
  go_enter Tryz.func40, Tryz.ntmps40
  go_wp2
  go_loop [3, 8] (fun x t => ∃ i : Nat, i ≤ l.length ∧ t = .int .i64 i ∧ x = .int .i64 (U i)) (fun _ t => l.length - (RowKit.intOf t).toNat)
  case atStart => exact ⟨0, Nat.zero_le _, rfl, by rw [h0]; rfl⟩
  case round =>
    obtain ⟨i, hi, rfl, rfl⟩ := hrel
    by_cases hil : i < l.length
    · have hiI : (i : Int) < l.length := by omega
      obtain ⟨b, off, rfl, _, _, hc⟩ := h4 (by omega)
      have hxi : l[i]? = some l[i] := List.getElem?_eq_getElem hil
      have xi := hc i _ hxi
      have hn := hlt i _ hxi
      have hb := hle (i + 1)
      generalize l[i] = x at *
      clear hc h4 hlt hle hxi
      have HN : Hid (U (i + 1) = U i + (2 + x.size)) := hn
      generalize U i = C at *
      go_wp2
      go_round
      case rel => exact ⟨i + 1, by omega, by go_num, by rw [HN.out]; go_num⟩
      case measure => simp [RowKit.intOf]; omega
    · obtain rfl : i = l.length := by omega
      have hiI : ¬ (l.length : Int) < l.length := by omega
      rw [hfull]
      clear h4 hlt hle
      go_wp2
      go_ret
      exact ⟨rfl, rfl⟩

def longB (l : List ByteArray) : Bool := decide (255 < l.length) || decide (4096 < lenG l) || l.any (fun s => decide (255 < s.size))

theorem any_take {l : List ByteArray} {i : Nat} {x : ByteArray} (f : ByteArray → Bool) (h : l[i]? = some x) : (l.take (i + 1)).any f = ((l.take i).any f || f x) := by
  rw [List.take_add_one, h, List.any_append]
  simp

set_option maxHeartbeats 2000000 in
theorem long_any {B : List Nat} {w : World} {v : Value} {l : List ByteArray} (hr : RdT B w v l) (hx : TxOk l) :
    Calls Tryz.prog 22 #[v] w fun e w' => e = .returned (.bool (longB l)) ∧ w' = w := by
  have cc := length_any hr hx
  have hb : lenG l ≤ 4611686018427387904 := hx
  have hxs := fun i x => txOk_at (l := l) (i := i) (x := x)
  obtain ⟨a, cap, rfl, h1, h2, _, h4⟩ := hr
  unfold maxLen at h2
  have hlt := fun i x => any_take (l := l) (i := i) (x := x) (fun s => decide (255 < s.size))
  obtain ⟨A, hA⟩ : ∃ A : Nat → Bool, ∀ i, (l.take i).any (fun s => decide (255 < s.size)) = A i := ⟨_, fun _ => rfl⟩
  have hA0 : A 0 = false := by rw [← hA]; rfl
  have hAf : A l.length = l.any (fun s => decide (255 < s.size)) := by rw [← hA, List.take_length]
  simp only [hA] at hlt
  obtain ⟨P, hP⟩ : ∃ P : Bool, (decide (255 < l.length) || decide (4096 < lenG l)) = P := ⟨_, rfl⟩
  unfold longB
  rw [hP, ← hAf]
  clear hA hAf hx
  have htail : ∀ (fr : Bool), True := fun _ => trivial
  by_cases hl : 255 < l.length
  · have hlI : (255 : Int) < l.length := by omega
    have hPt : P = true := by rw [← hP, decide_eq_true hl]; rfl
    subst hPt
    clear hP
    go_enter Tryz.func22, Tryz.ntmps22
    go_wp2
    go_loop [3, 16] (fun x t => ∃ i : Nat, i ≤ l.length ∧ t = .int .i64 i ∧ x = .bool true) (fun _ t => l.length - (RowKit.intOf t).toNat)
    case atStart => exact ⟨0, Nat.zero_le _, rfl, rfl⟩
    case round =>
      obtain ⟨i, hi, rfl, rfl⟩ := hrel
      by_cases hil : i < l.length
      · have hiI : (i : Int) < l.length := by omega
        obtain ⟨b, off, rfl, _, _, hc⟩ := h4 (by omega)
        have xi := hc i _ (List.getElem?_eq_getElem hil)
        generalize l[i] = x at *
        clear hc h4 hlt cc hxs
        go_wp2
        go_round
        case rel => exact ⟨i + 1, by omega, by go_num, rfl⟩
        case measure => simp [RowKit.intOf]; omega
      · have hiI : ¬ (i : Int) < l.length := by omega
        clear h4 hlt cc hxs
        go_wp2
        go_ret
        exact ⟨rfl, rfl⟩
  · have hlI : ¬ (255 : Int) < l.length := by omega
    have hPt : P = decide (4096 < lenG l) := by rw [← hP, decide_eq_false hl]; rfl
    have hPI : decide ((4096 : Int) < lenG l) = P := by rw [hPt]; exact decide_eq_decide.2 ⟨fun h => by omega, fun h => by omega⟩
    clear hP hPt
    go_enter Tryz.func22, Tryz.ntmps22
    go_wp2_with fail
    refine cc.mono ?_
    clear cc
    rintro e w1 ⟨rfl, rfl⟩
    generalize lenG l = T at *
    go_wp2_with fail
    (try rw [hPI])
    clear hPI
    go_loop [3, 16] (fun x t => ∃ i : Nat, i ≤ l.length ∧ t = .int .i64 i ∧ x = .bool (P || A i)) (fun _ t => l.length - (RowKit.intOf t).toNat)
    case atStart => exact ⟨0, Nat.zero_le _, rfl, by rw [hA0, Bool.or_false]⟩
    case round =>
      obtain ⟨i, hi, rfl, rfl⟩ := hrel
      by_cases hil : i < l.length
      · have hiI : (i : Int) < l.length := by omega
        obtain ⟨b, off, rfl, _, _, hc⟩ := h4 (by omega)
        have hxi : l[i]? = some l[i] := List.getElem?_eq_getElem hil
        have xi := hc i _ hxi
        have hn := hlt i _ hxi
        have hsz := hxs i _ hxi
        generalize l[i] = x at *
        have HN : Hid (A (i + 1) = (A i || decide (255 < x.size))) := hn
        clear hc h4 hlt hxs hxi hn
        generalize hD : (P || A i) = D at *
        cases D with
        | true =>
          go_wp2
          go_round
          case rel => exact ⟨i + 1, by omega, by go_num, by rw [HN.out, ← Bool.or_assoc, hD]; rfl⟩
          case measure => simp [RowKit.intOf]; omega
        | false =>
          by_cases h255 : 255 < x.size
          · have h255I : (255 : Int) < x.size := by omega
            go_wp2
            go_round
            case rel => exact ⟨i + 1, by omega, by go_num, by rw [HN.out, ← Bool.or_assoc, hD, decide_eq_true h255]; rfl⟩
            case measure => simp [RowKit.intOf]; omega
          · have h255I : ¬ (255 : Int) < x.size := by omega
            go_wp2
            go_round
            case rel => exact ⟨i + 1, by omega, by go_num, by rw [HN.out, ← Bool.or_assoc, hD, decide_eq_false h255]; rfl⟩
            case measure => simp [RowKit.intOf]; omega
      · obtain rfl : i = l.length := by omega
        have hiI : ¬ (l.length : Int) < l.length := by omega
        clear h4 hlt hxs
        go_wp2
        go_ret
        exact ⟨rfl, rfl⟩

/-- The first record's number, or the next one's. -/
def fromL (s : Lg) : Nat := match s.recs with
  | [] => s.next
  | r :: _ => r.num

set_option maxHeartbeats 2000000 in
theorem from_any {w : World} {p : Nat} {B : List Nat} {s : Lg} (H : LgAt w p B s) :
    Calls Tryz.prog 15 #[ptrW p] w fun e w' => e = .returned (.int .u64 (fromL s)) ∧ w' = w := by
  obtain ⟨a, cap, c0, c1, c2, c3, hp, k1, k2, k3, hr, _⟩ := H.opened
  obtain ⟨rs, dn, cn, nx⟩ := s
  dsimp only at *
  unfold ptrW fromL
  cases rs with
  | nil =>
    dsimp only at *
    clear hr
    rw [List.length_nil] at c0
    go_enter Tryz.func15, Tryz.ntmps15
    go_wp2
    go_ret
    exact ⟨rfl, rfl⟩
  | cons r rs =>
    dsimp only at *
    obtain ⟨_, _, e, _, _, _, h4⟩ := hr
    simp only [Value.slice.injEq] at e
    obtain ⟨rfl, _, rfl⟩ := e
    obtain ⟨b, off, rfl, _, _, hc⟩ := h4 (by simp)
    obtain ⟨x0, _⟩ := hc 0 r rfl
    rw [Nat.zero_mul, Nat.add_zero] at x0
    have hne : ¬ ((r :: rs).length : Int) = 0 := by rw [List.length_cons]; omega
    have hpos : (0 : Int) < (r :: rs).length := by rw [List.length_cons]; omega
    generalize (r :: rs).length = m at *
    clear hc h4
    go_enter Tryz.func15, Tryz.ntmps15
    go_wp2
    go_ret
    exact ⟨rfl, rfl⟩

theorem below_q (W : World) (q B : Nat) : Below B W (W.drewN q) := ⟨rfl, rfl, rfl, Nat.le_refl _, fun _ _ => rfl⟩

set_option maxHeartbeats 2000000 in
theorem same_eq {B B' : List Nat} {w : World} {g g' : Value} {l : List ByteArray} (n : Nat) (h : RdT B w g l) (h' : RdT B' w g' l) :
    Calls Tryz.prog 37 #[.agg #[.int .u64 n, g], .agg #[.int .u64 n, g']] w fun e w' => e = .returned (.bool true) ∧ Below w.heap.size w w' := by
  obtain ⟨a, cap, rfl, h1, h2, _, h4⟩ := h
  obtain ⟨a', cap', rfl, h1', h2', _, h4'⟩ := h'
  unfold maxLen at h2 h2'
  obtain ⟨W2, hW2⟩ : ∃ W2, ((w.alloc (.cells #[.int .u64 n, .slice a l.length cap] 62)).alloc (.cells #[.int .u64 n, .slice a' l.length cap'] 62)) = W2 := ⟨_, rfl⟩
  have hz0 : (w.alloc (.cells #[.int .u64 n, .slice a l.length cap] 62)).heap.size = w.heap.size + 1 := by simp
  have hg1 : W2.heap[w.heap.size + 1]? = some (.cells #[.int .u64 n, .slice a' l.length cap'] 62 (0, 0)) := by rw [← hW2, ← hz0]; exact heap_alloc_new _ _
  have hg0 : W2.heap[w.heap.size]? = some (.cells #[.int .u64 n, .slice a l.length cap] 62 (0, 0)) := by
    have hb : Below (w.heap.size + 1) (w.alloc (.cells #[.int .u64 n, .slice a l.length cap] 62)) W2 := by rw [← hW2]; exact (Below.refl _ _).alloc (by omega) _
    exact (hb.block _ (by omega)).trans (heap_alloc_new w _)
  have hbW : Below w.heap.size w W2 := by rw [← hW2]; exact ((Below.refl _ w).alloc (Nat.le_refl _) _).alloc (by omega) _
  have hl1 := (Array.getElem?_eq_some_iff.1 hg1).1
  have q0 : ∀ W, Below W2.heap.size W2 W → W.cell? ⟨w.heap.size, 0, none⟩ = some (.int .u64 n) ∧ W.cell? ⟨w.heap.size, 1, none⟩ = some (.slice a l.length cap) ∧ W.cell? ⟨w.heap.size + 1, 0, none⟩ = some (.int .u64 n) ∧ W.cell? ⟨w.heap.size + 1, 1, none⟩ = some (.slice a' l.length cap') := fun W hW => by
    have e0 := (hW.block _ (show w.heap.size < W2.heap.size by omega)).trans hg0
    have e1 := (hW.block _ hl1).trans hg1
    exact ⟨by rw [cell_of_row _ _ 0 _ _ (0, 0) e0]; rfl, by rw [cell_of_row _ _ 1 _ _ (0, 0) e0]; rfl, by rw [cell_of_row _ _ 0 _ _ (0, 0) e1]; rfl, by rw [cell_of_row _ _ 1 _ _ (0, 0) e1]; rfl⟩
  have hbl : ∀ W, Below W2.heap.size W2 W → Below w.heap.size w W := fun W hW => hbW.trans (hW.mono hbW.size)
  obtain ⟨x0, x1, x2, x3⟩ := q0 W2 (Below.refl _ _)
  clear hg0 hg1
  go_enter Tryz.func37, Tryz.ntmps37
  go_wp2_with fail
  (try rw [hW2])
  clear hW2
  go_loopw [23] (fun t wr => ∃ i : Nat, i ≤ l.length ∧ t = .int .i64 i ∧ Below W2.heap.size W2 wr) (fun t _ => l.length - (RowKit.intOf t).toNat)
  case atStart => exact ⟨0, Nat.zero_le _, rfl, Below.refl _ _⟩
  case round =>
    clear x0 x1 x2 x3
    obtain ⟨i, hi, rfl, HB⟩ := hrel
    obtain ⟨wA, hA⟩ : ∃ wA, wA = wr := ⟨_, rfl⟩
    subst hA
    by_cases hil : i < l.length
    · have hiI : (i : Int) < l.length := by omega
      obtain ⟨b, off, rfl, hb, _, hc⟩ := h4 (by omega)
      obtain ⟨b', off', rfl, hb', _, hc'⟩ := h4' (by omega)
      have hxi : l[i]? = some l[i] := List.getElem?_eq_getElem hil
      have xi := ((hbl wA HB).cell (p := ⟨b, off + i, none⟩) hb).trans (hc i _ hxi)
      have xi' := ((hbl wA HB).cell (p := ⟨b', off' + i, none⟩) hb').trans (hc' i _ hxi)
      obtain ⟨x0, x1, x2, x3⟩ := q0 wA HB
      generalize l[i] = x at *
      have hself2 : (x.toList == x.toList) = true := by simp
      clear hc hc' h4 h4' hxi q0 hbl
      go_wp2_with fail
      go_quiet (fail)
      go_wp2_with fail
      go_roundw
      case rel => exact ⟨i + 1, by omega, by go_num, HB.trans (below_q _ _ _)⟩
      case measure => simp [RowKit.intOf]; omega
    · have hiI : ¬ (i : Int) < l.length := by omega
      have hfin := hbl wA HB
      clear h4 h4' q0 hbl
      go_wp2
      go_ret
      exact ⟨rfl, hfin⟩

/-- The blocks that the document counts for a record. -/
def nb (l : List ByteArray) : Nat := lenG l / 400 + 1
def sumR : List Rc → Nat
  | [] => 0
  | r :: l => nb r.grp + sumR l

theorem sumR_append (l l' : List Rc) : sumR (l ++ l') = sumR l + sumR l' := by
  induction l with
  | nil => simp [sumR]
  | cons s l ih => simp only [List.cons_append, sumR, ih]; omega

theorem sumR_take {l : List Rc} {i : Nat} {x : Rc} (h : l[i]? = some x) : sumR (l.take (i + 1)) = sumR (l.take i) + nb x.grp := by
  rw [List.take_add_one, h, sumR_append]
  simp [sumR]

theorem sumR_le : ∀ {l : List Rc} (h : ∀ r ∈ l, lenG r.grp ≤ 4096), sumR l ≤ 11 * l.length
  | [], _ => Nat.le_refl _
  | r :: l, h => by
    have ih := sumR_le (l := l) (fun x hx => h x (List.mem_cons_of_mem _ hx))
    have h1 := h r (List.mem_cons_self ..)
    unfold sumR nb
    rw [List.length_cons]
    omega

def roomB (s : Lg) (l : List ByteArray) : Bool := decide ((nb l : Int) + sumR s.recs ≤ (s.count : Int) - 2)

set_option maxHeartbeats 4000000 in
theorem room_any {w : World} {p : Nat} {B B' : List Nat} {s : Lg} (H : LgAt w p B s) (hk : LgOk s) (hs : ∀ r ∈ s.recs, lenG r.grp ≤ 4096) {v : Value} {l : List ByteArray} (hr : RdT B' w v l) (hx : TxOk l) :
    Calls Tryz.prog 38 #[ptrW p, v] w fun e w' => e = .returned (.bool (roomB s l)) ∧ Below w.heap.size w w' := by
  have cl := length_any hr hx
  obtain ⟨a, cap, c0, c1, c2, c3, hp, k1, k2, k3, hR, _⟩ := H.opened
  obtain ⟨_, _, e, _, _, _, hrow⟩ := hR
  simp only [Value.slice.injEq] at e
  obtain ⟨rfl, _, rfl⟩ := e
  have hm := hk.recs
  have hcn := hk.count
  unfold TxOk at hx
  unfold roomB
  have hsum : ∀ i, sumR (s.recs.take i) ≤ 11000000 := fun i => by
    have := sumR_le (l := s.recs.take i) (fun r hr => hs r (List.mem_of_mem_take hr))
    rw [List.length_take] at this
    omega
  have hstep := fun i x => sumR_take (l := s.recs) (i := i) (x := x)
  have hful : sumR (s.recs.take s.recs.length) = sumR s.recs := by rw [List.take_length]
  have hz : sumR (s.recs.take 0) = 0 := rfl
  obtain ⟨U, hU⟩ : ∃ U : Nat → Nat, ∀ i, sumR (s.recs.take i) = U i := ⟨_, fun _ => rfl⟩
  simp only [hU] at hsum hstep hful hz
  rw [← hful]
  have hnb : nb l ≤ 11529215046068470 := by unfold nb; omega
  have hnbI : ((lenG l : Nat) : Int) / 400 + 1 = (nb l : Int) := by unfold nb; omega
  generalize hNB : nb l = NB at *
  unfold ptrW
  clear hU hful H
  obtain ⟨rs, dn, cn, nx⟩ := s
  dsimp only at *
  go_enter Tryz.func38, Tryz.ntmps38
  go_wp2_with fail
  refine cl.mono ?_
  rintro e w1 ⟨rfl, rfl⟩
  clear cl
  generalize lenG l = T at *
  go_wp2_with fail
  (try rw [hnbI])
  go_loopw [5, 17] (fun x t wr => ∃ i : Nat, i ≤ rs.length ∧ t = .int .i64 i ∧ x = .int .i64 ((NB : Int) + U i) ∧ Below w1.heap.size w1 wr) (fun _ t _ => rs.length - (RowKit.intOf t).toNat)
  case atStart => exact ⟨0, Nat.zero_le _, rfl, by rw [hz]; simp, Below.refl _ _⟩
  case round =>
    obtain ⟨i, hi, rfl, rfl, HB⟩ := hrel
    obtain ⟨wA, hA⟩ : ∃ wA, wA = wr := ⟨_, rfl⟩
    subst hA
    have x0 := (HB.cell (p := ⟨p, 0, none⟩) hp).trans c0
    have x2 := (HB.cell (p := ⟨p, 2, none⟩) hp).trans c2
    by_cases hil : i < rs.length
    · have hiI : (i : Int) < rs.length := by omega
      obtain ⟨b, off, rfl, hb, hbB, hc⟩ := hrow (by omega)
      have hxi : rs[i]? = some rs[i] := List.getElem?_eq_getElem hil
      obtain ⟨y0, g, y1, hg⟩ := hc i _ hxi
      have hl4 := hs _ (List.getElem_mem hil)
      have hst := hstep i _ hxi
      have hsm := hsum (i + 1)
      have z0 := (HB.cell (p := ⟨b, off + i * 2, none⟩) hb).trans y0
      have z1 := (HB.cell (p := ⟨b, off + i * 2 + 1, none⟩) hb).trans y1
      have hgA := hg.below HB
      generalize rs[i] = r at *
      obtain ⟨num, grp⟩ := r
      dsimp only at *
      obtain ⟨ag, cg, hgv, hg1, hg2, hg3, hg4⟩ := hgA
      subst hgv
      unfold maxLen at hg2
      obtain ⟨W2, hW2⟩ : ∃ W2, wA.alloc (.cells #[.int .u64 num, .slice ag grp.length cg] 62) = W2 := ⟨_, rfl⟩
      have hb2 : Below wA.heap.size wA W2 := by rw [← hW2]; exact (Below.refl _ wA).alloc (Nat.le_refl _) _
      have hg2' : W2.heap[wA.heap.size]? = some (.cells #[.int .u64 num, .slice ag grp.length cg] 62 (0, 0)) := by rw [← hW2]; exact heap_alloc_new wA _
      have cg2 : W2.cell? ⟨wA.heap.size, 1, none⟩ = some (.slice ag grp.length cg) := by rw [cell_of_row _ _ 1 _ _ (0, 0) hg2']; rfl
      have cl := length_any (hg.below (HB.trans (hb2.mono HB.size))) (show TxOk grp from by unfold TxOk; omega)
      have hnI : ((lenG grp : Nat) : Int) / 400 + 1 = (nb grp : Int) := by unfold nb; omega
      have hnbg : nb grp ≤ 11 := by unfold nb; omega
      have hCb : U i + nb grp ≤ 11000000 := by rw [← hst]; exact hsm
      have HST : Hid (U (i + 1) = U i + nb grp) := hst
      clear hc hrow hs hstep hsum hg hst hxi
      generalize hng : nb grp = ng at *
      generalize lenG grp = T2 at *
      generalize U i = C at *
      go_wp2_with fail
      refine cl.mono ?_
      rintro e w3 ⟨rfl, rfl⟩
      clear cl hW2
      go_wp2_with fail
      go_roundw
      case rel => exact ⟨i + 1, by omega, by go_num, by rw [HST.out]; congr 1; first | omega | (unfold wrap64; omega), HB.trans (hb2.mono HB.size)⟩
      case measure => simp [RowKit.intOf]; omega
    · obtain rfl : i = rs.length := by omega
      have hiI : ¬ (rs.length : Int) < rs.length := by omega
      have hsm := hsum rs.length
      clear hrow hs hstep hsum
      generalize hC : U rs.length = C at *
      go_wp2
      go_ret
      exact ⟨rfl, HB⟩

/-- Let: which record it is, what is told, what is left. -/
def whichR (rs : List Rc) (to : Nat) : Option Nat := rs.findIdx? (fun r => r.num == to)
def letE (s : Lg) (to : Nat) : Int := if to = s.next then 0 else match whichR s.recs to with
  | some _ => 0
  | none => 1
def letF (s : Lg) (to : Nat) : Lg := if to = s.next then ⟨[], 0, s.count, s.next⟩ else match whichR s.recs to with
  | some i => ⟨s.recs.drop i, s.done - i, s.count, s.next⟩
  | none => s

theorem whichR_some {rs : List Rc} {to i : Nat} (h : ∀ (j : Nat) (r : Rc), j < i → rs[j]? = some r → ¬ r.num = to) {r : Rc} (hr : rs[i]? = some r) (e : r.num = to) : whichR rs to = some i := by
  unfold whichR
  rw [List.findIdx?_eq_some_iff_getElem]
  obtain ⟨hlt, he⟩ := List.getElem?_eq_some_iff.1 hr
  refine ⟨hlt, by rw [he]; simpa using e, fun j hj => ?_⟩
  have := h j _ hj (List.getElem?_eq_getElem (by omega))
  simpa using this

theorem whichR_none {rs : List Rc} {to : Nat} (h : ∀ (j : Nat) (r : Rc), rs[j]? = some r → ¬ r.num = to) : whichR rs to = none := by
  unfold whichR
  rw [List.findIdx?_eq_none_iff]
  intro r hr
  obtain ⟨j, hj⟩ := List.getElem?_of_mem hr
  have := h j r hj
  simpa using this

theorem RdR.drop {B : List Nat} {w : World} {b off n cap : Nat} {l : List Rc} (h : RdR B w (.slice (some ⟨b, off, none⟩) n cap) l) (i : Nat) (hi : i ≤ n) : RdR B w (.slice (some ⟨b, off + i * 2, none⟩) (n - i) (cap - i)) (l.drop i) := by
  obtain ⟨a, c, e, h1, h2, h3, h4⟩ := h
  simp only [Value.slice.injEq] at e
  obtain ⟨rfl, rfl, rfl⟩ := e
  refine ⟨_, _, by rw [List.length_drop], by rw [List.length_drop]; omega, by omega, (by intro e; cases e), fun hp => ?_⟩
  rw [List.length_drop] at hp
  obtain ⟨b', off', e', hl, hB, hc⟩ := h4 (by omega)
  simp only [Option.some.injEq, Addr.mk.injEq] at e'
  obtain ⟨rfl, rfl, _⟩ := e'
  refine ⟨b, _, rfl, hl, hB, fun j x hj => ?_⟩
  rw [List.getElem?_drop] at hj
  have := hc (i + j) x hj
  rw [show off + (i + j) * 2 = off + i * 2 + j * 2 from by omega] at this
  exact this

set_option maxHeartbeats 4000000 in
theorem let_any {w : World} {p : Nat} {B : List Nat} {s : Lg} (H : LgAt w p B s) (hk : LgOk s) (to : Nat) (hto : to ≤ 18446744073709551615) :
    Calls Tryz.prog 39 #[ptrW p, .int .u64 to] w fun e w' => e = .returned (.int .i64 (letE s to)) ∧ LgAt w' p B (letF s to) ∧ Sole [p] w w' := by
  obtain ⟨a, cap, c0, c1, c2, c3, hp, k1, k2, k3, hR, hfz⟩ := H.opened
  obtain ⟨v, hb, hv⟩ := H.body
  have hap := H.apart
  obtain ⟨rs, dn, cn, nx⟩ := s
  have hd := hk.done
  have hm := hk.recs
  have hnx := hk.next
  dsimp only at *
  have f0 := hfz 0
  have f1 := hfz 1
  have hS : ∀ W, Below w.heap.size w W → ∀ (x y : Value), Sole [p] w ((W.setCell ⟨p, 0, none⟩ x).setCell ⟨p, 1, none⟩ y) := fun W hW x y => ((Sole.of_below hW [p]).trans (Sole.setCell _ _ (by simp))).trans (Sole.setCell _ _ (by simp))
  have hL : ∀ W, Below w.heap.size w W → ∀ (x : Value) (y : Nat) (rs' : List Rc), RdR B w x rs' → LgAt ((W.setCell ⟨p, 0, none⟩ x).setCell ⟨p, 1, none⟩ (.int .i64 y)) p B ⟨rs', y, cn, nx⟩ := fun W hW x y rs' hx => by
    have hbW := (hW.block p hp).trans hb
    have g1 := heap_setCell_same W p 0 _ _ x hbW
    have g2 := heap_setCell_same _ p 1 _ _ (.int .i64 y) g1
    refine ⟨⟨x, g2, hx.keep (Nat.le_trans hW.size (by simp [World.setCell])) (fun k hkB hk => ?_)⟩, hap⟩
    have hne : k ≠ p := fun e => hap (e ▸ hkB)
    rw [heap_setCell_other _ _ _ _ hne, heap_setCell_other _ _ _ _ hne]
    exact hW.block k hk
  have HH : Hid (LgAt w p B ⟨rs, dn, cn, nx⟩) := H
  unfold ptrW
  have hbody := hb
  clear hb hv hk H
  by_cases hn : to = nx
  · subst hn
    have HE : Hid (letE ⟨rs, dn, cn, to⟩ to = 0 ∧ letF ⟨rs, dn, cn, to⟩ to = ⟨[], 0, cn, to⟩) := ⟨if_pos rfl, if_pos rfl⟩
    have HL := hL w (Below.refl _ _) (.slice none 0 0) 0 [] (RdR.nil B w)
    have HS := hS w (Below.refl _ _) (.slice none 0 0) (.int .i64 0)
    clear hL hS hR hfz hbody
    go_enter Tryz.func39, Tryz.ntmps39
    go_wp2
    go_ret
    exact ⟨by rw [HE.out.1]; rfl, by rw [HE.out.2]; exact HL, HS⟩
  · have hEs : ∀ i, whichR rs to = some i → letE ⟨rs, dn, cn, nx⟩ to = 0 ∧ letF ⟨rs, dn, cn, nx⟩ to = ⟨rs.drop i, dn - i, cn, nx⟩ := fun i h => by unfold letE letF; dsimp only; rw [if_neg hn, if_neg hn, h]; exact ⟨rfl, rfl⟩
    have hEn : whichR rs to = none → letE ⟨rs, dn, cn, nx⟩ to = 1 ∧ letF ⟨rs, dn, cn, nx⟩ to = ⟨rs, dn, cn, nx⟩ := fun h => by unfold letE letF; dsimp only; rw [if_neg hn, if_neg hn, h]; exact ⟨rfl, rfl⟩
    have hnI : ¬ (to : Int) = nx := by omega
    have hR0 : Hid (RdR B w (.slice a rs.length cap) rs) := hR
    obtain ⟨_, _, e, _, _, _, hrow⟩ := hR
    simp only [Value.slice.injEq] at e
    obtain ⟨rfl, _, rfl⟩ := e
    go_enter Tryz.func39, Tryz.ntmps39
    go_wp2_with fail
    go_loopw [24] (fun t wr => ∃ i : Nat, i ≤ rs.length ∧ t = .int .i64 i ∧ Hid (∀ (j : Nat) (r : Rc), j < i → rs[j]? = some r → ¬ r.num = to) ∧ Below w.heap.size w wr) (fun t _ => rs.length - (RowKit.intOf t).toNat)
    case atStart => exact ⟨0, Nat.zero_le _, rfl, fun j r h => by omega, Below.refl _ _⟩
    case round =>
      obtain ⟨i, hi, rfl, HN, HB⟩ := hrel
      obtain ⟨wA, hA⟩ : ∃ wA, wA = wr := ⟨_, rfl⟩
      subst hA
      by_cases hil : i < rs.length
      · have hiI : (i : Int) < rs.length := by omega
        obtain ⟨b, off, rfl, hb, hbB, hc⟩ := hrow (by omega)
        have hxi : rs[i]? = some rs[i] := List.getElem?_eq_getElem hil
        obtain ⟨y0, g, y1, hg⟩ := hc i _ hxi
        have z0 := (HB.cell (p := ⟨b, off + i * 2, none⟩) hb).trans y0
        have z1 := (HB.cell (p := ⟨b, off + i * 2 + 1, none⟩) hb).trans y1
        have hwh := fun e => whichR_some HN.out hxi e
        have hdr := RdR.drop hR0.out i (by omega)
        have hsome : rs[i]? = some rs[i] := hxi
        generalize hri : rs[i] = r at *
        obtain ⟨num, grp⟩ := r
        dsimp only at *
        obtain ⟨ag, cg, hgv, hg1, hg2, hg3, _⟩ := hg
        subst hgv
        unfold maxLen at hg2
        obtain ⟨W2, hW2⟩ : ∃ W2, wA.alloc (.cells #[.int .u64 num, .slice ag grp.length cg] 62) = W2 := ⟨_, rfl⟩
        have hb2 : Below wA.heap.size wA W2 := by rw [← hW2]; exact (Below.refl _ wA).alloc (Nat.le_refl _) _
        have hB2 := HB.trans (hb2.mono HB.size)
        have hg2' : W2.heap[wA.heap.size]? = some (.cells #[.int .u64 num, .slice ag grp.length cg] 62 (0, 0)) := by rw [← hW2]; exact heap_alloc_new wA _
        have cg0 : W2.cell? ⟨wA.heap.size, 0, none⟩ = some (.int .u64 num) := by rw [cell_of_row _ _ 0 _ _ (0, 0) hg2']; rfl
        by_cases he : num = to
        · have hw := hwh he
          subst he
          have x0 := (hB2.cell (p := ⟨p, 0, none⟩) hp).trans c0
          have x1 := (hB2.cell (p := ⟨p, 1, none⟩) hp).trans c1
          have hbp := (hB2.block p hp).trans hbody
          have e0 := frozen_of_row W2 p 0 _ _ hbp
          have e1 := frozen_of_row W2 p 1 _ _ hbp
          have HL : Hid (LgAt ((W2.setCell ⟨p, 0, none⟩ (.slice (some ⟨b, off + i * 2, none⟩) (rs.length - i) (cap - i))).setCell ⟨p, 1, none⟩ (.int .i64 ((dn - i : Nat) : Int))) p B ⟨rs.drop i, dn - i, cn, nx⟩) := hL W2 hB2 _ (dn - i) _ hdr
          have HS : Hid (Sole [p] w ((W2.setCell ⟨p, 0, none⟩ (.slice (some ⟨b, off + i * 2, none⟩) (rs.length - i) (cap - i))).setCell ⟨p, 1, none⟩ (.int .i64 ((dn - i : Nat) : Int)))) := hS W2 hB2 _ _
          have HE : Hid (letE ⟨rs, dn, cn, nx⟩ num = 0 ∧ letF ⟨rs, dn, cn, nx⟩ num = ⟨rs.drop i, dn - i, cn, nx⟩) := hEs i hw
          clear hL hS hc hrow HN hwh hw hdr hbody hR0 hfz hxi hsome hri hEs hEn
          by_cases hdi : i < dn
          · have hdI : (0 : Int) < (dn : Int) - i := by omega
            have hdI2 : ¬ (dn : Int) - i < 0 := by omega
            rw [show ((dn - i : Nat) : Int) = (dn : Int) - i from by omega] at HL HS
            go_wp2
            all_goals first | (exfalso; omega) | skip
            go_ret
            exact ⟨by rw [HE.out.1]; rfl, by rw [HE.out.2]; exact HL.out, HS.out⟩
          · have hdI : ¬ (0 : Int) < (dn : Int) - i := by omega
            have hz : dn - i = 0 := by omega
            rw [hz] at HL HS HE
            go_wp2
            all_goals first | (exfalso; omega) | skip
            go_ret
            exact ⟨by rw [HE.out.1]; rfl, by rw [HE.out.2]; exact HL.out, HS.out⟩
        · have heI : ¬ (num : Int) = to := by omega
          have HN' : Hid (∀ (j : Nat) (r : Rc), j < i + 1 → rs[j]? = some r → ¬ r.num = to) := fun j r hj hr => by
            rcases Nat.lt_or_ge j i with q | q
            · exact HN.out j r q hr
            · have : j = i := by omega
              subst this
              rw [hsome] at hr
              have := Option.some.inj hr
              rw [← this]
              exact he
          clear hL hS hc hrow HN hwh hdr hbody hR0 hfz hxi hsome hri hEs hEn
          go_wp2_with fail
          go_roundw
          case rel => exact ⟨i + 1, by omega, by go_num, HN', by first | exact hB2 | (rw [hW2]; exact hB2)⟩
          case measure => simp [RowKit.intOf]; omega
      · obtain rfl : i = rs.length := by omega
        have hiI : ¬ (rs.length : Int) < rs.length := by omega
        have HE : Hid (letE ⟨rs, dn, cn, nx⟩ to = 1 ∧ letF ⟨rs, dn, cn, nx⟩ to = ⟨rs, dn, cn, nx⟩) := hEn (whichR_none (fun j r hj => HN.out j r (List.getElem?_eq_some_iff.1 hj).1 hj))
        have HF := HH.out.below HB
        clear hL hS hrow HN hbody hR0 hfz hEs hEn
        go_wp2
        go_ret
        exact ⟨by rw [HE.out.1]; rfl, by rw [HE.out.2]; exact HF, Sole.of_below HB [p]⟩

def strC (l : List ByteArray) : List Value := l.map (fun s => Value.string s)

theorem Tryz.infoS : (Tryz.prog.info? 9).map (fun i => (i.zero, i.size, i.bytes)) = some (some (.string ⟨#[]⟩), 1, 16) := by kernel_rfl

theorem info_partsS : ∃ i, Tryz.prog.info? 9 = some i ∧ i.zero = some (.string ⟨#[]⟩) ∧ i.size = 1 ∧ i.bytes = 16 := by
  have h := Tryz.infoS
  cases hi : Tryz.prog.info? 9 with
  | none => rw [hi] at h; cases h
  | some i =>
    rw [hi] at h
    simp only [Option.map_some, Option.some.injEq, Prod.mk.injEq] at h
    exact ⟨i, rfl, h.1, h.2.1, h.2.2⟩

/-- The blocks of a row of the call's own. -/
def ownB (v : Value) : List Nat := match v.ownBlock with
  | some g => [g]
  | none => []

theorem rdT_own {W : World} {base : Nat} {u : Value} {l : List ByteArray} (h : W.ownsRow base 9 1 u l.length (strC l)) : RdT (ownB u) W u l ∧ (∀ k ∈ ownB u, base ≤ k ∧ k < W.heap.size) := by
  have hlt := fun k hk => World.ownsRow.lt h k hk
  have hB : ∀ k ∈ ownB u, base ≤ k ∧ k < W.heap.size := fun k hk => by
    unfold ownB at hk
    cases hu : u.ownBlock with
    | none => rw [hu] at hk; cases hk
    | some g =>
      rw [hu] at hk
      simp only [List.mem_singleton] at hk
      subst hk
      exact hlt k hu
  refine ⟨?_, hB⟩
  rcases h.2 with ⟨rfl, h0⟩ | ⟨g, cap, cur, rfl, hb, hg, hn, hm, hs, ht⟩
  · have : l = [] := List.length_eq_zero_iff.1 h0
    subst this
    exact RdT.nil _ _
  · refine ⟨_, cap, rfl, hn, hm, (by intro e; cases e), fun _ => ⟨g, 0, rfl, (Array.getElem?_eq_some_iff.1 hg).1, by simp [ownB, Value.ownBlock], fun i x hx => ?_⟩⟩
    have e : (strC l)[i]? = some (.string x) := by unfold strC; rw [List.getElem?_map, hx]; rfl
    rw [Nat.zero_add, cell_of_row W g i _ _ (0, 0) hg]
    rw [← ht, List.getElem?_take] at e
    split at e
    · rw [← Array.getElem?_toList]; exact e
    · cases e

theorem rowS_slice {w : World} {base e k : Nat} {v : Value} {n : Nat} {xs : List Value} (h : w.ownsRow base e k v n xs) : ∃ a c, v = .slice a n c := by
  rcases h.2 with ⟨rfl, rfl⟩ | ⟨g, cap, cur, rfl, _⟩
  · exact ⟨_, _, rfl⟩
  · exact ⟨_, _, rfl⟩

/-- 'append(v, u...)' of texts, v a row of the call's own. -/
theorem wpList_append_strs {w : World} {ops : Array Oper} {rest : List Oper} {o : Oper} {a : Act} {Q : Exit → Act → World → Prop} (hgd : o.guard = none) (s x : Operand)
    (ho : o.op = .call { callee := .builtin .append, args := #[s, x], argTypes := #[42, 42] })
    (base : Nat) (v : Value) (l : List ByteArray) (hs : a.eval s = v) (hown : w.ownsRow base 9 1 v l.length (strC l)) (B : List Nat) (u : Value) (l' : List ByteArray) (hx : a.eval x = u) (hrd : RdT B w u l') (hlen : l.length + l'.length ≤ 1000000000) (hbase : base ≤ w.heap.size)
    (h : ∀ v' w', w'.ownsRow base 9 1 v' (l ++ l').length (strC (l ++ l')) → w.grownBy w' v.ownBlock → wpList Tryz.prog ops Q rest (a.put o.dst v') w') : wpList Tryz.prog ops Q (o :: rest) a w := by
  obtain ⟨iI, hii, hi0, hi1, hi2⟩ := info_partsS
  obtain ⟨ad, cap, rfl, h1, h2, h3, h4⟩ := hrd
  cases ad with
  | none =>
    obtain rfl := h3 rfl
    have hl : l'.length = 0 := by omega
    obtain rfl : l' = [] := List.eq_nil_of_length_eq_zero hl
    exact wpList_append_own_none hgd s x 42 ho base 9 iI 1 Tryz.underlying42 hii _ _ _ hs hown hx (h _ w (by rw [List.append_nil]; exact hown) (World.grownBy.refl _ _))
  | some ad =>
    refine wpList_append_own w hgd s x 42 ho base 9 iI (.string ⟨#[]⟩) 1 16 Tryz.underlying42 hii hi0 hi1 hi2 rfl (by decide) _ _ _ hs hown ad l'.length cap (strC l') hx (by simp [strC]) ?_ (by intro u hu; obtain ⟨y, _, rfl⟩ := List.mem_map.1 hu; rfl) ?_ ?_ hbase ?_
    · intro j u hj
      unfold strC at hj
      rw [List.getElem?_map] at hj
      cases hy : l'[j]? with
      | none => rw [hy] at hj; cases hj
      | some y =>
        rw [hy] at hj
        simp only [Option.map_some, Option.some.injEq] at hj
        have hlt := (List.getElem?_eq_some_iff.1 hy).1
        obtain ⟨b, off, e, _, _, hcell⟩ := h4 (by omega)
        simp only [Option.some.injEq] at e
        subst e
        have hadd : (⟨b, off, none⟩ : Addr).add j = ⟨b, off + j, none⟩ := by unfold Addr.add; split <;> simp_all
        rw [hadd, hcell j y hy, hj]
    · unfold maxLen; omega
    · omega
    · intro v' w' ho' hg _
      refine h v' w' ?_ hg
      rw [List.length_append]
      unfold strC at *
      rw [List.map_append]
      exact ho'

/-- Texts are told: they are read in old blocks of B, or in new ones. -/
def TextsOut (w : World) (B : List Nat) (L : List ByteArray) (e : Ending) (w' : World) : Prop :=
  ∃ v' B', e = .returned v' ∧ RdT B' w' v' L ∧ (∀ k ∈ B', k ∈ B ∨ w.heap.size ≤ k) ∧ Below w.heap.size w w'

/-- The texts so often. -/
def oftenL (l : List ByteArray) : Nat → List ByteArray
  | 0 => []
  | k + 1 => oftenL l k ++ l

theorem often_len (l : List ByteArray) : ∀ k, (oftenL l k).length = k * l.length
  | 0 => by simp [oftenL]
  | k + 1 => by unfold oftenL; rw [List.length_append, often_len l k, Nat.succ_mul]

def groupL (l : List ByteArray) (k : Nat) : List ByteArray := if 300 < l.length then l else oftenL l k

/-- 1 + (x % 9 + 9) % 9 as the program counts it. -/
theorem mod_nine (x : Int) (h1 : -9223372036854775808 ≤ x) (h2 : x ≤ 9223372036854775807) : ∃ r : Nat, wrap64 (1 + (wrap64 (x.tmod 9 + 9)).tmod 9) = (r : Int) ∧ 1 ≤ r ∧ r ≤ 9 := by
  have t1 := Int.tmod_lt_of_pos x (show (0 : Int) < 9 by decide)
  have t2 := Int.lt_tmod_of_pos x (show (0 : Int) < 9 by decide)
  have e : wrap64 (x.tmod 9 + 9) = x.tmod 9 + 9 := by unfold wrap64; omega
  rw [e, Int.tmod_eq_emod_of_nonneg (by omega)]
  have p1 := Int.emod_nonneg (x.tmod 9 + 9) (show (9 : Int) ≠ 0 by decide)
  have p2 := Int.emod_lt_of_pos (x.tmod 9 + 9) (show (0 : Int) < 9 by decide)
  generalize (x.tmod 9 + 9) % 9 = y at *
  have e2 : wrap64 (1 + y) = 1 + y := by unfold wrap64; omega
  rw [e2]
  exact ⟨(1 + y).toNat, by omega, by omega, by omega⟩

set_option maxHeartbeats 4000000 in
theorem group_any {w : World} {B : List Nat} (d n t : Int) (g : Value) (l : List ByteArray) (hr : RdT B w g l) (ht0 : -9223372036854775808 ≤ t) (ht1 : t ≤ 9223372036854775807) :
    ∃ k : Nat, 1 ≤ k ∧ k ≤ 9 ∧ Calls Tryz.prog 23 #[.agg #[.int .i64 d, .int .i64 n, .int .i64 t, g]] w fun e w' => TextsOut w B (groupL l k) e w' := by
  obtain ⟨k, hk, hk1, hk9⟩ := mod_nine t ht0 ht1
  refine ⟨k, hk1, hk9, ?_⟩
  have HK : Hid (wrap64 (1 + (wrap64 (t.tmod 9 + 9)).tmod 9) = (k : Int)) := hk
  clear hk
  have hr0 : Hid (RdT B w g l) := hr
  obtain ⟨a, cap, rfl, h1, h2, _, _⟩ := hr
  unfold maxLen at h2
  obtain ⟨W1, hW1⟩ : ∃ W1, w.alloc (.cells #[.int .i64 d, .int .i64 n, .int .i64 t, .slice a l.length cap] 44) = W1 := ⟨_, rfl⟩
  have hb1 : Below w.heap.size w W1 := by rw [← hW1]; exact (Below.refl _ w).alloc (Nat.le_refl _) _
  have hg1 : W1.heap[w.heap.size]? = some (.cells #[.int .i64 d, .int .i64 n, .int .i64 t, .slice a l.length cap] 44 (0, 0)) := by rw [← hW1]; exact heap_alloc_new w _
  have hl1 := (Array.getElem?_eq_some_iff.1 hg1).1
  have q2 : ∀ W, Below W1.heap.size W1 W → W.cell? ⟨w.heap.size, 2, none⟩ = some (.int .i64 t) ∧ W.cell? ⟨w.heap.size, 3, none⟩ = some (.slice a l.length cap) := fun W hW => by
    have e := (hW.block _ hl1).trans hg1
    exact ⟨by rw [cell_of_row _ _ 2 _ _ (0, 0) e]; rfl, by rw [cell_of_row _ _ 3 _ _ (0, 0) e]; rfl⟩
  obtain ⟨x2, x3⟩ := q2 W1 (Below.refl _ _)
  clear hg1
  unfold groupL
  by_cases hbig : 300 < l.length
  · have hbI : (300 : Int) < l.length := by omega
    rw [if_pos hbig]
    clear q2
    go_enter Tryz.func23, Tryz.ntmps23
    go_wp2_with fail
    go_ret
    exact ⟨_, B, rfl, (by first | exact hr0.out.below hb1 | (rw [hW1]; exact hr0.out.below hb1)), fun k hk => .inl hk, by first | exact hb1 | (rw [hW1]; exact hb1)⟩
  · have hbI : ¬ (300 : Int) < l.length := by omega
    rw [if_neg hbig]
    have hol := often_len l
    go_enter Tryz.func23, Tryz.ntmps23
    go_wp2_with fail
    (try rw [HK.out])
    (try rw [hW1])
    clear hW1
    go_loopw [3, 16] (fun v t wr => ∃ (i : Nat) (a' : Option Addr) (c' : Nat), i ≤ k ∧ t = .int .i64 i ∧ v = .slice a' (oftenL l i).length c' ∧ wr.ownsRow W1.heap.size 9 1 (.slice a' (oftenL l i).length c') (oftenL l i).length (strC (oftenL l i)) ∧ Below W1.heap.size W1 wr) (fun _ t _ => k - (RowKit.intOf t).toNat)
    case atStart => exact ⟨0, none, 0, Nat.zero_le _, rfl, rfl, World.ownsRow_nil _ _ _ _, Below.refl _ _⟩
    case round =>
      clear x2 x3
      obtain ⟨i, a', c', hi, rfl, rfl, hown, HB⟩ := hrel
      obtain ⟨wA, hA⟩ : ∃ wA, wA = wr := ⟨_, rfl⟩
      subst hA
      by_cases hil : i < k
      · have hiI : (i : Int) < k := by omega
        obtain ⟨x2, x3⟩ := q2 wA HB
        have hrA := hr0.out.below (hb1.trans (HB.mono hb1.size))
        have hoi := hol i
        have hle : (oftenL l i).length + l.length ≤ 1000000000 := by rw [hoi]; have := Nat.mul_le_mul hi (show l.length ≤ 300 by omega); omega
        have hnx : oftenL l (i + 1) = oftenL l i ++ l := rfl
        clear q2 hol hoi hr0
        generalize oftenL l i = U at *
        generalize hUL : U.length = L at *
        go_wp2_with (at_builtin; refine wpList_append_strs rfl _ _ rfl W1.heap.size _ U rfl (by rw [hUL]; exact hown) B _ l rfl hrA (by omega) HB.size ?_; intro v3 w3 ho3 hg3; obtain ⟨a3, c3, rfl⟩ := rowS_slice ho3)
        have hb3 : Below W1.heap.size W1 w3 := HB.grown hg3 HB.size (fun q hq => (World.ownsRow.lt hown q hq).1)
        rw [← hnx] at ho3
        clear hown hg3 hrA x2 x3
        go_wp2_with fail
        go_roundw
        case rel => exact ⟨i + 1, a3, c3, by omega, by go_num, by rw [hnx, List.length_append, hUL], ho3, hb3⟩
        case measure => simp [RowKit.intOf]; omega
      · obtain rfl : i = k := by omega
        have hiI : ¬ (i : Int) < i := by omega
        obtain ⟨r1, r2⟩ := rdT_own hown
        clear q2 hol
        have hbF := hb1.trans (HB.mono hb1.size)
        have hs1 := hb1.size
        generalize hU : oftenL l i = U at *
        go_wp2
        go_ret
        exact ⟨.slice a' U.length c', _, rfl, r1, fun k hk => .inr (by have := (r2 k hk).1; omega), hbF⟩

/-- Records that are one's own: the texts of each in a block of its own, one of S. -/
structure RecsOwn (w : World) (b off : Nat) (gs : Nat → Nat) (rs : List Rc) (S : List Nat) : Prop where
  lt : b < w.heap.size
  row : b ∉ S
  each : ∀ (i : Nat) (x : Rc), rs[i]? = some x → w.cell? ⟨b, off + i * 2, none⟩ = some (.int .u64 x.num) ∧ ∃ g, w.cell? ⟨b, off + i * 2 + 1, none⟩ = some g ∧ RdT [gs i] w g x.grp
  own : ∀ (i : Nat) (x : Rc), rs[i]? = some x → 0 < x.grp.length → gs i ∈ S ∧ ∃ cur, w.heap[gs i]? = some (.cells cur 9 (0, 0))
  apart : ∀ (i j : Nat) (x y : Rc), i ≠ j → rs[i]? = some x → rs[j]? = some y → 0 < x.grp.length → 0 < y.grp.length → gs i ≠ gs j

set_option maxHeartbeats 8000000 in
theorem known_eq {w : World} {rs : List Rc} {S B : List Nat} {a : Option Addr} {cap : Nat} {v' : Value} (hcap : rs.length ≤ cap) (hcm : cap ≤ maxLen) (h : 0 < rs.length → ∃ b off gs, a = some ⟨b, off, none⟩ ∧ RecsOwn w b off gs rs S) (h' : RdR B w v' rs) (hSB : ∀ k ∈ S, k ∉ B) :
    Calls Tryz.prog 16 #[.slice a rs.length cap, v'] w fun e w' => e = .returned (.bool true) ∧ Sole S w w' := by
  have hR0 : Hid (RdR B w v' rs) := h'
  obtain ⟨a', cap', rfl, k1', k2', _, hrow'⟩ := h'
  unfold maxLen at hcm k2'
  rcases Nat.eq_zero_or_pos rs.length with h0 | hpos
  · rw [h0]
    clear h hrow' hR0
    go_enter Tryz.func16, Tryz.ntmps16
    go_wp2
    go_loop [14] (fun t => t = .int .i64 0) (fun _ => 0)
    case atStart => rfl
    case round =>
      subst hrel
      go_wp2
      go_ret
      exact ⟨rfl, Sole.refl _ _⟩
  obtain ⟨b, off, gs, rfl, HO⟩ := h hpos
  obtain ⟨b', off', rfl, hb', hbB, hrow'⟩ := hrow' hpos
  go_enter Tryz.func16, Tryz.ntmps16
  go_wp2
  go_loopw [14] (fun t wr => ∃ i : Nat, i ≤ rs.length ∧ t = .int .i64 i ∧ Sole S w wr ∧ Hid (∀ (j : Nat) (x : Rc), i ≤ j → rs[j]? = some x → 0 < x.grp.length → wr.heap[gs j]? = w.heap[gs j]?)) (fun t _ => rs.length - (RowKit.intOf t).toNat)
  case atStart => exact ⟨0, Nat.zero_le _, rfl, Sole.refl _ _, fun _ _ _ _ _ => rfl⟩
  case round =>
    obtain ⟨i, hi, rfl, HS, HG⟩ := hrel
    obtain ⟨wA, hA⟩ : ∃ wA, wA = wr := ⟨_, rfl⟩
    subst hA
    by_cases hil : i < rs.length
    · have hiI : (i : Int) < rs.length := by omega
      have hxi : rs[i]? = some rs[i] := List.getElem?_eq_getElem hil
      obtain ⟨y0, g, y1, hg⟩ := HO.each i _ hxi
      have how := HO.own i _ hxi
      have hap : ∀ (j : Nat) (x : Rc), j ≠ i → rs[j]? = some x → 0 < x.grp.length → 0 < rs[i].grp.length → gs j ≠ gs i := fun j x hj hx h1 h2 => HO.apart j i x _ hj hx hxi h1 h2
      have hGi := HG.out i _ (Nat.le_refl _) hxi
      have hrowA := HS.block b HO.lt HO.row
      have z0 := (World.cell?_of_block (a := ⟨b, off + i * 2, none⟩) hrowA).trans y0
      have z1 := (World.cell?_of_block (a := ⟨b, off + i * 2 + 1, none⟩) hrowA).trans y1
      have hgA : RdT [gs i] wA g rs[i].grp := by
        obtain ⟨ag, cg, rfl, r1, r2, r3, r4⟩ := hg
        refine ⟨ag, cg, rfl, r1, r2, r3, fun hp => ?_⟩
        obtain ⟨bb, oo, rfl, hl, hm, hc⟩ := r4 hp
        simp only [List.mem_singleton] at hm
        subst hm
        exact ⟨gs i, oo, rfl, Nat.lt_of_lt_of_le hl HS.size, by simp, fun j x hj => (World.cell?_of_block (a := ⟨gs i, oo + j, none⟩) (hGi hp)).trans (hc j x hj)⟩
      obtain ⟨u0, g', u1, hg'⟩ := hrow' i _ hxi
      have hb'S : b' ∉ S := fun q => hSB b' q hbB
      have hrowA' := HS.block b' hb' hb'S
      have t0 := (World.cell?_of_block (a := ⟨b', off' + i * 2, none⟩) hrowA').trans u0
      have t1 := (World.cell?_of_block (a := ⟨b', off' + i * 2 + 1, none⟩) hrowA').trans u1
      have hgA' : RdT B wA g' rs[i].grp := hg'.keep HS.size (fun k hk hlt => HS.block k hlt (fun q => hSB k q hk))
      have hbA : b < wA.heap.size := Nat.lt_of_lt_of_le HO.lt HS.size
      have hbA' : b' < wA.heap.size := Nat.lt_of_lt_of_le hb' HS.size
      have hob : 0 < rs[i].grp.length → b ≠ gs i := fun hp e => HO.row (e ▸ (how hp).1)
      have HNX : Hid (∀ (j : Nat) (x : Rc), i + 1 ≤ j → rs[j]? = some x → 0 < x.grp.length → wA.heap[gs j]? = w.heap[gs j]?) := fun j x hj hx hp => HG.out j x (by omega) hx hp
      have hown : ∀ (j : Nat) (x : Rc), rs[j]? = some x → 0 < x.grp.length → gs j < w.heap.size := fun j x hx hp => by
        obtain ⟨_, cur, hc⟩ := HO.own j x hx hp
        exact (Array.getElem?_eq_some_iff.1 hc).1
      have HAP : Hid (∀ (j : Nat) (x : Rc), i + 1 ≤ j → rs[j]? = some x → 0 < x.grp.length → 0 < rs[i].grp.length → gs j ≠ gs i) := fun j x hj hx h1 h2 => hap j x (by omega) hx h1 h2
      clear hg hg' y0 y1 u0 u1 hrowA hrowA' hrow' HG hap
      generalize rs[i] = r at *
      obtain ⟨num, grp⟩ := r
      dsimp only at *
      have hgA0 : Hid (RdT [gs i] wA g grp) := hgA
      obtain ⟨ag, cg, hgv, r1, r2, r3, r4⟩ := hgA
      obtain ⟨ag', cg', hgv', r1', r2', r3', r4'⟩ := hgA'
      have hgA0' : Hid (RdT B wA g' grp) := ⟨ag', cg', hgv', r1', r2', r3', r4'⟩
      unfold maxLen at r2 r2'
      subst hgv hgv'
      have cells : ∀ W, Below wA.heap.size wA W → W.cell? ⟨b, off + i * 2, none⟩ = some (.int .u64 num) ∧ W.cell? ⟨b, off + i * 2 + 1, none⟩ = some (.slice ag grp.length cg) ∧ W.cell? ⟨b', off' + i * 2, none⟩ = some (.int .u64 num) ∧ W.cell? ⟨b', off' + i * 2 + 1, none⟩ = some (.slice ag' grp.length cg') := fun W hW => ⟨(hW.cell (p := ⟨b, off + i * 2, none⟩) hbA).trans z0, (hW.cell (p := ⟨b, off + i * 2 + 1, none⟩) hbA).trans z1, (hW.cell (p := ⟨b', off' + i * 2, none⟩) hbA').trans t0, (hW.cell (p := ⟨b', off' + i * 2 + 1, none⟩) hbA').trans t1⟩
      have e0 : ∀ W, Below wA.heap.size wA W → W.cell? ⟨b, off + i * 2, none⟩ = some (.int .u64 num) := fun W hW => (cells W hW).1
      have e1 : ∀ W, Below wA.heap.size wA W → W.cell? ⟨b, off + i * 2 + 1, none⟩ = some (.slice ag grp.length cg) := fun W hW => (cells W hW).2.1
      have e2 : ∀ W, Below wA.heap.size wA W → W.cell? ⟨b', off' + i * 2, none⟩ = some (.int .u64 num) := fun W hW => (cells W hW).2.2.1
      have e3 : ∀ W, Below wA.heap.size wA W → W.cell? ⟨b', off' + i * 2 + 1, none⟩ = some (.slice ag' grp.length cg') := fun W hW => (cells W hW).2.2.2
      have hsame : ∀ W, Below wA.heap.size wA W → Calls Tryz.prog 37 #[.agg #[.int .u64 num, .slice ag grp.length cg], .agg #[.int .u64 num, .slice ag' grp.length cg']] W fun e w' => e = .returned (.bool true) ∧ Below W.heap.size W w' := fun W hW => same_eq num (hgA0.out.below hW) (hgA0'.out.below hW)
      go_wp2_with fail
      clear z0 z1 t0 t1
      refine wp_region_noPanic ?_
      go_region_held (fun W => Below wA.heap.size wA W) (first | assumption | exact (Below.refl _ _).drew | exact Below.trans (by assumption) (Below.mono (by assumption) (by omega)))
        (first | (go_at_call 37; refine (hsame _ ?_).mono ?_; (first | exact (Below.refl _ _).drew | assumption); rintro e w6 ⟨rfl, hb6⟩; have hb6' := (Below.refl wA.heap.size wA).drew.trans hb6))
      refine NoPanic.normal ?_
      obtain ⟨z0, z1, _, _⟩ := cells w6 hb6'
      have hS6 : Sole S w w6 := HS.trans (Sole.of_below hb6' S)
      have hsz6 := hb6'.size
      -- the block of the texts, if there are any
      have hblk : 0 < grp.length → ∃ oo cur, ag = some ⟨gs i, oo, none⟩ ∧ gs i ∈ S ∧ b ≠ gs i ∧ w6.heap[gs i]? = some (.cells cur 9 (0, 0)) ∧ oo + grp.length ≤ cur.size := fun hp => by
        obtain ⟨hm, cur, hc⟩ := how hp
        obtain ⟨bb, oo, e, hl, hmm, hcc⟩ := r4 hp
        simp only [List.mem_singleton] at hmm
        subst hmm
        have hA := (hGi hp).trans hc
        refine ⟨oo, cur, e, hm, hob hp, (hb6'.block _ hl).trans hA, ?_⟩
        have hlast := hcc (grp.length - 1) grp[grp.length - 1] (List.getElem?_eq_getElem (by omega))
        rw [cell_of_row _ _ _ _ _ (0, 0) hA] at hlast
        have := (Array.getElem?_eq_some_iff.1 hlast).1
        omega
      have HNX6 : Hid (∀ (j : Nat) (x : Rc), i + 1 ≤ j → rs[j]? = some x → 0 < x.grp.length → w6.heap[gs j]? = w.heap[gs j]?) := fun j x hj hx hp => (hb6'.block _ (Nat.lt_of_lt_of_le (hown j x hx hp) HS.size)).trans (HNX.out j x hj hx hp)
      clear e0 e1 e2 e3 cells hsame hb6 how hob r4 r4' hgA0 hgA0' hGi HNX hown
      go_wp2_with fail
      go_loopw [40] (fun t wr => ∃ k : Nat, k ≤ grp.length ∧ t = .int .i64 k ∧ Sole S w wr ∧ Hid (wr.heap[b]? = w6.heap[b]?) ∧ Hid (∀ (j : Nat) (x : Rc), i + 1 ≤ j → rs[j]? = some x → 0 < x.grp.length → wr.heap[gs j]? = w.heap[gs j]?) ∧ Hid (0 < grp.length → ∃ oo cur, ag = some ⟨gs i, oo, none⟩ ∧ gs i ∈ S ∧ b ≠ gs i ∧ wr.heap[gs i]? = some (.cells cur 9 (0, 0)) ∧ oo + grp.length ≤ cur.size)) (fun t _ => grp.length - (RowKit.intOf t).toNat)
      case atStart => exact ⟨0, Nat.zero_le _, rfl, hS6, rfl, HNX6, hblk⟩
      case round =>
        clear HNX6 hblk hS6
        obtain ⟨k, hk, rfl, HS2, HB2, HN2, HK2⟩ := hrel
        obtain ⟨wB, hB⟩ : ∃ wB, wB = wr := ⟨_, rfl⟩
        subst hB
        have x1 := (World.cell?_of_block (a := ⟨b, off + i * 2 + 1, none⟩) HB2.out).trans z1
        by_cases hkl : k < grp.length
        · have hkI : (k : Int) < grp.length := by omega
          obtain ⟨oo, cur, rfl, hm, hbn, hcur, hle⟩ := HK2.out (by omega)
          have hok : oo + k < cur.size := by omega
          have xk : wB.cell? ⟨gs i, oo + k, none⟩ = some cur[oo + k] := by rw [cell_of_row _ _ _ _ _ (0, 0) hcur]; exact Array.getElem?_eq_getElem hok
          have fk := frozen_of_row wB (gs i) (oo + k) _ 9 hcur
          generalize cur[oo + k] = old at *
          have HS' : Hid (Sole S w (wB.setCell ⟨gs i, oo + k, none⟩ (.string ⟨#[122, 122]⟩))) := HS2.trans (Sole.setCell _ _ hm)
          have HB' : Hid ((wB.setCell ⟨gs i, oo + k, none⟩ (.string ⟨#[122, 122]⟩)).heap[b]? = w6.heap[b]?) := (heap_setCell_other _ _ _ _ (by show b ≠ gs i; exact hbn)).trans HB2.out
          have HN' : Hid (∀ (j : Nat) (x : Rc), i + 1 ≤ j → rs[j]? = some x → 0 < x.grp.length → (wB.setCell ⟨gs i, oo + k, none⟩ (.string ⟨#[122, 122]⟩)).heap[gs j]? = w.heap[gs j]?) := fun j x hj hx hp => (heap_setCell_other _ _ _ _ (by show gs j ≠ gs i; exact HAP.out j x hj hx hp (by omega))).trans (HN2.out j x hj hx hp)
          have HK' : Hid (0 < grp.length → ∃ oo2 cur2, (some ⟨gs i, oo, none⟩ : Option Addr) = some ⟨gs i, oo2, none⟩ ∧ gs i ∈ S ∧ b ≠ gs i ∧ (wB.setCell ⟨gs i, oo + k, none⟩ (.string ⟨#[122, 122]⟩)).heap[gs i]? = some (.cells cur2 9 (0, 0)) ∧ oo2 + grp.length ≤ cur2.size) := fun _ => ⟨oo, _, rfl, hm, hbn, heap_setCell_same wB (gs i) (oo + k) _ 9 _ hcur, by simpa using hle⟩
          clear HS2 HB2 HN2 HK2 hcur
          go_wp2_with fail
          go_roundw
          case rel => exact ⟨k + 1, by omega, by go_num, HS'.out, HB', HN', HK'⟩
          case measure => simp [RowKit.intOf]; omega
        · have hkI : ¬ (k : Int) < grp.length := by omega
          clear HB2 HK2
          go_wp2_with fail
          go_roundw
          case rel => exact ⟨i + 1, by omega, by go_num, HS2, HN2⟩
          case measure => simp [RowKit.intOf]; omega
    · have hiI : ¬ (i : Int) < rs.length := by omega
      clear hrow' HO HG
      go_wp2
      go_ret
      exact ⟨rfl, HS⟩

end Go.Proofs.YtckcdmkgmbicfaaGreat
