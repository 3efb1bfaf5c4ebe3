/- FBase, FSmall, FMul, FLists, FMark, FRep, FClone, FRun, FMath, FFind, FNew, FTurn, FLive, FWaits, FAll, FNewR: in one text. -/
import Derived.Test.YthgdbjpefjjeaaaGreatDSmall
import Derived.Below
import Derived.BigQuiet
import Derived.Deep.QuietTactic
import Derived.Shelf.Bits.Mul64
import Derived.Laws.AppendOwn
import Derived.OwnWalk
import Derived.Laws.MakeOwn
import Derived.Laws.CopyOwn
import Derived.Laws.Tables
import Derived.Deep.RegionHeld3
import Derived.Laws.Append
import Derived.Lib.SliceRun
import Derived.WalkMore
namespace Go.Proofs.YthgdbjpefjjeaaaGreat
open Go.RowKit
set_option linter.unusedVariables false
set_option linter.unusedSimpArgs false
set_option maxRecDepth 4000

theorem belowQ (W : World) (q B : Nat) : Below B W (W.drewN q) := ⟨rfl, rfl, rfl, Nat.le_refl _, fun _ _ => rfl⟩

/-- A map of blocks: the first one, and what each is (1 free, 2 taken, 3 waiting). -/
structure Fr where
  lo : Nat
  ks : List Nat

structure FrOk (s : Fr) : Prop where
  any : 0 < s.ks.length
  most : s.lo + s.ks.length ≤ 1024
  kinds : ∀ k ∈ s.ks, 1 ≤ k ∧ k ≤ 3

/-- Where it lies: the variable in block p, the row in block h. -/
structure FrAt (T E : TypeId) (f : Nat → Int) (w : World) (p h : Nat) (s : Fr) : Prop where
  body : ∃ (cap : Nat) (cur : Array Value), w.heap[p]? = some (.cells #[.int .i64 s.lo, .slice (some ⟨h, 0, none⟩) s.ks.length cap] T (0, 0)) ∧ w.heap[h]? = some (.cells cur E (0, 0)) ∧ s.ks.length ≤ cap ∧ cap ≤ maxLen ∧ p ≠ h ∧ ∀ (i k : Nat), s.ks[i]? = some k → cur[i]? = some (.int .i64 (f k))

theorem FrAt.other {T E : TypeId} {f : Nat → Int} {w w' : World} {p h : Nat} {s : Fr} (H : FrAt T E f w p h s) {S : List Nat} (hS : Sole S w w') (h1 : p ∉ S) (h2 : h ∉ S) : FrAt T E f w' p h s := by
  obtain ⟨cap, cur, a, b, r⟩ := H.body
  exact ⟨cap, cur, (hS.block p (Array.getElem?_eq_some_iff.1 a).1 h1).trans a, (hS.block h (Array.getElem?_eq_some_iff.1 b).1 h2).trans b, r⟩

theorem FrAt.below {T E : TypeId} {f : Nat → Int} {w w' : World} {p h : Nat} {s : Fr} (H : FrAt T E f w p h s) (hb : Below w.heap.size w w') : FrAt T E f w' p h s :=
  H.other (Sole.of_below hb []) (by simp) (by simp)

/-- What is read of it. -/
theorem FrAt.opened {T E : TypeId} {f : Nat → Int} {w : World} {p h : Nat} {s : Fr} (H : FrAt T E f w p h s) : ∃ cap, w.cell? ⟨p, 0, none⟩ = some (.int .i64 s.lo) ∧ w.cell? ⟨p, 1, none⟩ = some (.slice (some ⟨h, 0, none⟩) s.ks.length cap) ∧ s.ks.length ≤ cap ∧ cap ≤ 9223372036854775807 ∧ p < w.heap.size ∧ h < w.heap.size ∧ p ≠ h ∧
    ∀ (i k : Nat), s.ks[i]? = some k → w.cell? ⟨h, i, none⟩ = some (.int .i64 (f k)) ∧ w.frozen? ⟨h, i, none⟩ = false := by
  obtain ⟨cap, cur, a, b, h1, h2, h3, h4⟩ := H.body
  unfold maxLen at h2
  refine ⟨cap, cell_of_row w _ 0 _ _ (0, 0) a, cell_of_row w _ 1 _ _ (0, 0) a, h1, by omega, (Array.getElem?_eq_some_iff.1 a).1, (Array.getElem?_eq_some_iff.1 b).1, h3, fun i k hk => ⟨?_, frozen_of_row w h i _ E b⟩⟩
  rw [cell_of_row w _ i _ _ (0, 0) b]
  exact h4 i k hk

/-- One of its kinds written anew. -/
theorem FrAt.put {T E : TypeId} {f : Nat → Int} {w : World} {p h : Nat} {s : Fr} (H : FrAt T E f w p h s) (i v : Nat) : FrAt T E f (w.setCell ⟨h, i, none⟩ (.int .i64 (f v))) p h ⟨s.lo, s.ks.set i v⟩ := by
  obtain ⟨cap, cur, a, b, h1, h2, h3, h4⟩ := H.body
  refine ⟨cap, cur.setIfInBounds i (.int .i64 (f v)), ?_, heap_setCell_same w h i _ E _ b, by simpa using h1, h2, h3, fun j k hk => ?_⟩
  · rw [heap_setCell_other _ _ _ _ (by show p ≠ h; exact h3)]
    simpa using a
  · rw [List.getElem?_set] at hk
    split at hk
    · rename_i e
      subst e
      split at hk
      · rename_i hlt
        cases hk
        have hs : ∃ k0, s.ks[i]? = some k0 := ⟨_, List.getElem?_eq_getElem hlt⟩
        obtain ⟨k0, hk0⟩ := hs
        have := (Array.getElem?_eq_some_iff.1 (h4 i k0 hk0)).1
        rw [Array.getElem?_setIfInBounds_self_of_lt this]
      · cases hk
    · rename_i e
      rw [Array.getElem?_setIfInBounds_ne (by omega)]
      exact h4 j k hk

def kindOfN (s : Fr) (i : Int) : Nat := if s.lo ≤ i ∧ i < s.lo + s.ks.length then s.ks.getD (i - s.lo).toNat 0 else 0
def lacksB (s : Fr) (i : Int) : Bool := !decide (s.lo ≤ i ∧ i < s.lo + s.ks.length)

def PAt (w : World) (p h : Nat) (s : Fr) : Prop := FrAt 113 111 (fun k => (k : Int)) w p h s

set_option maxHeartbeats 1000000 in
theorem lacks_any {w : World} {p h : Nat} {s : Fr} (H : PAt w p h s) (hk : FrOk s) (i : Int) : Calls Tryz.prog 62 #[ptr p, .int .i64 i] w fun e w' => e = .returned (.bool (lacksB s i)) ∧ Below w.heap.size w w' := by
  obtain ⟨cap, c0, c1, h1, h2, hp, hh, hne, hc⟩ := FrAt.opened H
  have hm := hk.most
  unfold ptr lacksB
  clear hc H hk
  generalize s.ks.length = n at *
  generalize s.lo = lo at *
  have hwr : IntKind.wrap .i64 ((lo : Int) + n) = (lo : Int) + n := by simp [IntKind.wrap, IntKind.bits, IntKind.signed]; omega
  by_cases d1 : i < lo
  · have e : (!decide ((lo : Int) ≤ i ∧ i < lo + n)) = true := by simp; omega
    rw [e]
    go_enter Tryz.func62, Tryz.ntmps62
    go_wp2_with fail
    go_quiet (fail)
    go_wp2
    go_ret
    exact ⟨rfl, belowQ _ _ _⟩
  · by_cases d2 : (lo : Int) + n ≤ i
    · have e : (!decide ((lo : Int) ≤ i ∧ i < lo + n)) = true := by simp; omega
      rw [e]
      go_enter Tryz.func62, Tryz.ntmps62
      go_wp2_with fail
      go_quiet (fail)
      go_wp2
      go_ret
      exact ⟨by first | rfl | (show Ending.returned (.bool (decide (i < (lo : Int)) || decide ((lo : Int) + n ≤ i))) = _; rw [decide_eq_false (show ¬ i < (lo : Int) by omega), decide_eq_false (show ¬ (lo : Int) + n ≤ i by omega)]; rfl), belowQ _ _ _⟩
    · have e : (!decide ((lo : Int) ≤ i ∧ i < lo + n)) = false := by simp; omega
      rw [e]
      go_enter Tryz.func62, Tryz.ntmps62
      go_wp2_with fail
      go_quiet (fail)
      go_wp2
      go_ret
      exact ⟨by first | rfl | (show Ending.returned (.bool (decide (i < (lo : Int)) || decide ((lo : Int) + n ≤ i))) = _; rw [decide_eq_false (show ¬ i < (lo : Int) by omega), decide_eq_false (show ¬ (lo : Int) + n ≤ i by omega)]; rfl), belowQ _ _ _⟩

set_option maxHeartbeats 1000000 in
theorem kindOf_any {w : World} {p h : Nat} {s : Fr} (H : PAt w p h s) (hk : FrOk s) (i : Int) : Calls Tryz.prog 63 #[ptr p, .int .i64 i] w fun e w' => e = .returned (.int .i64 (kindOfN s i)) ∧ Below w.heap.size w w' := by
  have hl := lacks_any H hk i
  obtain ⟨cap, c0, c1, h1, h2, hp, hh, hne, hc⟩ := FrAt.opened H
  have hm := hk.most
  unfold kindOfN
  unfold lacksB at hl
  unfold ptr at *
  by_cases d : s.lo ≤ i ∧ i < s.lo + s.ks.length
  · rw [if_pos d]
    rw [decide_eq_true d] at hl
    obtain ⟨j, hj⟩ : ∃ j : Nat, i = s.lo + j := ⟨(i - s.lo).toNat, by omega⟩
    have hjl : j < s.ks.length := by omega
    have hg : s.ks[j]? = some (s.ks.getD (i - s.lo).toNat 0) := by
      rw [show (i - s.lo).toNat = j from by omega, List.getElem?_eq_getElem hjl, List.getD_eq_getElem?_getD, List.getElem?_eq_getElem hjl]; rfl
    have hcj := (hc j _ hg).1
    generalize s.ks.getD (i - s.lo).toNat 0 = K at *
    clear hc hg H hk
    subst hj
    generalize s.ks.length = n at *
    generalize s.lo = lo at *
    have hij : ((lo : Int) + j - lo) = (j : Int) := by omega
    have hjI : (j : Int) < n := by omega
    go_enter Tryz.func63, Tryz.ntmps63
    go_wp2_with fail
    refine hl.mono ?_
    rintro e w1 ⟨rfl, hb1⟩
    have x0 := (hb1.cell (p := ⟨p, 0, none⟩) hp).trans c0
    have x1 := (hb1.cell (p := ⟨p, 1, none⟩) hp).trans c1
    have xj := (hb1.cell (p := ⟨h, j, none⟩) hh).trans hcj
    clear c0 c1 hcj hl
    go_wp2_with fail
    go_quiet (fail)
    go_wp2
    go_ret
    exact ⟨rfl, hb1.trans (belowQ _ _ _)⟩
  · rw [if_neg d]
    rw [decide_eq_false d] at hl
    clear hc c0 c1 H hk d
    go_enter Tryz.func63, Tryz.ntmps63
    go_wp2_with fail
    refine hl.mono ?_
    rintro e w1 ⟨rfl, hb1⟩
    go_wp2
    go_ret
    exact ⟨rfl, hb1⟩

theorem is_any {w : World} {p h : Nat} {s : Fr} (H : PAt w p h s) (hk : FrOk s) (i : Int) : Calls Tryz.prog 51 #[ptr p, .int .i64 i] w fun e w' => e = .returned (.int .i64 (kindOfN s i)) ∧ Below w.heap.size w w' := by
  have hl := kindOf_any H hk i
  have hb : kindOfN s i ≤ 3 := by
    unfold kindOfN
    split
    · rename_i d
      have hj : (i - s.lo).toNat < s.ks.length := by omega
      rw [List.getD_eq_getElem?_getD, List.getElem?_eq_getElem hj]
      exact (hk.kinds _ (List.getElem_mem hj)).2
    · omega
  unfold ptr at *
  generalize kindOfN s i = K at *
  go_enter Tryz.func51, Tryz.ntmps51
  go_wp2_with fail
  refine hl.mono ?_
  rintro e w1 ⟨rfl, hb1⟩
  go_wp2
  go_ret
  exact ⟨rfl, hb1⟩

set_option maxHeartbeats 1000000 in
theorem mul64_one (w : World) (n : Nat) (hn : n ≤ 1024) : Calls Tryz.prog 99 #[.int .u64 1, .int .u64 n] w fun e w' => e = .returned (.tuple #[.int .u64 0, .int .u64 n]) ∧ w' = w := by
  have b1 : bits .and .u64 1 4294967295 = 1 := by have := Mul64.maskN 1 (by omega); simpa using this
  have b2 : bits .and .u64 (n : Int) 4294967295 = n := by have := Mul64.maskN n (by omega); rw [this]; congr 1; omega
  have b3 : bits .and .u64 0 4294967295 = 0 := by have := Mul64.maskN 0 (by omega); simpa using this
  have d2 : (n : Int) / 4294967296 = 0 := by omega
  have w2 : IntKind.wrap .u64 (n : Int) = n := by rw [IntKind.wrap_u64]; omega
  have w3 : IntKind.wrap .u64 (0 : Int) = 0 := by rw [IntKind.wrap_u64]; omega
  go_enter Tryz.func99, Tryz.ntmps99
  go_wp2
  go_ret2
  exact ⟨rfl, rfl⟩

set_option maxHeartbeats 1000000 in
theorem mul_one' (w : World) (n : Nat) (hn : n ≤ 1024) : Calls Tryz.prog 81 #[.int .u64 1, .int .u64 n] w fun e w' => e = .returned (.tuple #[.int .u64 0, .int .u64 n]) ∧ w' = w := by
  have h := mul64_one w n hn
  go_enter Tryz.func81, Tryz.ntmps81
  go_wp2_with fail
  refine h.mono ?_
  rintro e w1 ⟨rfl, rfl⟩
  go_wp2
  go_ret2
  exact ⟨rfl, rfl⟩

/-- The blocks of a kind among the first j. -/
def upto (s : Fr) (k j : Nat) : List Nat := ((List.range j).filter (fun i => s.ks.getD i 0 == k)).map (fun i => s.lo + i)
def blocksL (s : Fr) (k : Nat) : List Nat := upto s k s.ks.length
def natC (l : List Nat) : List Value := l.map (fun (x : Nat) => Value.int .i64 (x : Int))

theorem upto_next (s : Fr) (k j : Nat) : upto s k (j + 1) = upto s k j ++ (if s.ks.getD j 0 = k then [s.lo + j] else []) := by
  unfold upto
  rw [List.range_succ, List.filter_append, List.map_append]
  congr 1
  by_cases h : s.ks.getD j 0 = k
  · have e : (s.ks.getD j 0 == k) = true := by rw [h]; exact beq_self_eq_true k
    rw [if_pos h]
    simp only [List.filter_cons, List.filter_nil, e]
    rfl
  · have e : (s.ks.getD j 0 == k) = false := by simpa using h
    rw [if_neg h]
    simp only [List.filter_cons, List.filter_nil, e]
    rfl

theorem upto_len (s : Fr) (k : Nat) : ∀ j, (upto s k j).length ≤ j := by
  intro j
  induction j with
  | zero => simp [upto]
  | succ j ih =>
    rw [upto_next, List.length_append]
    split <;> simp <;> omega

theorem Tryz.infoI : (Tryz.prog.info? 3).map (fun i => (i.zero, i.size, i.bytes)) = some (some (.int .i64 0), 1, 8) := by kernel_rfl

theorem info_partsI : ∃ i, Tryz.prog.info? 3 = some i ∧ i.zero = some (.int .i64 0) ∧ i.size = 1 ∧ i.bytes = 8 := by
  have h := Tryz.infoI
  cases hi : Tryz.prog.info? 3 with
  | none => rw [hi] at h; cases h
  | some i =>
    rw [hi] at h
    simp only [Option.map_some, Option.some.injEq, Prod.mk.injEq] at h
    exact ⟨i, rfl, h.1, h.2.1, h.2.2⟩

theorem rowI_slice {w : World} {base e k : Nat} {v : Value} {n : Nat} {xs : List Value} (h : w.ownsRow base e k v n xs) : ∃ a c, v = .slice a n c := by
  rcases h.2 with ⟨rfl, rfl⟩ | ⟨g, cap, cur, rfl, _⟩
  · exact ⟨_, _, rfl⟩
  · exact ⟨_, _, rfl⟩

theorem rowI_below {w w' : World} {base e k : Nat} {v : Value} {n : Nat} {xs : List Value} (h : w.ownsRow base e k v n xs) (hb : Below w.heap.size w w') : w'.ownsRow base e k v n xs :=
  World.ownsRow.kept h (row := Option.none) ⟨hb.os, hb.tape, hb.output, hb.size, fun k hk _ => hb.block k hk⟩ (by cases hv : v.ownBlock <;> simp)

theorem oneI {W : World} {u : Value} {e : TypeId} {g : Nat} {fr : Nat × Nat} (h : W.heap[g]? = some (.cells #[u] e fr)) : ∀ j x, [u][j]? = some x → W.cell? ((⟨g, 0, none⟩ : Addr).add j) = some x := by
  intro j x hj
  have hadd : (⟨g, 0, none⟩ : Addr).add j = ⟨g, j, none⟩ := by unfold Addr.add; split <;> simp_all
  rw [hadd, cell_of_row _ _ j _ _ _ h, ← hj]
  exact List.getElem?_toArray

set_option maxHeartbeats 2000000 in
theorem blocksOf_any {w : World} {p h : Nat} {s : Fr} (H : PAt w p h s) (hk : FrOk s) (k : Nat) :
    Calls Tryz.prog 74 #[ptr p, .int .i64 k] w fun e w' => ∃ u, e = .returned u ∧ w'.ownsRow w.heap.size 3 1 u (blocksL s k).length (natC (blocksL s k)) ∧ Below w.heap.size w w' := by
  obtain ⟨iI, hii, hi0, hi1, hi2⟩ := info_partsI
  obtain ⟨cap, c0, c1, h1, h2, hp, hh, hne, hc⟩ := FrAt.opened H
  have hm := hk.most
  have hup := upto_next s k
  have hul := upto_len s k
  unfold ptr blocksL
  clear H hk
  obtain ⟨U, hU⟩ : ∃ U : Nat → List Nat, ∀ j, upto s k j = U j := ⟨_, fun _ => rfl⟩
  simp only [hU] at hup hul ⊢
  have hU0 : U 0 = [] := by rw [← hU]; rfl
  clear hU
  have hget : ∀ j, j < s.ks.length → s.ks[j]? = some (s.ks.getD j 0) := fun j hj => by rw [List.getElem?_eq_getElem hj, List.getD_eq_getElem?_getD, List.getElem?_eq_getElem hj]; rfl
  have hc' : ∀ j, j < s.ks.length → w.cell? ⟨h, j, none⟩ = some (.int .i64 (s.ks.getD j 0)) := fun j hj => (hc j _ (hget j hj)).1
  clear hc hget
  generalize s.ks.length = n at *
  generalize s.lo = lo at *
  go_enter Tryz.func74, Tryz.ntmps74
  go_wp2
  go_loopw [5, 6, 7, 13] (fun v q1 q2 t wr => ∃ (j : Nat) (a : Option Addr) (c : Nat), j ≤ n ∧ t = .int .i64 j ∧ v = .slice a (U j).length c ∧ World.ownsRow wr w.heap.size 3 1 (.slice a (U j).length c) (U j).length (natC (U j)) ∧ Below w.heap.size w wr) (fun _ _ _ t _ => n - (Go.RowKit.intOf t).toNat)
  case atStart => exact ⟨0, none, 0, Nat.zero_le _, rfl, by rw [hU0]; rfl, by rw [hU0]; exact World.ownsRow_nil _ _ _ _, Below.refl _ _⟩
  case round =>
    obtain ⟨j, a, c, hj, rfl, rfl, hown, HB⟩ := hrel
    obtain ⟨wA, hA⟩ : ∃ wA, wA = wr := ⟨_, rfl⟩
    subst hA
    have hsz := HB.size
    by_cases hlt : j < n
    · have hltI : (j : Int) < n := by omega
      have x0 := (HB.cell (p := ⟨p, 0, none⟩) hp).trans c0
      have xj := (HB.cell (p := ⟨h, j, none⟩) hh).trans (hc' j hlt)
      have hnx := hup j
      have hlj := hul j
      clear c0 c1 hc' hup
      by_cases hK : s.ks.getD j 0 = k
      · have hK' : ((s.ks.getD j 0 : Nat) : Int) = k := by omega
        rw [if_pos hK] at hnx
        generalize s.ks.getD j 0 = K at *
        clear hK
        obtain ⟨W2, hW2⟩ : ∃ W2, wA.alloc (.cells #[.int .i64 (lo + j)] 3) = W2 := ⟨_, rfl⟩
        have hb2 : Below wA.heap.size wA W2 := by rw [← hW2]; exact (Below.refl _ wA).alloc (Nat.le_refl _) _
        have hz2 : W2.heap.size = wA.heap.size + 1 := by rw [← hW2]; simp
        have hnew : W2.heap[wA.heap.size]? = some (.cells #[.int .i64 (lo + j)] 3 (0, 0)) := by rw [← hW2]; exact heap_alloc_new wA _
        have hown2 := rowI_below hown hb2
        have hul' := hul
        clear hul
        generalize hUL : (U j).length = L at *
        go_wp2_with (at_builtin; refine wpList_append_own W2 rfl _ _ 22 rfl w.heap.size 3 iI (.int .i64 0) 1 8 Tryz.underlying22 hii hi0 hi1 hi2 rfl (by decide) _ L (natC (U j)) rfl hown2 ⟨wA.heap.size, 0, none⟩ 1 1 [.int .i64 (lo + j)] rfl rfl (oneI hnew) (by simp [Value.oneCell']) (by unfold maxLen; omega) (by omega) (by omega) ?_; intro v3 w3 ho3 hg4 _; obtain ⟨a3, c3, rfl⟩ := rowI_slice ho3)
        have hb3 : Below w.heap.size w w3 := HB.trans ((hb2.mono hsz).trans ((Below.refl w.heap.size W2).grown hg4 (by omega) (fun q hq => (World.ownsRow.lt hown2 q hq).1)))
        have hl1 : (U (j + 1)).length = L + 1 := by rw [hnx, List.length_append, hUL]; rfl
        have hn1 : natC (U (j + 1)) = natC (U j) ++ [.int .i64 (lo + j)] := by rw [hnx]; simp [natC]
        clear hown hown2 hg4 hnew
        go_wp2_with fail
        go_roundw
        case rel => exact ⟨j + 1, a3, c3, by omega, by go_num, by rw [hl1], by rw [hl1, hn1]; exact ho3, hb3⟩
        case measure => simp [Go.RowKit.intOf]; omega
      · have hK' : ¬ ((s.ks.getD j 0 : Nat) : Int) = k := by omega
        rw [if_neg hK, List.append_nil] at hnx
        generalize s.ks.getD j 0 = K at *
        clear hK
        generalize hUL : (U j).length = L at *
        go_wp2_with fail
        go_roundw
        case rel => exact ⟨j + 1, a, c, by omega, by go_num, by rw [hnx, hUL], by rw [hnx, hUL]; exact hown, HB⟩
        case measure => simp [Go.RowKit.intOf]; omega
    · obtain rfl : j = n := by omega
      have hltI : ¬ (j : Int) < j := by omega
      clear hc' hup hul
      go_wp2
      go_ret
      exact ⟨_, rfl, hown, HB⟩

theorem freeL_any {w : World} {p h : Nat} {s : Fr} (H : PAt w p h s) (hk : FrOk s) :
    Calls Tryz.prog 56 #[ptr p] w fun e w' => ∃ u, e = .returned u ∧ w'.ownsRow w.heap.size 3 1 u (blocksL s 1).length (natC (blocksL s 1)) ∧ Below w.heap.size w w' := by
  have hl := blocksOf_any H hk 1
  unfold ptr at *
  go_enter Tryz.func56, Tryz.ntmps56
  go_wp2_with fail
  refine hl.mono ?_
  rintro e w1 ⟨u, rfl, h1, h2⟩
  go_wp2
  go_ret
  exact ⟨_, rfl, h1, h2⟩

theorem takenL_any {w : World} {p h : Nat} {s : Fr} (H : PAt w p h s) (hk : FrOk s) :
    Calls Tryz.prog 55 #[ptr p] w fun e w' => ∃ u, e = .returned u ∧ w'.ownsRow w.heap.size 3 1 u (blocksL s 2).length (natC (blocksL s 2)) ∧ Below w.heap.size w w' := by
  have hl := blocksOf_any H hk 2
  unfold ptr at *
  go_enter Tryz.func55, Tryz.ntmps55
  go_wp2_with fail
  refine hl.mono ?_
  rintro e w1 ⟨u, rfl, h1, h2⟩
  go_wp2
  go_ret
  exact ⟨_, rfl, h1, h2⟩

theorem waitingL_any {w : World} {p h : Nat} {s : Fr} (H : PAt w p h s) (hk : FrOk s) :
    Calls Tryz.prog 48 #[ptr p] w fun e w' => ∃ u, e = .returned u ∧ w'.ownsRow w.heap.size 3 1 u (blocksL s 3).length (natC (blocksL s 3)) ∧ Below w.heap.size w w' := by
  have hl := blocksOf_any H hk 3
  unfold ptr at *
  go_enter Tryz.func48, Tryz.ntmps48
  go_wp2_with fail
  refine hl.mono ?_
  rintro e w1 ⟨u, rfl, h1, h2⟩
  go_wp2
  go_ret
  exact ⟨_, rfl, h1, h2⟩

theorem Tryz.infoB : (Tryz.prog.info? 4).map (fun i => (i.zero, i.size, i.bytes)) = some (some (.bool false), 1, 1) := by kernel_rfl

theorem make_bools (w : World) (L : Int) (n : Nat) (hL : L = (n : Int)) (hn : n ≤ 140737488355328) :
    (Instr.makeSlice 80 (.int .i64 L) (.int .i64 L)).run Tryz.prog w = .ok (.slice (some ⟨w.heap.size, 0, none⟩) n n) (w.alloc (.cells (List.replicate n (Value.bool false)).toArray 4)) := by
  subst hL
  obtain ⟨i, hi, hz0, hz1, hz2⟩ := info_parts Tryz.infoB
  have h := run_make (P := Tryz.prog) w 80 4 i (.bool false) Tryz.underlying80 hi hz0 .i64 .i64 n n (by omega) (by omega) (by rw [hz2]; omega) (by omega)
  rw [h, hz1, Int.toNat_natCast, Nat.mul_one]
  congr 2
  congr 1
  apply Array.ext'
  exact toList_madeCells_one (.bool false) n

/-- The slice value 'v' reads as the numbers 'l'. -/
def RdI (w : World) (v : Value) (l : List Int) : Prop :=
  ∃ a cap, v = .slice a l.length cap ∧ l.length ≤ cap ∧ cap ≤ maxLen ∧ (0 < l.length → ∃ b off, a = some ⟨b, off, none⟩ ∧ b < w.heap.size ∧ ∀ (i : Nat) (x : Int), l[i]? = some x → w.cell? ⟨b, off + i, none⟩ = some (.int .i64 x))

theorem RdI.below {w w' : World} {v : Value} {l : List Int} (h : RdI w v l) (hb : Below w.heap.size w w') : RdI w' v l := by
  obtain ⟨a, cap, rfl, h1, h2, h3⟩ := h
  refine ⟨a, cap, rfl, h1, h2, fun hp => ?_⟩
  obtain ⟨b, off, rfl, hlt, hc⟩ := h3 hp
  exact ⟨b, off, rfl, Nat.lt_of_lt_of_le hlt hb.size, fun i x hi => (hb.cell (p := ⟨b, off + i, none⟩) hlt).trans (hc i x hi)⟩

def markL (s : Fr) (l : List Int) : List Bool := (List.range s.ks.length).map (fun j => decide ((((s.lo + j : Nat) : Int)) ∈ l))

theorem markL_len (s : Fr) (l : List Int) : (markL s l).length = s.ks.length := by simp [markL]

theorem takeI_next {l : List Int} {k : Nat} {x : Int} (h : l[k]? = some x) : l.take (k + 1) = l.take k ++ [x] := by
  rw [List.take_add_one, h]; rfl

theorem mark_out {s : Fr} {l : List Int} {x : Int} (h : ¬ (s.lo ≤ x ∧ x < s.lo + s.ks.length)) : markL s (l ++ [x]) = markL s l := by
  unfold markL
  apply List.map_congr_left
  intro j hj
  have hj' := List.mem_range.1 hj
  have : ¬ (((s.lo + j : Nat) : Int)) = x := by omega
  refine decide_eq_decide.2 ?_
  rw [List.mem_append, List.mem_singleton]
  exact ⟨fun h => h.resolve_right this, Or.inl⟩

theorem markL_get {s : Fr} {l : List Int} {i : Nat} (h : i < (markL s l).length) : (markL s l)[i] = decide (((s.lo + i : Nat) : Int) ∈ l) := by
  have e : (markL s l)[i]? = some (decide (((s.lo + i : Nat) : Int) ∈ l)) := by
    have h' : i < s.ks.length := by rw [markL_len] at h; exact h
    unfold markL
    rw [List.getElem?_map, List.getElem?_range h']
    rfl
  rw [List.getElem?_eq_getElem h] at e
  exact Option.some.inj e

theorem mark_in {s : Fr} {l : List Int} {j : Nat} (h : j < s.ks.length) : markL s (l ++ [((s.lo + j : Nat) : Int)]) = (markL s l).set j true := by
  apply List.ext_getElem
  · simp [markL]
  · intro i h1 h2
    rw [List.getElem_set]
    by_cases e : j = i
    · subst e
      rw [if_pos rfl, markL_get]
      exact decide_eq_true (by rw [List.mem_append, List.mem_singleton]; exact .inr rfl)
    · have : ¬ (((s.lo + i : Nat) : Int)) = ((s.lo + j : Nat) : Int) := by omega
      rw [if_neg e, markL_get, markL_get]
      refine decide_eq_decide.2 ?_
      rw [List.mem_append, List.mem_singleton]
      exact ⟨fun h => h.resolve_right this, Or.inl⟩

theorem bools_at {W : World} {g j : Nat} {bs : List Bool} (hg : W.heap[g]? = some (.cells (bs.map Value.bool).toArray 4 (0, 0))) (hj : j < bs.length) : W.cell? ⟨g, j, none⟩ = some (.bool (bs.getD j false)) ∧ W.frozen? ⟨g, j, none⟩ = false := by
  refine ⟨?_, frozen_of_row W g j _ 4 hg⟩
  rw [cell_of_row _ _ j _ 4 (0, 0) hg, List.getElem?_toArray, List.getElem?_map, List.getD_eq_getElem?_getD, List.getElem?_eq_getElem hj]
  rfl

theorem bools_set {W : World} {g j : Nat} {bs : List Bool} (hg : W.heap[g]? = some (.cells (bs.map Value.bool).toArray 4 (0, 0))) (b : Bool) : (W.setCell ⟨g, j, none⟩ (.bool b)).heap[g]? = some (.cells ((bs.set j b).map Value.bool).toArray 4 (0, 0)) := by
  rw [heap_setCell_same W g j _ 4 _ hg]
  congr 2
  apply Array.ext'
  rw [Array.toList_setIfInBounds, List.map_set]

set_option maxHeartbeats 4000000 in
theorem marked_any {w : World} {p h : Nat} {s : Fr} (H : PAt w p h s) (hk : FrOk s) (v : Value) (l : List Int) (hr : RdI w v l) :
    Calls Tryz.prog 75 #[ptr p, v] w fun e w' => e = .returned (.slice (some ⟨w.heap.size, 0, none⟩) s.ks.length s.ks.length) ∧ w'.heap[w.heap.size]? = some (.cells ((markL s l).map Value.bool).toArray 4 (0, 0)) ∧ Below w.heap.size w w' := by
  obtain ⟨cap, c0, c1, h1, h2, hp, hh, hne, hc⟩ := FrAt.opened H
  obtain ⟨a, lc, rfl, g1, g2, g3⟩ := hr
  unfold maxLen at g2
  have hm := hk.most
  have hlk := fun W (hW : Below w.heap.size w W) x => lacks_any (FrAt.below H hW) hk x
  have hmk := make_bools w (s.ks.length : Int) s.ks.length rfl (by omega)
  have hmo := fun i x (hx : l[i]? = some x) => mark_out (s := s) (l := l.take i) (x := x)
  have hmi := fun i j (hj : j < s.ks.length) => mark_in (s := s) (l := l.take i) hj
  have hml := fun i => markL_len s (l.take i)
  have hM0 : (List.replicate s.ks.length (Value.bool false)).toArray = ((markL s []).map Value.bool).toArray := by
    congr 1
    apply List.ext_getElem
    · simp [markL]
    · intro i h1 h2; simp [markL]
  rw [hM0] at hmk
  clear hM0 hc H hk
  unfold ptr lacksB at *
  have hB0 : Below w.heap.size w (w.alloc (.cells ((markL s []).map Value.bool).toArray 4)) := (Below.refl _ w).alloc (Nat.le_refl _) _
  have hg0 := heap_alloc_new w (.cells ((markL s []).map Value.bool).toArray 4)
  generalize hn : s.ks.length = n at *
  generalize hlo : s.lo = lo at *
  go_enter Tryz.func75, Tryz.ntmps75
  go_wp2
  generalize w.alloc (.cells ((markL s []).map Value.bool).toArray 4) = W0 at *
  clear hmk
  go_loopw [7, 16] (fun x t wr => ∃ i : Nat, i ≤ l.length ∧ t = .int .i64 i ∧ wr.heap[w.heap.size]? = some (.cells ((markL s (l.take i)).map Value.bool).toArray 4 (0, 0)) ∧ Below w.heap.size w wr) (fun _ t _ => l.length - (Go.RowKit.intOf t).toNat)
  case atStart => exact ⟨0, Nat.zero_le _, rfl, hg0, hB0⟩
  case round =>
    clear hg0 hB0
    obtain ⟨i, hi, rfl, hg, HB⟩ := hrel
    obtain ⟨wA, hA⟩ : ∃ wA, wA = wr := ⟨_, rfl⟩
    subst hA
    by_cases hlt : i < l.length
    · have hltI : (i : Int) < l.length := by omega
      obtain ⟨b, off, rfl, hb, hcs⟩ := g3 (by omega)
      have hx : l[i]? = some l[i] := List.getElem?_eq_getElem hlt
      have hcx := (HB.cell (p := ⟨b, off + i, none⟩) hb).trans (hcs i _ hx)
      have hl1 := hlk wA HB l[i]
      have hout := hmo i _ hx
      have hin := hmi i
      have hT := takeI_next hx
      have hln := hml i
      generalize l[i] = x at *
      have hgA : w.heap.size < wA.heap.size := (Array.getElem?_eq_some_iff.1 hg).1
      clear hcs g3 hlk hmo hmi hml
      go_wp2_with fail
      refine hl1.mono ?_
      clear hl1
      rintro e w5 ⟨rfl, hb5⟩
      have hg5 := (hb5.block _ hgA).trans hg
      have HB5 := HB.trans (hb5.mono HB.size)
      have x0 := (HB5.cell (p := ⟨p, 0, none⟩) hp).trans c0
      by_cases hd : (lo : Int) ≤ x ∧ x < lo + n
      · rw [decide_eq_true hd]
        obtain ⟨j, rfl⟩ : ∃ j : Nat, x = ((lo + j : Nat) : Int) := ⟨(x - lo).toNat, by omega⟩
        have hjn : j < n := by omega
        obtain ⟨hcj, hfj⟩ := bools_at hg5 (j := j) (by omega)
        have HG : Hid ((w5.setCell ⟨w.heap.size, j, none⟩ (.bool true)).heap[w.heap.size]? = some (.cells ((markL s (l.take (i + 1))).map Value.bool).toArray 4 (0, 0))) := by
          unfold Hid
          rw [hT, hin j hjn]
          exact bools_set hg5 true
        generalize (markL s (l.take i)).getD j false = B at *
        have hjI : (j : Int) < n := by omega
        clear hg5 hg hout hin hT hln c0 c1 hd
        go_wp2_with fail
        go_roundw
        case rel => exact ⟨i + 1, by omega, by go_num, HG.out, HB5.setCell (p := ⟨w.heap.size, j, none⟩) (Nat.le_refl _) _⟩
        case measure => simp [Go.RowKit.intOf]; omega
      · rw [decide_eq_false hd]
        have HG : Hid (w5.heap[w.heap.size]? = some (.cells ((markL s (l.take (i + 1))).map Value.bool).toArray 4 (0, 0))) := by
          unfold Hid
          rw [hT, hout hd]
          exact hg5
        clear hg5 hg hout hin hT hln c0 c1 hd
        go_wp2_with fail
        go_roundw
        case rel => exact ⟨i + 1, by omega, by go_num, HG.out, HB5⟩
        case measure => simp [Go.RowKit.intOf]; omega
    · have hltI : ¬ (i : Int) < l.length := by omega
      rw [List.take_of_length_le (by omega)] at hg
      clear g3 hlk hmo hmi hml
      go_wp2
      go_ret
      exact ⟨rfl, hg, HB⟩

/-- What a Sweep makes of the first j, and how many it frees. -/
def sweepK (s : Fr) (l : List Int) : Nat → List Nat
  | 0 => s.ks
  | j + 1 => if s.ks.getD j 0 = 3 ∧ ¬ ((s.lo + j : Nat) : Int) ∈ l then (sweepK s l j).set j 1 else sweepK s l j
def sweepN (s : Fr) (l : List Int) : Nat → Nat
  | 0 => 0
  | j + 1 => if s.ks.getD j 0 = 3 ∧ ¬ ((s.lo + j : Nat) : Int) ∈ l then sweepN s l j + 1 else sweepN s l j

theorem sweepK_len (s : Fr) (l : List Int) : ∀ j, (sweepK s l j).length = s.ks.length
  | 0 => rfl
  | j + 1 => by
    unfold sweepK
    split
    · rw [List.length_set]; exact sweepK_len s l j
    · exact sweepK_len s l j

theorem sweepK_ge (s : Fr) (l : List Int) : ∀ j i, j ≤ i → (sweepK s l j)[i]? = s.ks[i]?
  | 0, i, _ => rfl
  | j + 1, i, h => by
    unfold sweepK
    split
    · rw [List.getElem?_set_ne (by omega)]; exact sweepK_ge s l j i (by omega)
    · exact sweepK_ge s l j i (by omega)

theorem sweepN_le (s : Fr) (l : List Int) : ∀ j, sweepN s l j ≤ j
  | 0 => Nat.le_refl _
  | j + 1 => by
    have := sweepN_le s l j
    unfold sweepN
    split <;> omega

def sweepF (s : Fr) (l : List Int) : Fr := ⟨s.lo, sweepK s l s.ks.length⟩
def swept (s : Fr) (l : List Int) : Nat := sweepN s l s.ks.length

set_option maxHeartbeats 4000000 in
theorem sweep_any {w : World} {p h : Nat} {s : Fr} (H : PAt w p h s) (hk : FrOk s) (v : Value) (l : List Int) (hr : RdI w v l) :
    Calls Tryz.prog 49 #[ptr p, v] w fun e w' => e = .returned (.int .i64 (swept s l)) ∧ PAt w' p h (sweepF s l) ∧ Sole [h] w w' := by
  have hmk := marked_any H hk v l hr
  have hm := hk.most
  have hsl := sweepK_len s l
  have hsg := sweepK_ge s l
  have hsn := sweepN_le s l
  have hml := markL_len s l
  have hmg : ∀ j, j < s.ks.length → (markL s l).getD j false = decide (((s.lo + j : Nat) : Int) ∈ l) := fun j hj => by
    have hj' : j < (markL s l).length := by omega
    rw [List.getD_eq_getElem?_getD, List.getElem?_eq_getElem hj']
    exact markL_get hj'
  have hk1 : ∀ j, s.ks.getD j 0 = 3 ∧ ¬ ((s.lo + j : Nat) : Int) ∈ l → sweepK s l (j + 1) = (sweepK s l j).set j 1 ∧ sweepN s l (j + 1) = sweepN s l j + 1 := fun j hj => ⟨if_pos hj, if_pos hj⟩
  have hk2 : ∀ j, ¬ (s.ks.getD j 0 = 3 ∧ ¬ ((s.lo + j : Nat) : Int) ∈ l) → sweepK s l (j + 1) = sweepK s l j ∧ sweepN s l (j + 1) = sweepN s l j := fun j hj => ⟨if_neg hj, if_neg hj⟩
  have hk0 : sweepK s l 0 = s.ks ∧ sweepN s l 0 = 0 := ⟨rfl, rfl⟩
  unfold ptr sweepF swept at *
  generalize sweepK s l = SK at *
  generalize sweepN s l = SN at *
  generalize markL s l = ML at *
  obtain ⟨lo, ks⟩ := s
  dsimp only at *
  go_enter Tryz.func49, Tryz.ntmps49
  go_wp2_with fail
  refine hmk.mono ?_
  clear hmk
  rintro e w1 ⟨rfl, hgm, hb1⟩
  have H1 : PAt w1 p h ⟨lo, ks⟩ := FrAt.below H hb1
  have hhw : h < w.heap.size := by obtain ⟨_, _, _, _, _, _, hh, _⟩ := FrAt.opened H; exact hh
  have hzm : w.heap.size < w1.heap.size := (Array.getElem?_eq_some_iff.1 hgm).1
  obtain ⟨cap, c0, c1, h1, h2, hp, hh, hne, hc⟩ := FrAt.opened H1
  dsimp only at c0 c1 h1 hc
  have hget : ∀ j, j < ks.length → ks[j]? = some (ks.getD j 0) := fun j hj => by rw [List.getElem?_eq_getElem hj, List.getD_eq_getElem?_getD, List.getElem?_eq_getElem hj]; rfl
  have H1' : PAt w1 p h ⟨lo, SK 0⟩ := by rw [hk0.1]; exact H1
  generalize hn : ks.length = n at *
  clear H H1 hc
  go_wp2_with fail
  go_loopw [6, 7, 8, 17] (fun ct i k t wr => ∃ j : Nat, j ≤ n ∧ t = .int .i64 j ∧ ct = .int .i64 (SN j) ∧ Hid (PAt wr p h ⟨lo, SK j⟩) ∧ Sole [h] w1 wr) (fun _ _ _ t _ => n - (Go.RowKit.intOf t).toNat)
  case atStart => exact ⟨0, Nat.zero_le _, rfl, by rw [hk0.2]; rfl, H1', Sole.refl _ _⟩
  case round =>
    clear H1' c0
    obtain ⟨j, hj, rfl, rfl, HP, HS⟩ := hrel
    by_cases hlt : j < n
    · have hltI : (j : Int) < n := by omega
      obtain ⟨cap', d0, d1, e1, e2, dp, dh, dne, dc⟩ := FrAt.opened HP.out
      dsimp only at d0 d1 e1 dc
      rw [hsl j] at d1 e1
      obtain ⟨hcj, hfj⟩ := dc j _ ((hsg j j (Nat.le_refl _)).trans (hget j hlt))
      have hgw := (HS.block w.heap.size hzm (by simp; omega)).trans hgm
      obtain ⟨hbj, _⟩ := bools_at hgw (j := j) (by omega)
      rw [hmg j hlt] at hbj
      have HP1 : Hid (PAt (wr.setCell ⟨h, j, none⟩ (.int .i64 1)) p h ⟨lo, (SK j).set j 1⟩) := FrAt.put HP.out j 1
      have q1 := hk1 j
      have q2 := hk2 j
      have q3 := hsn j
      have hcw : wr.cell? ⟨p, 1, none⟩ = some (.slice (some ⟨h, 0, none⟩) n cap) := (World.cell?_of_block (a := ⟨p, 1, none⟩) (HS.block p hp (by simpa using hne))).trans c1
      have hcc : cap' = cap := by rw [d1] at hcw; simpa using hcw
      subst hcc
      clear dc hget hsl hsg hmg hk1 hk2 hgw hgm hcw
      by_cases h3 : ks.getD j 0 = 3
      · rw [h3] at hcj
        by_cases hin : ((lo + j : Nat) : Int) ∈ l
        · rw [decide_eq_true hin] at hbj
          obtain ⟨r1, r2⟩ := q2 (fun hq => hq.2 hin)
          have R1 : Hid (SK (j + 1) = SK j) := r1
          have R2 : Hid (SN (j + 1) = SN j) := r2
          clear q1 q2 r1 r2 hin h3 HP1
          go_wp2_with fail
          go_roundw
          case rel => exact ⟨j + 1, by omega, by go_num, by rw [R2.out], by rw [R1.out]; exact HP, HS⟩
          case measure => simp [Go.RowKit.intOf]; omega
        · rw [decide_eq_false hin] at hbj
          obtain ⟨r1, r2⟩ := q1 ⟨h3, hin⟩
          have R1 : Hid (SK (j + 1) = (SK j).set j 1) := r1
          have R2 : Hid (SN (j + 1) = SN j + 1) := r2
          clear q1 q2 r1 r2 hin h3
          generalize SN j = C at *
          go_wp2_with fail
          go_roundw
          case rel => exact ⟨j + 1, by omega, by go_num, by rw [R2.out]; go_num, by rw [R1.out]; exact HP1, HS.trans (Sole.setCell _ _ (by simp))⟩
          case measure => simp [Go.RowKit.intOf]; omega
      · obtain ⟨r1, r2⟩ := q2 (fun hq => h3 hq.1)
        have R1 : Hid (SK (j + 1) = SK j) := r1
        have R2 : Hid (SN (j + 1) = SN j) := r2
        have h3I : ¬ ((ks.getD j 0 : Nat) : Int) = 3 := by omega
        generalize ks.getD j 0 = K at *
        clear q1 q2 r1 r2 h3 HP1
        go_wp2_with fail
        go_roundw
        case rel => exact ⟨j + 1, by omega, by go_num, by rw [R2.out], by rw [R1.out]; exact HP, HS⟩
        case measure => simp [Go.RowKit.intOf]; omega
    · obtain rfl : j = n := by omega
      have hltI : ¬ (j : Int) < j := by omega
      have HF : Hid (Sole [h] w wr) := (Sole.of_below hb1 [h]).trans HS
      clear hget hsl hsg hmg hk1 hk2 hsn
      go_wp2
      go_ret
      exact ⟨rfl, HP.out, HF.out⟩

/-- m ones, noughts behind them. -/
def repC (n m : Nat) : List Value := List.replicate m (.int .i64 1) ++ List.replicate (n - m) (.int .i64 0)

theorem repC_len {n m : Nat} (h : m ≤ n) : (repC n m).length = n := by simp [repC]; omega

theorem repC_copy {n m k : Nat} (h : m + k ≤ n) : (repC n m).take m ++ List.replicate k (.int .i64 1) ++ (repC n m).drop (m + k) = repC n (m + k) := by
  unfold repC
  rw [List.take_left' (by simp), List.drop_append, List.drop_eq_nil_of_le (by simp), List.nil_append, List.length_replicate, List.drop_replicate, List.append_assoc, ← List.append_assoc, List.replicate_append_replicate]
  congr 2
  omega

theorem Tryz.infoK : (Tryz.prog.info? 111).map (fun i => (i.zero, i.size, i.bytes)) = some (some (.int .i64 0), 1, 8) := by kernel_rfl

theorem make_kinds (w : World) (L : Int) (n : Nat) (hL : L = (n : Int)) (hn : n ≤ 1024) :
    (Instr.makeSlice 109 (.int .i64 L) (.int .i64 L)).run Tryz.prog w = .ok (.slice (some ⟨w.heap.size, 0, none⟩) n n) (w.alloc (.cells (repC n 0).toArray 111)) := by
  subst hL
  obtain ⟨i, hi, hz0, hz1, hz2⟩ := info_parts Tryz.infoK
  have h := run_make (P := Tryz.prog) w 109 111 i (.int .i64 0) Tryz.underlying109 hi hz0 .i64 .i64 n n (by omega) (by omega) (by rw [hz2]; omega) (by omega)
  rw [h, hz1, Int.toNat_natCast, Nat.mul_one]
  congr 2
  congr 1
  apply Array.ext'
  refine (toList_madeCells_one (.int .i64 0) n).trans ?_
  simp [repC]

theorem row_at {W : World} {g n m : Nat} (hg : W.heap[g]? = some (.cells (repC n m).toArray 111 (0, 0))) (j : Nat) (hj : j < m) : W.cell? ⟨g, j, none⟩ = some (.int .i64 1) := by
  rw [cell_of_row _ _ j _ _ (0, 0) hg, List.getElem?_toArray]
  unfold repC
  rw [List.getElem?_append_left (by simpa using hj), List.getElem?_replicate, if_pos hj]

theorem copy_rep (W : World) (g n m sl sc : Nat) (ad : Addr) (k : Nat) (hg : W.heap[g]? = some (.cells (repC n m).toArray 111 (0, 0))) (hk : k = Nat.min sl (n - m)) (hmn : m ≤ n) (hsrc : ∀ j, j < k → W.cell? (ad.add j) = some (.int .i64 1)) :
    ∃ W', (Builtin.copy_ #[109, 109] 3 #[.slice (some ⟨g, m, none⟩) (n - m) (n - m), .slice (some ad) sl sc]).run Tryz.prog W = .ok (.int .i64 k) W' ∧ W'.heap[g]? = some (.cells (repC n (m + k)).toArray 111 (0, 0)) ∧ (∀ B, B ≤ g → Below B W W') := by
  have hle : m + k ≤ n := by
    have : Nat.min sl (n - m) ≤ n - m := Nat.min_le_right _ _
    omega
  have h := run_copy_row (P := Tryz.prog) W 109 109 3 111 g m (n - m) (n - m) ad sl sc (repC n m).toArray 111 (List.replicate k (.int .i64 1)) Tryz.underlying109 (by kernel_rfl) hg (by simp [hk]) (fun j v hv => by
    rw [List.getElem?_replicate] at hv
    split at hv
    · rename_i hj; rw [hsrc j hj]; exact hv
    · cases hv) (by simp [repC_len hmn]; omega) (fun v hv => by rw [List.eq_of_mem_replicate hv]; rfl)
  rw [List.length_replicate] at h
  have e : ((repC n m).toArray.toList.take m ++ List.replicate k (.int .i64 1) ++ (repC n m).toArray.toList.drop (m + k)) = repC n (m + k) := repC_copy hle
  rw [e] at h
  exact ⟨_, h, setRow_heap W g _ _ _ _ hg, fun B hB => below_setRow (Below.refl B W) hB _⟩

set_option maxHeartbeats 2000000 in
theorem repeat_any (w : World) (g0 n : Nat) (hn1 : 1 ≤ n) (hn : n ≤ 1024) (hx : w.cell? ⟨g0, 0, none⟩ = some (.int .i64 1)) (hg0 : g0 < w.heap.size) :
    Calls Tryz.prog 60 #[.slice (some ⟨g0, 0, none⟩) 1 1, .int .i64 n] w fun e w' => e = .returned (.slice (some ⟨w.heap.size, 0, none⟩) n n) ∧ w'.heap[w.heap.size]? = some (.cells (repC n n).toArray 111 (0, 0)) ∧ Below w.heap.size w w' := by
  have hmu := mul_one' w n hn
  have hmk := make_kinds w (n : Int) n rfl hn
  have w2 : IntKind.wrap .u64 (n : Int) = n := by rw [IntKind.wrap_u64]; omega
  have w3 : IntKind.wrap .i64 (n : Int) = n := by simp [IntKind.wrap, IntKind.bits, IntKind.signed]; omega
  have hnI : ¬ (n : Int) < 0 := by omega
  have hnJ : ¬ (9223372036854775807 : Int) < n := by omega
  have hB0 : Below w.heap.size w (w.alloc (.cells (repC n 0).toArray 111)) := (Below.refl _ w).alloc (Nat.le_refl _) _
  have hgA := heap_alloc_new w (.cells (repC n 0).toArray 111)
  obtain ⟨W1, hcp, hg1, hb1⟩ := copy_rep (w.alloc (.cells (repC n 0).toArray 111)) w.heap.size n 0 1 1 ⟨g0, 0, none⟩ 1 hgA (by rw [Nat.sub_zero]; exact (Nat.min_eq_left hn1).symm) (Nat.zero_le _) (fun j hj => by
    obtain rfl : j = 0 := by omega
    exact (hB0.cell (p := ⟨g0, 0, none⟩) hg0).trans hx)
  rw [Nat.sub_zero] at hcp
  have hBW : Below w.heap.size w W1 := hB0.trans (hb1 _ (Nat.le_refl _))
  clear hgA
  go_enter Tryz.func60, Tryz.ntmps60
  go_wp2_with fail
  refine hmu.mono ?_
  clear hmu
  rintro e w9 ⟨rfl, hw9⟩
  subst w9
  go_wp2
  clear hmk hcp
  go_loopw [8] (fun t wr => ∃ m : Nat, 1 ≤ m ∧ m ≤ n ∧ t = .int .i64 m ∧ wr.heap[w.heap.size]? = some (.cells (repC n m).toArray 111 (0, 0)) ∧ Below w.heap.size w wr) (fun t _ => n - (Go.RowKit.intOf t).toNat)
  case atStart => exact ⟨1, by omega, hn1, rfl, hg1, hBW⟩
  case round =>
    clear hg1 hBW hB0
    obtain ⟨m, hm1, hmn, rfl, hg, HB⟩ := hrel
    obtain ⟨wA, hA⟩ : ∃ wA, wA = wr := ⟨_, rfl⟩
    subst hA
    by_cases hlt : m < n
    · have hltI : (m : Int) < n := by omega
      obtain ⟨k, hk⟩ : ∃ k, k = Nat.min m (n - m) := ⟨_, rfl⟩
      have hkm : k ≤ m := by rw [hk]; exact Nat.min_le_left _ _
      have hkn : k ≤ n - m := by rw [hk]; exact Nat.min_le_right _ _
      have hk1 : 1 ≤ k := by rw [hk]; exact Nat.le_min.2 ⟨hm1, by omega⟩
      obtain ⟨W2, hcp, hg2, hb2⟩ := copy_rep wA.drew w.heap.size n m m n ⟨w.heap.size, 0, none⟩ k hg hk hmn (fun j hj => by
        have hadd : (⟨w.heap.size, 0, none⟩ : Addr).add j = ⟨w.heap.size, j, none⟩ := by unfold Addr.add; split <;> simp_all
        rw [hadd]
        exact row_at (W := wA.drew) hg j (by omega))
      have s1 : (m : Int) ≤ n := by omega
      have s2 : m ≤ n := hmn
      have s3 : ¬ n = m := by omega
      have hwk : IntKind.wrap .i64 ((m : Int) + k) = (m : Int) + k := by simp [IntKind.wrap, IntKind.bits, IntKind.signed]; omega
      clear hk
      go_wp2_with fail
      refine wp_region_noPanic ?_
      refine wp_region_held_drew (S := fun _ => True) (by kernel_rfl) trivial (fun hHeld => ?_)
      refine wpAnyH_take (i := 0) (v := .int .i64 m) rfl (by kernel_rfl) (by kernel_rfl) (by kernel_rfl) (fun _ _ _ h => h) (Or.inl ⟨by rfl, fun W hSw => by (try dsimp only at hSw); go_simp⟩) trivial ?_
      simp only [List.getElem_toArray, List.getElem_cons_zero, List.getElem_cons_succ, Act.put, List.setIfInBounds_toArray, List.set_cons_zero, List.set_cons_succ]
      refine wpAnyH_take (i := 1) (v := .slice (some ⟨w.heap.size, 0, none⟩) n n) rfl (by kernel_rfl) (by kernel_rfl) (by kernel_rfl) (fun _ _ _ h => h) (Or.inl ⟨by rfl, fun W hSw => by (try dsimp only at hSw); go_simp⟩) trivial ?_
      simp only [List.getElem_toArray, List.getElem_cons_zero, List.getElem_cons_succ, Act.put, List.setIfInBounds_toArray, List.set_cons_zero, List.set_cons_succ]
      refine wpAnyH_take (i := 2) (v := .int .i64 m) rfl (by kernel_rfl) (by kernel_rfl) (by kernel_rfl) (fun _ _ _ h => h) (Or.inl ⟨by rfl, fun W hSw => by (try dsimp only at hSw); go_simp⟩) trivial ?_
      simp only [List.getElem_toArray, List.getElem_cons_zero, List.getElem_cons_succ, Act.put, List.setIfInBounds_toArray, List.set_cons_zero, List.set_cons_succ]
      refine wpAnyH_take (i := 3) (v := .slice (some ⟨w.heap.size, m, none⟩) (n - m) (n - m)) rfl (by kernel_rfl) (by kernel_rfl) (by kernel_rfl) (fun _ _ _ h => h) (Or.inl ⟨by rfl, fun W hSw => by (try dsimp only at hSw); (go_simp <;> simp [s1, s2, s3])⟩) trivial ?_
      simp only [List.getElem_toArray, List.getElem_cons_zero, List.getElem_cons_succ, Act.put, List.setIfInBounds_toArray, List.set_cons_zero, List.set_cons_succ]
      refine wpAnyH_take (i := 4) (v := .slice (some ⟨w.heap.size, 0, none⟩) n n) rfl (by kernel_rfl) (by kernel_rfl) (by kernel_rfl) (fun _ _ _ h => h) (Or.inl ⟨by rfl, fun W hSw => by (try dsimp only at hSw); go_simp⟩) trivial ?_
      simp only [List.getElem_toArray, List.getElem_cons_zero, List.getElem_cons_succ, Act.put, List.setIfInBounds_toArray, List.set_cons_zero, List.set_cons_succ]
      refine wpAnyH_take (i := 5) (v := .int .i64 m) rfl (by kernel_rfl) (by kernel_rfl) (by kernel_rfl) (fun _ _ _ h => h) (Or.inl ⟨by rfl, fun W hSw => by (try dsimp only at hSw); go_simp⟩) trivial ?_
      simp only [List.getElem_toArray, List.getElem_cons_zero, List.getElem_cons_succ, Act.put, List.setIfInBounds_toArray, List.set_cons_zero, List.set_cons_succ]
      refine wpAnyH_take (i := 6) (v := .slice (some ⟨w.heap.size, 0, none⟩) m n) rfl (by kernel_rfl) (by kernel_rfl) (by kernel_rfl) (fun _ _ _ h => h) (Or.inl ⟨by rfl, fun W hSw => by (try dsimp only at hSw); (go_simp <;> simp [s1, s2, s3])⟩) trivial ?_
      simp only [List.getElem_toArray, List.getElem_cons_zero, List.getElem_cons_succ, Act.put, List.setIfInBounds_toArray, List.set_cons_zero, List.set_cons_succ]
      refine wpAnyH_ready (rs := [7]) (by kernel_rfl) (by simp) ?_
      refine AllReadyH.cons rfl (fun K hK => ?_) AllReadyH.nil
      go_simp
      go_wp2
      refine hK.out _ _ trivial (fun hHeld2 => ?_)
      clear hK K
      refine wpAnyH_take (i := 8) (v := .int .i64 (m + k)) rfl (by kernel_rfl) (by kernel_rfl) (by kernel_rfl) (fun _ _ _ h => h) (Or.inl ⟨by rfl, fun W hSw => by (try dsimp only at hSw); (go_simp <;> rw [hwk])⟩) trivial ?_
      simp only [List.getElem_toArray, List.getElem_cons_zero, List.getElem_cons_succ, Act.put, List.setIfInBounds_toArray, List.set_cons_zero, List.set_cons_succ]
      refine wpAnyH_take (i := 9) (v := .int .i64 (m + k)) rfl (by kernel_rfl) (by kernel_rfl) (by kernel_rfl) (fun _ _ _ h => h) (Or.inl ⟨by rfl, fun W hSw => by (try dsimp only at hSw); go_simp⟩) trivial ?_
      simp only [List.getElem_toArray, List.getElem_cons_zero, List.getElem_cons_succ, Act.put, List.setIfInBounds_toArray, List.set_cons_zero, List.set_cons_succ]
      refine wpAnyH_done (by kernel_rfl) ?_ _
      refine NoPanic.normal ?_
      clear hcp
      go_wp2_with fail
      go_roundw
      case rel => exact ⟨m + k, by omega, by omega, by go_num, hg2, HB.trans ((Below.refl _ wA).drew.trans (hb2 _ (Nat.le_refl _)))⟩
      case measure => simp [Go.RowKit.intOf]; omega
    · obtain rfl : m = n := by omega
      have hltI : ¬ (m : Int) < m := by omega
      go_wp2
      go_ret
      exact ⟨rfl, hg, HB⟩

theorem wpList_appendK {w : World} {ops : Array Oper} {rest : List Oper} {o : Oper} {a : Act} {Q : Exit → Act → World → Prop} (hgd : o.guard = none) (s x : Operand)
    (ho : o.op = .call { callee := .builtin .append, args := #[s, x], argTypes := #[109, 109] }) (hty : o.type = 109) (v u : Value) (hs : a.eval s = v) (hx : a.eval x = u) (v' : Value) (w' : World)
    (hrun : (Builtin.append_ #[109, 109] 109 #[v, u]).run Tryz.prog w = .ok v' w') (h : wpList Tryz.prog ops Q rest (a.put o.dst v') w') : wpList Tryz.prog ops Q (o :: rest) a w := by
  refine wpList_plain hgd fun K hK => ?_
  unfold Oper.wp
  simp [execOp, ho, resolve, invoke, builtin, hs, hx, hty, hrun, Result.andThen]
  exact hK _ _ h

def kindsC (ks : List Nat) : List Value := ks.map (fun (k : Nat) => Value.int .i64 (k : Int))

set_option maxHeartbeats 1000000 in
theorem cloneK_any {w : World} {p h : Nat} {lo : Nat} {ks : List Nat} (H : PAt w p h ⟨lo, ks⟩) (hk : FrOk ⟨lo, ks⟩) (cap : Nat) :
    Calls Tryz.prog 166 #[.slice (some ⟨h, 0, none⟩) ks.length cap] w fun e w' => ∃ g c cur, e = .returned (.slice (some ⟨g, 0, none⟩) ks.length c) ∧ w.heap.size ≤ g ∧ w'.heap[g]? = some (.cells cur 111 (0, 0)) ∧ ks.length ≤ c ∧ c ≤ maxLen ∧ (∀ (i k : Nat), ks[i]? = some k → cur[i]? = some (.int .i64 (k : Int))) ∧ Below w.heap.size w w' := by
  obtain ⟨cap0, c0, c1, k1, k2, hp, hh, hne, hc⟩ := FrAt.opened H
  dsimp only at c0 c1 k1 hc
  have hm := hk.most
  have ha := hk.any
  dsimp only at hm ha
  obtain ⟨iK, hi, hz0, hz1, hz2⟩ := info_parts Tryz.infoK
  have hnil : ∀ W, (binOp .eql 109 (.slice (some ⟨h, 0, none⟩) ks.length cap) (.slice none 0 0)).run Tryz.prog W = .ok (.bool false) W := fun W => Lib.run_eql_slice_nil W 109 111 (some ⟨h, 0, none⟩) ks.length cap 0 0 Tryz.underlying109
  have hB0 : Below w.heap.size w (w.alloc (.cells #[] 111)) := (Below.refl _ w).alloc (Nat.le_refl _) _
  have hnews : ∀ j v, (kindsC ks)[j]? = some v → (w.alloc (.cells #[] 111)).cell? ((⟨h, 0, none⟩ : Addr).add j) = some v := fun j v hv => by
    have hadd : (⟨h, 0, none⟩ : Addr).add j = ⟨h, j, none⟩ := by unfold Addr.add; split <;> simp_all
    unfold kindsC at hv
    rw [List.getElem?_map] at hv
    cases hq : ks[j]? with
    | none => rw [hq] at hv; cases hv
    | some k =>
      rw [hq] at hv
      rw [hadd]
      exact (hB0.cell (p := ⟨h, j, none⟩) hh).trans ((hc j k hq).1.trans hv)
  have hkl : (kindsC ks).length = ks.length := by simp [kindsC]
  have hap := run_append_grow (P := Tryz.prog) (w.alloc (.cells #[] 111)) 109 109 111 iK (.int .i64 0) Tryz.underlying109 hi hz0 ⟨w.heap.size, 0, none⟩ 0 0 [] (by simp) (fun j v hv => by simp at hv) ⟨h, 0, none⟩ ks.length cap (kindsC ks) (by rw [hz1, hkl]; omega) hnews (by omega) (by omega) (by rw [hz2]; exact growslice_fits (by omega) (by omega))
  have hge := grownCap_ge (w.alloc (.cells #[] 111)) (0 + ks.length) 0 111
  have hle := grownCap_le_maxLen (w.alloc (.cells #[] 111)) (0 + ks.length) 0 111 (by unfold maxLen; omega)
  generalize grownCap (w.alloc (.cells #[] 111)) (0 + ks.length) 0 111 = C at *
  have hbA : Below w.heap.size w ((w.alloc (.cells #[] 111)).drew.alloc (.cells (([] : List Value).toArray ++ (kindsC ks).toArray ++ Builtin.zeroCells (Value.int .i64 0).cells (C - (0 + ks.length))) 111)) := hB0.drew.alloc (by simp) _
  have hgA := heap_alloc_new (w.alloc (.cells #[] 111)).drew (.cells (([] : List Value).toArray ++ (kindsC ks).toArray ++ Builtin.zeroCells (Value.int .i64 0).cells (C - (0 + ks.length))) 111)
  have hcur : ∀ (i k : Nat), ks[i]? = some k → (([] : List Value).toArray ++ (kindsC ks).toArray ++ Builtin.zeroCells (Value.int .i64 0).cells (C - (0 + ks.length)))[i]? = some (.int .i64 (k : Int)) := fun i k hq => by
    have hlt : i < ks.length := (List.getElem?_eq_some_iff.1 hq).1
    rw [Array.getElem?_append_left (by simp; omega), Array.getElem?_append_right (by simp)]
    simp only [List.size_toArray, List.length_nil, Nat.sub_zero, List.getElem?_toArray]
    unfold kindsC
    rw [List.getElem?_map, hq]
    rfl
  generalize (([] : List Value).toArray ++ (kindsC ks).toArray ++ Builtin.zeroCells (Value.int .i64 0).cells (C - (0 + ks.length))) = CU at *
  generalize (w.alloc (.cells #[] 111)).drew.alloc (.cells CU 111) = W2 at *
  rw [Nat.zero_add] at hap hge
  have hsz : (w.alloc (.cells #[] 111)).heap.size = w.heap.size + 1 := by simp
  rw [hsz] at hap
  have hgB : W2.heap[w.heap.size + 1]? = some (.cells CU 111 (0, 0)) := by have := hgA; simp at this; exact this
  clear hnews hc c0 c1 H hk hgA
  generalize ks.length = n at *
  go_enter Tryz.func166, Tryz.ntmps166
  go_wp2_with (at_builtin; refine wpList_appendK rfl _ _ rfl rfl _ _ rfl rfl _ _ hap ?_)
  go_ret
  exact ⟨_, _, CU, rfl, by omega, hgB, hge, hle, hcur, hbA⟩

set_option maxHeartbeats 2000000 in
theorem fclone_any {w : World} {p h : Nat} {lo : Nat} {ks : List Nat} (H : PAt w p h ⟨lo, ks⟩) (hk : FrOk ⟨lo, ks⟩) :
    Calls Tryz.prog 165 #[ptr p] w fun e w' => ∃ p' h', e = .returned (ptr p') ∧ PAt w' p' h' ⟨lo, ks⟩ ∧ w.heap.size ≤ p' ∧ w.heap.size ≤ h' ∧ Below w.heap.size w w' := by
  obtain ⟨cap, c0, c1, k1, k2, hp, hh, hne, hc⟩ := FrAt.opened H
  dsimp only at c0 c1 k1 hc
  have hck := fun W (hW : Below w.heap.size w W) => cloneK_any (FrAt.below H hW) hk cap
  have q0 : ∀ W, Below w.heap.size w W → W.cell? ⟨p, 0, none⟩ = some (.int .i64 lo) := fun W hW => (hW.cell (p := ⟨p, 0, none⟩) hp).trans c0
  have q1 : ∀ W, Below w.heap.size w W → W.cell? ⟨p, 1, none⟩ = some (.slice (some ⟨h, 0, none⟩) ks.length cap) := fun W hW => (hW.cell (p := ⟨p, 1, none⟩) hp).trans c1
  unfold ptr
  clear hc c0 c1 H hk
  go_enter Tryz.func165, Tryz.ntmps165
  go_wp2_with fail
  refine wp_region_noPanic ?_
  refine wp_region_held_drew (S := fun W => Below w.heap.size w W) (by kernel_rfl) (Below.refl _ w).drew (fun hHeld => ?_)
  refine wpAnyH_take (i := 0) (v := .pointer (some ⟨p, 0, none⟩)) rfl (by kernel_rfl) (by kernel_rfl) (by kernel_rfl) (fun _ _ _ h => h) (Or.inl ⟨by rfl, fun W hSw => by (try dsimp only at hSw); go_simp⟩) (by assumption) ?_
  simp only [List.getElem_toArray, List.getElem_cons_zero, List.getElem_cons_succ, Act.put, List.setIfInBounds_toArray, List.set_cons_zero, List.set_cons_succ]
  refine wpAnyH_take (i := 1) (v := .pointer (some ⟨p, 0, none⟩)) rfl (by kernel_rfl) (by kernel_rfl) (by kernel_rfl) (fun _ _ _ h => h) (Or.inl ⟨by rfl, fun W hSw => by (try dsimp only at hSw); go_simp⟩) (by assumption) ?_
  simp only [List.getElem_toArray, List.getElem_cons_zero, List.getElem_cons_succ, Act.put, List.setIfInBounds_toArray, List.set_cons_zero, List.set_cons_succ]
  refine wpAnyH_take (i := 2) (v := .pointer (some ⟨p, 0, none⟩)) rfl (by kernel_rfl) (by kernel_rfl) (by kernel_rfl) (fun _ _ _ h => h) (Or.inl ⟨by rfl, fun W hSw => by (try dsimp only at hSw); go_simp⟩) (by assumption) ?_
  simp only [List.getElem_toArray, List.getElem_cons_zero, List.getElem_cons_succ, Act.put, List.setIfInBounds_toArray, List.set_cons_zero, List.set_cons_succ]
  refine wpAnyH_take (i := 3) (v := .int .i64 lo) rfl (by kernel_rfl) (by kernel_rfl) (by kernel_rfl) (fun _ _ _ h => h) (Or.inl ⟨by rfl, fun W hSw => by (try dsimp only at hSw); go_simp⟩) (by assumption) ?_
  simp only [List.getElem_toArray, List.getElem_cons_zero, List.getElem_cons_succ, Act.put, List.setIfInBounds_toArray, List.set_cons_zero, List.set_cons_succ]
  refine wpAnyH_take (i := 4) (v := .pointer (some ⟨p, 0, none⟩)) rfl (by kernel_rfl) (by kernel_rfl) (by kernel_rfl) (fun _ _ _ h => h) (Or.inl ⟨by rfl, fun W hSw => by (try dsimp only at hSw); go_simp⟩) (by assumption) ?_
  simp only [List.getElem_toArray, List.getElem_cons_zero, List.getElem_cons_succ, Act.put, List.setIfInBounds_toArray, List.set_cons_zero, List.set_cons_succ]
  refine wpAnyH_take (i := 5) (v := .pointer (some ⟨p, 0, none⟩)) rfl (by kernel_rfl) (by kernel_rfl) (by kernel_rfl) (fun _ _ _ h => h) (Or.inl ⟨by rfl, fun W hSw => by (try dsimp only at hSw); go_simp⟩) (by assumption) ?_
  simp only [List.getElem_toArray, List.getElem_cons_zero, List.getElem_cons_succ, Act.put, List.setIfInBounds_toArray, List.set_cons_zero, List.set_cons_succ]
  refine wpAnyH_take (i := 6) (v := .pointer (some ⟨p, 1, none⟩)) rfl (by kernel_rfl) (by kernel_rfl) (by kernel_rfl) (fun _ _ _ h => h) (Or.inl ⟨by rfl, fun W hSw => by (try dsimp only at hSw); go_simp⟩) (by assumption) ?_
  simp only [List.getElem_toArray, List.getElem_cons_zero, List.getElem_cons_succ, Act.put, List.setIfInBounds_toArray, List.set_cons_zero, List.set_cons_succ]
  refine wpAnyH_take (i := 7) (v := .slice (some ⟨h, 0, none⟩) ks.length cap) rfl (by kernel_rfl) (by kernel_rfl) (by kernel_rfl) (fun _ _ _ h => h) (Or.inl ⟨by rfl, fun W hSw => by (try dsimp only at hSw); go_simp⟩) (by assumption) ?_
  simp only [List.getElem_toArray, List.getElem_cons_zero, List.getElem_cons_succ, Act.put, List.setIfInBounds_toArray, List.set_cons_zero, List.set_cons_succ]
  refine wpAnyH_ready (rs := [8]) (by kernel_rfl) (by simp) ?_
  refine AllReadyH.cons rfl (fun K hK => ?_) AllReadyH.nil
  go_simp
  go_wp2_with (go_at_call 166; refine (hck _ hHeld).mono ?_; rintro e w5 ⟨g, c, cur, rfl, hg1, hg2, hg3, hg4, hg5, hb5⟩)
  have hS5 : Below w.heap.size w w5 := hHeld.trans (hb5.mono (by simp))
  have hgw : w.heap.size ≤ g := by simpa using hg1
  refine hK.out _ _ hS5 (fun hHeld2 => ?_)
  clear hK K
  refine wpAnyH_take (i := 9) (v := .agg #[.int .i64 lo, .slice (some ⟨g, 0, none⟩) ks.length c]) rfl (by kernel_rfl) (by kernel_rfl) (by kernel_rfl) (fun _ _ _ h => h) (Or.inl ⟨by rfl, fun W hSw => by (try dsimp only at hSw); go_simp⟩) (by assumption) ?_
  simp only [List.getElem_toArray, List.getElem_cons_zero, List.getElem_cons_succ, Act.put, List.setIfInBounds_toArray, List.set_cons_zero, List.set_cons_succ]
  refine wpAnyH_ready (rs := [10]) (by kernel_rfl) (by simp) ?_
  refine AllReadyH.cons rfl (fun K hK => ?_) AllReadyH.nil
  go_simp
  go_wp2
  have hg6 := heap_alloc_new w5 (.cells #[.int .i64 lo, .slice (some ⟨g, 0, none⟩) ks.length c] 113)
  have hb6 := (Below.refl w5.heap.size w5).alloc (Nat.le_refl _) (.cells #[.int .i64 lo, .slice (some ⟨g, 0, none⟩) ks.length c] 113)
  have hS6 : Below w.heap.size w _ := hS5.trans (hb6.mono hS5.size)
  have hglt : g < w5.heap.size := (Array.getElem?_eq_some_iff.1 hg2).1
  have HP : Hid (PAt (w5.alloc (.cells #[.int .i64 lo, .slice (some ⟨g, 0, none⟩) ks.length c] 113)) w5.heap.size g ⟨lo, ks⟩) := ⟨c, cur, hg6, (hb6.block _ hglt).trans hg2, hg3, hg4, by omega, hg5⟩
  have hz5 := hS5.size
  refine hK.out _ _ hS6 (fun hHeld3 => ?_)
  clear hK K
  refine wpAnyH_take (i := 11) (v := .pointer (some ⟨w5.heap.size, 0, none⟩)) rfl (by kernel_rfl) (by kernel_rfl) (by kernel_rfl) (fun _ _ _ h => h) (Or.inl ⟨by rfl, fun W hSw => by (try dsimp only at hSw); go_simp⟩) (by assumption) ?_
  simp only [List.getElem_toArray, List.getElem_cons_zero, List.getElem_cons_succ, Act.put, List.setIfInBounds_toArray, List.set_cons_zero, List.set_cons_succ]
  refine wpAnyH_done (by kernel_rfl) ?_ _
  refine NoPanic.normal ?_
  clear q0 q1 hck
  go_wp2
  go_ret
  exact ⟨_, _, rfl, HP.out, hz5, hgw, hS6⟩

/-- N free ones side by side from i on. -/
def RunAt (ks : List Nat) (N i : Nat) : Prop := ∀ j, j < N → ks.getD (i + j) 0 = 1
/-- The first run: where it begins, or none. -/
def IsFirst (ks : List Nat) (N : Nat) : Option Nat → Prop
  | none => ∀ i, ¬ RunAt ks N i
  | some b => RunAt ks N b ∧ ∀ i, i < b → ¬ RunAt ks N i

theorem run_in {ks : List Nat} {N i : Nat} (h : RunAt ks N i) (hN : 1 ≤ N) : i + N ≤ ks.length := by
  have h1 := h (N - 1) (by omega)
  rcases Nat.lt_or_ge (i + (N - 1)) ks.length with h2 | h2
  · omega
  · rw [List.getD_eq_getElem?_getD, List.getElem?_eq_none h2] at h1
    cases h1

theorem first_unique {ks : List Nat} {N : Nat} {a b : Option Nat} (ha : IsFirst ks N a) (hb : IsFirst ks N b) : a = b := by
  cases a with
  | none =>
    cases b with
    | none => rfl
    | some b => exact absurd hb.1 (ha b)
  | some a =>
    cases b with
    | none => exact absurd ha.1 (hb a)
    | some b =>
      rcases Nat.lt_trichotomy a b with h | h | h
      · exact absurd ha.1 (hb.2 a h)
      · rw [h]
      · exact absurd hb.1 (ha.2 b h)

def foundV : Option Nat → Bool
  | none => false
  | some _ => true
def firstV : Option Nat → Int
  | none => 0
  | some b => b

set_option maxHeartbeats 4000000 in
theorem firstRun_any {w : World} {p h : Nat} {s : Fr} (H : PAt w p h s) (hk : FrOk s) (N : Nat) (hN : 1 ≤ N) (hN2 : N ≤ 9223372036854775807) :
    Calls Tryz.prog 90 #[ptr p, .int .i64 N] w fun e w' => ∃ r, e = .returned (.tuple #[.int .i64 (firstV r), .bool (foundV r)]) ∧ IsFirst s.ks N r ∧ w' = w := by
  obtain ⟨cap, c0, c1, h1, h2, hp, hh, hne, hc⟩ := FrAt.opened H
  have hm := hk.most
  unfold ptr
  have hc' : ∀ j, j < s.ks.length → w.cell? ⟨h, j, none⟩ = some (.int .i64 (s.ks.getD j 0)) := fun j hj => (hc j _ (by rw [List.getElem?_eq_getElem hj, List.getD_eq_getElem?_getD, List.getElem?_eq_getElem hj]; rfl)).1
  have hout : ∀ j, s.ks.length ≤ j → s.ks.getD j 0 = 0 := fun j hj => by rw [List.getD_eq_getElem?_getD, List.getElem?_eq_none hj]; rfl
  clear hc H hk
  generalize s.ks = ks at *
  generalize s.lo = lo at *
  obtain ⟨n, hn⟩ : ∃ n, ks.length = n := ⟨_, rfl⟩
  rw [hn] at c1 h1 hm hc' hout
  go_enter Tryz.func90, Tryz.ntmps90
  go_wp2
  go_step3
  go_wp2
  go_step3
  go_wp2
  go_loop [6, 7, 8, 9] (fun f g e b => ∃ k : Nat, k ≤ n + 1 ∧ e = .int .i64 k ∧ f = .int .i64 0 ∧ g = .bool false ∧ Hid (∀ i, i < k → ¬ RunAt ks N i)) (fun _ _ e _ => n + 2 - (Go.RowKit.intOf e).toNat)
  case atStart => exact ⟨0, Nat.zero_le _, rfl, rfl, rfl, fun i hi => by omega⟩
  case round =>
    obtain ⟨k, hk, rfl, rfl, rfl, HK⟩ := hrel
    by_cases hlt : k < n
    · have hltI : (k : Int) < n := by omega
      go_wp2
      go_loop [6, 7, 8] (fun f g e => ∃ m : Nat, k ≤ m ∧ m ≤ n ∧ e = .int .i64 m ∧ f = .int .i64 0 ∧ g = .bool false ∧ Hid (∀ i, k ≤ i → i < m → ks.getD i 0 = 1) ∧ Hid (m < k + N)) (fun _ _ e => n + 1 - (Go.RowKit.intOf e).toNat)
      case atStart => exact ⟨k, Nat.le_refl _, by omega, rfl, rfl, rfl, fun i h1 h2 => by omega, by unfold Hid; omega⟩
      case round =>
        obtain ⟨m, hkm, hmn, rfl, rfl, rfl, HM, HN⟩ := hrel
        by_cases hmlt : m < n ∧ ks.getD m 0 = 1
        · obtain ⟨hm1, hm2⟩ := hmlt
          have hmI : (m : Int) < n := by omega
          have xm := hc' m hm1
          rw [hm2] at xm
          clear hc' hout
          by_cases hfull : m + 1 = k + N
          · have hfI : (m : Int) - k + 1 = N := by omega
            have HF : Hid (IsFirst ks N (some k)) := ⟨fun j hj => by
              rcases Nat.lt_or_ge (k + j) m with h | h
              · exact HM.out _ (by omega) h
              · rw [show k + j = m from by omega]; exact hm2, HK.out⟩
            clear hm2 HM HN HK
            go_wp2
            (try rw [Exit.noGoto_ret])
            go_ret2
            exact ⟨some k, rfl, HF.out, rfl⟩
          · have hfI : ¬ (m : Int) - k + 1 = N := by omega
            have HM' : Hid (∀ i, k ≤ i → i < m + 1 → ks.getD i 0 = 1) := fun i h1 h2 => by
              rcases Nat.lt_or_ge i m with h | h
              · exact HM.out i h1 h
              · rw [show i = m from by omega]; exact hm2
            have HN' : Hid (m + 1 < k + N) := by have := HN.out; unfold Hid; omega
            clear hm2 HM HN
            go_wp2
            go_round
            case rel => exact ⟨m + 1, by omega, by omega, by go_num, rfl, rfl, HM', HN'⟩
            case measure => simp [Go.RowKit.intOf]; omega
        · have HK' : Hid (∀ i, i < m + 1 → ¬ RunAt ks N i) := fun i hi hrun => by
            rcases Nat.lt_or_ge i k with h | h
            · exact HK.out i h hrun
            · have h3 := HN.out
              have h4 : ¬ ks.getD m 0 = 1 := fun e => by
                rcases Nat.lt_or_ge m n with q | q
                · exact hmlt ⟨q, e⟩
                · rw [hout m q] at e; cases e
              have h5 := hrun (m - i) (by omega)
              rw [show i + (m - i) = m from by omega] at h5
              exact h4 h5
          by_cases hm1 : m < n
          · have hmI : (m : Int) < n := by omega
            have xm := hc' m hm1
            have hm2 : ¬ ((ks.getD m 0 : Nat) : Int) = 1 := fun e => hmlt ⟨hm1, by omega⟩
            generalize ks.getD m 0 = K at *
            clear hc' hout hmlt HM HN HK
            go_wp2
            go_round
            case rel => exact ⟨m + 1, by omega, by go_num, rfl, rfl, HK'⟩
            case measure => simp [Go.RowKit.intOf]; omega
          · have hmI : ¬ (m : Int) < n := by omega
            clear hc' hout hmlt HM HN HK
            go_wp2
            go_round
            case rel => exact ⟨m + 1, by omega, by go_num, rfl, rfl, HK'⟩
            case measure => simp [Go.RowKit.intOf]; omega
    · have hltI : ¬ (k : Int) < n := by omega
      have HF : Hid (IsFirst ks N none) := fun i hrun => by
        have h3 := run_in hrun hN
        exact HK.out i (by omega) hrun
      clear hc' hout HK
      go_wp2
      (try rw [Exit.noGoto_ret])
      go_ret2
      exact ⟨none, rfl, HF.out, rfl⟩

/-- The run's blocks taken. -/
def setRun (ks : List Nat) (b : Nat) : Nat → List Nat
  | 0 => ks
  | j + 1 => (setRun ks b j).set (b + j) 2

theorem setRun_len (ks : List Nat) (b : Nat) : ∀ j, (setRun ks b j).length = ks.length
  | 0 => rfl
  | j + 1 => by unfold setRun; rw [List.length_set]; exact setRun_len ks b j

def runV (s : Fr) : Option Nat → Int
  | none => 0
  | some b => s.lo + b
def runE : Option Nat → Int
  | none => 5
  | some _ => 0
def runF (s : Fr) (N : Nat) : Option Nat → Fr
  | none => s
  | some b => ⟨s.lo, setRun s.ks b N⟩

theorem takeRun_arg {w : World} {p : Nat} (n : Int) (hn : n < 1) : Calls Tryz.prog 68 #[ptr p, .int .i64 n] w fun e w' => e = .returned (.tuple #[.int .i64 0, .int .i64 1]) ∧ w' = w := by
  unfold ptr
  go_enter Tryz.func68, Tryz.ntmps68
  go_wp2
  go_ret2
  exact ⟨rfl, rfl⟩

set_option maxHeartbeats 4000000 in
theorem takeRun_ok {w : World} {p h : Nat} {s : Fr} (H : PAt w p h s) (hk : FrOk s) (N : Nat) (hN : 1 ≤ N) (hN2 : N ≤ 9223372036854775807) :
    Calls Tryz.prog 68 #[ptr p, .int .i64 N] w fun e w' => ∃ r, e = .returned (.tuple #[.int .i64 (runV s r), .int .i64 (runE r)]) ∧ IsFirst s.ks N r ∧ PAt w' p h (runF s N r) ∧ Sole [h] w w' := by
  have hf := firstRun_any H hk N hN hN2
  have hm := hk.most
  have hNI : ¬ (N : Int) < 1 := by omega
  unfold ptr at *
  go_enter Tryz.func68, Tryz.ntmps68
  go_wp2_with fail
  refine hf.mono ?_
  clear hf
  rintro e w1 ⟨r, rfl, hF, rfl⟩
  cases r with
  | none =>
    have HF : Hid (IsFirst s.ks N none) := hF
    have HH : Hid (PAt w1 p h s) := H
    unfold firstV foundV
    clear hF H
    go_wp2
    go_ret2
    exact ⟨none, rfl, HF.out, HH.out, Sole.refl _ _⟩
  | some b =>
    have hin := run_in hF.1 hN
    have HF : Hid (IsFirst s.ks N (some b)) := hF
    unfold firstV foundV
    clear hF
    go_wp2
    go_loopw [8, 20] (fun q t wr => ∃ j : Nat, j ≤ N ∧ t = .int .i64 j ∧ Hid (PAt wr p h ⟨s.lo, setRun s.ks b j⟩) ∧ Sole [h] w1 wr) (fun _ t _ => N - (Go.RowKit.intOf t).toNat)
    case atStart => exact ⟨0, Nat.zero_le _, rfl, H, Sole.refl _ _⟩
    case round =>
      clear H
      obtain ⟨j, hj, rfl, HP, HS⟩ := hrel
      obtain ⟨cap, c0, c1, h1, h2, hp, hh, hne, hc⟩ := FrAt.opened HP.out
      have hsl := setRun_len s.ks b j
      dsimp only at c0 c1 h1 hc
      by_cases hlt : j < N
      · have hltI : (j : Int) < N := by omega
        have hbj : b + j < (setRun s.ks b j).length := by omega
        obtain ⟨hcj, hfj⟩ := hc (b + j) _ (List.getElem?_eq_getElem hbj)
        have HP' : Hid (PAt (wr.setCell ⟨h, b + j, none⟩ (.int .i64 2)) p h ⟨s.lo, setRun s.ks b (j + 1)⟩) := FrAt.put HP.out (b + j) 2
        rw [hsl] at c1 h1
        generalize (setRun s.ks b j)[b + j] = K at *
        clear hc hsl hbj HP
        have hbI : (b : Int) + j < s.ks.length := by omega
        generalize s.ks.length = n at *
        generalize hlo : s.lo = lo at *
        go_wp2_with fail
        go_roundw
        case rel => exact ⟨j + 1, by omega, by go_num, HP', HS.trans (Sole.setCell _ _ (by simp))⟩
        case measure => simp [Go.RowKit.intOf]; omega
      · obtain rfl : j = N := by omega
        have hltI : ¬ (j : Int) < j := by omega
        clear hc
        generalize hlo : s.lo = lo at *
        go_wp2
        go_ret2
        exact ⟨some b, by unfold runV runE; rw [hlo]; rfl, HF.out, by unfold runF; rw [hlo]; exact HP.out, HS⟩

theorem take_any {w : World} {p h : Nat} {s : Fr} (H : PAt w p h s) (hk : FrOk s) :
    Calls Tryz.prog 36 #[ptr p] w fun e w' => ∃ r, e = .returned (.tuple #[.int .i64 (runV s r), .int .i64 (runE r)]) ∧ IsFirst s.ks 1 r ∧ PAt w' p h (runF s 1 r) ∧ Sole [h] w w' := by
  have hl := takeRun_ok H hk 1 (by omega) (by omega)
  unfold ptr at *
  go_enter Tryz.func36, Tryz.ntmps36
  go_wp2_with fail
  refine hl.mono ?_
  rintro e w1 ⟨r, rfl, h1, h2, h3⟩
  go_wp2
  go_ret2
  exact ⟨r, rfl, h1, h2, h3⟩

theorem upto_mem {s : Fr} {k j x : Nat} : x ∈ upto s k j ↔ ∃ i, i < j ∧ s.ks.getD i 0 = k ∧ x = s.lo + i := by
  unfold upto
  constructor
  · intro h
    obtain ⟨i, hi, rfl⟩ := List.mem_map.1 h
    obtain ⟨h1, h2⟩ := List.mem_filter.1 hi
    exact ⟨i, List.mem_range.1 h1, eq_of_beq h2, rfl⟩
  · rintro ⟨i, h1, h2, rfl⟩
    exact List.mem_map.2 ⟨i, List.mem_filter.2 ⟨List.mem_range.2 h1, by rw [h2]; exact beq_self_eq_true k⟩, rfl⟩

theorem upto_sorted (s : Fr) (k j : Nat) : (upto s k j).Pairwise (· < ·) := by
  unfold upto
  refine List.pairwise_map.2 ?_
  refine List.Pairwise.imp ?_ (List.Pairwise.filter _ List.pairwise_lt_range)
  intro a b h
  show s.lo + a < s.lo + b
  omega

/-- The list of a kind, place by place. -/
structure Listed (s : Fr) (k : Nat) (b : Nat → Nat) (n : Nat) : Prop where
  rise : ∀ i j, i < j → j < n → b i < b j
  lo : ∀ j, j < n → s.lo ≤ b j ∧ b j < s.lo + s.ks.length
  kind : ∀ j, j < n → s.ks.getD (b j - s.lo) 0 = k
  all : ∀ i, i < s.ks.length → s.ks.getD i 0 = k → ∃ j, j < n ∧ b j = s.lo + i

theorem listed (s : Fr) (k : Nat) : Listed s k (fun j => (blocksL s k).getD j 0) (blocksL s k).length := by
  have hs := upto_sorted s k s.ks.length
  have hg : ∀ j (h : j < (blocksL s k).length), (blocksL s k).getD j 0 = (blocksL s k)[j] := fun j h => by
    rw [List.getD_eq_getElem?_getD, List.getElem?_eq_getElem h]; rfl
  have hm : ∀ j, j < (blocksL s k).length → ∃ i, i < s.ks.length ∧ s.ks.getD i 0 = k ∧ (blocksL s k).getD j 0 = s.lo + i := fun j h => by
    rw [hg j h]
    exact upto_mem.1 (List.getElem_mem h)
  refine ⟨fun i j hij hj => ?_, fun j hj => ?_, fun j hj => ?_, fun i hi hk => ?_⟩
  · rw [hg i (by omega), hg j hj]
    exact List.pairwise_iff_getElem.1 hs i j (by unfold blocksL at hj; omega) (by exact hj) hij
  · obtain ⟨i, h1, h2, h3⟩ := hm j hj
    rw [h3]
    omega
  · obtain ⟨i, h1, h2, h3⟩ := hm j hj
    rw [h3, show s.lo + i - s.lo = i from by omega]
    exact h2
  · have : s.lo + i ∈ blocksL s k := upto_mem.2 ⟨i, hi, hk, rfl⟩
    obtain ⟨j, hj, e⟩ := List.mem_iff_getElem.1 this
    exact ⟨j, hj, by rw [hg j hj]; exact e⟩

theorem Listed.far {s : Fr} {k : Nat} {b : Nat → Nat} {n : Nat} (h : Listed s k b n) {i : Nat} : ∀ d, i + d < n → b i + d ≤ b (i + d)
  | 0, _ => Nat.le_refl _
  | d + 1, hd => by
    have h1 := h.far d (i := i) (by omega)
    have h2 := h.rise (i + d) (i + (d + 1)) (by omega) hd
    omega

/-- The place k begins a run of N. -/
def good (b : Nat → Nat) (n N k : Nat) : Prop := k + N ≤ n ∧ b (k + N - 1) = b k + N - 1

theorem good_run {s : Fr} {b : Nat → Nat} {n N k : Nat} (h : Listed s 1 b n) (hN : 1 ≤ N) (hg : good b n N k) : RunAt s.ks N (b k - s.lo) := by
  intro j hj
  obtain ⟨h1, h2⟩ := hg
  have f1 := h.far (i := k) j (by omega)
  have f2 := h.far (i := k + j) (N - 1 - j) (by omega)
  rw [show k + j + (N - 1 - j) = k + N - 1 from by omega] at f2
  have e : b (k + j) = b k + j := by omega
  have h3 := h.kind (k + j) (by omega)
  have h4 := (h.lo k (by omega)).1
  rw [e, show b k + j - s.lo = b k - s.lo + j from by omega] at h3
  exact h3

theorem run_good {s : Fr} {b : Nat → Nat} {n N i : Nat} (h : Listed s 1 b n) (hN : 1 ≤ N) (hr : RunAt s.ks N i) : ∃ k, good b n N k ∧ b k = s.lo + i := by
  have hin := run_in hr hN
  obtain ⟨k, hk, e⟩ := h.all i (by omega) (by have := hr 0 (by omega); simpa using this)
  have step : ∀ j, j < N → k + j < n ∧ b (k + j) = s.lo + i + j := by
    intro j
    induction j with
    | zero => intro _; exact ⟨hk, e⟩
    | succ j ih =>
      intro hj
      obtain ⟨h1, h2⟩ := ih (by omega)
      obtain ⟨m, hm, em⟩ := h.all (i + (j + 1)) (by omega) (hr (j + 1) hj)
      have hlt : k + j < m := by
        rcases Nat.lt_trichotomy (k + j) m with q | q | q
        · exact q
        · subst q; omega
        · have := h.rise m (k + j) q h1; omega
      have h3 := h.rise (k + j) (k + (j + 1)) (by omega) (by omega)
      refine ⟨by omega, ?_⟩
      rcases Nat.lt_or_ge (k + (j + 1)) m with q | q
      · have := h.rise _ _ q hm; omega
      · have : m = k + (j + 1) := by omega
        subst this
        omega
  obtain ⟨h1, h2⟩ := step (N - 1) (by omega)
  exact ⟨k, ⟨by omega, by rw [show k + N - 1 = k + (N - 1) from by omega, h2]; omega⟩, e⟩

theorem first_none {s : Fr} {b : Nat → Nat} {n N : Nat} (h : Listed s 1 b n) (hN : 1 ≤ N) (hg : ∀ k, k < n → ¬ good b n N k) : IsFirst s.ks N none := by
  intro i hr
  obtain ⟨k, h1, _⟩ := run_good h hN hr
  exact hg k (by have := h1.1; omega) h1

theorem first_some {s : Fr} {b : Nat → Nat} {n N k : Nat} (h : Listed s 1 b n) (hN : 1 ≤ N) (hg : good b n N k) (hl : ∀ j, j < k → ¬ good b n N j) : IsFirst s.ks N (some (b k - s.lo)) := by
  refine ⟨good_run h hN hg, fun i hi hr => ?_⟩
  obtain ⟨j, h1, h2⟩ := run_good h hN hr
  have hk := hg.1
  have hj := h1.1
  have hlo := (h.lo k (by omega)).1
  rcases Nat.lt_or_ge j k with q | q
  · exact hl j q h1
  · rcases Nat.lt_or_ge k j with r | r
    · have := h.rise k j r (by omega); omega
    · have : j = k := by omega
      subst this
      omega

theorem upto_count (s : Fr) (k : Nat) : ∀ j, j ≤ s.ks.length → (upto s k j).length = (s.ks.take j).count k := by
  intro j
  induction j with
  | zero => intro _; simp [upto]
  | succ j ih =>
    intro hj
    rw [upto_next, List.length_append, ih (by omega), List.take_add_one, List.count_append, List.getElem?_eq_getElem (by omega)]
    congr 1
    rw [List.getD_eq_getElem?_getD, List.getElem?_eq_getElem (by omega)]
    show (if s.ks[j] = k then [s.lo + j] else []).length = List.count k [s.ks[j]]
    rw [List.count_singleton]
    by_cases h : s.ks[j] = k
    · rw [if_pos h, h]; simp
    · rw [if_neg h, if_neg (by simpa using h)]; rfl

theorem blocks_count (s : Fr) (k : Nat) : (blocksL s k).length = s.ks.count k := by
  unfold blocksL
  rw [upto_count s k _ (Nat.le_refl _), List.take_length]

theorem setRun_get (ks : List Nat) (b : Nat) : ∀ N i, b + N ≤ i → (setRun ks b N)[i]? = ks[i]?
  | 0, i, _ => rfl
  | N + 1, i, h => by
    unfold setRun
    rw [List.getElem?_set_ne (by omega)]
    exact setRun_get ks b N i (by omega)

theorem setRun_count {ks : List Nat} {b : Nat} : ∀ {N}, RunAt ks N b → (setRun ks b N).count 1 + N = ks.count 1
  | 0, _ => rfl
  | N + 1, hr => by
    have ih := setRun_count (N := N) (ks := ks) (b := b) (fun j hj => hr j (by omega))
    have hin := run_in hr (by omega)
    have hg := setRun_get ks b N (b + N) (Nat.le_refl _)
    have h1 := hr N (by omega)
    have hlt : b + N < (setRun ks b N).length := by rw [setRun_len]; omega
    rw [List.getD_eq_getElem?_getD, ← hg, List.getElem?_eq_getElem hlt] at h1
    have h1 : (setRun ks b N)[b + N] = 1 := h1
    have hc : 0 < (setRun ks b N).count 1 := List.count_pos_iff.2 (by rw [← h1]; exact List.getElem_mem hlt)
    unfold setRun
    rw [List.count_set hlt, h1]
    simp
    omega

def runT (N : Nat) : Option Nat → Nat
  | none => 0
  | some _ => N

theorem run_count {s : Fr} {N : Nat} {r : Option Nat} (hr : IsFirst s.ks N r) : (blocksL (runF s N r) 1).length + runT N r = (blocksL s 1).length := by
  cases r with
  | none => rfl
  | some b =>
    rw [blocks_count, blocks_count]
    have := setRun_count hr.1
    exact this

theorem setRun_mem {ks : List Nat} {b : Nat} : ∀ N k, k ∈ setRun ks b N → k ∈ ks ∨ k = 2
  | 0, k, h => .inl h
  | N + 1, k, h => by
    unfold setRun at h
    rcases List.mem_or_eq_of_mem_set h with h1 | h1
    · exact setRun_mem N k h1
    · exact .inr h1

theorem run_ok {s : Fr} (h : FrOk s) (N : Nat) (r : Option Nat) : FrOk (runF s N r) := by
  cases r with
  | none => exact h
  | some b =>
    refine ⟨by show 0 < (setRun s.ks b N).length; rw [setRun_len]; exact h.any, by show s.lo + (setRun s.ks b N).length ≤ 1024; rw [setRun_len]; exact h.most, fun k hk => ?_⟩
    rcases setRun_mem N k hk with h1 | h1
    · exact h.kinds k h1
    · rw [h1]; omega

/-- Some number of the list is none of the map's blocks. -/
def anyOut (s : Fr) (l : List Int) : Bool := l.any (fun x => lacksB s x)

theorem any_next {s : Fr} {l : List Int} {k : Nat} {x : Int} (h : l[k]? = some x) : anyOut s (l.take (k + 1)) = (anyOut s (l.take k) || lacksB s x) := by
  unfold anyOut; rw [takeI_next h, List.any_append]; simp

theorem any_take {s : Fr} {l : List Int} {k : Nat} (h : anyOut s (l.take k) = true) : anyOut s l = true := by
  unfold anyOut at *
  rw [List.any_eq_true] at *
  obtain ⟨x, hx, hq⟩ := h
  exact ⟨x, List.mem_of_mem_take hx, hq⟩

set_option maxHeartbeats 2000000 in
theorem indexFunc_any {w : World} {p h : Nat} {s : Fr} (H : PAt w p h s) (hk : FrOk s) (v : Value) (l : List Int) (hr : RdI w v l) :
    Calls Tryz.prog 82 #[v, .func (.func 62) #[ptr p] #[]] w fun e w' => ∃ r : Int, e = .returned (.int .i64 r) ∧ (decide (0 ≤ r) = anyOut s l) ∧ Below w.heap.size w w' := by
  obtain ⟨a, lc, rfl, g1, g2, g3⟩ := hr
  unfold maxLen at g2
  have hlk := fun W (hW : Below w.heap.size w W) x => lacks_any (FrAt.below H hW) hk x
  have hnx := fun i x (hx : l[i]? = some x) => any_next (s := s) hx
  have htk := fun i => any_take (s := s) (l := l) (k := i)
  clear H hk
  unfold ptr at *
  go_enter Tryz.func82, Tryz.ntmps82
  go_wp2
  go_loopw [5, 8] (fun q t wr => ∃ i : Nat, i ≤ l.length ∧ t = .int .i64 i ∧ Hid (anyOut s (l.take i) = false) ∧ Below w.heap.size w wr) (fun _ t _ => l.length - (Go.RowKit.intOf t).toNat)
  case atStart => exact ⟨0, Nat.zero_le _, rfl, rfl, Below.refl _ _⟩
  case round =>
    obtain ⟨i, hi, rfl, HA, HB⟩ := hrel
    obtain ⟨wA, hA⟩ : ∃ wA, wA = wr := ⟨_, rfl⟩
    subst hA
    by_cases hlt : i < l.length
    · have hltI : (i : Int) < l.length := by omega
      obtain ⟨b, off, rfl, hb, hcs⟩ := g3 (by omega)
      have hx : l[i]? = some l[i] := List.getElem?_eq_getElem hlt
      have hcx := (HB.cell (p := ⟨b, off + i, none⟩) hb).trans (hcs i _ hx)
      have hl1 := hlk wA HB l[i]
      have hn1 := hnx i _ hx
      have ht1 := htk (i + 1)
      rw [HA.out, Bool.false_or] at hn1
      generalize l[i] = x at *
      clear hcs g3 hlk hnx htk hx
      go_wp2_with fail
      refine hl1.mono ?_
      clear hl1
      rintro e w5 ⟨rfl, hb5⟩
      have HB5 := HB.trans (hb5.mono HB.size)
      cases hd : lacksB s x with
      | true =>
        rw [hd] at hn1
        have HT : Hid (anyOut s l = true) := ht1 hn1
        clear ht1 hn1 hd
        go_wp2
        go_ret
        exact ⟨_, rfl, by rw [HT.out]; simp, HB5⟩
      | false =>
        rw [hd] at hn1
        have HT : Hid (anyOut s (l.take (i + 1)) = false) := hn1
        clear ht1 hn1 hd
        go_wp2_with fail
        go_roundw
        case rel => exact ⟨i + 1, by omega, by go_num, HT, HB5⟩
        case measure => simp [Go.RowKit.intOf]; omega
    · have hltI : ¬ (i : Int) < l.length := by omega
      have HT : Hid (anyOut s l = false) := by have := HA.out; rwa [List.take_of_length_le (by omega)] at this
      clear g3 hlk hnx htk
      go_wp2
      go_ret
      exact ⟨_, rfl, by rw [HT.out]; decide, HB⟩

theorem containsFunc_any {w : World} {p h : Nat} {s : Fr} (H : PAt w p h s) (hk : FrOk s) (v : Value) (l : List Int) (hr : RdI w v l) :
    Calls Tryz.prog 61 #[v, .func (.func 62) #[ptr p] #[]] w fun e w' => e = .returned (.bool (anyOut s l)) ∧ Below w.heap.size w w' := by
  have hl := indexFunc_any H hk v l hr
  unfold ptr at *
  go_enter Tryz.func61, Tryz.ntmps61
  go_wp2_with fail
  refine hl.mono ?_
  rintro e w1 ⟨r, rfl, h1, h2⟩
  have HT : Hid (decide (0 ≤ r) = anyOut s l) := h1
  clear h1 hl
  go_wp2
  go_ret
  exact ⟨by rw [← HT.out]; rfl, h2⟩

/-- Those of the list taken, one by one; none: one stands there twice. -/
def takeAll (lo : Nat) : List Nat → List Int → Option (List Nat)
  | ks, [] => some ks
  | ks, x :: l => if ks.getD (x - lo).toNat 0 = 2 then none else takeAll lo (ks.set (x - lo).toNat 2) l

def fresh (lo n : Nat) : Fr := ⟨lo, List.replicate n 1⟩

theorem drop_at {l : List Int} {i : Nat} {x : Int} (h : l[i]? = some x) : l.drop i = x :: l.drop (i + 1) := by
  obtain ⟨hi, e⟩ := List.getElem?_eq_some_iff.1 h
  rw [List.drop_eq_getElem_cons hi, e]

theorem fresh_ok {lo n : Nat} (h1 : 1 ≤ n) (h2 : lo + n ≤ 1024) : FrOk (fresh lo n) :=
  ⟨by simp [fresh]; omega, by simpa [fresh] using h2, fun k hk => by rw [List.eq_of_mem_replicate hk]; omega⟩

theorem set_ok {lo : Nat} {ks : List Nat} (h : FrOk ⟨lo, ks⟩) (j v : Nat) (hv : 1 ≤ v ∧ v ≤ 3) : FrOk ⟨lo, ks.set j v⟩ :=
  ⟨by simpa using h.any, by simpa using h.most, fun k hk => by
    rcases List.mem_or_eq_of_mem_set hk with h1 | h1
    · exact h.kinds k h1
    · rw [h1]; exact hv⟩

theorem new_arg (w : World) (a b : Int) (v : Value) (h : a < 0 ∨ b ≤ a ∨ 1024 < b) : Calls Tryz.prog 30 #[.int .i64 a, .int .i64 b, v] w fun e w' => e = .returned (.tuple #[.pointer none, .int .i64 1]) ∧ w' = w := by
  by_cases h1 : a < 0
  · go_enter Tryz.func30, Tryz.ntmps30
    go_wp2
    go_ret2
    exact ⟨rfl, rfl⟩
  · by_cases h2 : b ≤ a
    · go_enter Tryz.func30, Tryz.ntmps30
      go_wp2
      go_ret2
      exact ⟨rfl, rfl⟩
    · have h3 : 1024 < b := by omega
      go_enter Tryz.func30, Tryz.ntmps30
      go_wp2
      go_ret2
      exact ⟨rfl, rfl⟩

/-- What New tells, and what it leaves. -/
def NewOut (w : World) (lo n : Nat) (l : List Int) (e : Ending) (w' : World) : Prop :=
  Below w.heap.size w w' ∧
      ((anyOut (fresh lo n) l = true ∧ e = .returned (.tuple #[.pointer none, .int .i64 1])) ∨
       (anyOut (fresh lo n) l = false ∧ takeAll lo (List.replicate n 1) l = none ∧ e = .returned (.tuple #[.pointer none, .int .i64 6])) ∨
       (anyOut (fresh lo n) l = false ∧ ∃ ks p h, takeAll lo (List.replicate n 1) l = some ks ∧ e = .returned (.tuple #[ptr p, .int .i64 0]) ∧ PAt w' p h ⟨lo, ks⟩ ∧ FrOk ⟨lo, ks⟩ ∧ w.heap.size ≤ p ∧ w.heap.size ≤ h))

set_option maxHeartbeats 4000000 in
theorem new_ok (w : World) (lo n : Nat) (h1 : 1 ≤ n) (h2 : lo + n ≤ 1024) (v : Value) (l : List Int) (hr : RdI w v l) :
    Calls Tryz.prog 30 #[.int .i64 lo, .int .i64 (lo + n), v] w fun e w' => NewOut w lo n l e w' := by
  have hr0 := hr
  obtain ⟨a, lc, rfl, g1, g2, g3⟩ := hr
  unfold maxLen at g2
  have i1 : ¬ (lo : Int) < 0 := by omega
  have i2 : ¬ (lo : Int) + n ≤ lo := by omega
  have i3 : ¬ (1024 : Int) < (lo : Int) + n := by omega
  have wd : IntKind.wrap .i64 ((lo : Int) + n - lo) = (n : Int) := by simp [IntKind.wrap, IntKind.bits, IntKind.signed]; omega
  have hBa : Below w.heap.size w (w.alloc (.cells #[.int .i64 1] 111)) := (Below.refl _ w).alloc (Nat.le_refl _) _
  have hga := heap_alloc_new w (.cells #[.int .i64 1] 111)
  have hrp := repeat_any (w.alloc (.cells #[.int .i64 1] 111)) w.heap.size n h1 (by omega) (cell_of_row _ _ 0 _ _ (0, 0) hga) (Array.getElem?_eq_some_iff.1 hga).1
  rw [World.size_alloc] at hrp
  clear hga
  go_enter Tryz.func30, Tryz.ntmps30
  go_wp2_with fail
  refine hrp.mono ?_
  clear hrp wd
  rintro e w2 ⟨rfl, hg2, hb2⟩
  have hBb : Below w.heap.size w w2 := hBa.trans (hb2.mono (by omega))
  have hz2 : w.heap.size + 1 < w2.heap.size := (Array.getElem?_eq_some_iff.1 hg2).1
  obtain ⟨W3, hW3⟩ : ∃ W3, w2.alloc (.cells #[.int .i64 lo, .slice (some ⟨w.heap.size + 1, 0, none⟩) n n] 113) = W3 := ⟨_, rfl⟩
  have hb3 : Below w2.heap.size w2 W3 := by rw [← hW3]; exact (Below.refl _ w2).alloc (Nat.le_refl _) _
  have hg3 : W3.heap[w2.heap.size]? = some (.cells #[.int .i64 lo, .slice (some ⟨w.heap.size + 1, 0, none⟩) n n] 113 (0, 0)) := by rw [← hW3]; exact heap_alloc_new w2 _
  have hok := fresh_ok h1 h2
  have H3 : PAt W3 w2.heap.size (w.heap.size + 1) (fresh lo n) := by
    refine ⟨n, (repC n n).toArray, ?_, (hb3.block _ hz2).trans hg2, by simp [fresh], by unfold maxLen; omega, by omega, fun i k hk => ?_⟩
    · simpa [fresh] using hg3
    · unfold fresh at hk
      dsimp only at hk
      rw [List.getElem?_replicate] at hk
      split at hk
      · rename_i hi
        cases hk
        rw [List.getElem?_toArray]
        unfold repC
        rw [List.getElem?_append_left (by simpa using hi), List.getElem?_replicate, if_pos hi]
        rfl
      · cases hk
  have hB3 : Below w.heap.size w W3 := hBb.trans (hb3.mono hBb.size)
  have hcf := containsFunc_any H3 hok _ l (hr0.below hB3)
  unfold ptr at hcf
  clear hg3 hg2 hb2 hBa hBb hr0
  go_wp2_with fail
  refine hcf.mono ?_
  clear hcf hW3
  rintro e w4 ⟨rfl, hb4⟩
  have H4 : PAt w4 w2.heap.size (w.heap.size + 1) ⟨lo, List.replicate n 1⟩ := FrAt.below H3 hb4
  have hB4 : Below w.heap.size w w4 := hB3.trans (hb4.mono hB3.size)
  clear H3 hb4 hb3 hB3
  cases hany : anyOut (fresh lo n) l with
  | true =>
    have HT : Hid (anyOut (fresh lo n) l = true) := hany
    clear hany H4
    go_wp2
    go_ret2
    unfold NewOut
    exact ⟨hB4, .inl ⟨HT.out, rfl⟩⟩
  | false =>
    have HT : Hid (anyOut (fresh lo n) l = false) := hany
    have hall : ∀ x ∈ l, (lo : Int) ≤ x ∧ x < lo + n := fun x hx => by
      have := List.any_eq_false.1 hany x hx
      unfold lacksB fresh at this
      simpa using this
    clear hany
    go_wp2
    go_loopw [10, 36] (fun q t wr => ∃ (i : Nat) (ks : List Nat), i ≤ l.length ∧ t = .int .i64 i ∧ ks.length = n ∧ Hid (takeAll lo (List.replicate n 1) l = takeAll lo ks (l.drop i)) ∧ Hid (PAt wr w2.heap.size (w.heap.size + 1) ⟨lo, ks⟩) ∧ FrOk ⟨lo, ks⟩ ∧ Below w.heap.size w wr) (fun _ t _ => l.length - (Go.RowKit.intOf t).toNat)
    case atStart => exact ⟨0, List.replicate n 1, Nat.zero_le _, rfl, by simp, rfl, H4, hok, hB4⟩
    case round =>
      clear H4 hB4 hok
      obtain ⟨i, ks, hi, rfl, hkl, HA, HP, hko, HB⟩ := hrel
      obtain ⟨wA, hA⟩ : ∃ wA, wA = wr := ⟨_, rfl⟩
      subst hA
      by_cases hlt : i < l.length
      · have hltI : (i : Int) < l.length := by omega
        obtain ⟨b, off, rfl, hb, hcs⟩ := g3 (by omega)
        have hx : l[i]? = some l[i] := List.getElem?_eq_getElem hlt
        have hcx := (HB.cell (p := ⟨b, off + i, none⟩) hb).trans (hcs i _ hx)
        obtain ⟨x1, x2⟩ := hall l[i] (List.getElem_mem hlt)
        have hdr := drop_at hx
        have hki := kindOf_any HP.out hko l[i]
        generalize l[i] = x at *
        obtain ⟨j, rfl⟩ : ∃ j : Nat, x = ((lo : Int) + j) := ⟨(x - lo).toNat, by omega⟩
        have hjn : j < n := by omega
        have hjl : j < ks.length := by omega
        have hkv : kindOfN ⟨lo, ks⟩ ((lo : Int) + j) = ks.getD j 0 := by
          unfold kindOfN
          dsimp only
          rw [if_pos ⟨by omega, by omega⟩, show ((lo : Int) + j - lo).toNat = j from by omega]
        rw [hkv] at hki
        unfold ptr at hki
        have hto : takeAll lo ks (l.drop i) = if ks.getD j 0 = 2 then none else takeAll lo (ks.set j 2) (l.drop (i + 1)) := by
          rw [hdr]
          conv => lhs; unfold takeAll
          rw [show ((lo : Int) + j - lo).toNat = j from by omega]
        have hwj : IntKind.wrap .i64 ((lo : Int) + j - lo) = (j : Int) := by simp [IntKind.wrap, IntKind.bits, IntKind.signed]; omega
        clear hcs g3 hx hdr hkv
        go_wp2_with fail
        refine hki.mono ?_
        clear hki
        rintro e w5 ⟨rfl, hb5⟩
        have HB5 := HB.trans (hb5.mono HB.size)
        have H5 : PAt w5 w2.heap.size (w.heap.size + 1) ⟨lo, ks⟩ := FrAt.below HP.out hb5
        obtain ⟨cap, c0, c1, k1, k2, hp, hh, hne, hc⟩ := FrAt.opened H5
        dsimp only at c0 c1 k1 hc
        by_cases h22 : ks.getD j 0 = 2
        · have HN : Hid (takeAll lo (List.replicate n 1) l = none) := by unfold Hid; rw [HA.out, hto, if_pos h22]
          rw [h22]
          clear hto HA hc c0 c1 H5 HP h22
          go_wp2
          go_ret2
          unfold NewOut
          exact ⟨HB5, .inr (.inl ⟨HT.out, HN.out, rfl⟩)⟩
        · have HA' : Hid (takeAll lo (List.replicate n 1) l = takeAll lo (ks.set j 2) (l.drop (i + 1))) := by unfold Hid; rw [HA.out, hto, if_neg h22]
          have h22I : ¬ ((ks.getD j 0 : Nat) : Int) = 2 := by omega
          obtain ⟨hcj, hfj⟩ := hc j _ (List.getElem?_eq_getElem hjl)
          have HP' : Hid (PAt (w5.setCell ⟨w.heap.size + 1, j, none⟩ (.int .i64 2)) w2.heap.size (w.heap.size + 1) ⟨lo, ks.set j 2⟩) := FrAt.put H5 j 2
          have hko' := set_ok hko j 2 (by omega)
          generalize ks.getD j 0 = K at *
          generalize ks[j] = K' at *
          rw [hkl] at c1
          have hjI : (j : Int) < n := by omega
          clear hto HA hc H5 HP h22
          go_wp2_with fail
          go_roundw
          case rel => exact ⟨i + 1, ks.set j 2, by omega, by go_num, by rw [List.length_set]; exact hkl, HA', HP', hko', HB5.setCell (p := ⟨w.heap.size + 1, j, none⟩) (by simp) _⟩
          case measure => simp [Go.RowKit.intOf]; omega
      · have hltI : ¬ (i : Int) < l.length := by omega
        have HS : Hid (takeAll lo (List.replicate n 1) l = some ks) := by
          unfold Hid
          rw [HA.out, List.drop_of_length_le (by omega)]
          rfl
        have hzw : w.heap.size ≤ w2.heap.size := by omega
        clear g3 hall HA
        go_wp2
        go_ret2
        unfold NewOut
        exact ⟨HB, .inr (.inr ⟨HT.out, ks, _, _, HS.out, rfl, HP.out, hko, hzw, by omega⟩)⟩

def turnF (s : Fr) (i : Int) (to : Nat) : Fr := if kindOfN s i = 2 then ⟨s.lo, s.ks.set (i - s.lo).toNat to⟩ else s
def turnE (s : Fr) (i : Int) : Int := if kindOfN s i = 2 then 0 else 4

set_option maxHeartbeats 2000000 in
theorem release_any {w : World} {p h : Nat} {s : Fr} (H : PAt w p h s) (hk : FrOk s) (i : Int) (to : Nat) (hto : to ≤ 3) :
    Calls Tryz.prog 72 #[ptr p, .int .i64 i, .int .i64 to] w fun e w' => e = .returned (.int .i64 (turnE s i)) ∧ PAt w' p h (turnF s i to) ∧ Sole [h] w w' := by
  have hl := kindOf_any H hk i
  unfold ptr at *
  unfold turnE turnF
  by_cases d : kindOfN s i = 2
  · rw [if_pos d, if_pos d]
    rw [d] at hl
    have hin : s.lo ≤ i ∧ i < s.lo + s.ks.length := by
      unfold kindOfN at d
      split at d
      · assumption
      · cases d
    obtain ⟨j, hj⟩ : ∃ j : Nat, i = s.lo + j := ⟨(i - s.lo).toNat, by omega⟩
    have hjl : j < s.ks.length := by omega
    rw [show (i - s.lo).toNat = j from by omega]
    have hm := hk.most
    have hg : ∃ k, s.ks[j]? = some k := ⟨_, List.getElem?_eq_getElem hjl⟩
    obtain ⟨k, hg⟩ := hg
    subst hj
    clear hk hin d
    obtain ⟨lo, ks⟩ := s
    dsimp only at *
    go_enter Tryz.func72, Tryz.ntmps72
    go_wp2_with fail
    refine hl.mono ?_
    clear hl
    rintro e w1 ⟨rfl, hb1⟩
    have H1 : PAt w1 p h ⟨lo, ks⟩ := FrAt.below H hb1
    obtain ⟨cap, c0, c1, h1, h2, hp, hh, hne, hc⟩ := FrAt.opened H1
    dsimp only at *
    obtain ⟨hcj, hfj⟩ := hc j k hg
    have HP : Hid (PAt (w1.setCell ⟨h, j, none⟩ (.int .i64 to)) p h ⟨lo, ks.set j to⟩) := FrAt.put H1 j to
    have q0 : ∀ W, Sole [h] w1 W → W.cell? ⟨p, 0, none⟩ = some (.int .i64 lo) := fun W hW => (World.cell?_of_block (a := ⟨p, 0, none⟩) (hW.block p hp (by simpa using hne))).trans c0
    have q1 : ∀ W, Sole [h] w1 W → W.cell? ⟨p, 1, none⟩ = some (.slice (some ⟨h, 0, none⟩) ks.length cap) := fun W hW => (World.cell?_of_block (a := ⟨p, 1, none⟩) (hW.block p hp (by simpa using hne))).trans c1
    clear hc hg H H1 c0 c1
    generalize ks.length = n at *
    have hwj : IntKind.wrap .i64 ((lo : Int) + j - lo) = (j : Int) := by simp [IntKind.wrap, IntKind.bits, IntKind.signed]; omega
    have hjI : (j : Int) < n := by omega
    go_wp2_with fail
    refine wp_region_noPanic ?_
    refine wp_region_held_drew (S := fun W => Sole [h] w1 W) (by kernel_rfl) (Sole.drew _ _) (fun hHeld => ?_)
    refine wpAnyH_take (i := 0) (v := .pointer (some ⟨p, 0, none⟩)) rfl (by kernel_rfl) (by kernel_rfl) (by kernel_rfl) (fun _ _ _ h => h) (Or.inl ⟨by rfl, fun W hSw => by (try dsimp only at hSw); go_simp⟩) (by assumption) ?_
    simp only [List.getElem_toArray, List.getElem_cons_zero, List.getElem_cons_succ, Act.put, List.setIfInBounds_toArray, List.set_cons_zero, List.set_cons_succ]
    refine wpAnyH_take (i := 1) (v := .pointer (some ⟨p, 0, none⟩)) rfl (by kernel_rfl) (by kernel_rfl) (by kernel_rfl) (fun _ _ _ h => h) (Or.inl ⟨by rfl, fun W hSw => by (try dsimp only at hSw); go_simp⟩) (by assumption) ?_
    simp only [List.getElem_toArray, List.getElem_cons_zero, List.getElem_cons_succ, Act.put, List.setIfInBounds_toArray, List.set_cons_zero, List.set_cons_succ]
    refine wpAnyH_take (i := 2) (v := .pointer (some ⟨p, 1, none⟩)) rfl (by kernel_rfl) (by kernel_rfl) (by kernel_rfl) (fun _ _ _ h => h) (Or.inl ⟨by rfl, fun W hSw => by (try dsimp only at hSw); go_simp⟩) (by assumption) ?_
    simp only [List.getElem_toArray, List.getElem_cons_zero, List.getElem_cons_succ, Act.put, List.setIfInBounds_toArray, List.set_cons_zero, List.set_cons_succ]
    refine wpAnyH_take (i := 3) (v := .slice (some ⟨h, 0, none⟩) n cap) rfl (by kernel_rfl) (by kernel_rfl) (by kernel_rfl) (fun _ _ _ h => h) (Or.inl ⟨by rfl, fun W hSw => by (try dsimp only at hSw); go_simp⟩) (by assumption) ?_
    simp only [List.getElem_toArray, List.getElem_cons_zero, List.getElem_cons_succ, Act.put, List.setIfInBounds_toArray, List.set_cons_zero, List.set_cons_succ]
    refine wpAnyH_take (i := 4) (v := .int .i64 (lo + j)) rfl (by kernel_rfl) (by kernel_rfl) (by kernel_rfl) (fun _ _ _ h => h) (Or.inl ⟨by rfl, fun W hSw => by (try dsimp only at hSw); go_simp⟩) (by assumption) ?_
    simp only [List.getElem_toArray, List.getElem_cons_zero, List.getElem_cons_succ, Act.put, List.setIfInBounds_toArray, List.set_cons_zero, List.set_cons_succ]
    refine wpAnyH_take (i := 5) (v := .pointer (some ⟨p, 0, none⟩)) rfl (by kernel_rfl) (by kernel_rfl) (by kernel_rfl) (fun _ _ _ h => h) (Or.inl ⟨by rfl, fun W hSw => by (try dsimp only at hSw); go_simp⟩) (by assumption) ?_
    simp only [List.getElem_toArray, List.getElem_cons_zero, List.getElem_cons_succ, Act.put, List.setIfInBounds_toArray, List.set_cons_zero, List.set_cons_succ]
    refine wpAnyH_take (i := 6) (v := .pointer (some ⟨p, 0, none⟩)) rfl (by kernel_rfl) (by kernel_rfl) (by kernel_rfl) (fun _ _ _ h => h) (Or.inl ⟨by rfl, fun W hSw => by (try dsimp only at hSw); go_simp⟩) (by assumption) ?_
    simp only [List.getElem_toArray, List.getElem_cons_zero, List.getElem_cons_succ, Act.put, List.setIfInBounds_toArray, List.set_cons_zero, List.set_cons_succ]
    refine wpAnyH_take (i := 7) (v := .pointer (some ⟨p, 0, none⟩)) rfl (by kernel_rfl) (by kernel_rfl) (by kernel_rfl) (fun _ _ _ h => h) (Or.inl ⟨by rfl, fun W hSw => by (try dsimp only at hSw); go_simp⟩) (by assumption) ?_
    simp only [List.getElem_toArray, List.getElem_cons_zero, List.getElem_cons_succ, Act.put, List.setIfInBounds_toArray, List.set_cons_zero, List.set_cons_succ]
    refine wpAnyH_take (i := 8) (v := .int .i64 lo) rfl (by kernel_rfl) (by kernel_rfl) (by kernel_rfl) (fun _ _ _ h => h) (Or.inl ⟨by rfl, fun W hSw => by (try dsimp only at hSw); go_simp⟩) (by assumption) ?_
    simp only [List.getElem_toArray, List.getElem_cons_zero, List.getElem_cons_succ, Act.put, List.setIfInBounds_toArray, List.set_cons_zero, List.set_cons_succ]
    refine wpAnyH_take (i := 9) (v := .int .i64 j) rfl (by kernel_rfl) (by kernel_rfl) (by kernel_rfl) (fun _ _ _ h => h) (Or.inl ⟨by rfl, fun W hSw => by (try dsimp only at hSw); (go_simp <;> rw [hwj])⟩) (by assumption) ?_
    simp only [List.getElem_toArray, List.getElem_cons_zero, List.getElem_cons_succ, Act.put, List.setIfInBounds_toArray, List.set_cons_zero, List.set_cons_succ]
    refine wpAnyH_take (i := 10) (v := .int .i64 to) rfl (by kernel_rfl) (by kernel_rfl) (by kernel_rfl) (fun _ _ _ h => h) (Or.inl ⟨by rfl, fun W hSw => by (try dsimp only at hSw); go_simp⟩) (by assumption) ?_
    simp only [List.getElem_toArray, List.getElem_cons_zero, List.getElem_cons_succ, Act.put, List.setIfInBounds_toArray, List.set_cons_zero, List.set_cons_succ]
    refine wpAnyH_take (i := 11) (v := .pointer (some ⟨h, j, none⟩)) rfl (by kernel_rfl) (by kernel_rfl) (by kernel_rfl) (fun _ _ _ h => h) (Or.inl ⟨by rfl, fun W hSw => by (try dsimp only at hSw); go_simp⟩) (by assumption) ?_
    simp only [List.getElem_toArray, List.getElem_cons_zero, List.getElem_cons_succ, Act.put, List.setIfInBounds_toArray, List.set_cons_zero, List.set_cons_succ]
    refine wpAnyH_ready (rs := [12]) (by kernel_rfl) (by simp) ?_
    refine AllReadyH.cons rfl (fun K hK => ?_) AllReadyH.nil
    go_simp
    go_wp2
    have hS2 : Sole [h] w1 (w1.drew.setCell ⟨h, j, none⟩ (.int .i64 to)) := (Sole.drew w1 [h]).trans (Sole.setCell _ _ (by simp))
    refine hK.out _ _ hS2 (fun hHeld2 => ?_)
    clear hK K
    refine wpAnyH_done (by kernel_rfl) ?_ _
    refine NoPanic.normal ?_
    clear q0 q1
    go_wp2
    go_ret
    exact ⟨rfl, FrAt.below HP.out (Below.refl _ _).drew, (Sole.of_below hb1 [h]).trans hS2⟩
  · rw [if_neg d, if_neg d]
    have d' : ¬ (kindOfN s i : Int) = 2 := by omega
    generalize kindOfN s i = K at *
    go_enter Tryz.func72, Tryz.ntmps72
    go_wp2_with fail
    refine hl.mono ?_
    rintro e w1 ⟨rfl, hb1⟩
    go_wp2
    go_ret
    exact ⟨rfl, FrAt.below H hb1, Sole.of_below hb1 [h]⟩

theorem give_any {w : World} {p h : Nat} {s : Fr} (H : PAt w p h s) (hk : FrOk s) (i : Int) :
    Calls Tryz.prog 38 #[ptr p, .int .i64 i] w fun e w' => e = .returned (.int .i64 (turnE s i)) ∧ PAt w' p h (turnF s i 1) ∧ Sole [h] w w' := by
  have hl := release_any H hk i 1 (by omega)
  unfold ptr at *
  generalize turnE s i = E at *
  go_enter Tryz.func38, Tryz.ntmps38
  go_wp2_with fail
  refine hl.mono ?_
  rintro e w1 ⟨rfl, h1, h2⟩
  go_wp2
  go_ret
  exact ⟨rfl, h1, h2⟩

theorem defer_any {w : World} {p h : Nat} {s : Fr} (H : PAt w p h s) (hk : FrOk s) (i : Int) :
    Calls Tryz.prog 43 #[ptr p, .int .i64 i] w fun e w' => e = .returned (.int .i64 (turnE s i)) ∧ PAt w' p h (turnF s i 3) ∧ Sole [h] w w' := by
  have hl := release_any H hk i 3 (by omega)
  unfold ptr at *
  generalize turnE s i = E at *
  go_enter Tryz.func43, Tryz.ntmps43
  go_wp2_with fail
  refine hl.mono ?_
  rintro e w1 ⟨rfl, h1, h2⟩
  go_wp2
  go_ret
  exact ⟨rfl, h1, h2⟩

def firstB (ks : List Nat) (N b : Nat) : Bool := (List.range N).all (fun j => ks.getD (b + j) 0 == 1) && (List.range b).all (fun i => !(List.range N).all (fun j => ks.getD (i + j) 0 == 1))

theorem firstB_ok {ks : List Nat} {N b : Nat} (h : firstB ks N b = true) : IsFirst ks N (some b) := by
  unfold firstB at h
  rw [Bool.and_eq_true] at h
  refine ⟨fun j hj => ?_, fun i hi hr => ?_⟩
  · exact eq_of_beq (List.all_eq_true.1 h.1 j (List.mem_range.2 hj))
  · have h2 := List.all_eq_true.1 h.2 i (List.mem_range.2 hi)
    rw [Bool.not_eq_true', ← Bool.not_eq_true] at h2
    exact h2 (List.all_eq_true.2 fun j hj => by rw [hr j (List.mem_range.1 hj)]; rfl)

theorem rdI_one {W : World} {g : Nat} {x : Int} (hg : W.heap[g]? = some (.cells #[.int .i64 x] 3 (0, 0))) : RdI W (.slice (some ⟨g, 0, none⟩) 1 1) [x] := by
  refine ⟨_, 1, rfl, Nat.le_refl _, by decide, fun _ => ⟨g, 0, rfl, (Array.getElem?_eq_some_iff.1 hg).1, fun i y hy => ?_⟩⟩
  match i, hy with
  | 0, hy =>
    simp at hy
    subst hy
    exact cell_of_row W g 0 _ _ (0, 0) hg
  | i + 1, hy => simp at hy

theorem rdI_nil (W : World) : RdI W (.slice none 0 0) [] := ⟨none, 0, rfl, by decide, by decide, fun h => by simp at h⟩

/-- A row of the call's own, cell by cell. -/
theorem natC_at {W : World} {base : Nat} {u : Value} {l : List Nat} (h : W.ownsRow base 3 1 u l.length (natC l)) (hp : 0 < l.length) : ∃ g c, u = .slice (some ⟨g, 0, none⟩) l.length c ∧ base ≤ g ∧ g < W.heap.size ∧ ∀ (i x : Nat), l[i]? = some x → W.cell? ⟨g, i, none⟩ = some (.int .i64 x) := by
  rcases h.2 with ⟨rfl, h0⟩ | ⟨g, cap, cur, rfl, hb, hg, hn, hm, hs, ht⟩
  · omega
  · refine ⟨g, cap, rfl, hb, (Array.getElem?_eq_some_iff.1 hg).1, fun i x hx => ?_⟩
    rw [cell_of_row W _ i _ _ (0, 0) hg]
    have hi : i < l.length := (List.getElem?_eq_some_iff.1 hx).1
    have e : (natC l)[i]? = some (.int .i64 x) := by unfold natC; rw [List.getElem?_map, hx]; rfl
    rw [← ht, List.getElem?_take, if_pos (by omega), Array.getElem?_toList] at e
    exact e

/-- 1 + (x % m + m) % m as the program counts it. -/
theorem mod_plus (x : Int) (m : Nat) (h1 : -9223372036854775808 ≤ x) (h2 : x ≤ 9223372036854775807) (hm : 0 < m) (hm2 : m ≤ 1000) : ∃ r : Nat, wrap64 (1 + (wrap64 (x.tmod m + m)).tmod m) = (r : Int) ∧ 1 ≤ r ∧ r ≤ m := by
  have t1 := Int.tmod_lt_of_pos x (show (0 : Int) < m by omega)
  have t2 := Int.lt_tmod_of_pos x (show (0 : Int) < m by omega)
  have e : wrap64 (x.tmod m + m) = x.tmod m + m := by unfold wrap64; omega
  rw [e, Int.tmod_eq_emod_of_nonneg (by omega)]
  have p1 := Int.emod_nonneg (x.tmod m + m) (show (m : Int) ≠ 0 by omega)
  have p2 := Int.emod_lt_of_pos (x.tmod m + m) (show (0 : Int) < m by omega)
  generalize (x.tmod m + m) % m = y at *
  have e2 : wrap64 (1 + y) = 1 + y := by unfold wrap64; omega
  rw [e2]
  exact ⟨(1 + y).toNat, by omega, by omega, by omega⟩

theorem rdI_own {W : World} {base : Nat} {u : Value} {l : List Nat} (h : W.ownsRow base 3 1 u l.length (natC l)) {q : Nat} (hq : q < base) {W' : World} (hS : Sole [q] W W') : RdI W' u (l.map (fun (x : Nat) => (x : Int))) := by
  rcases Nat.eq_zero_or_pos l.length with h0 | hp
  · obtain ⟨a, c, rfl⟩ := rowI_slice h
    have hc : c ≤ maxLen := by
      rcases h.2 with ⟨e, _⟩ | ⟨q, cap, cur, e, _, _, h1, h2, _⟩
      · simp only [Value.slice.injEq] at e; obtain ⟨_, _, rfl⟩ := e; decide
      · simp only [Value.slice.injEq] at e; obtain ⟨_, _, rfl⟩ := e; exact h2
    have hl : l = [] := List.length_eq_zero_iff.1 h0
    subst hl
    exact ⟨a, c, rfl, Nat.zero_le _, hc, fun h => by simp at h⟩
  · have hc : ∀ a c, u = .slice a l.length c → l.length ≤ c ∧ c ≤ maxLen := fun a c e0 => by
      rcases h.2 with ⟨e, h0⟩ | ⟨q, cap, cur, e, _, _, h1, h2, _⟩
      · omega
      · rw [e0] at e; simp only [Value.slice.injEq] at e; obtain ⟨_, _, rfl⟩ := e; exact ⟨h1, h2⟩
    obtain ⟨g, c, rfl, h1, h2, h3⟩ := natC_at h hp
    obtain ⟨k1, k2⟩ := hc _ _ rfl
    refine ⟨some ⟨g, 0, none⟩, c, by rw [List.length_map], by rw [List.length_map]; exact k1, k2, fun _ => ⟨g, 0, rfl, Nat.lt_of_lt_of_le h2 hS.size, fun i x hx => ?_⟩⟩
    rw [List.getElem?_map] at hx
    cases hy : l[i]? with
    | none => rw [hy] at hx; cases hx
    | some y =>
      rw [hy] at hx
      simp only [Option.map_some, Option.some.injEq] at hx
      subst hx
      rw [World.cell?_of_block (w := W) (a := ⟨g, 0 + i, none⟩) (hS.block g h2 (by simp; omega)), Nat.zero_add]
      exact h3 i y hy

theorem sweepK_get (s : Fr) (l : List Int) (i : Nat) (hi : i < s.ks.length) : ∀ j, j ≤ s.ks.length → (sweepK s l j).getD i 0 = if i < j ∧ s.ks.getD i 0 = 3 ∧ ¬ ((s.lo + i : Nat) : Int) ∈ l then 1 else s.ks.getD i 0 := by
  intro j
  induction j with
  | zero => intro _; rw [if_neg (by omega)]; rfl
  | succ j ih =>
    intro hj
    have ih := ih (by omega)
    unfold sweepK
    by_cases e : i = j
    · subst e
      rw [if_neg (by omega)] at ih
      by_cases hd : s.ks.getD i 0 = 3 ∧ ¬ ((s.lo + i : Nat) : Int) ∈ l
      · rw [if_pos hd, if_pos ⟨by omega, hd⟩, List.getD_eq_getElem?_getD, List.getElem?_set_self (by rw [sweepK_len]; exact hi)]
        rfl
      · rw [if_neg hd, if_neg (fun h => hd h.2)]
        exact ih
    · have hs : ∀ v, ((sweepK s l j).set j v).getD i 0 = (sweepK s l j).getD i 0 := fun v => by
        rw [List.getD_eq_getElem?_getD, List.getElem?_set_ne (by omega), List.getD_eq_getElem?_getD]
      have hif : ((if s.ks.getD j 0 = 3 ∧ ¬ ((s.lo + j : Nat) : Int) ∈ l then (sweepK s l j).set j 1 else sweepK s l j)).getD i 0 = (sweepK s l j).getD i 0 := by
        split
        · exact hs 1
        · rfl
      rw [hif, ih]
      by_cases hd : s.ks.getD i 0 = 3 ∧ ¬ ((s.lo + i : Nat) : Int) ∈ l
      · by_cases hlt : i < j
        · rw [if_pos ⟨hlt, hd⟩, if_pos ⟨by omega, hd⟩]
        · rw [if_neg (fun h => hlt h.1), if_neg (fun h => by have := h.1; omega)]
      · rw [if_neg (fun h => hd h.2), if_neg (fun h => hd h.2)]

theorem sweep_ok {s : Fr} (h : FrOk s) (l : List Int) : FrOk (sweepF s l) := by
  refine ⟨by show 0 < (sweepK s l s.ks.length).length; rw [sweepK_len]; exact h.any, by show s.lo + (sweepK s l s.ks.length).length ≤ 1024; rw [sweepK_len]; exact h.most, fun k hk => ?_⟩
  obtain ⟨i, hi, e⟩ := List.mem_iff_getElem.1 hk
  have hi' : i < s.ks.length := by have := hi; rw [show (sweepF s l).ks = sweepK s l s.ks.length from rfl, sweepK_len] at this; exact this
  have hg := sweepK_get s l i hi' s.ks.length (Nat.le_refl _)
  have e2 : (sweepK s l s.ks.length).getD i 0 = k := by
    show (sweepF s l).ks.getD i 0 = k
    rw [List.getD_eq_getElem?_getD, List.getElem?_eq_getElem hi]; exact e
  rw [e2] at hg
  split at hg
  · omega
  · rw [hg, List.getD_eq_getElem?_getD, List.getElem?_eq_getElem hi']
    exact h.kinds _ (List.getElem_mem hi')

/-- What waited waits still just if it was kept. -/
theorem sweep_waits {s : Fr} {l : List Int} {x : Nat} (hx : x ∈ blocksL s 3) : x ∈ blocksL (sweepF s l) 3 ↔ (x : Int) ∈ l := by
  obtain ⟨i, h1, h2, rfl⟩ := upto_mem.1 hx
  have hg := sweepK_get s l i h1 s.ks.length (Nat.le_refl _)
  constructor
  · intro h
    obtain ⟨i', _, h2', e⟩ := upto_mem.1 h
    have : i' = i := by have : (sweepF s l).lo = s.lo := rfl; omega
    subst this
    have h2' : (sweepK s l s.ks.length).getD i' 0 = 3 := h2'
    rw [hg] at h2'
    split at h2'
    · cases h2'
    · rename_i hn
      exact Classical.byContradiction fun q => hn ⟨h1, h2, q⟩
  · intro h
    refine upto_mem.2 ⟨i, by show i < (sweepK s l s.ks.length).length; rw [sweepK_len]; exact h1, ?_, rfl⟩
    show (sweepK s l s.ks.length).getD i 0 = 3
    rw [hg, if_neg (fun q => q.2.2 h)]
    exact h2

/-- What waits lies in no run that is free. -/
theorem run_waits {s : Fr} {N b x : Nat} (hr : RunAt s.ks N b) (hx : x ∈ blocksL s 3) : ¬ (s.lo + b ≤ x ∧ x < s.lo + b + N) := by
  obtain ⟨i, h1, h2, rfl⟩ := upto_mem.1 hx
  rintro ⟨q1, q2⟩
  have := hr (i - b) (by omega)
  rw [show b + (i - b) = i from by omega, h2] at this
  cases this

theorem turn_ok {s : Fr} (h : FrOk s) (i : Int) (to : Nat) (ht : 1 ≤ to ∧ to ≤ 3) : FrOk (turnF s i to) := by
  unfold turnF
  split
  · exact set_ok (lo := s.lo) (ks := s.ks) h _ _ ht
  · exact h

/-- Where the document's map lies. -/
def RAt (w : World) (p h : Nat) (s : Fr) : Prop := FrAt 100 3 (fun k => (k : Int) - 1) w p h s

set_option maxHeartbeats 2000000 in
theorem rall_any {w : World} {p h : Nat} {s : Fr} (H : RAt w p h s) (hk : FrOk s) (k : Nat) (hk1 : 1 ≤ k) :
    Calls Tryz.prog 53 #[ptr p, .int .i64 ((k : Int) - 1)] w fun e w' => ∃ u, e = .returned u ∧ w'.ownsRow w.heap.size 3 1 u (blocksL s k).length (natC (blocksL s k)) ∧ Below w.heap.size w w' := by
  obtain ⟨iI, hii, hi0, hi1, hi2⟩ := info_partsI
  obtain ⟨cap, c0, c1, h1, h2, hp, hh, hne, hc⟩ := FrAt.opened H
  have hm := hk.most
  have hup := upto_next s k
  have hul := upto_len s k
  unfold ptr blocksL
  clear H hk
  obtain ⟨U, hU⟩ : ∃ U : Nat → List Nat, ∀ j, upto s k j = U j := ⟨_, fun _ => rfl⟩
  simp only [hU] at hup hul ⊢
  have hU0 : U 0 = [] := by rw [← hU]; rfl
  clear hU
  have hget : ∀ j, j < s.ks.length → s.ks[j]? = some (s.ks.getD j 0) := fun j hj => by rw [List.getElem?_eq_getElem hj, List.getD_eq_getElem?_getD, List.getElem?_eq_getElem hj]; rfl
  have hc' : ∀ j, j < s.ks.length → w.cell? ⟨h, j, none⟩ = some (.int .i64 ((s.ks.getD j 0 : Nat) - 1 : Int)) := fun j hj => (hc j _ (hget j hj)).1
  clear hc hget
  generalize s.ks.length = n at *
  generalize s.lo = lo at *
  go_enter Tryz.func53, Tryz.ntmps53
  go_wp2
  go_loopw [5, 6, 7, 13] (fun v q1 q2 t wr => ∃ (j : Nat) (a : Option Addr) (c : Nat), j ≤ n ∧ t = .int .i64 j ∧ v = .slice a (U j).length c ∧ World.ownsRow wr w.heap.size 3 1 (.slice a (U j).length c) (U j).length (natC (U j)) ∧ Below w.heap.size w wr) (fun _ _ _ t _ => n - (Go.RowKit.intOf t).toNat)
  case atStart => exact ⟨0, none, 0, Nat.zero_le _, rfl, by rw [hU0]; rfl, by rw [hU0]; exact World.ownsRow_nil _ _ _ _, Below.refl _ _⟩
  case round =>
    obtain ⟨j, a, c, hj, rfl, rfl, hown, HB⟩ := hrel
    obtain ⟨wA, hA⟩ : ∃ wA, wA = wr := ⟨_, rfl⟩
    subst hA
    have hsz := HB.size
    by_cases hlt : j < n
    · have hltI : (j : Int) < n := by omega
      have x0 := (HB.cell (p := ⟨p, 0, none⟩) hp).trans c0
      have xj := (HB.cell (p := ⟨h, j, none⟩) hh).trans (hc' j hlt)
      have hnx := hup j
      have hlj := hul j
      clear c0 c1 hc' hup
      by_cases hK : s.ks.getD j 0 = k
      · have hK' : ((s.ks.getD j 0 : Nat) : Int) - 1 = (k : Int) - 1 := by omega
        rw [if_pos hK] at hnx
        generalize s.ks.getD j 0 = K at *
        clear hK
        obtain ⟨W2, hW2⟩ : ∃ W2, wA.alloc (.cells #[.int .i64 (lo + j)] 3) = W2 := ⟨_, rfl⟩
        have hb2 : Below wA.heap.size wA W2 := by rw [← hW2]; exact (Below.refl _ wA).alloc (Nat.le_refl _) _
        have hz2 : W2.heap.size = wA.heap.size + 1 := by rw [← hW2]; simp
        have hnew : W2.heap[wA.heap.size]? = some (.cells #[.int .i64 (lo + j)] 3 (0, 0)) := by rw [← hW2]; exact heap_alloc_new wA _
        have hown2 := rowI_below hown hb2
        have hul' := hul
        clear hul
        generalize hUL : (U j).length = L at *
        go_wp2_with (at_builtin; refine wpList_append_own W2 rfl _ _ 22 rfl w.heap.size 3 iI (.int .i64 0) 1 8 Tryz.underlying22 hii hi0 hi1 hi2 rfl (by decide) _ L (natC (U j)) rfl hown2 ⟨wA.heap.size, 0, none⟩ 1 1 [.int .i64 (lo + j)] rfl rfl (oneI hnew) (by simp [Value.oneCell']) (by unfold maxLen; omega) (by omega) (by omega) ?_; intro v3 w3 ho3 hg4 _; obtain ⟨a3, c3, rfl⟩ := rowI_slice ho3)
        have hb3 : Below w.heap.size w w3 := HB.trans ((hb2.mono hsz).trans ((Below.refl w.heap.size W2).grown hg4 (by omega) (fun q hq => (World.ownsRow.lt hown2 q hq).1)))
        have hl1 : (U (j + 1)).length = L + 1 := by rw [hnx, List.length_append, hUL]; rfl
        have hn1 : natC (U (j + 1)) = natC (U j) ++ [.int .i64 (lo + j)] := by rw [hnx]; simp [natC]
        clear hown hown2 hg4 hnew
        go_wp2_with fail
        go_roundw
        case rel => exact ⟨j + 1, a3, c3, by omega, by go_num, by rw [hl1], by rw [hl1, hn1]; exact ho3, hb3⟩
        case measure => simp [Go.RowKit.intOf]; omega
      · have hK' : ¬ ((s.ks.getD j 0 : Nat) : Int) - 1 = (k : Int) - 1 := by omega
        rw [if_neg hK, List.append_nil] at hnx
        generalize s.ks.getD j 0 = K at *
        clear hK
        generalize hUL : (U j).length = L at *
        go_wp2_with fail
        go_roundw
        case rel => exact ⟨j + 1, a, c, by omega, by go_num, by rw [hnx, hUL], by rw [hnx, hUL]; exact hown, HB⟩
        case measure => simp [Go.RowKit.intOf]; omega
    · obtain rfl : j = n := by omega
      have hltI : ¬ (j : Int) < j := by omega
      clear hc' hup hul
      go_wp2
      go_ret
      exact ⟨_, rfl, hown, HB⟩

theorem make_ints (w : World) (L : Int) (n : Nat) (hL : L = (n : Int)) (hn : n ≤ 1000000) :
    (Instr.makeSlice 22 (.int .i64 L) (.int .i64 L)).run Tryz.prog w = .ok (.slice (some ⟨w.heap.size, 0, none⟩) n n) (w.alloc (.cells (List.replicate n (Value.int .i64 0)).toArray 3)) := by
  subst hL
  obtain ⟨i, hi, hz0, hz1, hz2⟩ := info_partsI
  have h := run_make (P := Tryz.prog) w 22 3 i (.int .i64 0) Tryz.underlying22 hi hz0 .i64 .i64 n n (by omega) (by omega) (by rw [hz2]; omega) (by omega)
  rw [h, hz1, Int.toNat_natCast, Nat.mul_one]
  congr 2
  congr 1
  apply Array.ext'
  exact toList_madeCells_one (.int .i64 0) n

theorem rnew_arg (w : World) (a b : Int) (v : Value) (h : a < 0 ∨ b ≤ a ∨ 1024 < b) : Calls Tryz.prog 33 #[.int .i64 a, .int .i64 b, v] w fun e w' => e = .returned (.tuple #[.pointer none, .int .i64 1]) ∧ w' = w := by
  by_cases h1 : a < 0
  · go_enter Tryz.func33, Tryz.ntmps33
    go_wp2
    go_ret2
    exact ⟨rfl, rfl⟩
  · by_cases h2 : b ≤ a
    · go_enter Tryz.func33, Tryz.ntmps33
      go_wp2
      go_ret2
      exact ⟨rfl, rfl⟩
    · have h3 : 1024 < b := by omega
      clear h
      go_enter Tryz.func33, Tryz.ntmps33
      go_wp2
      go_ret2
      exact ⟨rfl, rfl⟩

/-- What the document's New tells, and what it leaves. -/
def RNewOut (w : World) (lo n : Nat) (l : List Int) (e : Ending) (w' : World) : Prop :=
  Below w.heap.size w w' ∧
      ((anyOut (fresh lo n) l = true ∧ e = .returned (.tuple #[.pointer none, .int .i64 1])) ∨
       (anyOut (fresh lo n) l = false ∧ takeAll lo (List.replicate n 1) l = none ∧ e = .returned (.tuple #[.pointer none, .int .i64 6])) ∨
       (anyOut (fresh lo n) l = false ∧ ∃ ks p h, takeAll lo (List.replicate n 1) l = some ks ∧ e = .returned (.tuple #[ptr p, .int .i64 0]) ∧ RAt w' p h ⟨lo, ks⟩ ∧ FrOk ⟨lo, ks⟩ ∧ w.heap.size ≤ p ∧ w.heap.size ≤ h))

set_option maxHeartbeats 4000000 in
theorem rnew_ok (w : World) (lo n : Nat) (h1 : 1 ≤ n) (h2 : lo + n ≤ 1024) (v : Value) (l : List Int) (hr : RdI w v l) :
    Calls Tryz.prog 33 #[.int .i64 lo, .int .i64 (lo + n), v] w fun e w' => RNewOut w lo n l e w' := by
  obtain ⟨a, cap, rfl, g1, g2, g3⟩ := hr
  unfold maxLen at g2
  have i1 : ¬ (lo : Int) < 0 := by omega
  have i2 : ¬ (lo : Int) + n ≤ lo := by omega
  have i3 : ¬ (1024 : Int) < (lo : Int) + n := by omega
  have hmk := make_ints w ((lo : Int) + n - lo) n (by omega) (by omega)
  obtain ⟨W1, hW1⟩ : ∃ W1, w.alloc (.cells (List.replicate n (Value.int .i64 0)).toArray 3) = W1 := ⟨_, rfl⟩
  have hg1 : W1.heap[w.heap.size]? = some (.cells (List.replicate n (Value.int .i64 0)).toArray 3 (0, 0)) := by rw [← hW1]; exact heap_alloc_new w _
  have hb1 : Below w.heap.size w W1 := by rw [← hW1]; exact (Below.refl _ w).alloc (Nat.le_refl _) _
  have hz1 : W1.heap.size = w.heap.size + 1 := by rw [← hW1]; simp
  rw [hW1] at hmk
  obtain ⟨W3, hW3⟩ : ∃ W3, W1.alloc (.cells #[.int .i64 lo, .slice (some ⟨w.heap.size, 0, none⟩) n n] 100) = W3 := ⟨_, rfl⟩
  have hb3 : Below W1.heap.size W1 W3 := by rw [← hW3]; exact (Below.refl _ W1).alloc (Nat.le_refl _) _
  have hg3 : W3.heap[W1.heap.size]? = some (.cells #[.int .i64 lo, .slice (some ⟨w.heap.size, 0, none⟩) n n] 100 (0, 0)) := by rw [← hW3]; exact heap_alloc_new W1 _
  have hok := fresh_ok h1 h2
  have H3 : RAt W3 (w.heap.size + 1) w.heap.size ⟨lo, List.replicate n 1⟩ := by
    rw [hz1] at hg3
    refine ⟨n, (List.replicate n (Value.int .i64 0)).toArray, ?_, (hb3.block _ (by omega)).trans hg1, by simp, by unfold maxLen; omega, by omega, fun i k hk => ?_⟩
    · simpa using hg3
    · dsimp only at hk
      rw [List.getElem?_replicate] at hk
      split at hk
      · rename_i hi
        cases hk
        rw [List.getElem?_toArray, List.getElem?_replicate, if_pos hi]
        rfl
      · cases hk
  have hB3 : Below w.heap.size w W3 := hb1.trans (hb3.mono (by omega))
  clear hg3 hg1 hb3 hb1
  go_enter Tryz.func33, Tryz.ntmps33
  go_wp2
  go_loop [26] (fun t => ∃ i : Nat, i ≤ l.length ∧ t = .int .i64 i ∧ Hid (anyOut (fresh lo n) (l.take i) = false)) (fun t => l.length - (Go.RowKit.intOf t).toNat)
  case atStart => exact ⟨0, Nat.zero_le _, rfl, rfl⟩
  case round =>
    obtain ⟨i, hi, rfl, HN⟩ := hrel
    by_cases hlt : i < l.length
    · have hltI : (i : Int) < l.length := by omega
      obtain ⟨b, off, rfl, hb, hcs⟩ := g3 (by omega)
      have hx : l[i]? = some l[i] := List.getElem?_eq_getElem hlt
      have hcx := hcs i _ hx
      have hnx := any_next (s := fresh lo n) hx
      have hmem : l[i] ∈ l := List.getElem_mem hlt
      rw [HN.out, Bool.false_or] at hnx
      have hlk : lacksB (fresh lo n) l[i] = !decide ((lo : Int) ≤ l[i] ∧ l[i] < lo + n) := by unfold lacksB fresh; simp
      have hall : lacksB (fresh lo n) l[i] = true → anyOut (fresh lo n) l = true := fun h => List.any_eq_true.2 ⟨_, hmem, h⟩
      generalize l[i] = x at *
      clear hcs g3 hx hmem
      by_cases hd : (lo : Int) ≤ x ∧ x < lo + n
      · rw [decide_eq_true hd] at hlk
        have HN' : Hid (anyOut (fresh lo n) (l.take (i + 1)) = false) := by unfold Hid; rw [hnx, hlk]; rfl
        have e1 : ¬ x < lo := by omega
        have e2 : ¬ (lo : Int) + n ≤ x := by omega
        clear hnx hlk hall hd H3
        go_wp2
        go_round
        case rel => exact ⟨i + 1, by omega, by go_num, HN'⟩
        case measure => simp [Go.RowKit.intOf]; omega
      · rw [decide_eq_false hd] at hlk
        have HT : Hid (anyOut (fresh lo n) l = true) := hall hlk
        clear hnx hlk hall H3
        by_cases e1 : x < lo
        · clear hd
          go_wp2
          go_ret2
          unfold RNewOut
          exact ⟨Below.refl _ _, .inl ⟨HT.out, rfl⟩⟩
        · have e2 : (lo : Int) + n ≤ x := by omega
          clear hd
          go_wp2
          go_ret2
          unfold RNewOut
          exact ⟨Below.refl _ _, .inl ⟨HT.out, rfl⟩⟩
    · have hltI : ¬ (i : Int) < l.length := by omega
      have hfal : anyOut (fresh lo n) l = false := by
        have := HN.out
        rw [List.take_of_length_le (by omega)] at this
        exact this
      have hall : ∀ x ∈ l, (lo : Int) ≤ x ∧ x < lo + n := fun x hx => by
        have := List.any_eq_false.1 hfal x hx
        unfold lacksB fresh at this
        simpa using this
      have HT : Hid (anyOut (fresh lo n) l = false) := hfal
      clear hfal HN
      go_wp2_with fail
      (try rw [hW1])
      (try rw [hz1])
      (try rw [hW3])
      clear hmk hW1 hW3
      go_loopw [48] (fun t wr => ∃ (i : Nat) (ks : List Nat), i ≤ l.length ∧ t = .int .i64 i ∧ ks.length = n ∧ Hid (takeAll lo (List.replicate n 1) l = takeAll lo ks (l.drop i)) ∧ Hid (RAt wr (w.heap.size + 1) w.heap.size ⟨lo, ks⟩) ∧ FrOk ⟨lo, ks⟩ ∧ Below w.heap.size w wr) (fun t _ => l.length - (Go.RowKit.intOf t).toNat)
      case atStart => exact ⟨0, List.replicate n 1, Nat.zero_le _, rfl, by simp, rfl, H3, hok, hB3⟩
      case round =>
        clear H3 hB3 hok hlt hltI hi
        obtain ⟨i, ks, hi, rfl, hkl, HA, HP, hko, HB⟩ := hrel
        obtain ⟨wA, hA⟩ : ∃ wA, wA = wr := ⟨_, rfl⟩
        subst hA
        by_cases hlt : i < l.length
        · have hltI : (i : Int) < l.length := by omega
          obtain ⟨b, off, rfl, hb, hcs⟩ := g3 (by omega)
          have hx : l[i]? = some l[i] := List.getElem?_eq_getElem hlt
          have hcx := (HB.cell (p := ⟨b, off + i, none⟩) hb).trans (hcs i _ hx)
          obtain ⟨x1, x2⟩ := hall l[i] (List.getElem_mem hlt)
          have hdr := drop_at hx
          generalize l[i] = x at *
          obtain ⟨j, rfl⟩ : ∃ j : Nat, x = ((lo : Int) + j) := ⟨(x - lo).toNat, by omega⟩
          have hjn : j < n := by omega
          have hjI : (j : Int) < n := by omega
          have hjl : j < ks.length := by omega
          have hto : takeAll lo ks (l.drop i) = if ks.getD j 0 = 2 then none else takeAll lo (ks.set j 2) (l.drop (i + 1)) := by
            rw [hdr]
            conv => lhs; unfold takeAll
            rw [show ((lo : Int) + j - lo).toNat = j from by omega]
          obtain ⟨cp, c0, c1, k1, k2, _, _, _, hc⟩ := FrAt.opened HP.out
          dsimp only at c0 c1 k1 hc
          obtain ⟨hcj, hfj⟩ := hc j (ks.getD j 0) (by rw [List.getD_eq_getElem?_getD, List.getElem?_eq_getElem hjl]; rfl)
          rw [hkl] at c1 k1
          clear hcs g3 hx hdr hall
          have hwj : IntKind.wrap .i64 ((lo : Int) + j - lo) = (j : Int) := by simp [IntKind.wrap, IntKind.bits, IntKind.signed]; omega
          have hko' := set_ok hko j 2 (by omega)
          by_cases h22 : ks.getD j 0 = 2
          · have HN : Hid (takeAll lo (List.replicate n 1) l = none) := by unfold Hid; rw [HA.out, hto, if_pos h22]
            have h22' : ((ks.getD j 0 : Nat) : Int) - 1 = 1 := by omega
            generalize ks.getD j 0 = K at *
            clear hto HA hc HP h22 hfj
            go_wp2
            go_ret2
            unfold RNewOut
            exact ⟨HB, .inr (.inl ⟨HT.out, HN.out, rfl⟩)⟩
          · have HA' : Hid (takeAll lo (List.replicate n 1) l = takeAll lo (ks.set j 2) (l.drop (i + 1))) := by unfold Hid; rw [HA.out, hto, if_neg h22]
            have HP' : Hid (RAt (wA.setCell ⟨w.heap.size, j, none⟩ (.int .i64 1)) (w.heap.size + 1) w.heap.size ⟨lo, ks.set j 2⟩) := FrAt.put HP.out j 2
            have h22' : ¬ ((ks.getD j 0 : Nat) : Int) - 1 = 1 := by omega
            generalize ks.getD j 0 = K at *
            clear hto HA hc HP h22
            go_wp2_with fail
            go_roundw
            case rel => exact ⟨i + 1, ks.set j 2, by omega, by go_num, by rw [List.length_set]; exact hkl, HA', HP', hko', HB.setCell (p := ⟨w.heap.size, j, none⟩) (Nat.le_refl _) _⟩
            case measure => simp [Go.RowKit.intOf]; omega
        · have hltI : ¬ (i : Int) < l.length := by omega
          have HS : Hid (takeAll lo (List.replicate n 1) l = some ks) := by
            unfold Hid
            rw [HA.out, List.drop_of_length_le (by omega)]
            rfl
          clear g3 hall HA
          go_wp2
          go_ret2
          unfold RNewOut
          exact ⟨HB, .inr (.inr ⟨HT.out, ks, _, _, HS.out, rfl, HP.out, hko, by omega, Nat.le_refl _⟩)⟩

end Go.Proofs.YthgdbjpefjjeaaaGreat
