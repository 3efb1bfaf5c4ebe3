/- The contracts of free's blocksOf, Free, Taken, Waiting. -/
import Derived.Test.YtljfdmjlilahjaaFSmall
import Derived.Laws.AppendOwn
namespace Go.Proofs.Ytljfdmjlilahjaa
open Go.RowKit
set_option linter.unusedVariables false
set_option linter.unusedSimpArgs false
set_option maxRecDepth 4000

/-- The blocks of a kind among the first j. -/
def upto (s : Fr) (k j : Nat) : List Nat := ((List.range j).filter (fun i => s.ks.getD i 0 == k)).map (fun i => s.lo + i)
def blocksL (s : Fr) (k : Nat) : List Nat := upto s k s.ks.length
def natC (l : List Nat) : List Value := l.map (fun (x : Nat) => Value.int .i64 (x : Int))

theorem upto_next (s : Fr) (k j : Nat) : upto s k (j + 1) = upto s k j ++ (if s.ks.getD j 0 = k then [s.lo + j] else []) := by
  unfold upto
  rw [List.range_succ, List.filter_append, List.map_append]
  congr 1
  by_cases h : s.ks.getD j 0 = k
  · have e : (s.ks.getD j 0 == k) = true := by rw [h]; exact beq_self_eq_true k
    rw [if_pos h]
    simp only [List.filter_cons, List.filter_nil, e]
    rfl
  · have e : (s.ks.getD j 0 == k) = false := by simpa using h
    rw [if_neg h]
    simp only [List.filter_cons, List.filter_nil, e]
    rfl

theorem upto_len (s : Fr) (k : Nat) : ∀ j, (upto s k j).length ≤ j := by
  intro j
  induction j with
  | zero => simp [upto]
  | succ j ih =>
    rw [upto_next, List.length_append]
    split <;> simp <;> omega

theorem Try.infoI : (Try.prog.info? 3).map (fun i => (i.zero, i.size, i.bytes)) = some (some (.int .i64 0), 1, 8) := by kernel_rfl

theorem info_partsI : ∃ i, Try.prog.info? 3 = some i ∧ i.zero = some (.int .i64 0) ∧ i.size = 1 ∧ i.bytes = 8 := by
  have h := Try.infoI
  cases hi : Try.prog.info? 3 with
  | none => rw [hi] at h; cases h
  | some i =>
    rw [hi] at h
    simp only [Option.map_some, Option.some.injEq, Prod.mk.injEq] at h
    exact ⟨i, rfl, h.1, h.2.1, h.2.2⟩

theorem rowI_slice {w : World} {base e k : Nat} {v : Value} {n : Nat} {xs : List Value} (h : w.ownsRow base e k v n xs) : ∃ a c, v = .slice a n c := by
  rcases h.2 with ⟨rfl, rfl⟩ | ⟨g, cap, cur, rfl, _⟩
  · exact ⟨_, _, rfl⟩
  · exact ⟨_, _, rfl⟩

theorem rowI_below {w w' : World} {base e k : Nat} {v : Value} {n : Nat} {xs : List Value} (h : w.ownsRow base e k v n xs) (hb : Below w.heap.size w w') : w'.ownsRow base e k v n xs :=
  World.ownsRow.kept h (row := Option.none) ⟨hb.os, hb.tape, hb.output, hb.size, fun k hk _ => hb.block k hk⟩ (by cases hv : v.ownBlock <;> simp)

theorem oneI {W : World} {u : Value} {e : TypeId} {g : Nat} {fr : Nat × Nat} (h : W.heap[g]? = some (.cells #[u] e fr)) : ∀ j x, [u][j]? = some x → W.cell? ((⟨g, 0, none⟩ : Addr).add j) = some x := by
  intro j x hj
  have hadd : (⟨g, 0, none⟩ : Addr).add j = ⟨g, j, none⟩ := by unfold Addr.add; split <;> simp_all
  rw [hadd, cell_of_row _ _ j _ _ _ h, ← hj]
  exact List.getElem?_toArray

set_option maxHeartbeats 2000000 in
theorem blocksOf_any {w : World} {p h : Nat} {s : Fr} (H : PAt w p h s) (hk : FrOk s) (k : Nat) :
    Calls Try.prog 35 #[ptr p, .int .i64 k] w fun e w' => ∃ u, e = .returned u ∧ w'.ownsRow w.heap.size 3 1 u (blocksL s k).length (natC (blocksL s k)) ∧ Below w.heap.size w w' := by
  obtain ⟨iI, hii, hi0, hi1, hi2⟩ := info_partsI
  obtain ⟨cap, c0, c1, h1, h2, hp, hh, hne, hc⟩ := FrAt.opened H
  have hm := hk.most
  have hup := upto_next s k
  have hul := upto_len s k
  unfold ptr blocksL
  clear H hk
  obtain ⟨U, hU⟩ : ∃ U : Nat → List Nat, ∀ j, upto s k j = U j := ⟨_, fun _ => rfl⟩
  simp only [hU] at hup hul ⊢
  have hU0 : U 0 = [] := by rw [← hU]; rfl
  clear hU
  have hget : ∀ j, j < s.ks.length → s.ks[j]? = some (s.ks.getD j 0) := fun j hj => by rw [List.getElem?_eq_getElem hj, List.getD_eq_getElem?_getD, List.getElem?_eq_getElem hj]; rfl
  have hc' : ∀ j, j < s.ks.length → w.cell? ⟨h, j, none⟩ = some (.int .i64 (s.ks.getD j 0)) := fun j hj => (hc j _ (hget j hj)).1
  clear hc hget
  generalize s.ks.length = n at *
  generalize s.lo = lo at *
  go_enter Try.func35, Try.ntmps35
  go_wp2
  go_loopw [5, 6, 7, 13] (fun v q1 q2 t wr => ∃ (j : Nat) (a : Option Addr) (c : Nat), j ≤ n ∧ t = .int .i64 j ∧ v = .slice a (U j).length c ∧ World.ownsRow wr w.heap.size 3 1 (.slice a (U j).length c) (U j).length (natC (U j)) ∧ Below w.heap.size w wr) (fun _ _ _ t _ => n - (intOf t).toNat)
  case atStart => exact ⟨0, none, 0, Nat.zero_le _, rfl, by rw [hU0]; rfl, by rw [hU0]; exact World.ownsRow_nil _ _ _ _, Below.refl _ _⟩
  case round =>
    obtain ⟨j, a, c, hj, rfl, rfl, hown, HB⟩ := hrel
    obtain ⟨wA, hA⟩ : ∃ wA, wA = wr := ⟨_, rfl⟩
    subst hA
    have hsz := HB.size
    by_cases hlt : j < n
    · have hltI : (j : Int) < n := by omega
      have x0 := (HB.cell (p := ⟨p, 0, none⟩) hp).trans c0
      have xj := (HB.cell (p := ⟨h, j, none⟩) hh).trans (hc' j hlt)
      have hnx := hup j
      have hlj := hul j
      clear c0 c1 hc' hup
      by_cases hK : s.ks.getD j 0 = k
      · have hK' : ((s.ks.getD j 0 : Nat) : Int) = k := by omega
        rw [if_pos hK] at hnx
        generalize s.ks.getD j 0 = K at *
        clear hK
        obtain ⟨W2, hW2⟩ : ∃ W2, wA.alloc (.cells #[.int .i64 (lo + j)] 3) = W2 := ⟨_, rfl⟩
        have hb2 : Below wA.heap.size wA W2 := by rw [← hW2]; exact (Below.refl _ wA).alloc (Nat.le_refl _) _
        have hz2 : W2.heap.size = wA.heap.size + 1 := by rw [← hW2]; simp
        have hnew : W2.heap[wA.heap.size]? = some (.cells #[.int .i64 (lo + j)] 3 (0, 0)) := by rw [← hW2]; exact heap_alloc_new wA _
        have hown2 := rowI_below hown hb2
        have hul' := hul
        clear hul
        generalize hUL : (U j).length = L at *
        go_wp2_with (at_builtin; refine wpList_append_own W2 rfl _ _ 22 rfl w.heap.size 3 iI (.int .i64 0) 1 8 Try.underlying22 hii hi0 hi1 hi2 rfl (by decide) _ L (natC (U j)) rfl hown2 ⟨wA.heap.size, 0, none⟩ 1 1 [.int .i64 (lo + j)] rfl rfl (oneI hnew) (by simp [Value.oneCell']) (by unfold maxLen; omega) (by omega) (by omega) ?_; intro v3 w3 ho3 hg4 _; obtain ⟨a3, c3, rfl⟩ := rowI_slice ho3)
        have hb3 : Below w.heap.size w w3 := HB.trans ((hb2.mono hsz).trans ((Below.refl w.heap.size W2).grown hg4 (by omega) (fun q hq => (World.ownsRow.lt hown2 q hq).1)))
        have hl1 : (U (j + 1)).length = L + 1 := by rw [hnx, List.length_append, hUL]; rfl
        have hn1 : natC (U (j + 1)) = natC (U j) ++ [.int .i64 (lo + j)] := by rw [hnx]; simp [natC]
        clear hown hown2 hg4 hnew
        go_wp2_with fail
        go_roundw
        case rel => exact ⟨j + 1, a3, c3, by omega, by go_num, by rw [hl1], by rw [hl1, hn1]; exact ho3, hb3⟩
        case measure => simp [intOf]; omega
      · have hK' : ¬ ((s.ks.getD j 0 : Nat) : Int) = k := by omega
        rw [if_neg hK, List.append_nil] at hnx
        generalize s.ks.getD j 0 = K at *
        clear hK
        generalize hUL : (U j).length = L at *
        go_wp2_with fail
        go_roundw
        case rel => exact ⟨j + 1, a, c, by omega, by go_num, by rw [hnx, hUL], by rw [hnx, hUL]; exact hown, HB⟩
        case measure => simp [intOf]; omega
    · obtain rfl : j = n := by omega
      have hltI : ¬ (j : Int) < j := by omega
      clear hc' hup hul
      go_wp2
      go_ret
      exact ⟨_, rfl, hown, HB⟩

theorem freeL_any {w : World} {p h : Nat} {s : Fr} (H : PAt w p h s) (hk : FrOk s) :
    Calls Try.prog 20 #[ptr p] w fun e w' => ∃ u, e = .returned u ∧ w'.ownsRow w.heap.size 3 1 u (blocksL s 1).length (natC (blocksL s 1)) ∧ Below w.heap.size w w' := by
  have hl := blocksOf_any H hk 1
  unfold ptr at *
  go_enter Try.func20, Try.ntmps20
  go_wp2_with fail
  refine hl.mono ?_
  rintro e w1 ⟨u, rfl, h1, h2⟩
  go_wp2
  go_ret
  exact ⟨_, rfl, h1, h2⟩

theorem takenL_any {w : World} {p h : Nat} {s : Fr} (H : PAt w p h s) (hk : FrOk s) :
    Calls Try.prog 21 #[ptr p] w fun e w' => ∃ u, e = .returned u ∧ w'.ownsRow w.heap.size 3 1 u (blocksL s 2).length (natC (blocksL s 2)) ∧ Below w.heap.size w w' := by
  have hl := blocksOf_any H hk 2
  unfold ptr at *
  go_enter Try.func21, Try.ntmps21
  go_wp2_with fail
  refine hl.mono ?_
  rintro e w1 ⟨u, rfl, h1, h2⟩
  go_wp2
  go_ret
  exact ⟨_, rfl, h1, h2⟩

theorem waitingL_any {w : World} {p h : Nat} {s : Fr} (H : PAt w p h s) (hk : FrOk s) :
    Calls Try.prog 22 #[ptr p] w fun e w' => ∃ u, e = .returned u ∧ w'.ownsRow w.heap.size 3 1 u (blocksL s 3).length (natC (blocksL s 3)) ∧ Below w.heap.size w w' := by
  have hl := blocksOf_any H hk 3
  unfold ptr at *
  go_enter Try.func22, Try.ntmps22
  go_wp2_with fail
  refine hl.mono ?_
  rintro e w1 ⟨u, rfl, h1, h2⟩
  go_wp2
  go_ret
  exact ⟨_, rfl, h1, h2⟩

end Go.Proofs.Ytljfdmjlilahjaa
