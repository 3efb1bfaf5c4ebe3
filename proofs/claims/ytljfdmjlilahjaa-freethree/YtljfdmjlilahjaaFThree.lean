/- Each block is of just one kind; a map that counts (mathematics and the map's word). -/
import Derived.Test.YtljfdmjlilahjaaFWaits
import Derived.Maps.RangeWalk
import Derived.Maps.OwnOps
import Derived.Maps.OwnSet
namespace Go.Proofs.Ytljfdmjlilahjaa
open Go.RowKit Go.Maps
set_option linter.unusedVariables false
set_option linter.unusedSimpArgs false
set_option maxRecDepth 4000

theorem lawI : Keyed Try.prog 3 := int_keyed Try.underlying3
theorem zeroI (w : World) : (zeroValue 3).run Try.prog w = .ok (.int .i64 0) w := by kernel_rfl

/-- All blocks, kind by kind. -/
def threeL (s : Fr) : List Nat := blocksL s 1 ++ blocksL s 2 ++ blocksL s 3

theorem upto_nodup (s : Fr) (k j : Nat) : (upto s k j).Nodup := List.Pairwise.imp (fun h => Nat.ne_of_lt h) (upto_sorted s k j)

theorem upto_apart {s : Fr} {k k' j x : Nat} (h : x ∈ upto s k j) (h' : x ∈ upto s k' j) : k = k' := by
  obtain ⟨i, _, h1, rfl⟩ := upto_mem.1 h
  obtain ⟨i', _, h2, e⟩ := upto_mem.1 h'
  have : i = i' := by omega
  subst this
  rw [← h1, ← h2]

theorem three_nodup (s : Fr) : (threeL s).Nodup := by
  unfold threeL blocksL
  refine List.nodup_append.2 ⟨List.nodup_append.2 ⟨upto_nodup _ _ _, upto_nodup _ _ _, fun a ha b hb e => ?_⟩, upto_nodup _ _ _, fun a ha b hb e => ?_⟩
  · subst e
    cases upto_apart ha hb
  · subst e
    rcases List.mem_append.1 ha with h | h
    · cases upto_apart h hb
    · cases upto_apart h hb

theorem three_count : ∀ (l : List Nat), (∀ k ∈ l, 1 ≤ k ∧ k ≤ 3) → l.count 1 + l.count 2 + l.count 3 = l.length
  | [], _ => rfl
  | k :: l, h => by
    have ih := three_count l (fun x hx => h x (List.mem_cons_of_mem _ hx))
    have hk := h k (List.mem_cons_self ..)
    rw [List.count_cons, List.count_cons, List.count_cons, List.length_cons]
    have : k = 1 ∨ k = 2 ∨ k = 3 := by omega
    have e1 : ∀ a b : Nat, (if (a == b) = true then 1 else 0) = if a = b then 1 else 0 := fun a b => by by_cases h : a = b <;> simp [h]
    rw [e1, e1, e1]
    split <;> split <;> split <;> omega

theorem three_len {s : Fr} (h : FrOk s) : (threeL s).length = s.ks.length := by
  unfold threeL
  rw [List.length_append, List.length_append, blocks_count, blocks_count, blocks_count]
  exact three_count s.ks h.kinds

theorem run_lo (s : Fr) (N : Nat) (r : Option Nat) : (runF s N r).lo = s.lo := by cases r <;> rfl
theorem run_len (s : Fr) (N : Nat) (r : Option Nat) : (runF s N r).ks.length = s.ks.length := by
  cases r with
  | none => rfl
  | some b => exact setRun_len s.ks b N
theorem turn_lo (s : Fr) (i : Int) (to : Nat) : (turnF s i to).lo = s.lo := by unfold turnF; split <;> rfl
theorem turn_len (s : Fr) (i : Int) (to : Nat) : (turnF s i to).ks.length = s.ks.length := by
  unfold turnF
  split
  · exact List.length_set
  · rfl

def keyI (x : Nat) : Lit := .int .i64 (x : Int)
def oneI' : DataW Unit := .lit (.int .i64 1)

/-- The map has just these keys, and one at each. -/
structure Counts (D : DataW Unit) (l : List Nat) : Prop where
  key : ∀ kl, Maps.has D kl = true → ∃ x ∈ l, kl = keyI x
  has : ∀ x ∈ l, Maps.has D (keyI x) = true
  one : ∀ x ∈ l, ∀ zd, D.atKey (keyI x) zd = oneI'
  size : Maps.size D = l.length

theorem counts_nil : Counts (.map []) [] := ⟨fun kl h => (by cases h), fun x h => (by cases h), fun x h => (by cases h), rfl⟩

theorem keyI_inj {x y : Nat} (h : keyI x = keyI y) : x = y := by
  unfold keyI at h
  simp only [Lit.int.injEq] at h
  omega

theorem Counts.not {D : DataW Unit} {l : List Nat} (h : Counts D l) {x : Nat} (hx : x ∉ l) : Maps.has D (keyI x) = false := by
  cases e : Maps.has D (keyI x) with
  | false => rfl
  | true =>
    obtain ⟨y, hy, e2⟩ := h.key _ e
    rw [keyI_inj e2] at hx
    exact absurd hy hx

theorem Counts.zero {D : DataW Unit} {l : List Nat} (h : Counts D l) {x : Nat} (hx : x ∉ l) {c : Int} (hat : D.atKey (keyI x) (.lit (.int .i64 0)) = .lit (.int .i64 c)) : c = 0 := by
  rw [Maps.atKey_of_not_has (h.not hx)] at hat
  simp only [DataW.lit.injEq, Lit.int.injEq, true_and] at hat
  exact hat.symm

theorem Counts.step {D : DataW Unit} {l : List Nat} (h : Counts D l) (ht : Maps.Tidy D) {x : Nat} (hx : x ∉ l) : Counts (D.put (keyI x) oneI') (l ++ [x]) := by
  have hk : WideAt.IsKeyLit (keyI x) := trivial
  refine ⟨fun kl e => ?_, fun y hy => ?_, fun y hy zd => ?_, ?_⟩
  · by_cases q : kl = keyI x
    · exact ⟨x, by simp, q⟩
    · rw [Maps.has_put_other q] at e
      obtain ⟨y, hy, e2⟩ := h.key _ e
      exact ⟨y, by simp [hy], e2⟩
  · by_cases q : y = x
    · rw [q]; exact Maps.has_put_same ht.isMap hk _
    · rw [Maps.has_put_other (fun e => q (keyI_inj e))]
      exact h.has y (by rcases List.mem_append.1 hy with r | r; exact r; exact absurd (List.mem_singleton.1 r) q)
  · by_cases q : y = x
    · rw [q]; exact Maps.atKey_put_same ht.isMap hk _ _
    · rw [Maps.atKey_put_other (fun e => q (keyI_inj e))]
      exact h.one y (by rcases List.mem_append.1 hy with r | r; exact r; exact absurd (List.mem_singleton.1 r) q) zd
  · rw [Maps.size_put ht, h.not hx, List.length_append]
    simp [h.size]

theorem sole_grown {w w' : World} {M : Nat} (h : w.grownBy w' (some M)) : Sole [M] w w' :=
  ⟨h.os, h.tape, h.output, h.size, fun k hk hn => h.block k hk (fun e => hn (by simp only [Option.some.injEq] at e; simp [e]))⟩

theorem grown_below {w w' : World} (h : Below w.heap.size w w') : w.grownBy w' none := ⟨h.os, h.tape, h.output, h.size, fun k hk _ => h.block k hk⟩

/-- Where in the three lists one stands. -/
def preL (s : Fr) : Nat → List Nat
  | 0 => []
  | 1 => blocksL s 1
  | 2 => blocksL s 1 ++ blocksL s 2
  | _ => threeL s

theorem pre_next (s : Fr) (j : Nat) (hj : j < 3) : preL s (j + 1) = preL s j ++ blocksL s (j + 1) := by
  match j, hj with
  | 0, _ => rfl
  | 1, _ => rfl
  | 2, _ => rfl

theorem pre_sub (s : Fr) (j : Nat) (hj : j < 3) : ∃ r, threeL s = preL s (j + 1) ++ r := by
  match j, hj with
  | 0, _ => exact ⟨blocksL s 2 ++ blocksL s 3, by unfold threeL; rw [List.append_assoc]; rfl⟩
  | 1, _ => exact ⟨blocksL s 3, rfl⟩
  | 2, _ => exact ⟨[], by rw [List.append_nil]; rfl⟩

theorem pre_le {s : Fr} (h : FrOk s) (j i : Nat) (hj : j < 3) : (preL s j ++ (blocksL s (j + 1)).take i).length ≤ s.ks.length := by
  obtain ⟨r, hr⟩ := pre_sub s j hj
  have h1 := three_len h
  rw [hr, pre_next s j hj] at h1
  simp only [List.length_append, List.length_take] at *
  omega

/-- The next one was not met yet. -/
theorem pre_new (s : Fr) (j k x : Nat) (hj : j < 3) (hx : (blocksL s (j + 1))[k]? = some x) : x ∉ preL s j ++ (blocksL s (j + 1)).take k := by
  obtain ⟨r, hr⟩ := pre_sub s j hj
  have hn := three_nodup s
  rw [hr, pre_next s j hj] at hn
  have hsplit : blocksL s (j + 1) = (blocksL s (j + 1)).take k ++ x :: (blocksL s (j + 1)).drop (k + 1) := by
    have hlt := (List.getElem?_eq_some_iff.1 hx).1
    have e : (blocksL s (j + 1))[k] = x := (List.getElem?_eq_some_iff.1 hx).2
    rw [← e, ← List.drop_eq_getElem_cons hlt, List.take_append_drop]
  rw [hsplit, ← List.append_assoc] at hn
  have h1 := (List.nodup_append.1 (List.nodup_append.1 hn).1).2.2
  intro hm
  exact h1 x hm x (List.mem_cons_self ..) rfl

end Go.Proofs.Ytljfdmjlilahjaa
