/- A slice of ints that is handed in, with its size; a copy of it; maps that lie apart. -/
import Derived.Test.YtljfdmjlilahjaaFOps
import Derived.Test.YtljfdmjlilahjaaFAll
import Derived.SizedLaws
import Derived.Laws.AppendOwn
import Derived.Laws.AppendOwnNone
namespace Go.Proofs.Ytljfdmjlilahjaa
open Go.RowKit
set_option linter.unusedVariables false
set_option maxRecDepth 4000

/-- Few enough for memory; without a place it has no room. -/
def IntsZ (v : Value) (l : List Int) : Prop := l.length ≤ 17592186043904 ∧ ∀ n c, v = .slice none n c → c = 0

set_option maxRecDepth 100000 in
theorem ints_sized {H : Type} {enc : TypeId × Value → H} {W : World} {base : Nat} {held : Bool} {fuel : Nat} {v : Value} {x : DataW H × List MemPlace} {l : List Int} (hr : RdI W v l)
    (h : DataW.trod enc Try.prog W base (fun _ => true) held fuel 22 [v] = some x)
    {ts : List TypeId} {ds : List (DataW H)} {j : Nat} (hsz : (DataW.weightsEach Try.prog ts ds).all (· ≤ reachBytes) = true) (ht : ts[j]? = some 22) (hd : ds[j]? = some x.1) : IntsZ v l := by
  obtain ⟨a0, c0, rfl, _⟩ := hr
  rcases Deep.open_slice1 Try.underlying22 (by kernel_rfl) h with ⟨hcs, _⟩ | ⟨a', len, c, m, n, V, D, Pl, hcs, hb, hl, hm, hmm, hy, hx⟩
  · simp at hcs
    obtain ⟨rfl, hl, rfl⟩ := hcs
    exact ⟨by rw [hl]; exact Nat.zero_le _, fun n c e => by simp only [Value.slice.injEq] at e; exact e.2.2.symm⟩
  · simp at hcs
    obtain ⟨rfl, hl', rfl⟩ := hcs
    rw [hy] at hd
    have hw := sized_slice hsz ht hd Try.underlying22
    rw [show Try.prog.bytesOf 3 = 8 from by kernel_rfl] at hw
    simp only [List.length_map, List.length_range, reachBytes] at hw
    exact ⟨by omega, fun n c e => by simp only [Value.slice.injEq, reduceCtorEq, false_and] at e⟩

def intC (l : List Int) : List Value := l.map (fun x => Value.int .i64 x)

/-- 'append([]int(nil), l...)'. -/
theorem wpList_copy_ints {w : World} {ops : Array Oper} {rest : List Oper} {o : Oper} {a : Act} {Q : Exit → Act → World → Prop} (hgd : o.guard = none) (s x : Operand)
    (ho : o.op = .call { callee := .builtin .append, args := #[s, x], argTypes := #[22, 22] })
    (hs : a.eval s = .slice none 0 0) (u : Value) (l : List Int) (hx : a.eval x = u) (hrd : RdI w u l) (hz : IntsZ u l)
    (h : ∀ v' w', w'.ownsRow w.heap.size 3 1 v' l.length (intC l) → Below w.heap.size w w' → wpList Try.prog ops Q rest (a.put o.dst v') w') : wpList Try.prog ops Q (o :: rest) a w := by
  obtain ⟨iI, hii, hi0, hi1, hi2⟩ := info_partsI
  obtain ⟨ad, cap, rfl, h1, h2, h3⟩ := hrd
  cases ad with
  | none =>
    have hc : cap = 0 := hz.2 _ _ rfl
    have hl : l.length = 0 := by omega
    obtain rfl : l = [] := List.eq_nil_of_length_eq_zero hl
    subst hc
    exact wpList_append_own_none hgd s x 22 ho w.heap.size 3 iI 1 Try.underlying22 hii _ _ _ hs (World.ownsRow_nil _ _ _ _) hx (h _ w (World.ownsRow_nil _ _ _ _) (Below.refl _ _))
  | some ad =>
    refine wpList_append_own w hgd s x 22 ho w.heap.size 3 iI (.int .i64 0) 1 8 Try.underlying22 hii hi0 hi1 hi2 rfl (by decide) _ 0 [] hs (World.ownsRow_nil _ _ _ _) ad l.length cap (intC l) hx (by simp [intC]) ?_ (by intro u hu; obtain ⟨y, _, rfl⟩ := List.mem_map.1 hu; rfl) ?_ ?_ (Nat.le_refl _) ?_
    · intro j u hj
      unfold intC at hj
      rw [List.getElem?_map] at hj
      cases hy : l[j]? with
      | none => rw [hy] at hj; cases hj
      | some y =>
        rw [hy] at hj
        simp only [Option.map_some, Option.some.injEq] at hj
        have hlt := (List.getElem?_eq_some_iff.1 hy).1
        obtain ⟨b, off, e, _, hcell⟩ := h3 (by omega)
        simp only [Option.some.injEq] at e
        subst e
        have hadd : (⟨b, off, none⟩ : Addr).add j = ⟨b, off + j, none⟩ := by unfold Addr.add; split <;> simp_all
        rw [hadd, hcell j y hy, hj]
    · unfold maxLen; have := hz.1; omega
    · have := hz.1; omega
    · intro v' w' ho' hg _
      rw [Nat.zero_add, List.nil_append] at ho'
      exact h v' w' ho' ((Below.refl _ _).grown hg (Nat.le_refl _) (fun q hq => by cases hq))

theorem rdI_ownI {W : World} {base : Nat} {u : Value} {l : List Int} (h : W.ownsRow base 3 1 u l.length (intC l)) : RdI W u l ∧ (u = .slice none 0 0 ∧ l.length = 0 ∨ ∃ g c cur, u = .slice (some ⟨g, 0, none⟩) l.length c ∧ base ≤ g ∧ W.heap[g]? = some (.cells cur 3 (0, 0)) ∧ l.length ≤ cur.size) := by
  rcases h.2 with ⟨rfl, h0⟩ | ⟨g, cap, cur, rfl, hb, hg, hn, hm, hs, ht⟩
  · have : l = [] := List.length_eq_zero_iff.1 h0
    subst this
    exact ⟨⟨none, 0, rfl, Nat.zero_le _, by decide, fun h => by simp at h⟩, .inl ⟨rfl, rfl⟩⟩
  · refine ⟨⟨_, cap, rfl, hn, hm, fun _ => ⟨g, 0, rfl, (Array.getElem?_eq_some_iff.1 hg).1, fun i x hx => ?_⟩⟩, .inr ⟨g, cap, cur, rfl, hb, hg, ?_⟩⟩
    · have e : (intC l)[i]? = some (.int .i64 x) := by unfold intC; rw [List.getElem?_map, hx]; rfl
      rw [Nat.zero_add, cell_of_row W g i _ _ (0, 0) hg]
      rw [← ht, List.getElem?_take] at e
      split at e
      · rw [← Array.getElem?_toList]; exact e
      · cases e
    · omega

/-- The program's map and the document's lie in blocks of their own. -/
theorem maps_apart {w : World} {p h p' h' : Nat} {s s' : Fr} (H : PAt w p h s) (H' : RAt w p' h' s') : p ≠ p' ∧ p ≠ h' ∧ h ≠ p' ∧ h ≠ h' := by
  obtain ⟨c1, u1, a1, b1, _⟩ := H.body
  obtain ⟨c2, u2, a2, b2, _⟩ := H'.body
  refine ⟨fun e => ?_, fun e => ?_, fun e => ?_, fun e => ?_⟩
  · subst e; rw [a1] at a2; simp at a2
  · subst e; rw [a1] at b2; simp at b2
  · subst e; rw [b1] at a2; simp at a2
  · subst e; rw [b1] at b2; simp at b2

end Go.Proofs.Ytljfdmjlilahjaa
