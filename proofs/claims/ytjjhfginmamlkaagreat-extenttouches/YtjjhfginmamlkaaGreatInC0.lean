/- Where a sight lies; what Set makes of a sight (mathematics). -/
import Derived.Test.YtjjhfginmamlkaaGreatInB
namespace Go.Proofs.YtjjhfginmamlkaaGreat
open Go.RowKit Go.Maps
set_option linter.unusedVariables false
set_option linter.unusedSimpArgs false
set_option maxRecDepth 100000

/-- Where a sight itself lies. -/
def SRow (w : World) (a : Sa) : Prop := w.heap[a.s]? = some (.cells #[.pointer (some ⟨a.v, 0, none⟩), .pointer (some ⟨a.r, 0, none⟩), .pointer (some ⟨a.u, 0, none⟩), alV a.x] 56 (0, 0))
theorem SgIn.srow {B : Nat} {w : World} {a : Sa} {X : List Nat} {s : Sg} (h : SgIn B w a X s) : SRow w a := h.row
theorem SRow.below {w w' : World} {a : Sa} (h : SRow w a) (hb : Below w.heap.size w w') : SRow w' a := (hb.block a.s (lt_of_row h)).trans h
theorem SRow.c0 {w : World} {a : Sa} (h : SRow w a) : w.cell? ⟨a.s, 0, none⟩ = some (.pointer (some ⟨a.v, 0, none⟩)) := by rw [cell_of_row _ _ _ _ _ (0, 0) h]; rfl
theorem SRow.c1 {w : World} {a : Sa} (h : SRow w a) : w.cell? ⟨a.s, 1, none⟩ = some (.pointer (some ⟨a.r, 0, none⟩)) := by rw [cell_of_row _ _ _ _ _ (0, 0) h]; rfl
theorem SRow.c2 {w : World} {a : Sa} (h : SRow w a) : w.cell? ⟨a.s, 2, none⟩ = some (.pointer (some ⟨a.u, 0, none⟩)) := by rw [cell_of_row _ _ _ _ _ (0, 0) h]; rfl
theorem SgOut.srow {B : Nat} {w w' : World} {a : Sa} {X : List Nat} {s : Sg} (h : SgOut B w a X s w') : SRow w' a := by
  obtain ⟨X', h1, _⟩ := h
  exact h1.row
theorem SgOut.sole {B : Nat} {w w' : World} {a : Sa} {X : List Nat} {s : Sg} (h : SgOut B w a X s w') : Sole X w w' := by
  obtain ⟨X', _, h2, _⟩ := h
  exact h2
/-- One call behind another. -/
theorem SgOut.seq {B : Nat} {w w1 w2 : World} {a : Sa} {X : List Nat} {s s' : Sg} (h : SgOut B w a X s w1) (k : ∀ X1, SgIn B w1 a X1 s → SgOut B w1 a X1 s' w2) : SgOut B w a X s' w2 := by
  obtain ⟨X', h1, h2, h3⟩ := h
  exact SgOut.then h2 h3 (k X' h1)

/-! ### Fields -/

def fiOk (fs : List (Int × Int)) : Prop := ∀ f ∈ fs, -9223372036854775808 ≤ f.2 ∧ f.2 ≤ 9223372036854775807
theorem wf1_ok {st : Option (In4 × Int)} {f : Int × Int} (hf : -9223372036854775808 ≤ f.2 ∧ f.2 ≤ 9223372036854775807) (h : ∀ p, st = some p → InoOk p.1.k p.1.m p.1.l p.1.s ∧ (p.2 = 0 ∨ p.2 = 1 ∨ p.2 = 2 ∨ p.2 = 3 ∨ p.2 = 4 ∨ p.2 = 5 ∨ p.2 = 6 ∨ p.2 = 7)) :
    ∀ p, wf1 st f = some p → InoOk p.1.k p.1.m p.1.l p.1.s ∧ (p.2 = 0 ∨ p.2 = 1 ∨ p.2 = 2 ∨ p.2 = 3 ∨ p.2 = 4 ∨ p.2 = 5 ∨ p.2 = 6 ∨ p.2 = 7) := by
  intro p hp
  cases st with
  | none => cases hp
  | some q =>
    obtain ⟨⟨k, m, l, s⟩, sum⟩ := q
    obtain ⟨h1, h2⟩ := h _ rfl
    dsimp only at h1 h2
    unfold wf1 at hp
    dsimp only at hp
    split at hp
    · cases hp
    · split at hp
      · cases hp
        refine ⟨⟨h1.k0, h1.k1, hf.1, hf.2, h1.l0, h1.l1, h1.s0, h1.s1⟩, ?_⟩
        rcases h2 with rfl | rfl | rfl | rfl | rfl | rfl | rfl | rfl <;> (dsimp only; decide)
      · split at hp
        · cases hp
          refine ⟨⟨h1.k0, h1.k1, h1.m0, h1.m1, hf.1, hf.2, h1.s0, h1.s1⟩, ?_⟩
          rcases h2 with rfl | rfl | rfl | rfl | rfl | rfl | rfl | rfl <;> (dsimp only; decide)
        · split at hp
          · cases hp
            refine ⟨⟨h1.k0, h1.k1, h1.m0, h1.m1, h1.l0, h1.l1, hf.1, hf.2⟩, ?_⟩
            rcases h2 with rfl | rfl | rfl | rfl | rfl | rfl | rfl | rfl <;> (dsimp only; decide)
          · cases hp
theorem wf_fold {fs : List (Int × Int)} (hf : fiOk fs) : ∀ {st : Option (In4 × Int)}, (∀ p, st = some p → InoOk p.1.k p.1.m p.1.l p.1.s ∧ (p.2 = 0 ∨ p.2 = 1 ∨ p.2 = 2 ∨ p.2 = 3 ∨ p.2 = 4 ∨ p.2 = 5 ∨ p.2 = 6 ∨ p.2 = 7)) →
    ∀ p, fs.foldl wf1 st = some p → InoOk p.1.k p.1.m p.1.l p.1.s ∧ (p.2 = 0 ∨ p.2 = 1 ∨ p.2 = 2 ∨ p.2 = 3 ∨ p.2 = 4 ∨ p.2 = 5 ∨ p.2 = 6 ∨ p.2 = 7) := by
  induction fs with
  | nil => intro st h p hp; exact h p hp
  | cons f fs ih =>
    intro st h p hp
    exact ih (fun x hx => hf x (List.mem_cons_of_mem _ hx)) (wf1_ok (hf f List.mem_cons_self) h) p hp
theorem in0_ok : InoOk in0.k in0.m in0.l in0.s := ⟨by decide, by decide, by decide, by decide, by decide, by decide, by decide, by decide⟩
theorem wfR_ok {i : In4} {fs : List (Int × Int)} (hf : fiOk fs) (hi : InoOk i.k i.m i.l i.s) : InoOk (wfR i fs).1.k (wfR i fs).1.m (wfR i fs).1.l (wfR i fs).1.s ∧ 0 ≤ (wfR i fs).2.1 ∧ (wfR i fs).2.1 ≤ 7 := by
  unfold wfR
  cases h : wfL i fs with
  | none => exact ⟨in0_ok, by simp⟩
  | some p =>
    obtain ⟨h1, h2⟩ := wf_fold hf (st := some (i, 0)) (fun q hq => by cases hq; exact ⟨hi, .inl rfl⟩) p h
    obtain ⟨j, sum⟩ := p
    dsimp only at h1 h2 ⊢
    exact ⟨h1, by omega⟩
theorem wf1_sum {i i' : In4} {sum : Int} {f : Int × Int} : (wf1 (some (i, sum)) f).map Prod.snd = (wf1 (some (i', sum)) f).map Prod.snd := by
  unfold wf1
  dsimp only
  repeat' split
  all_goals rfl
theorem wf_sum {fs : List (Int × Int)} : ∀ {a b : Option (In4 × Int)}, a.map Prod.snd = b.map Prod.snd → (fs.foldl wf1 a).map Prod.snd = (fs.foldl wf1 b).map Prod.snd := by
  induction fs with
  | nil => intro a b h; exact h
  | cons f fs ih =>
    intro a b h
    refine ih ?_
    cases a with
    | none =>
      cases b with
      | none => rfl
      | some q => cases h
    | some p =>
      cases b with
      | none => cases h
      | some q =>
        obtain ⟨i, m⟩ := p
        obtain ⟨i', m'⟩ := q
        simp only [Option.map_some, Option.some.injEq] at h
        subst h
        exact wf1_sum
theorem fields_ok {ino f : Int} {j : In4} (h0 : 0 ≤ ino) (h1 : ino ≤ 4294967295) (hf : 0 ≤ f ∧ f ≤ 7) (hj : InoOk j.k j.m j.l j.s) : CgOk (fieldsC (recP ino) f j.k j.m j.l j.s) :=
  ⟨recP_ok h0 h1, by simp only [fieldsC]; omega, by simp only [fieldsC]; omega, hj, by simp [fieldsC], by simp [fieldsC], pt0_ok⟩

def setF (s : Sg) (ino : Int) (F : In4 × Int) (n : In4 × Int × Bool) (j : In4) : Sg × Int :=
  if F.2 ≠ 0 then (s, F.2)
  else if (n.2.2 && inoOk n.1.k n.1.m n.1.l n.1.s) = false then (s, 1)
  else if n.2.1 = 0 then (s, 0)
  else if (putX s.d (fieldsC (recP ino) n.2.1 j.k j.m j.l j.s)).2 ≠ 0 then ({ s with d := putS s.d (fieldsC (recP ino) n.2.1 j.k j.m j.l j.s) }, (putX s.d (fieldsC (recP ino) n.2.1 j.k j.m j.l j.s)).2)
  else ({ s with d := putS s.d (fieldsC (recP ino) n.2.1 j.k j.m j.l j.s), U := addK s.U ino (kindsL n.2.1) }, 0)
def setR (s : Sg) (ino : Int) (fs : List (Int × Int)) : Sg × Int := setF s ino (fdR s ino) (wfR (fdR s ino).1 fs) (wfR in0 fs).1

end Go.Proofs.YtjjhfginmamlkaaGreat
