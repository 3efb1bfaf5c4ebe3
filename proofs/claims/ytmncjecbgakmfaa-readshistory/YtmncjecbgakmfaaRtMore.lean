/- Calls of a history that are handed in; whoever reads more meets more. -/
import Derived.Test.YtmncjecbgakmfaaRtHAdd
namespace Go.Proofs.Ytmncjecbgakmfaa
open Go.RowKit
set_option linter.unusedVariables false
set_option linter.unusedSimpArgs false
set_option maxRecDepth 100000

/-- One of the calls that are handed in. -/
theorem act_load {w : World} {a : Option Addr} {n cap : Nat} {l : List Act1} (h : RdZ 3 actE w (.slice a n cap) l) {i : Nat} {x : Act1} (hx : l[i]? = some x) :
    ∃ b off, a = some ⟨b, off, none⟩ ∧ (Instr.loadAt 45 (.pointer (some ⟨b, off + i * 3, none⟩))).run Try.prog w = .ok (.agg #[.int .i64 x.f0, .int .u64 x.f1, x.v]) w := by
  obtain ⟨⟨a', c, e, h1, h2, h3⟩, _⟩ := h
  simp only [Value.slice.injEq] at e
  obtain ⟨rfl, rfl, rfl⟩ := e
  obtain ⟨b, off, rfl, hlt, hc⟩ := h3 (by intro e; subst e; simp at hx)
  refine ⟨b, off, rfl, ?_⟩
  have hr : w.rangeAt b (off + i * 3) (actE x) := fun j u hu => hc i x j u hx hu
  exact run_loadAt_mid (P := Try.prog) w b (off + i * 3) 45 _ _ hr Try.underlying45 rfl (by kernel_rfl)

theorem rdT_shape {w : World} {v : Value} {l : List Tc} (h : RdT w v l) : ∃ a c, v = .slice a l.length c := by
  obtain ⟨⟨⟨a, c, e, _⟩, _⟩, _⟩ := h
  exact ⟨a, c, e⟩
theorem addV_len (V : List (Int × List Tc)) (ver : Int) (l : List Tc) : (addV V ver l).length ≤ V.length + 1 := by
  unfold addV; split
  · simp
  · omega

theorem anyM_app (a b : List Tc) (x : Tc) : anyM (a ++ b) x = (anyM a x || anyM b x) := by unfold anyM; exact List.any_append
theorem any_or {α : Type} (l : List α) (f g : α → Bool) : l.any (fun x => f x || g x) = (l.any f || l.any g) := by
  induction l with
  | nil => rfl
  | cons x l ih => simp only [List.any_cons, ih]; cases f x <;> cases g x <;> cases l.any f <;> cases l.any g <;> rfl
theorem meetsD_app (l a b : List Tc) : meetsD l (a ++ b) = (meetsD l a || meetsD l b) := by
  unfold meetsD
  rw [show anyM (a ++ b) = fun x => anyM a x || anyM b x from funext (anyM_app a b), any_or]
theorem meetsV_app (V : List (Int × List Tc)) (s : Int) (a b : List Tc) : meetsV V s (a ++ b) = (meetsV V s a || meetsV V s b) := by
  unfold meetsV
  rw [← any_or]
  congr 1
  funext p
  rw [meetsD_app, Bool.and_or_distrib_left]
theorem meetsV_nil (V : List (Int × List Tc)) (s : Int) : meetsV V s [] = false := by
  unfold meetsV
  rw [List.any_eq_false]
  intro p _
  have : meetsD p.2 [] = false := by unfold meetsD; rw [List.any_eq_false]; intro x _; simp [anyM]
  rw [this]; simp
theorem meetsV_mono (V : List (Int × List Tc)) (s s' : Int) (h : s' ≤ s) (a : List Tc) (hm : meetsV V s a = true) : meetsV V s' a = true := by
  unfold meetsV at *
  rw [List.any_eq_true] at *
  obtain ⟨p, hp, hq⟩ := hm
  simp only [Bool.and_eq_true, decide_eq_true_eq] at hq
  exact ⟨p, hp, by simp only [Bool.and_eq_true, decide_eq_true_eq]; exact ⟨by omega, hq.2⟩⟩

end Go.Proofs.Ytmncjecbgakmfaa
