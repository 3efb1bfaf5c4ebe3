/- A delta all of whose blocks lie at B or behind. -/
import Derived.Test.YtjjhfginmamlkaaGreatDlPut2
namespace Go.Proofs.YtjjhfginmamlkaaGreat
open Go.RowKit Go.Maps
set_option linter.unusedVariables false
set_option linter.unusedSimpArgs false
set_option maxRecDepth 100000

/-- A delta all of whose blocks lie at B or behind. -/
structure DlN (B : Nat) (w0 w : World) (p b : Nat) (s : Dl) : Prop where
  bel : Below B w0 w
  le : B ≤ w.heap.size
  d : ∃ v, DlAt w p b v s ∧ ∀ k, v.ownBlock = some k → B ≤ k
  p : B ≤ p
  b : B ≤ b
theorem DlN.below {B : Nat} {w0 w w' : World} {p b : Nat} {s : Dl} (h : DlN B w0 w p b s) (hb : Below w.heap.size w w') : DlN B w0 w' p b s := by
  obtain ⟨v, h1, h2⟩ := h.d
  exact ⟨h.bel.trans (hb.mono h.le), Nat.le_trans h.le hb.size, ⟨v, h1.below hb, h2⟩, h.p, h.b⟩
theorem DlN.put {B : Nat} {w0 w : World} {p b : Nat} {s : Dl} (h : DlN B w0 w p b s) (c : Cg) (hc : CgOk c) (hL : s.L.length ≤ 1000) (hP : s.pus.length ≤ 1000) : Calls Tryz.prog 65 #[.pointer (some ⟨p, 0, none⟩), .agg (cgC c)] w fun e w' =>
    e = .returned (.int .i64 (putX s c).2) ∧ DlN B w0 w' p b (putS s c) ∧ KeepD b w w' := by
  obtain ⟨v, h1, h2⟩ := h.d
  refine (dput_any h1 c hc (Nat.le_trans hL (by decide)) (Nat.le_trans hP (by decide))).mono ?_
  rintro e w' ⟨rfl, v', h3, h4⟩
  obtain ⟨h5, h6⟩ := h4.below h.p h.b h2 h.le
  exact ⟨rfl, ⟨h.bel.trans h5, Nat.le_trans h.le h4.size, ⟨v', h3, h6⟩, h.p, h.b⟩, h4.keepD h1⟩
theorem DlN.get {B : Nat} {w0 w : World} {p b : Nat} {s : Dl} (h : DlN B w0 w p b s) (q : Pl) (hq : PlOk q) : Calls Tryz.prog 91 #[.pointer (some ⟨p, 0, none⟩), plV q] w fun e w' =>
    e = .returned (.tuple #[.agg (cgC (wasX s q)), .bool (isX s q)]) ∧ Below w.heap.size w w' := by
  obtain ⟨v, h1, h2⟩ := h.d
  exact dget_any h1 q hq
theorem DlN.count {B : Nat} {w0 w : World} {p b : Nat} {s : Dl} (h : DlN B w0 w p b s) : Calls Tryz.prog 114 #[.pointer (some ⟨p, 0, none⟩)] w fun e w' => e = .returned (.int .i64 s.L.length) ∧ w' = w := by
  obtain ⟨v, h1, h2⟩ := h.d
  exact dcount_r h1
theorem DlN.new (w : World) (m : Int) (hm : m ≤ 9223372036854775807) : Calls Tryz.prog 23 #[.int .i64 m] w fun e w' => ∃ p b, e = .returned (.pointer (some ⟨p, 0, none⟩)) ∧ DlN w.heap.size w w' p b (newS m) ∧ (∀ k, k < w.heap.size → k ≠ b) := by
  refine (dnew_any w m hm).mono ?_
  rintro e w' ⟨rfl, h1, h2⟩
  exact ⟨_, _, rfl, ⟨h2, h2.size, ⟨_, h1, fun k hk => by cases hk⟩, by omega, by omega⟩, fun k hk => by omega⟩

end Go.Proofs.YtjjhfginmamlkaaGreat
