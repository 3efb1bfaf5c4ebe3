/- What DirLinks' walk asks of a script's pair. -/
import Derived.Test.YtgajjphjkbnaeaaGreatQ54
namespace Go.Proofs.YtgajjphjkbnaeaaGreat
open Go.RowKit Go.Maps
set_option linter.unusedVariables false
set_option linter.unusedSimpArgs false
set_option maxRecDepth 100000

/-- Inodes in variables stay. -/
def KeepJ (w w' : World) : Prop := ∀ (k : Nat) (cs : Array Value) (fr : Nat × Nat), w.heap[k]? = some (Obj.cells cs 41 fr) → w'.heap[k]? = some (Obj.cells cs 41 fr)
theorem InRow.keepJ {w w' : World} {g : Nat} {k m l s : Int} (h : InRow w g k m l s) (hk : KeepJ w w') : InRow w' g k m l s := ⟨hk _ _ _ h.row⟩
theorem Pr.callJ {B : Nat} {w0 w : World} {pp : Nat} {a : Sa} {s s' : Sg} (h : Pr B w0 w pp a s) {f : FuncId} {args : Array Value} {K : Ending → World → Prop} (hc : ∀ X, SgIn B w a X s → Calls Tryz.prog f args w fun e w' => SgOut B w a X s' w' ∧ K e w') :
  Calls Tryz.prog f args w fun e w' => Pr B w0 w' pp a s' ∧ K e w' ∧ KeepJ w w' := by
 obtain ⟨X, x, h1, h2⟩ := h.ex
 refine (hc X h2).mono ?_
 rintro e w' ⟨⟨X', k1, k2, k3⟩, hk⟩
 exact ⟨⟨⟨X', x, k2.row h1 (h2.not_pair h1), k1⟩, h.bel.trans (k2.belowX h2.ge (Nat.le_trans h.B h.bel.size)), h.B⟩, hk, fun k cs fr hk => k2.row hk (DgP_ok.g.other (s := s) h2 hk (by decide) (by decide) (by decide) (by decide) (by decide) (by decide))⟩
theorem Pr.fndB {B : Nat} {w0 w : World} {pp : Nat} {a : Sa} {s0 s : Sg} (h : Pr B w0 w pp a s) {n : Nat} (k : DgP.Kp s0 s n) (hn : n ≤ 3800) (p : ByteArray) (hp : p.size ≤ maxLen) :
  Calls Tryz.prog 9 #[.pointer (some ⟨a.s, 0, none⟩), .string p] w fun e w' => Pr B w0 w' pp a (drFind DgP s p).1 ∧ (e = .returned (.tuple #[.int .u32 (drFind DgP s p).2.1, .int .i64 (drFind DgP s p).2.2]) ∧ DgP.Kp s0 (drFind DgP s p).1 (n + 8) ∧ 0 ≤ (drFind DgP s p).2.1 ∧ (drFind DgP s p).2.1 ≤ 4294967295) ∧ KeepJ w w' :=
 h.callJ (fun X hX => (find_g DgP_ok (s := s) hX p hp k (by omega)).mono (fun e w' r => ⟨r.2.1, r.1, r.2.2.1, r.2.2.2⟩))
theorem Pr.lkD {B : Nat} {w0 w : World} {pp : Nat} {a : Sa} {s0 s : Sg} (h : Pr B w0 w pp a s) {n : Nat} (k : DgP.Kp s0 s n) (hn : n ≤ 3800) (old p : ByteArray) (hq : old.size ≤ maxLen) (hp : p.size ≤ maxLen) :
  Calls Tryz.prog 13 #[.pointer (some ⟨a.s, 0, none⟩), .string old, .string p] w fun e w' => Pr B w0 w' pp a (drLink DgP s old p).1 ∧ (e = .returned (.int .i64 (drLink DgP s old p).2) ∧ DgP.Kp s0 (drLink DgP s old p).1 (n + 50)) ∧ KeepJ w w' :=
 h.callJ (fun X hX => (link_g DgP_ok (s := s) hX old p hq hp k hn).mono (fun e w' r => ⟨r.2.1, r.1, r.2.2⟩))
theorem stat_kp {s0 s : Sg} {n : Nat} (k : DgP.Kp s0 s n) (ino : Int) : DgP.Kp s0 (statR s ino).1 (n + 3) := by
 refine ⟨Sk.stat k.k ino, ?_⟩
 have hj : Jr s0 s := k.j
 show Jr s0 (statR s ino).1
 unfold statR
 split
 ·exact hj
 ·exact (Jr_cl s0).addR ino _ hj
theorem stat_vs (s : Sg) (ino : Int) : Vs s (statR s ino).1 := by
 unfold statR
 split
 ·exact ⟨rfl, rfl, rfl⟩
 ·exact ⟨rfl, rfl, rfl⟩
theorem stat_ok {s : Sg} {ino : Int} {i : In4} (h : fdR s ino = (i, 0)) : (statR s ino).2 = (i, 0) := by
 unfold statR
 rw [h, if_neg (by simp)]
theorem Pr.unJ {B : Nat} {w0 w : World} {pp : Nat} {a : Sa} {s0 s : Sg} (h : Pr B w0 w pp a s) {n : Nat} (k : DgP.Kp s0 s n) (hn : n ≤ 3800) (p : ByteArray) (hp : p.size ≤ maxLen) :
  Calls Tryz.prog 14 #[.pointer (some ⟨a.s, 0, none⟩), .string p] w fun e w' => Pr B w0 w' pp a (drUnlink DgP s p).1 ∧ (e = .returned (.int .i64 (drUnlink DgP s p).2) ∧ DgP.Kp s0 (drUnlink DgP s p).1 (n + 50)) ∧ KeepJ w w' :=
 h.callJ (fun X hX => (unlink_g DgP_ok (s := s) hX p hp k hn).mono (fun e w' r => ⟨r.2.1, r.1, r.2.2⟩))
theorem Pr.stD {B : Nat} {w0 w : World} {pp : Nat} {a : Sa} {s0 s : Sg} (h : Pr B w0 w pp a s) {n : Nat} (k : DgP.Kp s0 s n) (hn : n ≤ 3800) (ino : Int) (h0 : 0 ≤ ino) (h1 : ino ≤ 4294967295) :
  Calls Tryz.prog 10 #[.pointer (some ⟨a.s, 0, none⟩), .int .u32 ino] w fun e w' => Pr B w0 w' pp a (statR s ino).1 ∧ e = .returned (.tuple #[.agg #[.int .i64 (statR s ino).2.1.k, .int .i64 (statR s ino).2.1.m, .int .i64 (statR s ino).2.1.l, .int .i64 (statR s ino).2.1.s], .int .i64 (statR s ino).2.2]) ∧ KeepJ w w' :=
 h.callJ (fun X hX => (stat_in hX ino h0 h1 (Nat.le_trans k.k.R (by omega))).mono (fun e w' r => ⟨r.2, r.1⟩))

/-- All that DirLinks asks, of what was found ahead of it. -/
theorem links_two {j : Nat} {s s' : Sg} (nv : Nv j s) (jv : Jv s) (hl : s.l = rootL) (hj : j ≤ 40) (hv : Vs s s') {old p : ByteArray} (he : (drLink DgP s' old p).2 = 0) :
  ∃ ino m l z, (drFind DgP s old).2 = (ino, 0) ∧ 0 ≤ ino ∧ ino ≤ 4294967295 ∧ (∀ t, Vs s t → fdR t ino = (⟨1, m, l, z⟩, 0)) ∧ l + 1 ≤ 15 ∧ 1 ≤ l ∧ (drFind DgP (drLink DgP s' old p).1 p).2 = (ino, 0) ∧ (∀ t, Vs (drLink DgP s' old p).1 t → fdR t ino = (⟨1, m, l + 1, z⟩, 0)) ∧
   ∀ t, Vs (drLink DgP s' old p).1 t → (drUnlink DgP t p).2 = 0 ∧ fdR (drUnlink DgP t p).1 ino = (⟨1, m, l, z⟩, 0) := by
 obtain ⟨ino, m, l, z, h1, h2, h3, h4, h5⟩ := links_all (nv.vs hv.l hv.d (Int.le_of_eq hv.n.symm) (by rw [hv.n]; exact nv.n1)) (jv.back hv.l hv.d) (hv.l.trans hl) hj he
 refine ⟨ino, m, l, z, (find_vs hv old).symm.trans h1, h2, h3, fun t ht => ?_, h5⟩
 rw [ht.f, ← hv.f]; exact h4

end Go.Proofs.YtgajjphjkbnaeaaGreat
