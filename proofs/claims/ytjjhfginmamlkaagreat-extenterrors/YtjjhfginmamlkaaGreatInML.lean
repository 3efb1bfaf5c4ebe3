/- Over a store that may fail: how much a sight holds; what an inode that is found may be (written by tools/laws/InL2_gen.py). -/
import Derived.Test.YtjjhfginmamlkaaGreatInCL
import Derived.Test.YtjjhfginmamlkaaGreatS2
namespace Go.Proofs.YtjjhfginmamlkaaGreat.L
open Go.RowKit Go.Maps
set_option linter.unusedVariables false
set_option linter.unusedSimpArgs false
set_option maxRecDepth 100000

theorem bd_stV (l : List (ByteArray × ByteArray)) (f : Int) {q : Pl} (h1 : q.part = 1) : Bd (i4 (stV l f q).1) := by
  unfold stV
  split
  · exact bd_it0
  · exact bd_st l h1
theorem vg_bd (l : List (ByteArray × ByteArray)) (f : Int) {d : Dl} (hd : DlOk d) (hc : CksOk d) {q : Pl} (h1 : q.part = 1) : Bd (i4 (vgV l f d q).1) := by
  unfold vgV
  cases hx : isX d q with
  | false => exact bd_stV l f h1
  | true =>
    rw [if_pos rfl]
    have hp := was_pl hd hx
    obtain ⟨_, hk⟩ := ck_cases (is_ck hc hx)
    generalize wasX d q = c at *
    have hc1 : c.pl.part = 1 := by rw [hp]; exact h1
    rw [hc1] at hk
    unfold chV chR
    cases hg : c.gone with
    | true => exact bd_it0
    | false =>
      rw [hg] at hk
      simp only [Bool.false_eq_true, if_false, if_true] at hk ⊢
      unfold recOk at hk
      cases hf : c.fresh with
      | true =>
        rw [hf] at hk
        simp only [if_true, Bool.and_eq_true] at hk ⊢
        exact bd_ok hk.2
      | false =>
        rw [hf] at hk
        simp only [Bool.false_eq_true, if_false] at hk ⊢
        rw [hc1]
        rw [if_neg (by decide)]
        split
        · exact bd_it0
        split
        · exact bd_it0
        split
        · exact bd_it0
        split
        · exact bd_with (bd_stV l f hc1) hk
        · exact bd_it0
theorem fd_bd {s : Sg} (hd : DlOk s.d) (hc : CksOk s.d) (ino : Int) : Bd (fdR s ino).1 := by
  have h := vg_bd s.l s.lf hd hc (q := recP ino) rfl
  unfold fdR fdF
  split
  · exact bd0
  split
  · exact bd0
  split
  · exact h
  · exact bd0

/-- How much a sight holds at most; every change may be. -/
structure Sk (s : Sg) (n : Nat) : Prop where
  ck : CksOk s.d
  L : s.d.L.length ≤ n
  P : s.d.pus.length ≤ n
  R : s.R.length ≤ n
  U : s.U.length ≤ n
theorem Sk.mono {s : Sg} {n m : Nat} (h : Sk s n) (hm : n ≤ m) : Sk s m := ⟨h.ck, Nat.le_trans h.L hm, Nat.le_trans h.P hm, Nat.le_trans h.R hm, Nat.le_trans h.U hm⟩
theorem Sk.put {s : Sg} {n : Nat} (h : Sk s n) (c : Cg) : Sk { s with d := putS s.d c } (n + 1) := by
  obtain ⟨h1, h2⟩ := put_len s.d c
  have := h.L
  have := h.P
  exact ⟨h.ck.put c, by dsimp only; omega, by dsimp only; omega, Nat.le_succ_of_le h.R, Nat.le_succ_of_le h.U⟩
theorem Sk.read {s : Sg} {n : Nat} (h : Sk s n) (ino : Int) (ks : List Int) : Sk { s with R := addK s.R ino ks } (n + ks.length) := by
  have := addK_len s.R ino ks
  have := h.R
  exact ⟨h.ck, Nat.le_trans h.L (by omega), Nat.le_trans h.P (by omega), by dsimp only; omega, Nat.le_trans h.U (by omega)⟩
theorem Sk.wrote {s : Sg} {n : Nat} (h : Sk s n) (ino : Int) (ks : List Int) : Sk { s with U := addK s.U ino ks } (n + ks.length) := by
  have := addK_len s.U ino ks
  have := h.U
  exact ⟨h.ck, Nat.le_trans h.L (by omega), Nat.le_trans h.P (by omega), Nat.le_trans h.R (by omega), by dsimp only; omega⟩
theorem Sk.fdS {s : Sg} {n : Nat} (h : Sk s n) (ino : Int) : Sk (fdS s ino) n := by
  obtain ⟨e1, e2, e3, _⟩ := fdS_same s ino
  exact ⟨by rw [e1]; exact h.ck, by rw [e1]; exact h.L, by rw [e1]; exact h.P, by rw [e2]; exact h.R, by rw [e3]; exact h.U⟩
theorem sg_ok {B : Nat} {w : World} {a : Sa} {X : List Nat} {s : Sg} (h : SgIn B w a X s) : DlOk s.d := by
  obtain ⟨vd, vr, vu, h, rfl⟩ := h
  exact h.d.ok

end Go.Proofs.YtjjhfginmamlkaaGreat.L
