/- What an inode that is found may be; what many changes leave of a delta's size. -/
import Derived.Test.YtjjhfginmamlkaaGreatInC0
import Derived.Test.YtjjhfginmamlkaaGreatVwCks
namespace Go.Proofs.YtjjhfginmamlkaaGreat
open Go.RowKit
set_option linter.unusedVariables false
set_option linter.unusedSimpArgs false
set_option maxRecDepth 100000

structure Bd (i : In4) : Prop where
  k0 : 0 ≤ i.k
  k1 : i.k ≤ 2
  m0 : 0 ≤ i.m
  m1 : i.m ≤ 511
  l0 : 0 ≤ i.l
  l1 : i.l ≤ 15
  s0 : 0 ≤ i.s
  s1 : i.s ≤ 512
theorem bd0 : Bd in0 := ⟨by decide, by decide, by decide, by decide, by decide, by decide, by decide, by decide⟩
theorem Bd.ok {i : In4} (h : Bd i) : InoOk i.k i.m i.l i.s := by
  obtain ⟨h1, h2, h3, h4, h5, h6, h7, h8⟩ := h
  constructor <;> omega
theorem ino_iff {k m l s : Int} : inoOk k m l s = true ↔ (0 ≤ m ∧ m ≤ 511) ∧ ((k = 1 ∧ 1 ≤ l ∧ l ≤ 15 ∧ 0 ≤ s ∧ s ≤ 512) ∨ (k = 2 ∧ l = 1 ∧ s = 0)) := by
  unfold inoOk inB
  by_cases h1 : k = 1
  · subst h1; simp; omega
  · by_cases h2 : k = 2
    · subst h2; simp
    · simp [h1, h2]
theorem bd_ok {k m l s : Int} (h : inoOk k m l s = true) : Bd ⟨k, m, l, s⟩ := by
  obtain ⟨⟨h1, h2⟩, h3⟩ := ino_iff.1 h
  rcases h3 with ⟨rfl, a, b, c, d⟩ | ⟨rfl, rfl, rfl⟩
  · exact ⟨by dsimp only; omega, by dsimp only; omega, h1, h2, by dsimp only; omega, b, c, d⟩
  · exact ⟨by dsimp only; omega, by dsimp only; omega, h1, h2, by dsimp only; omega, by dsimp only; omega, by dsimp only; omega, by dsimp only; omega⟩
def i4 (x : It) : In4 := ⟨x.kind, x.mode, x.links, x.size⟩
theorem bd_it0 : Bd (i4 it0) := ⟨by decide, by decide, by decide, by decide, by decide, by decide, by decide, by decide⟩
theorem st_ok {l : List (ByteArray × ByteArray)} {q : Pl} (h1 : q.part = 1) (h : stB l q = true) : inoOk (stI l q).kind (stI l q).mode (stI l q).links (stI l q).size = true := by
  have hI : stI l q = decI q.part (valS l (keyS q)) := by unfold stI; rw [if_pos h]
  unfold stB at h
  simp only [Bool.and_eq_true, decide_eq_true_eq] at h
  obtain ⟨_, hd⟩ := h
  rw [hI]
  unfold decI
  rw [if_pos hd]
  unfold decE at hd
  split at hd
  · cases hd
  · split at hd
    · rename_i ho
      unfold decOk at ho
      rw [Bool.and_eq_true, h1] at ho
      rw [h1]
      exact ho.2
    · cases hd
theorem bd_st (l : List (ByteArray × ByteArray)) {q : Pl} (h1 : q.part = 1) : Bd (i4 (stI l q)) := by
  cases h : stB l q with
  | true => exact bd_ok (st_ok h1 h)
  | false => unfold stI; rw [h]; exact bd_it0
theorem bd_with {x : It} (hx : Bd (i4 x)) {c : Cg} (hc : fieldsOk c = true) : Bd (i4 (withI x c)) := by
  unfold fieldsOk at hc
  split at hc
  · cases hc
  split at hc
  · cases hc
  rw [Bool.and_eq_true] at hc
  obtain ⟨⟨a1, a2⟩, h3⟩ := ino_iff.1 hc.2
  have h3' : 1 ≤ wL c 1 ∧ wL c 1 ≤ 15 ∧ 0 ≤ wS c 0 ∧ wS c 0 ≤ 512 := by
    rcases h3 with ⟨_, h⟩ | ⟨h, _⟩
    · exact h
    · cases h
  clear h3 hc
  obtain ⟨b1, b2, b3, b4⟩ := h3'
  obtain ⟨x1, x2, x3, x4, x5, x6, x7, x8⟩ := hx
  unfold i4 at *
  unfold withI
  dsimp only at *
  unfold wM at a1 a2
  unfold wL at b1 b2
  unfold wS at b3 b4
  unfold wM wL wS
  refine ⟨x1, x2, ?_, ?_, ?_, ?_, ?_, ?_⟩ <;> dsimp only
  · split
    · rename_i hb; rw [if_pos hb] at a1; exact a1
    · exact x3
  · split
    · rename_i hb; rw [if_pos hb] at a2; exact a2
    · exact x4
  · split
    · rename_i hb; rw [if_pos hb] at b1; omega
    · exact x5
  · split
    · rename_i hb; rw [if_pos hb] at b2; omega
    · exact x6
  · split
    · rename_i hb; rw [if_pos hb] at b3; omega
    · exact x7
  · split
    · rename_i hb; rw [if_pos hb] at b4; omega
    · exact x8
theorem is_ck {d : Dl} (hc : CksOk d) {q : Pl} (h : isX d q = true) : ckOk (wasX d q) = true := by
  unfold isX at h
  unfold wasX
  cases hg : getL d.L q with
  | none => rw [hg] at h; cases h
  | some c => exact hc c (List.mem_of_find?_eq_some hg)
theorem vg_bd (l : List (ByteArray × ByteArray)) {d : Dl} (hd : DlOk d) (hc : CksOk d) {q : Pl} (h1 : q.part = 1) : Bd (i4 (vgR l d q).1) := by
  unfold vgR
  cases hx : isX d q with
  | false => exact bd_st l h1
  | true =>
    rw [if_pos rfl]
    have hp := was_pl hd hx
    obtain ⟨_, hk⟩ := ck_cases (is_ck hc hx)
    generalize wasX d q = c at *
    rw [hp, h1] at hk
    unfold chL chR
    cases hg : c.gone with
    | true => exact bd_it0
    | false =>
      rw [hg] at hk
      simp only [Bool.false_eq_true, if_false, if_true] at hk ⊢
      unfold recOk at hk
      cases hf : c.fresh with
      | true =>
        rw [hf] at hk
        simp only [if_true, Bool.and_eq_true] at hk ⊢
        exact bd_ok hk.2
      | false =>
        rw [hf] at hk
        simp only [Bool.false_eq_true, if_false] at hk ⊢
        rw [hp, h1]
        rw [if_neg (by decide)]
        split
        · exact bd_it0
        split
        · exact bd_it0
        split
        · exact bd_it0
        split
        · exact bd_with (bd_st l h1) hk
        · exact bd_it0
theorem fd_bd {s : Sg} (hd : DlOk s.d) (hc : CksOk s.d) (ino : Int) : Bd (fdR s ino).1 := by
  have h := vg_bd s.l hd hc (q := recP ino) rfl
  unfold fdR fdF
  split
  · exact bd0
  split
  · exact bd0
  split
  · exact h
  · exact bd0

theorem put_len (d : Dl) (c : Cg) : (putS d c).L.length ≤ d.L.length + 1 ∧ (putS d c).pus.length ≤ d.pus.length + 1 := by
  unfold putS
  split
  · exact ⟨setL_len _ _, by simp⟩
  · exact ⟨by omega, by omega⟩
/-- How much a sight holds at most; every change may be. -/
structure Sk (s : Sg) (n : Nat) : Prop where
  ck : CksOk s.d
  L : s.d.L.length ≤ n
  P : s.d.pus.length ≤ n
  R : s.R.length ≤ n
  U : s.U.length ≤ n
theorem Sk.mono {s : Sg} {n m : Nat} (h : Sk s n) (hm : n ≤ m) : Sk s m := ⟨h.ck, Nat.le_trans h.L hm, Nat.le_trans h.P hm, Nat.le_trans h.R hm, Nat.le_trans h.U hm⟩
theorem Sk.put {s : Sg} {n : Nat} (h : Sk s n) (c : Cg) : Sk { s with d := putS s.d c } (n + 1) := by
  obtain ⟨h1, h2⟩ := put_len s.d c
  have := h.L
  have := h.P
  exact ⟨h.ck.put c, by dsimp only; omega, by dsimp only; omega, Nat.le_succ_of_le h.R, Nat.le_succ_of_le h.U⟩
theorem Sk.read {s : Sg} {n : Nat} (h : Sk s n) (ino : Int) (ks : List Int) : Sk { s with R := addK s.R ino ks } (n + ks.length) := by
  have := addK_len s.R ino ks
  have := h.R
  exact ⟨h.ck, Nat.le_trans h.L (by omega), Nat.le_trans h.P (by omega), by dsimp only; omega, Nat.le_trans h.U (by omega)⟩
theorem Sk.wrote {s : Sg} {n : Nat} (h : Sk s n) (ino : Int) (ks : List Int) : Sk { s with U := addK s.U ino ks } (n + ks.length) := by
  have := addK_len s.U ino ks
  have := h.U
  exact ⟨h.ck, Nat.le_trans h.L (by omega), Nat.le_trans h.P (by omega), Nat.le_trans h.R (by omega), by dsimp only; omega⟩
theorem Sk.set {s : Sg} {n : Nat} (h : Sk s n) (ino : Int) (fs : List (Int × Int)) : Sk (setR s ino fs).1 (n + 4) := by
  unfold setR setF
  split
  · exact h.mono (by omega)
  split
  · exact h.mono (by omega)
  split
  · exact h.mono (by omega)
  split
  · exact (h.put _).mono (by omega)
  · exact (Sk.wrote (h.put _) ino _).mono (by have := kindsL_len (wfR (fdR s ino).1 fs).2.1; omega)
theorem sg_ok {B : Nat} {w : World} {a : Sa} {X : List Nat} {s : Sg} (h : SgIn B w a X s) : DlOk s.d := by
  obtain ⟨vd, vr, vu, h, rfl⟩ := h
  exact h.d.ok

end Go.Proofs.YtjjhfginmamlkaaGreat
