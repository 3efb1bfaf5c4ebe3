/- What was touched: taken back, counted, told; what a write and a read of a file touch. -/
import Derived.Test.YtjjhfginmamlkaaGreatXD
import Derived.Test.YtjjhfginmamlkaaGreatRtUndo
namespace Go.Proofs.YtjjhfginmamlkaaGreat
open Go.RowKit Go.Maps
set_option linter.unusedVariables false
set_option linter.unusedSimpArgs false
set_option maxRecDepth 100000

theorem SgIn.undoR {B : Nat} {w : World} {a : Sa} {X : List Nat} {s : Sg} (h : SgIn B w a X s) : Calls Tryz.prog 19 #[.pointer (some ⟨a.r, 0, none⟩), .int .i64 0] w fun e w' => e = .returned (.int .i64 0) ∧ SgOut B w a X { s with R := [] } w' := by
  obtain ⟨vd, vr, vu, h, rfl⟩ := h
  refine (undo_any h.r 0 (Nat.zero_le _)).mono ?_
  rintro e w' ⟨rfl, vr', h1, k⟩
  exact ⟨rfl, h.read h1 k⟩
theorem SgIn.undoU {B : Nat} {w : World} {a : Sa} {X : List Nat} {s : Sg} (h : SgIn B w a X s) : Calls Tryz.prog 19 #[.pointer (some ⟨a.u, 0, none⟩), .int .i64 0] w fun e w' => e = .returned (.int .i64 0) ∧ SgOut B w a X { s with U := [] } w' := by
  obtain ⟨vd, vr, vu, h, rfl⟩ := h
  refine (undo_any h.u 0 (Nat.zero_le _)).mono ?_
  rintro e w' ⟨rfl, vu', h1, k⟩
  exact ⟨rfl, h.wrote h1 k⟩
theorem Pr.undoR {B : Nat} {w0 w : World} {pp : Nat} {a : Sa} {s : Sg} (h : Pr B w0 w pp a s) : Calls Tryz.prog 19 #[.pointer (some ⟨a.r, 0, none⟩), .int .i64 0] w fun e w' => e = .returned (.int .i64 0) ∧ Pr B w0 w' pp a { s with R := [] } ∧ KeepT w w' := h.call fun X hX => hX.undoR
theorem Pr.undoU {B : Nat} {w0 w : World} {pp : Nat} {a : Sa} {s : Sg} (h : Pr B w0 w pp a s) : Calls Tryz.prog 19 #[.pointer (some ⟨a.u, 0, none⟩), .int .i64 0] w fun e w' => e = .returned (.int .i64 0) ∧ Pr B w0 w' pp a { s with U := [] } ∧ KeepT w w' := h.call fun X hX => hX.undoU
theorem Pr.sizeT {B : Nat} {w0 w : World} {pp : Nat} {a : Sa} {s : Sg} (h : Pr B w0 w pp a s) (ino : Int) (h0 : 0 ≤ ino) (h1 : ino ≤ 4294967295) (hL : s.R.length ≤ 18000) :
    Calls Tryz.prog 18 #[.pointer (some ⟨a.s, 0, none⟩), .int .u32 ino] w fun e w' => e = .returned (.tuple #[.int .i64 (sizeR s ino).2.1, .int .i64 (sizeR s ino).2.2]) ∧ Pr B w0 w' pp a (sizeR s ino).1 ∧ KeepT w w' := h.call fun X hX => size_in hX ino h0 h1 hL
theorem Pr.markR {B : Nat} {w0 w : World} {pp : Nat} {a : Sa} {s : Sg} (h : Pr B w0 w pp a s) : Calls Tryz.prog 21 #[.pointer (some ⟨a.r, 0, none⟩)] w fun e w' => e = .returned (.int .i64 s.R.length) ∧ w = w' := by
  obtain ⟨X, x, p1, vd, vr, vu, h, _⟩ := h.ex
  exact mark_any h.r
theorem Pr.markU {B : Nat} {w0 w : World} {pp : Nat} {a : Sa} {s : Sg} (h : Pr B w0 w pp a s) : Calls Tryz.prog 21 #[.pointer (some ⟨a.u, 0, none⟩)] w fun e w' => e = .returned (.int .i64 s.U.length) ∧ w = w' := by
  obtain ⟨X, x, p1, vd, vr, vu, h, _⟩ := h.ex
  exact mark_any h.u
theorem Pr.allR {B : Nat} {w0 w : World} {pp : Nat} {a : Sa} {s : Sg} (h : Pr B w0 w pp a s) (hl : s.R.length ≤ 100000) : Calls Tryz.prog 20 #[.pointer (some ⟨a.r, 0, none⟩)] w fun e w' =>
    ∃ ad c, e = .returned (.slice ad s.R.length c) ∧ RdZ 5 tcE w' (.slice ad s.R.length c) s.R ∧ Below w.heap.size w w' := by
  obtain ⟨X, x, p1, vd, vr, vu, h, _⟩ := h.ex
  refine (all_any h.r hl).mono ?_
  rintro e w' ⟨u, rfl, hu, hb⟩
  obtain ⟨ad, c, rfl⟩ := own_shape hu
  exact ⟨ad, c, rfl, rdZ_own tc_len hu, hb⟩
theorem Pr.allU {B : Nat} {w0 w : World} {pp : Nat} {a : Sa} {s : Sg} (h : Pr B w0 w pp a s) (hl : s.U.length ≤ 100000) : Calls Tryz.prog 20 #[.pointer (some ⟨a.u, 0, none⟩)] w fun e w' =>
    ∃ ad c, e = .returned (.slice ad s.U.length c) ∧ RdZ 5 tcE w' (.slice ad s.U.length c) s.U ∧ Below w.heap.size w w' := by
  obtain ⟨X, x, p1, vd, vr, vu, h, _⟩ := h.ex
  refine (all_any h.u hl).mono ?_
  rintro e w' ⟨u, rfl, hu, hb⟩
  obtain ⟨ad, c, rfl⟩ := own_shape hu
  exact ⟨ad, c, rfl, rdZ_own tc_len hu, hb⟩
theorem Pr.r1 {B : Nat} {w0 w : World} {pp : Nat} {a : Sa} {s : Sg} (h : Pr B w0 w pp a s) : w.cell? ⟨a.s, 1, none⟩ = some (.pointer (some ⟨a.r, 0, none⟩)) := by
  obtain ⟨X, x, p1, p2⟩ := h.ex
  exact p2.c1
theorem Pr.u2 {B : Nat} {w0 w : World} {pp : Nat} {a : Sa} {s : Sg} (h : Pr B w0 w pp a s) : w.cell? ⟨a.s, 2, none⟩ = some (.pointer (some ⟨a.u, 0, none⟩)) := by
  obtain ⟨X, x, p1, p2⟩ := h.ex
  exact p2.c2

/-! ### What is touched -/

theorem sizeR_file {s : Sg} {ino : Int} {xs : List Int} (h : Fl s ino xs) : sizeR s ino = ({ s with R := addK s.R ino [3] }, (xs.length : Int), 0) := by
  unfold sizeR
  rw [h.fd, if_neg (by simp)]
theorem may_B {ino : Int} (hi : 1 ≤ ino) {lo hi' : Int} (h0 : 0 ≤ lo) (h1 : lo < hi') (h2 : hi' ≤ 512) : mayB (tcB ino lo hi') = true := by
  unfold mayB tcB noName
  have e : ByteArray.toList ⟨#[]⟩ = [] := by rw [ByteArray.toList_eq]
  simp [e, h0, h1, h2, show ino ≠ 0 by omega]
theorem may_S {ino : Int} (hi : 1 ≤ ino) : mayB (tcK ino 3) = true := by
  unfold mayB tcK noName
  have e : ByteArray.toList ⟨#[]⟩ = [] := by rw [ByteArray.toList_eq]
  simp [e, bareK, noSpan, show ino ≠ 0 by omega]
theorem add_nil {t : Tc} (h : mayB t = true) : addL [] t = [t] := by
  unfold addL
  rw [if_pos h, if_neg (by simp [hasL])]
  rfl
theorem add_one {t u : Tc} (h : mayB u = true) (hk : t.kind ≠ u.kind) : addL [t] u = [t, u] := by
  unfold addL
  rw [if_pos h, if_neg]
  · rfl
  · intro e
    have : tcEq u t = true := by simpa [hasL] using e
    rw [tcEq_iff] at this
    exact hk (by rw [this])
theorem addK_nil {ino : Int} (hi : 1 ≤ ino) : addK [] ino [3] = [tcK ino 3] := add_nil (may_S hi)

/-- What a write leaves of what is touched, when nothing was. -/
theorem wr_touch {T : Sg} {K : List Pl} {ino : Int} {xs : List Int} (hb : Bs T K) (hf : Fl T ino xs) (hK : ∀ c : Nat, c < 16 → datP ino c ∈ K) (hKr : recP ino ∈ K) (hR : T.R = []) (hU : T.U = []) (off : Int) (data : ByteArray) :
    ((wrX T ino off data).1.U = [] ∧ ((wrX T ino off data).2 ≠ 0 ∨ data.size = 0)) ∨
    ((wrX T ino off data).2 = 0 ∧ 0 < data.size ∧ data.size ≤ 64 ∧ 0 ≤ off ∧ off + data.size ≤ 512 ∧ (wrX T ino off data).1.R.length = 1 ∧
      (wrX T ino off data).1.U = tcB ino off (off + data.size) :: (if off + data.size ≤ xs.length then [] else [tcK ino 3])) := by
  by_cases h1 : off < 0 ∨ 64 < data.size
  · rw [wr_no hf off data h1]
    exact .inl ⟨hU, .inl (show (1 : Int) ≠ 0 by decide)⟩
  have h0 : 0 ≤ off := by omega
  have h64 : data.size ≤ 64 := by omega
  by_cases h2 : data.size = 0
  · rw [wr_none hf h0 h2]
    exact .inl ⟨hU, .inr h2⟩
  by_cases h3 : 512 - (data.size : Int) < off
  · rw [wr_big hf h0 h64 h2 h3]
    exact .inl ⟨hU, .inl (show (180 : Int) ≠ 0 by decide)⟩
  obtain ⟨o, rfl⟩ : ∃ o : Nat, off = (o : Int) := ⟨off.toNat, by omega⟩
  obtain ⟨s', e1, e2, e3, e4, e5, e6⟩ := wr_file hb hf hK hKr (off := o) (data := data) (by omega) h64 (by omega)
  have hi := hf.i0
  have hm := may_B hi (lo := (o : Int)) (hi' := (o : Int) + data.size) (by omega) (by omega) (by omega)
  rw [e1]
  refine .inr ⟨rfl, by omega, h64, h0, by omega, ?_, ?_⟩
  · show s'.R.length = 1
    rw [e5, hR, addK_nil hi]; rfl
  · show s'.U = _
    rw [e6, hU, add_nil hm]
    by_cases h4 : o + data.size ≤ xs.length
    · rw [if_pos h4, if_pos (by omega)]
    · rw [if_neg h4, if_neg (by omega)]
      exact add_one (may_S hi) (by simp [tcB, tcK])
/-- What a read leaves of what is touched, when nothing was. -/
theorem rd_touch {T : Sg} {ino : Int} {xs : List Int} (hn : T.l = []) (hf : Fl T ino xs) (hR : T.R = []) (hU : T.U = []) (off n : Int) :
    (rdX T ino off n).1.U = [] ∧ (((rdX T ino off n).1.R.length ≤ 1 ∧ ((rdX T ino off n).2.2 ≠ 0 ∨ (rdX T ino off n).2.1.size = 0)) ∨
    ((rdX T ino off n).2.2 = 0 ∧ 0 < (rdX T ino off n).2.1.size ∧ (rdX T ino off n).2.1.size ≤ 64 ∧ 0 ≤ off ∧ off ≤ 512 ∧
      (rdX T ino off n).1.R = [tcK ino 3, tcB ino off (off + (rdX T ino off n).2.1.size)])) := by
  by_cases h1 : off < 0 ∨ n < 0 ∨ 64 < n
  · have e : rdX T ino off n = (T, ⟨#[]⟩, 1) := by unfold rdX exRd; rw [if_pos h1]; first | done | rfl
    rw [e]
    exact ⟨hU, .inl ⟨by show T.R.length ≤ 1; rw [hR]; decide, .inl (show (1 : Int) ≠ 0 by decide)⟩⟩
  obtain ⟨o, rfl⟩ : ∃ o : Nat, off = (o : Int) := ⟨off.toNat, by omega⟩
  obtain ⟨m, rfl⟩ : ∃ m : Nat, n = (m : Int) := ⟨n.toNat, by omega⟩
  have hi := hf.i0
  have hx5 := hf.len
  rw [rd_file hn hf (off := o) (n := m) (by omega), hR, addK_nil hi]
  have hsz : (strOfNums ((xs.drop o).take m)).size = min m (xs.length - o) := by rw [strOfNums_size, List.length_take, List.length_drop]
  by_cases h2 : o < xs.length ∧ 0 < m
  · rw [if_pos h2]
    refine ⟨hU, .inr ⟨rfl, by rw [hsz]; omega, by rw [hsz]; omega, by omega, by omega, ?_⟩⟩
    show addL [tcK ino 3] _ = _
    rw [add_one (may_B hi (by omega) (by omega) (by omega)) (by simp [tcB, tcK])]
    rw [hsz]
    simp
  · rw [if_neg h2]
    exact ⟨hU, .inl ⟨Nat.le_refl _, .inr (by show (strOfNums _).size = 0; rw [hsz]; omega)⟩⟩
theorem Sk.clear {s : Sg} {n : Nat} (h : Sk s n) : Sk { s with R := [], U := [] } n := ⟨h.ck, h.L, h.P, Nat.zero_le _, Nat.zero_le _⟩
theorem sizeR_sk {s : Sg} {n : Nat} (h : Sk s n) {ino : Int} {xs : List Int} (hf : Fl s ino xs) : Sk (sizeR s ino).1 (n + 1) := by
  rw [sizeR_file hf]
  exact ⟨h.ck, by have := h.L; show s.d.L.length ≤ _; omega, by have := h.P; show s.d.pus.length ≤ _; omega, by
    have := h.R
    have h2 := addL_len s.R (tcK ino 3)
    show (addL s.R (tcK ino 3)).length ≤ _
    omega, by have := h.U; show s.U.length ≤ _; omega⟩

end Go.Proofs.YtjjhfginmamlkaaGreat
