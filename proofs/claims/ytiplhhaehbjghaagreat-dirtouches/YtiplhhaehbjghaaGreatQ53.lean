/- DrX, DrW: in one text. -/
import Derived.Test.YtiplhhaehbjghaaGreatQ52
namespace Go.Proofs.YtiplhhaehbjghaaGreat
open Go.RowKit
set_option linter.unusedVariables false
set_option linter.unusedSimpArgs false
set_option maxRecDepth 4000

set_option maxRecDepth 100000

/-- One step, and all of them, in plain words. -/
def dnK (s : Sg) (t : Int) : Int := (drKind DgP s t 1 192).2
def dnL (s : Sg) (t : Int) (x : ByteArray) : Sg × Int × Int := drLook DgP s t x
def dnS (s : Sg) (t : Int) (x : ByteArray) : Sg × Int × Int := drStep DgP (drLook DgP s t x)
def dnD (ns : List ByteArray) (s : Sg) (t : Int) : Sg × Int × Int := drDown DgP ns s t
theorem dnK_eq (s : Sg) (t : Int) : dnK s t = if (fdR s t).2 ≠ 0 then (fdR s t).2 else if (fdR s t).1.k = 1 then 192 else 0 := rfl
theorem dnL_eq (s : Sg) (t : Int) (x : ByteArray) : dnL s t x = if dnK s t ≠ 0 then (s, 0, dnK s t) else ({ s with R := addL s.R (tcN t x) }, (vgR s.l s.d (entP t x)).1.lead, (vgR s.l s.d (entP t x)).2.2) := rfl
theorem dnS_eq (s : Sg) (t : Int) (x : ByteArray) : dnS s t x = if (dnL s t x).2.2 = 0 ∧ (dnL s t x).2.1 = 0 then ((dnL s t x).1, 0, 190) else dnL s t x := rfl
theorem dnD_eq (x : ByteArray) (ns : List ByteArray) (s : Sg) (t : Int) : dnD (x :: ns) s t = if (dnS s t x).2.2 ≠ 0 then ((dnS s t x).1, 0, (dnS s t x).2.2) else dnD ns (dnS s t x).1 (dnS s t x).2.1 := rfl
/-- What going down reads. -/
def wayT (s : Sg) : List ByteArray → Int → List Tc
 | [], _ => []
 | x :: ns, t => if dnK s t ≠ 0 then [] else tcN t x :: (if (dnS s t x).2.2 ≠ 0 then [] else wayT s ns (dnS s t x).2.1)
theorem kind_vs {s s' : Sg} (h : Vs s s') (t : Int) : dnK s' t = dnK s t := by rw [dnK_eq, dnK_eq, h.f]
theorem look_vs2 {s s' : Sg} (h : Vs s s') (t : Int) (x : ByteArray) : (dnL s' t x).2 = (dnL s t x).2 := by
 rw [dnL_eq, dnL_eq, kind_vs h, h.l, h.d]
 by_cases hc : dnK s t ≠ 0
 ·rw [if_pos hc, if_pos hc]
 ·rw [if_neg hc, if_neg hc]
theorem step_vs {s s' : Sg} (h : Vs s s') (t : Int) (x : ByteArray) : (dnS s' t x).2 = (dnS s t x).2 := by
 have e := look_vs2 h t x
 rw [dnS_eq, dnS_eq, e]
 by_cases hc : (dnL s t x).2.2 = 0 ∧ (dnL s t x).2.1 = 0
 ·rw [if_pos hc, if_pos hc]
 ·rw [if_neg hc, if_neg hc]; exact e
theorem way_vs {s s' : Sg} (h : Vs s s') : ∀ (ns : List ByteArray) (t : Int), wayT s' ns t = wayT s ns t
 | [], t => rfl
 | x :: ns, t => by
  unfold wayT
  rw [kind_vs h, step_vs h, way_vs h ns]
theorem stepS (s : Sg) (t : Int) (x : ByteArray) : (dnS s t x).1 = if dnK s t ≠ 0 then s else { s with R := addL s.R (tcN t x) } := by
 have e : (dnS s t x).1 = (dnL s t x).1 := drStep_st DgP _
 rw [e, dnL_eq]
 by_cases hc : dnK s t ≠ 0
 ·rw [if_pos hc, if_pos hc]
 ·rw [if_neg hc, if_neg hc]
theorem step_bad {s : Sg} {t : Int} {x : ByteArray} (hc : dnK s t ≠ 0) : (dnS s t x).2.2 ≠ 0 := by
 have e : dnL s t x = (s, 0, dnK s t) := by rw [dnL_eq, if_pos hc]
 rw [dnS_eq, e, if_neg (fun h => hc h.1)]
 exact hc
theorem step_good {s : Sg} {t : Int} {x : ByteArray} (h : (dnS s t x).2.2 = 0) : dnK s t = 0 ∧ (dnS s t x).2.1 = dE s t x ∧ dE s t x ≠ 0 ∧ dD s t := by
 obtain ⟨q1, q2, q3⟩ := drStep_0 (D := DgP) h
 obtain ⟨q4, q5⟩ := drLook_E q1
 have e : dnS s t x = drLook DgP s t x := q3
 refine ⟨Decidable.by_contra fun hc => step_bad hc h, by rw [e]; exact q4, by rw [← q4]; exact q2, q5⟩
theorem down_way : ∀ (ns : List ByteArray) (s : Sg) (t : Int), (dnD ns s t).1 = { s with R := (wayT s ns t).foldl addL s.R }
 | [], s, t => rfl
 | x :: ns, s, t => by
  rw [dnD_eq]
  unfold wayT
  have hS := stepS s t x
  by_cases hc : (dnS s t x).2.2 ≠ 0
  ·rw [if_pos hc]
   show (dnS s t x).1 = _
   rw [hS]
   by_cases hk : dnK s t ≠ 0
   ·rw [if_pos hk, if_pos hk]; rfl
   ·rw [if_neg hk, if_neg hk, if_pos hc]; rfl
  ·rw [if_neg hc, down_way ns]
   have hk : ¬ dnK s t ≠ 0 := fun hk => hc (step_bad hk)
   have hv : Vs s (dnS s t x).1 := by rw [hS, if_neg hk]; exact ⟨rfl, rfl, rfl⟩
   rw [way_vs hv, hS, if_neg hk, if_neg hk, if_neg hc]
   rfl
theorem way_len : ∀ (ns : List ByteArray) (s : Sg) (t : Int), (wayT s ns t).length ≤ ns.length ∧ ((dnD ns s t).2.2 = 0 → (wayT s ns t).length = ns.length)
 | [], s, t => ⟨Nat.le_refl _, fun _ => rfl⟩
 | x :: ns, s, t => by
  have hS := stepS s t x
  have ih := way_len ns (dnS s t x).1 (dnS s t x).2.1
  rw [dnD_eq]
  unfold wayT
  by_cases hk : dnK s t ≠ 0
  ·have hc := step_bad (x := x) hk
   rw [if_pos hk, if_pos hc]
   exact ⟨Nat.zero_le _, fun h => absurd h hc⟩
  have hv : Vs s (dnS s t x).1 := by rw [hS, if_neg hk]; exact ⟨rfl, rfl, rfl⟩
  rw [way_vs hv] at ih
  rw [if_neg hk]
  by_cases hc : (dnS s t x).2.2 ≠ 0
  ·rw [if_pos hc, if_pos hc]
   exact ⟨by simp, fun h => absurd h hc⟩
  ·rw [if_neg hc, if_neg hc]
   simp only [List.length_cons]
   exact ⟨by omega, fun h => by have := ih.2 h; omega⟩
theorem way_get : ∀ (ns : List ByteArray) (s : Sg) (t : Int) (i : Nat) (y : Tc), (wayT s ns t)[i]? = some y → y.kind = 5 ∧ ns[i]? = some y.name ∧ (i = 0 → y.ino = t)
 | [], s, t, i, y, h => by unfold wayT at h; simp at h
 | x :: ns, s, t, i, y, h => by
  unfold wayT at h
  split at h
  ·simp at h
  ·cases i with
   | zero =>
    simp only [List.getElem?_cons_zero, Option.some.injEq] at h
    subst h
    exact ⟨rfl, rfl, fun _ => rfl⟩
   | succ i =>
    rw [List.getElem?_cons_succ] at h
    split at h
    ·simp at h
    ·obtain ⟨q1, q2, _⟩ := way_get ns s _ i y h
     exact ⟨q1, by rw [List.getElem?_cons_succ]; exact q2, fun e => by omega⟩

/-! ### No inode twice -/
inductive Chn (s : Sg) : List Int → Int → Prop
 | nil : Chn s [] 1
 | cons {A : List Int} {a t : Int} {x : ByteArray} : Chn s A a → dD s a → t = dE s a x → t ≠ 0 → Chn s (a :: A) t
theorem Chn.ne0 {s : Sg} {A : List Int} {t : Int} (h : Chn s A t) : t ≠ 0 := by
 cases h with
 | nil => decide
 | cons _ _ _ h4 => exact h4
theorem ch_one {i : Nat} {s : Sg} (nv : Nv i s) : ∀ {A : List Int} {t : Int}, Chn s A t → ∀ {B : List Int}, Chn s B t → dD s t → A = B
 | [], t, h, B, k, hd => by
  cases h
  cases k with
  | nil => rfl
  | cons k1 k2 k3 k4 => exact absurd k3.symm (nv.r1 _ _)
 | a :: A, t, h, B, k, hd => by
  cases h with
  | cons h1 h2 h3 h4 =>
   cases k with
   | nil => exact absurd h3.symm (nv.r1 _ _)
   | cons k1 k2 k3 k4 =>
    obtain ⟨e, _⟩ := nv.un _ _ _ _ (by rw [← h3]; exact h4) (h3.symm.trans k3) (by rw [← h3]; exact hd)
    subst e
    rw [ch_one nv h1 k1 h2]
theorem ch_mem {s : Sg} : ∀ {A : List Int} {t : Int}, Chn s A t → ∀ u ∈ A, ∃ B, B.length < A.length ∧ Chn s B u
 | [], t, h, u, hu => absurd hu List.not_mem_nil
 | a :: A, t, h, u, hu => by
  cases h with
  | cons h1 h2 h3 h4 =>
   rcases List.mem_cons.1 hu with rfl | hu
   ·exact ⟨A, by simp, h1⟩
   ·obtain ⟨B, q1, q2⟩ := ch_mem h1 u hu
    exact ⟨B, by simp only [List.length_cons]; omega, q2⟩
theorem ch_new {i : Nat} {s : Sg} (nv : Nv i s) {A : List Int} {t : Int} (h : Chn s A t) (hd : dD s t) : t ∉ A := fun hm => by
 obtain ⟨B, q1, q2⟩ := ch_mem h t hm
 have e := ch_one nv h q2 hd
 rw [e] at q1
 omega
theorem dD_of_kind {s : Sg} {t : Int} (h : ¬ dnK s t ≠ 0) : dD s t := drKind_0 (by decide) (Decidable.not_not.1 h)
theorem may_N {ino : Int} (h : ino ≠ 0) {x : ByteArray} (hx : nameOk x = true) : mayB (tcN ino x) = true := by
 have h1 := (nmOk_size hx).1
 unfold mayB tcN noName noSpan
 have e : (x.toList == []) = false := by
  rw [ByteArray.toList_eq]
  cases hq : x.data.toList with
  | nil => rw [hq] at h1; simp at h1
  | cons a b => rfl
 simp [h, e]
 try (first | done | (intro q; rw [ByteArray.toList_eq] at q; simp [q] at h1))
theorem may_A {ino : Int} (h : ino ≠ 0) : mayB (tcA ino) = true := by
 unfold mayB tcA noName noSpan bareK
 have e : ByteArray.toList ⟨#[]⟩ = [] := by rw [ByteArray.toList_eq]
 simp [h, e]
theorem has_iff {L : List Tc} {t : Tc} : hasL L t = true ↔ t ∈ L := by
 unfold hasL
 rw [List.any_eq_true]
 constructor
 ·rintro ⟨x, hx, e⟩
  first | (rw [tcEq_iff] at e; subst e; exact hx) | (have := tcEq_iff.1 e; subst this; exact hx)
 ·intro h
  exact ⟨t, h, tcEq_iff.2 rfl⟩
theorem way_fresh {i : Nat} {s : Sg} (nv : Nv i s) : ∀ (ns : List ByteArray) {A : List Int} {t : Int} {R : List Tc}, Chn s A t → (∀ x ∈ R, x.ino ∈ A) → (∀ x ∈ ns, nameOk x = true) → (wayT s ns t).foldl addL R = R ++ wayT s ns t
 | [], A, t, R, h, hR, hn => by unfold wayT; simp
 | x :: ns, A, t, R, h, hR, hn => by
  unfold wayT
  by_cases hk : dnK s t ≠ 0
  ·rw [if_pos hk]; simp
  rw [if_neg hk, List.foldl_cons]
  have hd := dD_of_kind hk
  have hA : addL R (tcN t x) = R ++ [tcN t x] := by
   unfold addL
   rw [if_pos (may_N h.ne0 (hn x List.mem_cons_self)), if_neg (fun e => ch_new nv h hd (hR _ (has_iff.1 e)))]
  rw [hA]
  by_cases hc : (dnS s t x).2.2 ≠ 0
  ·rw [if_pos hc]; rfl
  rw [if_neg hc]
  obtain ⟨_, g2, g3, _⟩ := step_good (Decidable.not_not.1 hc)
  have hch : Chn s (t :: A) (dnS s t x).2.1 := .cons (x := x) h hd g2 (by rw [g2]; exact g3)
  rw [way_fresh nv ns hch (fun y hy => ?_) (fun y hy => hn y (List.mem_cons_of_mem _ hy))]
  ·rw [List.append_assoc]; rfl
  ·rcases List.mem_append.1 hy with hy | hy
   ·exact List.mem_cons_of_mem _ (hR y hy)
   ·rcases List.mem_singleton.1 hy with rfl
    exact List.mem_cons_self
theorem add_has : ∀ (Z : List Tc) {R : List Tc}, (∀ x ∈ Z, x ∈ R) → Z.foldl addL R = R
 | [], R, h => rfl
 | z :: Z, R, h => by
  have e : addL R z = R := by
   unfold addL
   split
   ·rw [if_pos (has_iff.2 (h z List.mem_cons_self))]
   ·rfl
  rw [List.foldl_cons, e]
  exact add_has Z (fun x hx => h x (List.mem_cons_of_mem _ hx))
theorem path_names {p : ByteArray} (h : pathE p = 0) : ∀ x ∈ pathL p, nameOk x = true := by
 unfold pathL
 rw [if_pos h]
 split
 ·intro x hx; exact absurd hx List.not_mem_nil
 ·rename_i h2
  unfold pathE at h
  rw [if_neg h2] at h
  split at h
  ·split at h
   ·split at h
    ·rename_i q; exact fun x hx => List.all_eq_true.1 q x hx
    ·exact absurd h (by decide)
   ·exact absurd h (by decide)
  ·exact absurd h (by decide)

/-! ### What Find and List read -/
theorem find_way {i : Nat} {s : Sg} (nv : Nv i s) (hR : s.R = []) {p : ByteArray} (h : pathE p = 0) : (drFind DgP s p).1 = { s with R := wayT s (pathL p) 1 } ∧ (drFind DgP s p).2 = (dnD (pathL p) s 1).2 := by
 have e : drFind DgP s p = dnD (pathL p) s 1 := if_neg (by simpa using h)
 refine ⟨?_, by rw [e]⟩
 rw [e, down_way, hR, way_fresh nv (pathL p) .nil (fun x hx => absurd hx List.not_mem_nil) (path_names h)]
 rfl
theorem list_way {i : Nat} {s : Sg} (nv : Nv i s) {p : ByteArray} (h : pathE p = 0) : (drList DgP { s with R := wayT s (pathL p) 1 } p).1.U = s.U ∧ ((drList DgP { s with R := wayT s (pathL p) 1 } p).2.2 = 0 → ∃ t, (drList DgP { s with R := wayT s (pathL p) 1 } p).1.R = wayT s (pathL p) 1 ++ [tcA t] ∧ (wayT s (pathL p) 1).length = (pathL p).length) := by
 obtain ⟨s1, hs1⟩ : ∃ s1 : Sg, { s with R := wayT s (pathL p) 1 } = s1 := ⟨_, rfl⟩
 rw [hs1]
 have hv : Vs s s1 := by rw [← hs1]; exact ⟨rfl, rfl, rfl⟩
 have hr : s1.R = wayT s (pathL p) 1 := by rw [← hs1]
 have hu : s1.U = s.U := by rw [← hs1]
 have e : drFind DgP s1 p = dnD (pathL p) s1 1 := if_neg (by simpa using h)
 have e1 : (drFind DgP s1 p).1 = s1 := by
  rw [e, down_way, way_vs hv, ← hr, add_has _ (fun x hx => hx)]
 have hl := (way_len (pathL p) s1 1).2
 rw [way_vs hv, ← e] at hl
 have hn := drFind_ne DgP s1 p
 have hd : drList DgP s1 p = drList1 DgP (drFind DgP s1 p) := rfl
 rw [hd]
 generalize drFind DgP s1 p = F at *
 obtain ⟨f1, f2, f3⟩ := F
 dsimp only at e1 hl hn
 subst e1
 have hd1 : drList1 DgP (f1, f2, f3) = if f3 ≠ 0 then (f1, [], f3) else if (drKind DgP f1 f2 1 192).2 ≠ 0 then (f1, [], (drKind DgP f1 f2 1 192).2) else ({ f1 with R := addL f1.R (tcA f2) }, namesV f1.l f1.d f2, 0) := rfl
 rw [hd1]
 by_cases h3 : f3 ≠ 0
 ·rw [if_pos h3]; exact ⟨hu, fun q => absurd q h3⟩
 rw [if_neg h3]
 by_cases hk : (drKind DgP f1 f2 1 192).2 ≠ 0
 ·rw [if_pos hk]; exact ⟨hu, fun q => absurd q hk⟩
 rw [if_neg hk]
 refine ⟨hu, fun _ => ⟨f2, ?_, hl (Decidable.not_not.1 h3)⟩⟩
 show addL f1.R (tcA f2) = _
 unfold addL
 rw [if_pos (may_A (hn (Decidable.not_not.1 h3))), if_neg (fun q => ?_), hr]
 have hm := has_iff.1 q
 rw [hr] at hm
 obtain ⟨j, hj⟩ := List.getElem?_of_mem hm
 have := (way_get _ _ _ _ _ hj).1
 simp [tcA] at this

open Go.RowKit Go.Maps
set_option maxRecDepth 100000

theorem Pr.su {B : Nat} {w0 w : World} {pp : Nat} {a : Sa} {s : Sg} (h : Pr B w0 w pp a s) : w.cell? ⟨a.s, 2, none⟩ = some (.pointer (some ⟨a.u, 0, none⟩)) := by
 obtain ⟨X, x, _, h2⟩ := h.ex
 exact h2.c2
theorem Pr.mU {B : Nat} {w0 w : World} {pp : Nat} {a : Sa} {s : Sg} (h : Pr B w0 w pp a s) : Calls Tryz.prog 28 #[.pointer (some ⟨a.u, 0, none⟩)] w fun e w' => e = .returned (.int .i64 s.U.length) ∧ w = w' := by
 obtain ⟨X, x, _, h2⟩ := h.ex
 exact h2.markUm
theorem Pr.aR {B : Nat} {w0 w : World} {pp : Nat} {a : Sa} {s : Sg} (h : Pr B w0 w pp a s) (hl : s.R.length ≤ 100000) : Calls Tryz.prog 29 #[.pointer (some ⟨a.r, 0, none⟩)] w fun e w' =>
  ∃ ad c, e = .returned (.slice ad s.R.length c) ∧ RdZ 5 tcE w' (.slice ad s.R.length c) s.R ∧ Below w.heap.size w w' := by
 obtain ⟨X, x, p1, vd, vr, vu, h, _⟩ := h.ex
 refine (all_any h.r hl).mono ?_
 rintro e w' ⟨u, rfl, hu, hb⟩
 obtain ⟨ad, c, rfl⟩ := own_shape hu
 exact ⟨ad, c, rfl, rdZ_own tc_len hu, hb⟩
/-- Lists of names stay. -/
def KeepN (w w' : World) : Prop := ∀ (va : Option Addr) (nn vc : Nat) (ns : List ByteArray), FrR 0 w va nn vc ns → FrR 0 w' va nn vc ns
theorem Pr.callN {B : Nat} {w0 w : World} {pp : Nat} {a : Sa} {s s' : Sg} (h : Pr B w0 w pp a s) {f : FuncId} {args : Array Value} {K : Ending → World → Prop} (hc : ∀ X, SgIn B w a X s → Calls Tryz.prog f args w fun e w' => SgOut B w a X s' w' ∧ K e w') :
  Calls Tryz.prog f args w fun e w' => Pr B w0 w' pp a s' ∧ K e w' ∧ KeepN w w' := by
 obtain ⟨X, x, h1, h2⟩ := h.ex
 refine (hc X h2).mono ?_
 rintro e w' ⟨⟨X', k1, k2, k3⟩, hk⟩
 exact ⟨⟨⟨X', x, k2.row h1 (h2.not_pair h1), k1⟩, h.bel.trans (k2.belowX h2.ge (Nat.le_trans h.B h.bel.size)), h.B⟩, hk, fun va nn vc ns q => q.soleD k2 (DgP_ok.g.nm (s := s) h2)⟩
theorem kp_of {s : Sg} (j : Jv s) {n : Nat} (k : Sk s n) : DgP.Kp s s n := ⟨k, Jr_refl j⟩
theorem Pr.uR0 {B : Nat} {w0 w : World} {pp : Nat} {a : Sa} {s : Sg} (h : Pr B w0 w pp a s) : Calls Tryz.prog 27 #[.pointer (some ⟨a.r, 0, none⟩), .int .i64 0] w fun e w' => Pr B w0 w' pp a { s with R := [] } ∧ e = .returned (.int .i64 0) ∧ KeepN w w' :=
 h.callN (fun X hX => (hX.undoRm 0 (Nat.zero_le _)).mono (fun e w' r => ⟨r.2, r.1⟩))
theorem Pr.fndD {B : Nat} {w0 w : World} {pp : Nat} {a : Sa} {s0 s : Sg} (h : Pr B w0 w pp a s) {n : Nat} (k : DgP.Kp s0 s n) (hn : n ≤ 3800) (p : ByteArray) (hp : p.size ≤ maxLen) :
  Calls Tryz.prog 22 #[.pointer (some ⟨a.s, 0, none⟩), .string p] w fun e w' => Pr B w0 w' pp a (drFind DgP s p).1 ∧ (e = .returned (.tuple #[.int .u32 (drFind DgP s p).2.1, .int .i64 (drFind DgP s p).2.2]) ∧ DgP.Kp s0 (drFind DgP s p).1 (n + 8)) ∧ KeepN w w' :=
 h.callN (fun X hX => (find_g DgP_ok (s := s) hX p hp k (by omega)).mono (fun e w' r => ⟨r.2.1, r.1, r.2.2.1⟩))
theorem Pr.lstD {B : Nat} {w0 w : World} {pp : Nat} {a : Sa} {s0 s : Sg} (h : Pr B w0 w pp a s) {n : Nat} (k : DgP.Kp s0 s n) (hn : n ≤ 3800) (p : ByteArray) (hp : p.size ≤ maxLen) :
  Calls Tryz.prog 30 #[.pointer (some ⟨a.s, 0, none⟩), .string p] w fun e w' => Pr B w0 w' pp a (drList DgP s p).1 ∧ ∃ v, e = .returned (.tuple #[v, .int .i64 (drList DgP s p).2.2]) ∧ DgP.Kp s0 (drList DgP s p).1 (n + 60) ∧ w'.ownsRow w.heap.size 9 1 v (drList DgP s p).2.1.length ((drList DgP s p).2.1.flatMap strE) :=
 h.callD (fun X hX => (list_g DgP_ok (s := s) hX p hp k (by omega)).mono (fun e w' r => by
  obtain ⟨v, h1, h2, h3, h4⟩ := r
  exact ⟨h2, v, h1, h3, h4⟩))

end Go.Proofs.YtiplhhaehbjghaaGreat
