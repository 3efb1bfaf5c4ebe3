/- Two pairs in a statement: what a call on one of them leaves of the other one. -/
import Derived.Test.YtkmckipfjahlcaaGreatInH
namespace Go.Proofs.YtkmckipfjahlcaaGreat
open Go.RowKit
set_option linter.unusedVariables false
set_option linter.unusedSimpArgs false
set_option maxRecDepth 100000

theorem SgIn.other {B : Nat} {w : World} {a : Sa} {X : List Nat} {s : Sg} (h : SgIn B w a X s) {k : Nat} {cs : Array Value} {T : TypeId} {fr : Nat × Nat} (hk : w.heap[k]? = some (.cells cs T fr)) (h1 : T ≠ 130) (h2 : T ≠ 171) (h3 : T ≠ 115) (h4 : T ≠ 61) (h5 : T ≠ 23) : k ∉ X := by
  obtain ⟨vd, vr, vu, h, rfl⟩ := h
  exact h.other hk h1 h2 h3 h4 h5
theorem SgIn.vrow {B : Nat} {w : World} {a : Sa} {X : List Nat} {s : Sg} (h : SgIn B w a X s) : VwAt w a.v a.g a.p ∧ ∃ ad n cap, SoAt w a.g ad n cap s.l := by
  obtain ⟨vd, vr, vu, h, rfl⟩ := h
  obtain ⟨ad, n, cap, hS, _⟩ := h.so
  exact ⟨h.vw, ad, n, cap, hS⟩
/-- One sight is left by what changes another one's blocks alone. -/
theorem SgIn.apart {B : Nat} {w w' : World} {a b : Sa} {X Y : List Nat} {s t : Sg} (h : SgIn B w b Y t) (g : SgIn B w a X s) (hd : ∀ k ∈ X, k ∉ Y) (hs : Sole X w w') : SgIn B w' b Y t := by
  refine h.keep hs.size (fun k hk hh => hs.block k hk (fun hx => ?_))
  rcases hh with e | e | e | e | e
  · have := g.ge k hx; omega
  · exact hd k hx e
  · subst e; exact g.other h.row (by decide) (by decide) (by decide) (by decide) (by decide) hx
  · subst e; exact g.other h.vrow.1.row (by decide) (by decide) (by decide) (by decide) (by decide) hx
  · subst e
    obtain ⟨ad, n, cap, hS⟩ := h.vrow.2
    exact g.other hS.row (by decide) (by decide) (by decide) (by decide) (by decide) hx

structure Tw (B : Nat) (w0 w : World) (pp : Nat) (a : Sa) (s : Sg) (pq : Nat) (b : Sa) (t : Sg) : Prop where
  ex : ∃ X Y x y, PrAt w pp a x ∧ PrAt w pq b y ∧ SgIn B w a X s ∧ SgIn B w b Y t ∧ ∀ k ∈ X, k ∉ Y
  bel : Below B w0 w
  B : B ≤ w0.heap.size
theorem Tw.swap {B : Nat} {w0 w : World} {pp pq : Nat} {a b : Sa} {s t : Sg} (h : Tw B w0 w pp a s pq b t) : Tw B w0 w pq b t pp a s := by
  obtain ⟨X, Y, x, y, p1, p2, g1, g2, hd⟩ := h.ex
  exact ⟨⟨Y, X, y, x, p2, p1, g2, g1, fun k hk hx => hd k hx hk⟩, h.bel, h.B⟩
theorem Tw.below {B : Nat} {w0 w w' : World} {pp pq : Nat} {a b : Sa} {s t : Sg} (h : Tw B w0 w pp a s pq b t) (hb : Below w.heap.size w w') : Tw B w0 w' pp a s pq b t := by
  obtain ⟨X, Y, x, y, p1, p2, g1, g2, hd⟩ := h.ex
  exact ⟨⟨X, Y, x, y, (hb.block _ (lt_of_row p1)).trans p1, (hb.block _ (lt_of_row p2)).trans p2, g1.below hb, g2.below hb, hd⟩, h.bel.trans (hb.mono (Nat.le_trans h.B h.bel.size)), h.B⟩
theorem Tw.c0 {B : Nat} {w0 w : World} {pp pq : Nat} {a b : Sa} {s t : Sg} (h : Tw B w0 w pp a s pq b t) : w.cell? ⟨pp, 0, none⟩ = some (.pointer (some ⟨a.s, 0, none⟩)) := by
  obtain ⟨X, Y, x, y, p1, _⟩ := h.ex
  exact p1.c0
theorem Tw.r1 {B : Nat} {w0 w : World} {pp pq : Nat} {a b : Sa} {s t : Sg} (h : Tw B w0 w pp a s pq b t) : w.cell? ⟨a.s, 1, none⟩ = some (.pointer (some ⟨a.r, 0, none⟩)) := by
  obtain ⟨X, Y, x, y, _, _, g1, _⟩ := h.ex
  exact g1.c1
theorem Tw.call {B : Nat} {w0 w : World} {pp pq : Nat} {a b : Sa} {s t s' : Sg} (h : Tw B w0 w pp a s pq b t) {f : FuncId} {args : Array Value} {R : Ending → Prop} (hc : ∀ X, SgIn B w a X s → Calls Tryz.prog f args w fun e w' => R e ∧ SgOut B w a X s' w') :
    Calls Tryz.prog f args w fun e w' => R e ∧ Tw B w0 w' pp a s' pq b t := by
  obtain ⟨X, Y, x, y, p1, p2, g1, g2, hd⟩ := h.ex
  refine (hc X g1).mono ?_
  rintro e w' ⟨hR, X', k1, k2, k3⟩
  refine ⟨hR, ⟨X', Y, x, y, k2.row p1 (g1.not_pair p1), k2.row p2 (g1.not_pair p2), k1, g2.apart g1 hd k2, fun k hk hy => ?_⟩, h.bel.trans (k2.belowX g1.ge (Nat.le_trans h.B h.bel.size)), h.B⟩
  rcases k3 k hk with e | e
  · exact hd k e hy
  · have := g2.lt k hy; omega
/-- Inodes in variables of their own stay. -/
def KeepI (w w' : World) : Prop := ∀ (k : Nat) (cs : Array Value) (fr : Nat × Nat), w.heap[k]? = some (Obj.cells cs 53 fr) → w'.heap[k]? = some (Obj.cells cs 53 fr)
theorem InRow.keepI {w w' : World} {g : Nat} {k m l s : Int} (h : InRow w g k m l s) (hk : KeepI w w') : InRow w' g k m l s := ⟨hk _ _ _ h.row⟩
theorem Tw.callI {B : Nat} {w0 w : World} {pp pq : Nat} {a b : Sa} {s t s' : Sg} (h : Tw B w0 w pp a s pq b t) {f : FuncId} {args : Array Value} {R : Ending → Prop} (hc : ∀ X, SgIn B w a X s → Calls Tryz.prog f args w fun e w' => R e ∧ SgOut B w a X s' w') :
    Calls Tryz.prog f args w fun e w' => R e ∧ Tw B w0 w' pp a s' pq b t ∧ KeepI w w' := by
  obtain ⟨X, Y, x, y, p1, p2, g1, g2, hd⟩ := h.ex
  refine (hc X g1).mono ?_
  rintro e w' ⟨hR, X', k1, k2, k3⟩
  refine ⟨hR, ⟨⟨X', Y, x, y, k2.row p1 (g1.not_pair p1), k2.row p2 (g1.not_pair p2), k1, g2.apart g1 hd k2, fun k hk hy => ?_⟩, h.bel.trans (k2.belowX g1.ge (Nat.le_trans h.B h.bel.size)), h.B⟩, fun k cs fr hk => k2.row hk (g1.other hk (by decide) (by decide) (by decide) (by decide) (by decide))⟩
  rcases k3 k hk with e | e
  · exact hd k e hy
  · have := g2.lt k hy; omega
theorem may_bare {ino k : Int} (h : ino ≠ 0) (hk : k = 1 ∨ k = 2 ∨ k = 3 ∨ k = 7) : mayB (tcK ino k) = true := by
  have hn : noName (tcK ino k) = true := by first | kernel_rfl | simp [noName, tcK]
  have hs : noSpan (tcK ino k) = true := by first | kernel_rfl | simp [noSpan, tcK]
  have hi : ((tcK ino k).ino != 0) = true := by simpa [tcK] using h
  unfold mayB
  rw [hn, hs, hi]
  show (true && (if k = 4 then _ else if k = 5 then _ else bareK k && true && true)) = true
  rcases hk with rfl | rfl | rfl | rfl <;> rfl
theorem Pr.rmI {B : Nat} {w0 w : World} {pp : Nat} {a : Sa} {s : Sg} (h : Pr B w0 w pp a s) (ino : Int) (h0 : 0 ≤ ino) (h1 : ino ≤ 4294967295) {N : Nat} (hk : Sk s N) (hN : N ≤ 880) :
    Calls Tryz.prog 18 #[.pointer (some ⟨a.s, 0, none⟩), .int .u32 ino] w fun e w' => e = .returned (.int .i64 (rmR s ino).2) ∧ Pr B w0 w' pp a (rmR s ino).1 ∧ KeepI w w' := by
  obtain ⟨X, x, p1, p2⟩ := h.ex
  refine (rm_in p2 ino h0 h1 hk (by omega) (Nat.le_trans hk.R (by omega)) (Nat.le_trans hk.U (by omega))).mono ?_
  rintro e w' ⟨rfl, ho⟩
  obtain ⟨X', k1, k2, k3⟩ := ho
  exact ⟨rfl, ⟨⟨X', x, k2.row p1 (p2.not_pair p1), k1⟩, h.bel.trans (k2.belowX p2.ge (Nat.le_trans h.B h.bel.size)), h.B⟩, fun k cs fr hk => k2.row hk (p2.other hk (by decide) (by decide) (by decide) (by decide) (by decide))⟩
theorem Pr.setI {B : Nat} {w0 w : World} {pp : Nat} {a : Sa} {s : Sg} (h : Pr B w0 w pp a s) (ino : Int) (h0 : 0 ≤ ino) (h1 : ino ≤ 4294967295) (fa : Option Addr) (fn fc : Nat) (fs : List (Int × Int)) (hr : RdZ 2 fiE w (.slice fa fn fc) fs) (hn : fn ≤ 1000) (hf : fiOk fs) {N : Nat} (hk : Sk s N) (hN : N ≤ 880) :
    Calls Tryz.prog 13 #[.pointer (some ⟨a.s, 0, none⟩), .int .u32 ino, .slice fa fn fc] w fun e w' => e = .returned (.int .i64 (setR s ino fs).2) ∧ Pr B w0 w' pp a (setR s ino fs).1 ∧ KeepI w w' := by
  obtain ⟨X, x, p1, p2⟩ := h.ex
  refine (set_in p2 ino h0 h1 fa fn fc fs hr hn hf (Nat.le_trans hk.L (by omega)) (Nat.le_trans hk.P (by omega)) (Nat.le_trans hk.U (by omega))).mono ?_
  rintro e w' ⟨rfl, ho⟩
  obtain ⟨X', k1, k2, k3⟩ := ho
  exact ⟨rfl, ⟨⟨X', x, k2.row p1 (p2.not_pair p1), k1⟩, h.bel.trans (k2.belowX p2.ge (Nat.le_trans h.B h.bel.size)), h.B⟩, fun k cs fr hk => k2.row hk (p2.other hk (by decide) (by decide) (by decide) (by decide) (by decide))⟩
theorem Pr.statI {B : Nat} {w0 w : World} {pp : Nat} {a : Sa} {s : Sg} (h : Pr B w0 w pp a s) (ino : Int) (h0 : 0 ≤ ino) (h1 : ino ≤ 4294967295) {N : Nat} (hk : Sk s N) (hN : N ≤ 880) :
    Calls Tryz.prog 16 #[.pointer (some ⟨a.s, 0, none⟩), .int .u32 ino] w fun e w' => e = .returned (.tuple #[inV (statR s ino).2.1, .int .i64 (statR s ino).2.2]) ∧ Pr B w0 w' pp a (statR s ino).1 ∧ KeepI w w' := by
  obtain ⟨X, x, p1, p2⟩ := h.ex
  refine (stat_in p2 ino h0 h1 (Nat.le_trans hk.R (by omega))).mono ?_
  rintro e w' ⟨rfl, ho⟩
  obtain ⟨X', k1, k2, k3⟩ := ho
  exact ⟨rfl, ⟨⟨X', x, k2.row p1 (p2.not_pair p1), k1⟩, h.bel.trans (k2.belowX p2.ge (Nat.le_trans h.B h.bel.size)), h.B⟩, fun k cs fr hk => k2.row hk (p2.other hk (by decide) (by decide) (by decide) (by decide) (by decide))⟩
theorem KeepI.below {w w' : World} (hb : Below w.heap.size w w') : KeepI w w' := fun k cs fr hk => (hb.block _ (lt_of_row hk)).trans hk
theorem addK3 {ino : Int} (h : ino ≠ 0) : addK [] ino [1, 2, 3] = [tcK ino 1, tcK ino 2, tcK ino 3] := by
  have h1 := may_bare h (.inl rfl)
  have h2 := may_bare h (.inr (.inl rfl))
  have h3 := may_bare h (.inr (.inr (.inl rfl)))
  have n2 : hasL [tcK ino 1] (tcK ino 2) = false := by simp [hasL, tcEq, tcK]
  have n3 : hasL [tcK ino 1, tcK ino 2] (tcK ino 3) = false := by simp [hasL, tcEq, tcK]
  show addL (addL (addL [] (tcK ino 1)) (tcK ino 2)) (tcK ino 3) = _
  have e1 : addL [] (tcK ino 1) = [tcK ino 1] := by unfold addL; rw [if_pos h1, if_neg (by simp [hasL])]; rfl
  have e2 : addL [tcK ino 1] (tcK ino 2) = [tcK ino 1, tcK ino 2] := by unfold addL; rw [if_pos h2, if_neg (by rw [n2]; decide)]; rfl
  have e3 : addL [tcK ino 1, tcK ino 2] (tcK ino 3) = [tcK ino 1, tcK ino 2, tcK ino 3] := by unfold addL; rw [if_pos h3, if_neg (by rw [n3]; decide)]; rfl
  rw [e1, e2, e3]
theorem fd_ino {s : Sg} {ino : Int} (h : (fdR s ino).2 = 0) : ino ≠ 0 := by
  rintro rfl
  unfold fdR fdF at h
  rw [if_pos rfl] at h
  cases h
theorem Tw.tell {B : Nat} {w0 w : World} {pp pq : Nat} {a b : Sa} {s t : Sg} (h : Tw B w0 w pp a s pq b t) {f : FuncId} {args : Array Value} {R : Ending → Prop} (hc : ∀ X, SgIn B w a X s → Calls Tryz.prog f args w fun e w' => R e ∧ Below w.heap.size w w') :
    Calls Tryz.prog f args w fun e w' => R e ∧ Tw B w0 w' pp a s pq b t := by
  obtain ⟨X, Y, x, y, p1, p2, g1, g2, hd⟩ := h.ex
  refine (hc X g1).mono ?_
  rintro e w' ⟨hR, hb⟩
  exact ⟨hR, h.below hb⟩
theorem SgIn.mark {B : Nat} {w : World} {a : Sa} {X : List Nat} {s : Sg} (h : SgIn B w a X s) : Calls Tryz.prog 15 #[.pointer (some ⟨a.r, 0, none⟩)] w fun e w' => e = .returned (.int .i64 s.R.length) ∧ w = w' := by
  obtain ⟨vd, vr, vu, h, rfl⟩ := h
  exact mark_any h.r
theorem Tw.dl {B : Nat} {w0 w : World} {pp pq : Nat} {a b : Sa} {s t : Sg} (h : Tw B w0 w pp a s pq b t) : DlOk s.d := by
  obtain ⟨X, Y, x, y, p1, p2, g1, g2, hd⟩ := h.ex
  exact sg_ok g1
theorem Tw.drew {B : Nat} {w0 w : World} {pp pq : Nat} {a b : Sa} {s t : Sg} (h : Tw B w0 w pp a s pq b t) : Tw B w0 w.drew pp a s pq b t := h.below (Below.refl _ _).drew
theorem Tw.mark {B : Nat} {w0 w : World} {pp pq : Nat} {a b : Sa} {s t : Sg} (h : Tw B w0 w pp a s pq b t) : Calls Tryz.prog 15 #[.pointer (some ⟨a.r, 0, none⟩)] w fun e w' => e = .returned (.int .i64 s.R.length) ∧ w = w' := by
  obtain ⟨X, Y, x, y, p1, p2, g1, g2, hd⟩ := h.ex
  exact g1.mark
/-- A second pair beside the first one. -/
theorem Tw.of {B : Nat} {w0 w w' : World} {pp : Nat} {a : Sa} {s : Sg} (h : Pr B w0 w pp a s) {ad : Option Addr} {n cap : Nat} {l : List (ByteArray × ByteArray)} {most nx : Int} {e : Ending} (hb : BgOut B w ad n cap l most nx e w') : ∃ pq b, e = .returned (.pointer (some ⟨pq, 0, none⟩)) ∧ Tw B w0 w' pp a s pq b (sg0 l most nx) := by
  obtain ⟨pq, b, y, Y, rv, q, rfl, h1, h2, h3, _, h4, _⟩ := hb
  obtain ⟨X, x, p1, p2⟩ := h.ex
  have p2' := p2.below h4
  exact ⟨pq, b, rfl, ⟨X, Y, x, y, (h4.block _ (lt_of_row p1)).trans p1, h1, p2', h2, fun k hk hy => by have := p2.lt k hk; have := h3 k hy; omega⟩, h.bel.trans (h4.mono (Nat.le_trans h.B h.bel.size)), h.B⟩

end Go.Proofs.YtkmckipfjahlcaaGreat
