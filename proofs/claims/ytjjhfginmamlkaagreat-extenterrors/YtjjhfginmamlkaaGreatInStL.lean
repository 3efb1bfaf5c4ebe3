/- Over a store that may fail: a sight: where it lies, with all that it stands on; what a call on it may change. -/
import Derived.Test.YtjjhfginmamlkaaGreatS2
import Derived.Test.YtjjhfginmamlkaaGreatVwGtL
namespace Go.Proofs.YtjjhfginmamlkaaGreat.L
open Go.RowKit Go.Maps
set_option linter.unusedVariables false
set_option linter.unusedSimpArgs false
set_option maxRecDepth 100000

/-- A sight, in plain words. -/
structure Sg where
  l : List (ByteArray × ByteArray)
  d : Dl
  R : List Tc
  U : List Tc
  n : Int
  lf : Int

def mine (a : Sa) (vd vr vu : Value) : List Nat := [a.g, a.p, a.b, a.r, a.rb, a.u, a.ub, a.x] ++ vd.ownBlock.toList ++ vr.ownBlock.toList ++ vu.ownBlock.toList
theorem mine_iff {a : Sa} {vd vr vu : Value} {k : Nat} : k ∈ mine a vd vr vu ↔ k = a.g ∨ k = a.p ∨ k = a.b ∨ k = a.r ∨ k = a.rb ∨ k = a.u ∨ k = a.ub ∨ k = a.x ∨ vd.ownBlock = some k ∨ vr.ownBlock = some k ∨ vu.ownBlock = some k := by
  simp [mine, Option.mem_toList, Option.mem_def, or_assoc]

structure SgAt (B : Nat) (w : World) (a : Sa) (vd vr vu : Value) (s : Sg) : Prop where
  sr : w.heap[a.s]? = some (.cells #[.pointer (some ⟨a.v, 0, none⟩), .pointer (some ⟨a.r, 0, none⟩), .pointer (some ⟨a.u, 0, none⟩), alV a.x] 56 (0, 0))
  vw : VwAt w a.v a.g a.p
  so : ∃ ad n cap, SoL w a.g ad n cap s.l s.lf ∧ (∀ q, 0 < n → ad = some q → q.block < B)
  d : DlAt w a.p a.b vd s.d
  r : SetAt w a.r a.rb vr s.R
  u : SetAt w a.u a.ub vu s.U
  x : w.heap[a.x]? = some (.cells #[.int .u32 s.n] 28 (0, 0))
  n0 : 0 ≤ s.n
  n1 : s.n ≤ 4294967295
  ru : a.r ≠ a.u
  rub : a.rb ≠ a.ub
  brb : a.b ≠ a.rb
  bub : a.b ≠ a.ub
  vv : ∀ k, vr.ownBlock = some k → vu.ownBlock ≠ some k
  ge : ∀ k ∈ mine a vd vr vu, B ≤ k
  le : B ≤ w.heap.size

theorem SgAt.keep {B : Nat} {w w' : World} {a : Sa} {vd vr vu : Value} {s : Sg} (h : SgAt B w a vd vr vu s) (hs : w.heap.size ≤ w'.heap.size) (hk : ∀ k, k < w.heap.size → (k < B ∨ k ∈ mine a vd vr vu ∨ k = a.s ∨ k = a.v ∨ k = a.g) → w'.heap[k]? = w.heap[k]?) : SgAt B w' a vd vr vu s := by
  obtain ⟨ad, n, cap, hS, hq⟩ := h.so
  have m : ∀ k, (k = a.p ∨ k = a.b ∨ k = a.r ∨ k = a.rb ∨ k = a.u ∨ k = a.ub ∨ k = a.x ∨ vd.ownBlock = some k ∨ vr.ownBlock = some k ∨ vu.ownBlock = some k) → k < w.heap.size → w'.heap[k]? = w.heap[k]? := fun k e hl => hk k hl (.inr (.inl (mine_iff.2 (.inr e))))
  refine ⟨(hk _ (lt_of_row h.sr) (by simp)).trans h.sr, ⟨(hk _ h.vw.lt (by simp)).trans h.vw.row⟩, ⟨ad, n, cap, ⟨(hk _ hS.lt (by simp)).trans hS.row, hS.at_.keep hq hs (fun k h1 h2 => hk k h1 (.inl h2)), hS.hi⟩, hq⟩,
    ⟨(m _ (by simp) h.d.lt).trans h.d.row, h.d.mp.keep (m _ (by simp) h.d.mp.lt), own_keep h.d.pus hs (fun q hq hl => m q (by simp [hq]) hl), h.d.ok⟩,
    h.r.keep hs (fun k hl e => m k (by rcases e with e | e | e <;> simp [e]) hl), h.u.keep hs (fun k hl e => m k (by rcases e with e | e | e <;> simp [e]) hl),
    (m _ (by simp) (lt_of_row h.x)).trans h.x, h.n0, h.n1, h.ru, h.rub, h.brb, h.bub, h.vv, h.ge, Nat.le_trans h.le hs⟩
theorem SgAt.below {B : Nat} {w w' : World} {a : Sa} {vd vr vu : Value} {s : Sg} (h : SgAt B w a vd vr vu s) (hb : Below w.heap.size w w') : SgAt B w' a vd vr vu s := h.keep hb.size (fun k hl _ => hb.block k hl)

theorem SgAt.lt {B : Nat} {w : World} {a : Sa} {vd vr vu : Value} {s : Sg} (h : SgAt B w a vd vr vu s) : ∀ k ∈ mine a vd vr vu, k < w.heap.size := fun k hk => by
  rcases mine_iff.1 hk with rfl | rfl | rfl | rfl | rfl | rfl | rfl | rfl | e | e | e
  · obtain ⟨ad, n, cap, hS, _⟩ := h.so; exact hS.lt
  · exact h.d.lt
  · exact h.d.mp.lt
  · exact h.r.lt
  · exact h.r.sp.lt
  · exact h.u.lt
  · exact h.u.sp.lt
  · exact lt_of_row h.x
  · exact own_lt h.d.pus e
  · exact own_lt h.r.own e
  · exact own_lt h.u.own e
/-- A block of another kind is none of the sight's own. -/
theorem SgAt.other {B : Nat} {w : World} {a : Sa} {vd vr vu : Value} {s : Sg} (h : SgAt B w a vd vr vu s) {k : Nat} {cs : Array Value} {T : TypeId} {fr : Nat × Nat} (hk : w.heap[k]? = some (.cells cs T fr)) (h1 : T ≠ 111) (h2 : T ≠ 170) (h3 : T ≠ 105) (h4 : T ≠ 61) (h5 : T ≠ 28) (h6 : T ≠ 65) : k ∉ mine a vd vr vu := fun hm => by
  have tt : ∀ {cs' : Array Value} {T' : TypeId} {fr' : Nat × Nat}, w.heap[k]? = some (.cells cs' T' fr') → T = T' := fun e => by rw [e] at hk; simp only [Option.some.injEq, Obj.cells.injEq] at hk; exact hk.2.1.symm
  rcases mine_iff.1 hm with rfl | rfl | rfl | rfl | rfl | rfl | rfl | rfl | e | e | e
  · obtain ⟨ad, n, cap, hS, _⟩ := h.so; exact h6 (tt hS.row)
  · exact h1 (tt h.d.row)
  · obtain ⟨x, cl, e⟩ := h.d.mp.isMap; rw [e] at hk; cases hk
  · exact h3 (tt h.r.row)
  · obtain ⟨x, cl, e⟩ := h.r.sp.isMap; rw [e] at hk; cases hk
  · exact h3 (tt h.u.row)
  · obtain ⟨x, cl, e⟩ := h.u.sp.isMap; rw [e] at hk; cases hk
  · exact h5 (tt h.x)
  · obtain ⟨cs', e'⟩ := own_row h.d.pus e; exact h2 (tt e')
  · obtain ⟨cs', e'⟩ := own_row h.r.own e; exact h4 (tt e')
  · obtain ⟨cs', e'⟩ := own_row h.u.own e; exact h4 (tt e')

/-- A sight whose own blocks are X. -/
def SgIn (B : Nat) (w : World) (a : Sa) (X : List Nat) (s : Sg) : Prop := ∃ vd vr vu, SgAt B w a vd vr vu s ∧ X = mine a vd vr vu
/-- What a call on a sight leaves. -/
def SgOut (B : Nat) (w : World) (a : Sa) (X : List Nat) (s : Sg) (w' : World) : Prop := ∃ X', SgIn B w' a X' s ∧ Sole X w w' ∧ ∀ k ∈ X', k ∈ X ∨ w.heap.size ≤ k

theorem SgIn.below {B : Nat} {w w' : World} {a : Sa} {X : List Nat} {s : Sg} (h : SgIn B w a X s) (hb : Below w.heap.size w w') : SgIn B w' a X s := by
  obtain ⟨vd, vr, vu, h, rfl⟩ := h
  exact ⟨vd, vr, vu, h.below hb, rfl⟩
theorem SgIn.drew {B : Nat} {w : World} {a : Sa} {X : List Nat} {s : Sg} (h : SgIn B w a X s) : SgIn B w.drew a X s := h.below (Below.refl _ _).drew
theorem SgIn.lt {B : Nat} {w : World} {a : Sa} {X : List Nat} {s : Sg} (h : SgIn B w a X s) : ∀ k ∈ X, k < w.heap.size := by
  obtain ⟨vd, vr, vu, h, rfl⟩ := h
  exact h.lt
theorem SgIn.out {B : Nat} {w w' : World} {a : Sa} {X : List Nat} {s : Sg} (h : SgIn B w a X s) (hb : Below w.heap.size w w') : SgOut B w a X s w' := ⟨X, h.below hb, Sole.of_below hb X, fun k hk => .inl hk⟩
theorem SgOut.pre {B : Nat} {w w1 w2 : World} {a : Sa} {X : List Nat} {s : Sg} (hb : Below w.heap.size w w1) (h : SgOut B w1 a X s w2) : SgOut B w a X s w2 := by
  obtain ⟨X', h1, h2, h3⟩ := h
  exact ⟨X', h1, (Sole.of_below hb X).trans h2, fun k hk => (h3 k hk).imp id (Nat.le_trans hb.size)⟩
theorem SgOut.post {B : Nat} {w w1 w2 : World} {a : Sa} {X : List Nat} {s : Sg} (h : SgOut B w a X s w1) (hb : Below w1.heap.size w1 w2) : SgOut B w a X s w2 := by
  obtain ⟨X', h1, h2, h3⟩ := h
  exact ⟨X', h1.below hb, h2.trans (Sole.of_below hb X), h3⟩
theorem SgOut.then {B : Nat} {w w1 w2 : World} {a : Sa} {X X1 : List Nat} {s : Sg} (hs : Sole X w w1) (hx : ∀ k ∈ X1, k ∈ X ∨ w.heap.size ≤ k) (h : SgOut B w1 a X1 s w2) : SgOut B w a X s w2 := by
  obtain ⟨X', h1, h2, h3⟩ := h
  exact ⟨X', h1, hs.after h2 hx, fun k hk => by
    rcases h3 k hk with e | e
    · exact hx k e
    · exact .inr (Nat.le_trans hs.size e)⟩
theorem SgIn.keep {B : Nat} {w w' : World} {a : Sa} {X : List Nat} {s : Sg} (h : SgIn B w a X s) (hs : w.heap.size ≤ w'.heap.size) (hk : ∀ k, k < w.heap.size → (k < B ∨ k ∈ X ∨ k = a.s ∨ k = a.v ∨ k = a.g) → w'.heap[k]? = w.heap[k]?) : SgIn B w' a X s := by
  obtain ⟨vd, vr, vu, h, rfl⟩ := h
  exact ⟨vd, vr, vu, h.keep hs hk, rfl⟩
theorem SgIn.lts {B : Nat} {w : World} {a : Sa} {X : List Nat} {s : Sg} (h : SgIn B w a X s) : a.s < w.heap.size ∧ a.v < w.heap.size ∧ a.g < w.heap.size ∧ B ≤ w.heap.size := by
  obtain ⟨vd, vr, vu, h, rfl⟩ := h
  obtain ⟨ad, n, cap, hS, _⟩ := h.so
  exact ⟨lt_of_row h.sr, h.vw.lt, hS.lt, h.le⟩
/-- A call on a sight, and then a variable of one's own. -/
theorem SgOut.fin {B : Nat} {w w4 w5 w6 : World} {a : Sa} {X : List Nat} {s s' : Sg} (h : SgIn B w a X s) (hb : Below w.heap.size w w4) (ho : SgOut B w4 a X s' w5) {g : Nat} (hg : w.heap.size ≤ g) (hg4 : g < w4.heap.size) (hs : Sole [g] w5 w6) : SgOut B w a X s' w6 := by
  obtain ⟨X', h1, h2, h3⟩ := ho
  obtain ⟨l1, l2, l3, l4⟩ := h.lts
  have lX := h.lt
  refine ⟨X', h1.keep hs.size (fun k hk hc => hs.block k hk (fun e => ?_)), ((Sole.of_below hb X).trans h2).after hs (fun k hk => .inr (by rw [List.mem_singleton] at hk; omega)), fun k hk => (h3 k hk).imp id (Nat.le_trans hb.size)⟩
  rw [List.mem_singleton] at e
  subst e
  rcases hc with hc | hc | hc | hc | hc
  · omega
  · rcases h3 k hc with e | e
    · have := lX k e; omega
    · omega
  · omega
  · omega
  · omega
/-! ### What calls on its parts leave -/

/-- Something is put in. -/
theorem SgAt.put {B : Nat} {w w' : World} {a : Sa} {vd vr vu vd' : Value} {s : Sg} (h : SgAt B w a vd vr vu s) {d : Dl} (hd : DlAt w' a.p a.b vd' d) (k : KeepQ a.p a.b vd w w' vd') : SgOut B w a (mine a vd vr vu) { s with d := d } w' := by
  obtain ⟨ad, n, cap, hS, hq⟩ := h.so
  have B1 : ∀ k, k < w.heap.size → k < B → w'.heap[k]? = w.heap[k]? := fun i hi hl => k.block i hi (fun e => by have := h.ge a.p (mine_iff.2 (by simp)); omega) (fun e => by have := h.ge a.b (mine_iff.2 (by simp)); omega) (fun e => by have := h.ge i (mine_iff.2 (by simp [e])); omega)
  have row : ∀ {i : Nat} {cs : Array Value} {T : TypeId} {fr : Nat × Nat}, w.heap[i]? = some (.cells cs T fr) → T ≠ 111 → T ≠ 170 → w'.heap[i]? = some (.cells cs T fr) := fun hi h1 h2 => k.row h.d hi h1 h2
  have eqr : ∀ {i : Nat} {cs : Array Value} {T : TypeId} {fr : Nat × Nat}, w.heap[i]? = some (.cells cs T fr) → T ≠ 111 → T ≠ 170 → w'.heap[i]? = w.heap[i]? := fun hi h1 h2 => (row hi h1 h2).trans hi.symm
  have mp : ∀ {i : Nat} {es : Array MapEntry} {cl : Nat}, w.heap[i]? = some (.map es cl) → a.b ≠ i → w'.heap[i]? = w.heap[i]? := fun {i es cl} hi hne => k.block i (lt_of_row hi) (fun e => by rw [e, h.d.row] at hi; cases hi) (fun e => hne e.symm) (fun e => by obtain ⟨cs, e'⟩ := own_row h.d.pus e; rw [e'] at hi; cases hi)
  have keepS : ∀ {p b : Nat} {v : Value} {L : List Tc}, SetAt w p b v L → a.b ≠ b → SetAt w' p b v L := fun {p b v L} hs hne => hs.keep k.size (fun i hi e => by
    rcases e with rfl | rfl | e
    · exact eqr hs.row (by decide) (by decide)
    · obtain ⟨x, cl, e⟩ := hs.sp.isMap; exact mp e hne
    · obtain ⟨cs, e'⟩ := own_row hs.own e; exact eqr e' (by decide) (by decide))
  have hge : ∀ q ∈ mine a vd' vr vu, q ∈ mine a vd vr vu ∨ w.heap.size ≤ q := fun q hq => by
    rcases mine_iff.1 hq with e | e | e | e | e | e | e | e | e | e | e
    all_goals first | exact .inl (mine_iff.2 (by simp [e]; done)) | (rcases k.own q e with e' | e'; exact .inl (mine_iff.2 (by simp [e'])); exact .inr e')
  refine ⟨mine a vd' vr vu, ⟨vd', vr, vu, ⟨row h.sr (by decide) (by decide), ⟨row h.vw.row (by decide) (by decide)⟩, ⟨ad, n, cap, ⟨row hS.row (by decide) (by decide), hS.at_.keep hq k.size B1, hS.hi⟩, hq⟩, hd, keepS h.r h.brb, keepS h.u h.bub, row h.x (by decide) (by decide), h.n0, h.n1, h.ru, h.rub, h.brb, h.bub, h.vv, ?_, Nat.le_trans h.le k.size⟩, rfl⟩, kq_sole k (mine_iff.2 (by simp)) (mine_iff.2 (by simp)) (fun q e => mine_iff.2 (by simp [e])), hge⟩
  intro q hq
  rcases hge q hq with e | e
  · exact h.ge q e
  · exact Nat.le_trans h.le e

theorem SgAt.set_ {B : Nat} {w w' : World} {a : Sa} {vd vr vu : Value} {s : Sg} (h : SgAt B w a vd vr vu s) {p b p2 b2 : Nat} {v v' v2 : Value} {L L2 : List Tc} (hs : SetAt w p b v L) (hs2 : SetAt w p2 b2 v2 L2) (k : KeepQ p b v w w' v') (hbb : a.b ≠ b) (hpp : p ≠ p2) (hb2 : b ≠ b2) (hvv : ∀ q, v.ownBlock = some q → v2.ownBlock ≠ some q)
    (hm : ∀ q, q = p ∨ q = b ∨ v.ownBlock = some q → q ∈ mine a vd vr vu) : Sole (mine a vd vr vu) w w' ∧ SetAt w' p2 b2 v2 L2 ∧ DlAt w' a.p a.b vd s.d ∧ VwAt w' a.v a.g a.p ∧ (∃ ad n cap, SoL w' a.g ad n cap s.l s.lf ∧ (∀ q, 0 < n → ad = some q → q.block < B)) ∧
    w'.heap[a.s]? = some (.cells #[.pointer (some ⟨a.v, 0, none⟩), .pointer (some ⟨a.r, 0, none⟩), .pointer (some ⟨a.u, 0, none⟩), alV a.x] 56 (0, 0)) ∧ w'.heap[a.x]? = some (.cells #[.int .u32 s.n] 28 (0, 0)) := by
  obtain ⟨ad, n, cap, hS, hq⟩ := h.so
  have eqr : ∀ {i : Nat} {cs : Array Value} {T : TypeId} {fr : Nat × Nat}, w.heap[i]? = some (.cells cs T fr) → T ≠ 105 → T ≠ 61 → w'.heap[i]? = w.heap[i]? := fun {i cs T fr} hi h1 h2 => k.block i (lt_of_row hi) (fun e => by rw [e, hs.row] at hi; simp only [Option.some.injEq, Obj.cells.injEq] at hi; exact h1 hi.2.1.symm) (fun e => by obtain ⟨x, cl, e'⟩ := hs.sp.isMap; rw [e, e'] at hi; cases hi) (fun e => by obtain ⟨cs', e'⟩ := own_row hs.own e; rw [e'] at hi; simp only [Option.some.injEq, Obj.cells.injEq] at hi; exact h2 hi.2.1.symm)
  have mp : ∀ {i : Nat} {es : Array MapEntry} {cl : Nat}, w.heap[i]? = some (.map es cl) → b ≠ i → w'.heap[i]? = w.heap[i]? := fun {i es cl} hi hne => k.block i (lt_of_row hi) (fun e => by rw [e, hs.row] at hi; cases hi) (fun e => hne e.symm) (fun e => by obtain ⟨cs, e'⟩ := own_row hs.own e; rw [e'] at hi; cases hi)
  refine ⟨kq_sole k (hm _ (.inl rfl)) (hm _ (.inr (.inl rfl))) (fun q e => hm q (.inr (.inr e))), hs2.keep k.size (fun i hi e => ?_), ?_, ⟨(eqr h.vw.row (by decide) (by decide)).trans h.vw.row⟩, ⟨ad, n, cap, ⟨(eqr hS.row (by decide) (by decide)).trans hS.row, hS.at_.keep hq k.size ?_, hS.hi⟩, hq⟩, (eqr h.sr (by decide) (by decide)).trans h.sr, (eqr h.x (by decide) (by decide)).trans h.x⟩
  · rcases e with rfl | rfl | e
    · exact k.block _ hi hpp.symm (fun e => by obtain ⟨x, cl, e'⟩ := hs.sp.isMap; rw [← e, hs2.row] at e'; cases e') (fun e => by obtain ⟨cs, e'⟩ := own_row hs.own e; exact absurd rfl (ne_of_type e' hs2.row (by decide)))
    · obtain ⟨x, cl, e⟩ := hs2.sp.isMap; exact mp e hb2
    · obtain ⟨cs, e'⟩ := own_row hs2.own e
      exact k.block i hi (ne_of_type e' hs.row (by decide)) (fun e2 => by obtain ⟨x, cl, e3⟩ := hs.sp.isMap; rw [← e2, e'] at e3; cases e3) (fun e2 => hvv i e2 e)
  · exact ⟨(eqr h.d.row (by decide) (by decide)).trans h.d.row, h.d.mp.keep (by obtain ⟨x, cl, e⟩ := h.d.mp.isMap; exact mp e (Ne.symm hbb)), own_keep h.d.pus k.size (fun q hq hl => by obtain ⟨cs, e⟩ := own_row h.d.pus hq; exact eqr e (by decide) (by decide)), h.d.ok⟩
  · exact fun i hi hl => k.block i hi (fun e => by have := h.ge _ (hm i (.inl e)); omega) (fun e => by have := h.ge _ (hm i (.inr (.inl e))); omega) (fun e => by have := h.ge _ (hm i (.inr (.inr e))); omega)

/-- Something is read. -/
theorem SgAt.read {B : Nat} {w w' : World} {a : Sa} {vd vr vu vr' : Value} {s : Sg} (h : SgAt B w a vd vr vu s) {R : List Tc} (hr : SetAt w' a.r a.rb vr' R) (k : KeepQ a.r a.rb vr w w' vr') : SgOut B w a (mine a vd vr vu) { s with R := R } w' := by
  obtain ⟨h1, h2, h3, h4, h5, h6, h7⟩ := h.set_ h.r h.u k h.brb h.ru h.rub h.vv (fun q e => mine_iff.2 (by rcases e with e | e | e <;> simp [e]))
  have hge : ∀ q ∈ mine a vd vr' vu, q ∈ mine a vd vr vu ∨ w.heap.size ≤ q := fun q hq => by
    rcases mine_iff.1 hq with e | e | e | e | e | e | e | e | e | e | e
    all_goals first | exact .inl (mine_iff.2 (by simp [e]; done)) | (rcases k.own q e with e' | e'; exact .inl (mine_iff.2 (by simp [e'])); exact .inr e')
  refine ⟨mine a vd vr' vu, ⟨vd, vr', vu, ⟨h6, h4, h5, h3, hr, h2, h7, h.n0, h.n1, h.ru, h.rub, h.brb, h.bub, fun q hq hq' => ?_, fun q hq => ?_, Nat.le_trans h.le k.size⟩, rfl⟩, h1, hge⟩
  · rcases k.own q hq with e | e
    · exact h.vv q e hq'
    · have := own_lt h.u.own hq'; omega
  · rcases hge q hq with e | e
    · exact h.ge q e
    · exact Nat.le_trans h.le e
/-- Something is written. -/
theorem SgAt.wrote {B : Nat} {w w' : World} {a : Sa} {vd vr vu vu' : Value} {s : Sg} (h : SgAt B w a vd vr vu s) {U : List Tc} (hu : SetAt w' a.u a.ub vu' U) (k : KeepQ a.u a.ub vu w w' vu') : SgOut B w a (mine a vd vr vu) { s with U := U } w' := by
  obtain ⟨h1, h2, h3, h4, h5, h6, h7⟩ := h.set_ h.u h.r k h.bub h.ru.symm h.rub.symm (fun q e e' => h.vv q e' e) (fun q e => mine_iff.2 (by rcases e with e | e | e <;> simp [e]))
  have hge : ∀ q ∈ mine a vd vr vu', q ∈ mine a vd vr vu ∨ w.heap.size ≤ q := fun q hq => by
    rcases mine_iff.1 hq with e | e | e | e | e | e | e | e | e | e | e
    all_goals first | exact .inl (mine_iff.2 (by simp [e]; done)) | (rcases k.own q e with e' | e'; exact .inl (mine_iff.2 (by simp [e'])); exact .inr e')
  refine ⟨mine a vd vr vu', ⟨vd, vr, vu', ⟨h6, h4, h5, h3, h2, hu, h7, h.n0, h.n1, h.ru, h.rub, h.brb, h.bub, fun q hq hq' => ?_, fun q hq => ?_, Nat.le_trans h.le k.size⟩, rfl⟩, h1, hge⟩
  · rcases k.own q hq' with e | e
    · exact h.vv q hq e
    · have := own_lt h.r.own hq; omega
  · rcases hge q hq with e | e
    · exact h.ge q e
    · exact Nat.le_trans h.le e

/-- A call on a sight, and then a variable of one's own, of another type. -/
theorem SgOut.finT {B : Nat} {w w5 w6 : World} {a : Sa} {X : List Nat} {s' : Sg} (hB : B ≤ w.heap.size) (ho : SgOut B w a X s' w5) {g : Nat} (hg : w.heap.size ≤ g) {T : TypeId} {cs : Array Value} (hr : w5.heap[g]? = some (.cells cs T (0, 0))) (t1 : T ≠ 111) (t2 : T ≠ 170) (t3 : T ≠ 105) (t4 : T ≠ 61) (t5 : T ≠ 28) (t6 : T ≠ 65) (t7 : T ≠ 56) (t8 : T ≠ 116) (hs : Sole [g] w5 w6) : SgOut B w a X s' w6 := by
  obtain ⟨X', h1, h2, h3⟩ := ho
  refine ⟨X', h1.keep hs.size (fun k hk hc => hs.block k hk (fun e => ?_)), h2.after hs (fun k hk => .inr (by rw [List.mem_singleton] at hk; omega)), h3⟩
  rw [List.mem_singleton] at e
  subst e
  obtain ⟨vd, vr, vu, h, rfl⟩ := h1
  have tt : ∀ {cs' : Array Value} {T' : TypeId} {fr' : Nat × Nat}, w5.heap[k]? = some (.cells cs' T' fr') → T = T' := fun e => by rw [e] at hr; simp only [Option.some.injEq, Obj.cells.injEq] at hr; exact hr.2.1.symm
  rcases hc with hc | hc | hc | hc | hc
  · omega
  · exact h.other hr t1 t2 t3 t4 t5 t6 hc
  · subst hc; exact absurd (tt h.sr) t7
  · subst hc; exact absurd (tt h.vw.row) t8
  · subst hc
    obtain ⟨ad, n, cap, hS, _⟩ := h.so
    exact absurd (tt hS.row) t6

theorem SgOut.finI {B : Nat} {w w5 w6 : World} {a : Sa} {X : List Nat} {s' : Sg} (hB : B ≤ w.heap.size) (ho : SgOut B w a X s' w5) {g : Nat} (hg : w.heap.size ≤ g) {k m l z : Int} (hr : InRow w5 g k m l z) (hs : Sole [g] w5 w6) : SgOut B w a X s' w6 :=
  ho.finT hB hg hr.row (by decide) (by decide) (by decide) (by decide) (by decide) (by decide) (by decide) (by decide) hs

end Go.Proofs.YtjjhfginmamlkaaGreat.L
