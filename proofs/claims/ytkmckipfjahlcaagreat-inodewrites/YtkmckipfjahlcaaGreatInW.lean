/- A map from numbers to true; what is among what was written. -/
import Derived.Test.YtkmckipfjahlcaaGreatInO
import Derived.Test.YtkmckipfjahlcaaGreatInT2
import Derived.Maps.OwnOps
import Derived.Maps.OwnSet
namespace Go.Proofs.YtkmckipfjahlcaaGreat
open Go.RowKit Go.Maps
set_option linter.unusedVariables false
set_option linter.unusedSimpArgs false
set_option maxRecDepth 100000

theorem keyedI : Keyed Tryz.prog 3 := int_keyed Tryz.underlying3
def biL (k : Int) : Lit := .int .i64 k
def hB (b : Bool) : DataW Value := .held (.bool b)
theorem biL_inj {a b : Int} (h : biL a = biL b) : a = b := by
  unfold biL at h
  simp only [Lit.int.injEq, true_and] at h
  exact h
theorem key_bi {k : Int} (h0 : -9223372036854775808 ≤ k) (h1 : k ≤ 9223372036854775807) : keyOf Tryz.prog 3 (.int .i64 k) = some (biL k) := keyOf_int_mk Tryz.underlying3 (WalkArith.wf_i64 ⟨h0, h1⟩)
theorem zeroB (w : World) : (zeroValue 4).run Tryz.prog w = .ok (.bool false) w := by kernel_rfl
/-- The block 'b' is a map that has true at these numbers, and nothing else. -/
structure BiAt (w : World) (b : Nat) (K : List Int) : Prop where
  ex : ∃ (n : Nat) (D : DataW Value), w.ownsMap Tryz.prog 3 hR b n D ∧ n ≤ K.length ∧ IsMap D ∧ ∀ k, D.atKey (biL k) (hB false) = hB (decide (k ∈ K))
theorem BiAt.made (w : World) : BiAt (w.alloc (.map #[] 0)) w.heap.size [] := ⟨0, .map [], World.ownsMap_made w _ _ _, Nat.le_refl _, ⟨[], rfl⟩, fun k => rfl⟩
theorem BiAt.lt {w : World} {b : Nat} {K : List Int} (h : BiAt w b K) : b < w.heap.size := by
  obtain ⟨n, D, ⟨es, cl, h1, _⟩, _⟩ := h.ex
  exact (Array.getElem?_eq_some_iff.1 h1).1
theorem BiAt.keep {w w' : World} {b : Nat} {K : List Int} (h : BiAt w b K) (hb : w'.heap[b]? = w.heap[b]?) : BiAt w' b K := by
  obtain ⟨n, D, ⟨es, cl, h1, h2⟩, h3⟩ := h.ex
  exact ⟨n, D, ⟨es, cl, hb.trans h1, h2⟩, h3⟩
theorem BiAt.below {w w' : World} {b : Nat} {K : List Int} (h : BiAt w b K) (hb : Below w.heap.size w w') : BiAt w' b K := h.keep (hb.block b h.lt)
theorem BiAt.look {w : World} {b : Nat} {K : List Int} (h : BiAt w b K) {k : Int} (h0 : -9223372036854775808 ≤ k) (h1 : k ≤ 9223372036854775807) : (Instr.lookup 57 (.map (some b)) (.int .i64 k) false).run Tryz.prog w = .ok (.bool (decide (k ∈ K))) w := by
  obtain ⟨n, D, ho, _, hm, ha⟩ := h.ex
  obtain ⟨v, ps, hr, hv⟩ := ho.lookup keyedI Tryz.underlying57 (zeroB w) (zd := hB false) (zp := []) rfl (key_bi h0 h1)
  rw [hr]
  rw [ha k] at hv
  simp only [hR, hB, Option.some.injEq, Prod.mk.injEq, DataW.held.injEq] at hv
  rw [hv.1]
theorem BiAt.put {w : World} {b : Nat} {K : List Int} (h : BiAt w b K) (hn : K.length < maxLen) {k : Int} (h0 : -9223372036854775808 ≤ k) (h1 : k ≤ 9223372036854775807) :
    ∃ w', (Instr.mapUpdate 57 (.map (some b)) (.int .i64 k) (.bool true)).run Tryz.prog w = .ok () w' ∧ BiAt w' b (K ++ [k]) ∧ Sole [b] w w' := by
  obtain ⟨n, D, ho, hl, hm, ha⟩ := h.ex
  obtain ⟨w', hr, ho', hg⟩ := ho.update keyedI Tryz.underlying57 (by omega) (val := .bool true) (d := hB true) (ps := []) (key_bi h0 h1) rfl
  refine ⟨w', hr, ⟨n + 1, _, ho', by simp; omega, ?_, fun q => ?_⟩, ⟨hg.os, hg.tape, hg.output, hg.size, fun i hi hn' => hg.block i hi (fun e => hn' (by simp only [Option.some.injEq] at e; simp [e]))⟩⟩
  · obtain ⟨es, rfl⟩ := hm
    rw [DataW.put_eq]
    exact ⟨_, rfl⟩
  · by_cases e : q = k
    · subst e
      rw [Maps.atKey_put_same hm (show WideAt.IsKeyLit (biL q) from trivial)]
      simp
    · rw [Maps.atKey_put_other (fun e' => e (biL_inj e')), ha q]
      simp [e]

/-! ### What is among what was written -/

theorem addL_mem {L : List Tc} {t x : Tc} : x ∈ addL L t ↔ x ∈ L ∨ (mayB t = true ∧ x = t) := by
  unfold addL
  by_cases h : mayB t = true
  · rw [if_pos h]
    by_cases h2 : hasL L t = true
    · rw [if_pos h2]
      exact ⟨.inl, fun e => e.elim id (fun e => by rw [e.2]; exact hasL_iff.1 h2)⟩
    · rw [if_neg h2, List.mem_append, List.mem_singleton]
      exact ⟨fun e => e.imp id (fun e => ⟨h, e⟩), fun e => e.imp id (fun e => e.2)⟩
  · rw [if_neg h]
    exact ⟨.inl, fun e => e.elim id (fun e => absurd e.1 h)⟩
theorem addK_mem {ino : Int} {x : Tc} : ∀ (ks : List Int) {L : List Tc}, x ∈ addK L ino ks ↔ x ∈ L ∨ ∃ k ∈ ks, mayB (tcK ino k) = true ∧ x = tcK ino k
  | [], L => by simp [addK]
  | k :: ks, L => by
    show x ∈ addK (addL L (tcK ino k)) ino ks ↔ _
    rw [addK_mem ks, addL_mem]
    constructor
    · rintro ((h | h) | ⟨q, hq, h⟩)
      · exact .inl h
      · exact .inr ⟨k, List.mem_cons_self, h⟩
      · exact .inr ⟨q, List.mem_cons_of_mem _ hq, h⟩
    · rintro (h | ⟨q, hq, h⟩)
      · exact .inl (.inl h)
      · rcases List.mem_cons.1 hq with rfl | hq
        · exact .inl (.inr h)
        · exact .inr ⟨q, hq, h⟩
theorem kindsL_mem {f k : Int} : k ∈ kindsL f ↔ (k = 1 ∧ bF f 1 = true) ∨ (k = 2 ∧ bF f 2 = true) ∨ (k = 3 ∧ bF f 4 = true) := by
  unfold kindsL
  cases bF f 1 <;> cases bF f 2 <;> cases bF f 4 <;> simp
/-- The kinds of what was written. -/
theorem wrote_kinds {ino f : Int} (hi : ino ≠ 0) : (∀ t ∈ addK [] ino (kindsL f), t.ino = ino ∧ (t.kind = 1 ∨ t.kind = 2 ∨ t.kind = 3)) ∧
    ∀ k, k = 1 ∨ k = 2 ∨ k = 3 → k ∈ kindsL f → k ∈ (addK [] ino (kindsL f)).map (·.kind) := by
  refine ⟨fun t ht => ?_, fun k hk hm => ?_⟩
  · rcases (addK_mem _).1 ht with h | ⟨k, hk, _, rfl⟩
    · cases h
    · refine ⟨rfl, ?_⟩
      rcases kindsL_mem.1 hk with ⟨rfl, _⟩ | ⟨rfl, _⟩ | ⟨rfl, _⟩
      · exact .inl rfl
      · exact .inr (.inl rfl)
      · exact .inr (.inr rfl)
  · refine List.mem_map.2 ⟨tcK ino k, (addK_mem _).2 (.inr ⟨k, hm, may_bare hi (by rcases hk with h | h | h <;> simp [h]), rfl⟩), rfl⟩
theorem SgIn.allU {B : Nat} {w : World} {a : Sa} {X : List Nat} {s : Sg} (h : SgIn B w a X s) (hl : s.U.length ≤ 100000) : Calls Tryz.prog 17 #[.pointer (some ⟨a.u, 0, none⟩)] w fun e w' =>
    ∃ u, e = .returned u ∧ w'.ownsRow w.heap.size 61 5 u s.U.length (s.U.flatMap tcE) ∧ Below w.heap.size w w' := by
  obtain ⟨vd, vr, vu, h, rfl⟩ := h
  exact all_any h.u hl
theorem Pr.allU {B : Nat} {w0 w : World} {pp : Nat} {a : Sa} {s : Sg} (h : Pr B w0 w pp a s) (hl : s.U.length ≤ 100000) : Calls Tryz.prog 17 #[.pointer (some ⟨a.u, 0, none⟩)] w fun e w' =>
    ∃ u, e = .returned u ∧ w'.ownsRow w.heap.size 61 5 u s.U.length (s.U.flatMap tcE) ∧ Below w.heap.size w w' := by
  obtain ⟨X, x, p1, p2⟩ := h.ex
  exact p2.allU hl
theorem Pr.u0 {B : Nat} {w0 w : World} {pp : Nat} {a : Sa} {s : Sg} (h : Pr B w0 w pp a s) : w.cell? ⟨a.s, 2, none⟩ = some (.pointer (some ⟨a.u, 0, none⟩)) := by
  obtain ⟨X, x, p1, p2⟩ := h.ex
  exact p2.c2
theorem tc_cells {w : World} {a : Option Addr} {n c : Nat} {l : List Tc} (h : RdZ 5 tcE w (.slice a n c) l) {i : Nat} {t : Tc} (hx : l[i]? = some t) :
    ∃ b off, a = some ⟨b, off, none⟩ ∧ b < w.heap.size ∧ w.cell? ⟨b, off + i * 5, none⟩ = some (.int .i64 t.kind) ∧ w.cell? ⟨b, off + i * 5 + 1, none⟩ = some (.int .u32 t.ino) ∧ w.cell? ⟨b, off + i * 5 + 2, none⟩ = some (.string t.name) ∧ w.cell? ⟨b, off + i * 5 + 3, none⟩ = some (.int .i64 t.lo) ∧ w.cell? ⟨b, off + i * 5 + 4, none⟩ = some (.int .i64 t.hi) := by
  obtain ⟨⟨a', c', e, h1, h2, h3⟩, _⟩ := h
  simp only [Value.slice.injEq] at e
  obtain ⟨rfl, rfl, rfl⟩ := e
  obtain ⟨b, off, rfl, hlt, hc⟩ := h3 (by intro e; subst e; simp at hx)
  exact ⟨b, off, rfl, hlt, hc i t 0 _ hx rfl, hc i t 1 _ hx rfl, hc i t 2 _ hx rfl, hc i t 3 _ hx rfl, hc i t 4 _ hx rfl⟩

end Go.Proofs.YtkmckipfjahlcaaGreat
