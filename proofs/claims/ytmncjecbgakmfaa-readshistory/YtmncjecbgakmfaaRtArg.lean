/- What a statement is handed: touches, rows of touches, calls of a set, calls of a history. -/
import Derived.Test.YtmncjecbgakmfaaRtState
import Derived.Lib.SmallJoins
import Derived.Deep.Slices
import Derived.SizedLaws
namespace Go.Proofs.Ytmncjecbgakmfaa
open Go.RowKit
set_option maxRecDepth 100000
set_option linter.unusedVariables false

theorem tc_ofL {H : Type} {enc : TypeId × Value → H} {W : World} {base : Nat} {held : Bool} {fuel : Nat} {l : List Value} {x : DataW H × List MemPlace} (hlen : l.length = 5)
    (h : DataW.trod enc Try.prog W base (fun _ => true) held fuel 24 l = some x) : ∃ p : Tc, TcOk p ∧ l = tcE p := by
  obtain ⟨xs, k, hk, hxy, _, hxl, hf⟩ := DataW.trod_struct Try.underlying24 h
  have hxl : xs.length = 5 := hxl
  clear hxy hk h
  match xs, hxl, l, hlen with
  | [y0, y1, y2, y3, y4], _, [v0, v1, v2, v3, v4], _ =>
    have g0 : DataW.trod enc Try.prog W base (fun _ => true) held k 3 (([v0, v1, v2, v3, v4].drop 0).take (Try.prog.cellsOf 3)) = some y0 := hf 0 _ rfl
    have g1 : DataW.trod enc Try.prog W base (fun _ => true) held k 22 (([v0, v1, v2, v3, v4].drop 1).take (Try.prog.cellsOf 22)) = some y1 := hf 1 _ rfl
    have g2 : DataW.trod enc Try.prog W base (fun _ => true) held k 9 (([v0, v1, v2, v3, v4].drop 2).take (Try.prog.cellsOf 9)) = some y2 := hf 2 _ rfl
    have g3 : DataW.trod enc Try.prog W base (fun _ => true) held k 3 (([v0, v1, v2, v3, v4].drop 3).take (Try.prog.cellsOf 3)) = some y3 := hf 3 _ rfl
    have g4 : DataW.trod enc Try.prog W base (fun _ => true) held k 3 (([v0, v1, v2, v3, v4].drop 4).take (Try.prog.cellsOf 3)) = some y4 := hf 4 _ rfl
    rw [show Try.prog.cellsOf 22 = 1 from by kernel_rfl] at g1
    rw [show Try.prog.cellsOf 3 = 1 from by kernel_rfl] at g0 g3 g4
    rw [show Try.prog.cellsOf 9 = 1 from by kernel_rfl] at g2
    simp only [List.drop_zero, List.drop_succ_cons, List.take_succ_cons, List.take_zero] at g0 g1 g2 g3 g4
    obtain ⟨z0, e0, _, w0⟩ := DataW.trod_int Try.underlying3 g0
    obtain ⟨z1, e1, _, w1⟩ := DataW.trod_int Try.underlying22 g1
    obtain ⟨z2, e2, _, w2⟩ := DataW.trod_string Try.underlying9 g2
    obtain ⟨z3, e3, _, w3⟩ := DataW.trod_int Try.underlying3 g3
    obtain ⟨z4, e4, _, w4⟩ := DataW.trod_int Try.underlying3 g4
    simp only [List.cons.injEq, and_true] at e0 e1 e2 e3 e4
    subst e0 e1 e2 e3 e4
    obtain ⟨a0, a1⟩ := bounds_i64 w0
    obtain ⟨b0, b1⟩ := bounds_u32 w1
    obtain ⟨c0, c1⟩ := bounds_i64 w3
    obtain ⟨d0, d1⟩ := bounds_i64 w4
    exact ⟨⟨z0, z1, z2, z3, z4⟩, ⟨a0, a1, b0, b1, w2, c0, c1, d0, d1⟩, rfl⟩

theorem touch_of {H : Type} {enc : TypeId × Value → H} {W : World} {base : Nat} {held : Bool} {fuel : Nat} {cs : Array Value} {x : DataW H × List MemPlace} (hc : cs.size = Try.prog.cellsOf 24)
    (h : DataW.trod enc Try.prog W base (fun _ => true) held fuel 24 (Value.agg cs).cells.toList = some x) : ∃ p : Tc, TcOk p ∧ cs = tcC p := by
  have hlen : cs.toList.length = 5 := by rw [Array.length_toList, hc]; kernel_rfl
  obtain ⟨p, hp, e⟩ := tc_ofL hlen h
  exact ⟨p, hp, Array.ext' e⟩

/-- Rows that are handed in, whatever their elements. -/
theorem rows_of {H : Type} {enc : TypeId × Value → H} {W : World} {base : Nat} {held : Bool} {fuel : Nat} {a : Option Addr} {len cap : Nat} {x : DataW H × List MemPlace} {t e : TypeId} {α : Type} (k : Nat) (ec : α → List Value) (P : α → Prop) (d : α) (hk : 0 < k)
    (ht : Try.prog.underlying t = some (.slice e)) (hc : Try.prog.cellsOf e = k) (hl : ∀ x, (ec x).length = k)
    (one : ∀ (l : List Value) (n : Nat) (y : DataW H × List MemPlace), l.length = k → DataW.trod enc Try.prog W base (fun _ => true) held n e l = some y → ∃ p : α, P p ∧ l = ec p)
    (h : DataW.trod enc Try.prog W base (fun _ => true) held fuel t [.slice a len cap] = some x) : ∃ os : List α, RdZ k ec W (.slice a len cap) os ∧ ∀ o ∈ os, P o := by
  rcases Deep.open_slice ht h with ⟨hcs, _⟩ | ⟨a', l, c, m, n, D, Pl, hcs, hb, hll, hm, hmm, _, hx⟩
  · simp at hcs
    obtain ⟨rfl, rfl, rfl⟩ := hcs
    exact ⟨[], RdZ.nil _ _ _, by simp⟩
  · simp at hcs
    obtain ⟨rfl, rfl, rfl⟩ := hcs
    have each : ∀ i, i < len → ∃ o : α, P o ∧ ∀ j u, (ec o)[j]? = some u → W.cell? (a'.add (i * k + j)) = some u := by
      intro i hi
      obtain ⟨cs', h1, h2⟩ := hx i (by rw [hmm]; simp; omega)
      rw [hc] at h1
      obtain ⟨_, hlen, hcell⟩ := World.cells?_some h1
      obtain ⟨c, hc, er⟩ := one cs' n _ hlen h2
      refine ⟨c, hc, fun j u hu => ?_⟩
      have hj : j < k := by
        have := (List.getElem?_eq_some_iff.1 hu).1
        rw [hl] at this; exact this
      have q := hcell j hj
      rw [Deep.add_add] at q
      rw [q, er]
      exact hu
    have hin : Inhabited α := ⟨d⟩
    obtain ⟨f, hf⟩ := Deep.choose_lt each
    refine ⟨(List.range len).map f, ⟨⟨some a', cap, by simp, by simpa using hll, hm, fun hne => ?_⟩, fun c hv => by cases hv⟩, fun o ho => ?_⟩
    · have hp : 0 < len := by
        rcases Nat.eq_zero_or_pos len with h0 | h0
        · subst h0; simp at hne
        · exact h0
      obtain ⟨b, off, spot⟩ := a'
      obtain ⟨u0, hu0⟩ : ∃ u0, (ec (f 0))[0]? = some u0 := ⟨_, List.getElem?_eq_getElem (by rw [hl]; exact hk)⟩
      have q0 := (hf 0 hp).2 0 _ hu0
      have hspot : spot = none := by simpa [Addr.add] using World.cell?_spot q0
      subst hspot
      have hadd : ∀ j, (⟨b, off, none⟩ : Addr).add j = ⟨b, off + j, none⟩ := fun j => by unfold Addr.add; split <;> simp_all
      rw [hadd] at q0
      refine ⟨b, off, rfl, World.block_lt_of_cell? _ _ q0, fun i x j u hi hj => ?_⟩
      have hil : i < len := by have := (List.getElem?_eq_some_iff.1 hi).1; simpa using this
      rw [List.getElem?_map, List.getElem?_range hil] at hi
      simp only [Option.map_some, Option.some.injEq] at hi
      subst hi
      have q := (hf i hil).2 j u hj
      rw [hadd, ← Nat.add_assoc] at q
      exact q
    · obtain ⟨i, hi, rfl⟩ := List.mem_map.1 ho
      exact (hf i (List.mem_range.1 hi)).1

/-- The slice value 'v' reads as touches. -/
def RdT (w : World) (v : Value) (l : List Tc) : Prop := RdZ 5 tcE w v l ∧ ∀ t ∈ l, TcOk t
theorem RdT.below {w w' : World} {v : Value} {l : List Tc} (h : RdT w v l) (hb : Below w.heap.size w w') : RdT w' v l := ⟨h.1.below hb, h.2⟩

theorem tcs_of {H : Type} {enc : TypeId × Value → H} {W : World} {base : Nat} {held : Bool} {fuel : Nat} {a : Option Addr} {len cap : Nat} {x : DataW H × List MemPlace}
    (h : DataW.trod enc Try.prog W base (fun _ => true) held fuel 32 [.slice a len cap] = some x) : ∃ os, RdT W (.slice a len cap) os :=
  rows_of 5 tcE TcOk tc0 (by decide) Try.underlying32 (by kernel_rfl) tc_len (fun l n y h1 h2 => tc_ofL h1 h2) h

theorem tcs_sized {H : Type} {enc : TypeId × Value → H} {W : World} {base : Nat} {held : Bool} {fuel : Nat} {a : Option Addr} {len cap : Nat} {x : DataW H × List MemPlace}
    (h : DataW.trod enc Try.prog W base (fun _ => true) held fuel 32 [.slice a len cap] = some x)
    {ts : List TypeId} {ds : List (DataW H)} {j : Nat} (hsz : (DataW.weightsEach Try.prog ts ds).all (· ≤ reachBytes) = true) (ht : ts[j]? = some 32) (hd : ds[j]? = some x.1) : len ≤ 17592186043904 := by
  rcases Deep.open_slice Try.underlying32 h with ⟨hcs, _⟩ | ⟨a', l, c, m, n, D, Pl, hcs, hb, hl, hm, hmm, hy, hx⟩
  · simp at hcs
    obtain ⟨rfl, rfl, rfl⟩ := hcs
    exact Nat.zero_le _
  · simp at hcs
    obtain ⟨rfl, rfl, rfl⟩ := hcs
    rw [hy] at hd
    have hw := sized_slice hsz ht hd Try.underlying32
    rw [show Try.prog.bytesOf 24 = 48 from by kernel_rfl] at hw
    simp only [List.length_map, List.length_range, reachBytes] at hw
    omega

/-- A call of a set, as it is handed in. -/
structure Sop where
  f0 : Int
  f1 : Int
  t : Tc
def sop0 : Sop := ⟨0, 0, tc0⟩
structure SopOk (o : Sop) : Prop where
  a0 : -9223372036854775808 ≤ o.f0 ∧ o.f0 ≤ 9223372036854775807
  a1 : -9223372036854775808 ≤ o.f1 ∧ o.f1 ≤ 9223372036854775807
  t : TcOk o.t
def sopE (o : Sop) : List Value := .int .i64 o.f0 :: .int .i64 o.f1 :: tcE o.t
theorem sop_len (o : Sop) : (sopE o).length = 7 := rfl
def RdO (w : World) (v : Value) (l : List Sop) : Prop := RdZ 7 sopE w v l ∧ ∀ o ∈ l, SopOk o
theorem RdO.below {w w' : World} {v : Value} {l : List Sop} (h : RdO w v l) (hb : Below w.heap.size w w') : RdO w' v l := ⟨h.1.below hb, h.2⟩

theorem sops_of {H : Type} {enc : TypeId × Value → H} {W : World} {base : Nat} {held : Bool} {fuel : Nat} {a : Option Addr} {len cap : Nat} {x : DataW H × List MemPlace}
    (h : DataW.trod enc Try.prog W base (fun _ => true) held fuel 29 [.slice a len cap] = some x) : ∃ os, RdO W (.slice a len cap) os := by
  refine rows_of 7 sopE SopOk sop0 (by decide) Try.underlying29 (by kernel_rfl) sop_len (fun l n y hlen h2 => ?_) h
  obtain ⟨xs, k, hk, hxy, _, hxl, hf⟩ := DataW.trod_struct Try.underlying34 h2
  have hxl : xs.length = 3 := hxl
  clear hxy hk h2
  match xs, hxl, l, hlen with
  | [y0, y1, y2], _, v0 :: v1 :: r, hlen =>
    have hr : r.length = 5 := by simpa using hlen
    have g0 : DataW.trod enc Try.prog W base (fun _ => true) held k 3 (((v0 :: v1 :: r).drop 0).take (Try.prog.cellsOf 3)) = some y0 := hf 0 _ rfl
    have g1 : DataW.trod enc Try.prog W base (fun _ => true) held k 3 (((v0 :: v1 :: r).drop 1).take (Try.prog.cellsOf 3)) = some y1 := hf 1 _ rfl
    have g2 : DataW.trod enc Try.prog W base (fun _ => true) held k 24 (((v0 :: v1 :: r).drop 2).take (Try.prog.cellsOf 24)) = some y2 := hf 2 _ rfl
    rw [show Try.prog.cellsOf 3 = 1 from by kernel_rfl] at g0 g1
    rw [show Try.prog.cellsOf 24 = 5 from by kernel_rfl] at g2
    simp only [List.drop_zero, List.drop_succ_cons, List.take_succ_cons, List.take_zero] at g0 g1
    rw [show ((v0 :: v1 :: r).drop 2).take 5 = r from by
      show r.take 5 = r
      exact List.take_of_length_le (by omega)] at g2
    obtain ⟨z0, e0, _, w0⟩ := DataW.trod_int Try.underlying3 g0
    obtain ⟨z1, e1, _, w1⟩ := DataW.trod_int Try.underlying3 g1
    simp only [List.cons.injEq, and_true] at e0 e1
    obtain ⟨c, hc, er⟩ := tc_ofL hr g2
    exact ⟨⟨z0, z1, c⟩, ⟨bounds_i64 w0, bounds_i64 w1, hc⟩, by rw [e0, e1, er]; rfl⟩

/-- A call of a history, as it is handed in: its slice, and what that reads as. -/
structure Act1 where
  f0 : Int
  f1 : Int
  v : Value
  l : List Tc
def act0 : Act1 := ⟨0, 0, .slice none 0 0, []⟩
structure ActOk (w : World) (o : Act1) : Prop where
  a0 : -9223372036854775808 ≤ o.f0 ∧ o.f0 ≤ 9223372036854775807
  a1 : 0 ≤ o.f1 ∧ o.f1 ≤ 18446744073709551615
  t : RdT w o.v o.l
def actE (o : Act1) : List Value := [.int .i64 o.f0, .int .u64 o.f1, o.v]
theorem act_len (o : Act1) : (actE o).length = 3 := rfl
def RdA (w : World) (v : Value) (l : List Act1) : Prop := RdZ 3 actE w v l ∧ ∀ o ∈ l, ActOk w o
theorem RdA.below {w w' : World} {v : Value} {l : List Act1} (h : RdA w v l) (hb : Below w.heap.size w w') : RdA w' v l := ⟨h.1.below hb, fun o ho => ⟨(h.2 o ho).a0, (h.2 o ho).a1, (h.2 o ho).t.below hb⟩⟩

theorem acts_of {H : Type} {enc : TypeId × Value → H} {W : World} {base : Nat} {held : Bool} {fuel : Nat} {a : Option Addr} {len cap : Nat} {x : DataW H × List MemPlace}
    (h : DataW.trod enc Try.prog W base (fun _ => true) held fuel 39 [.slice a len cap] = some x) : ∃ os, RdA W (.slice a len cap) os := by
  refine rows_of 3 actE (ActOk W) act0 (by decide) Try.underlying39 (by kernel_rfl) act_len (fun l n y hlen h2 => ?_) h
  obtain ⟨xs, k, hk, hxy, _, hxl, hf⟩ := DataW.trod_struct Try.underlying45 h2
  have hxl : xs.length = 3 := hxl
  clear hxy hk h2
  match xs, hxl, l, hlen with
  | [y0, y1, y2], _, [v0, v1, v2], hlen =>
    have g0 : DataW.trod enc Try.prog W base (fun _ => true) held k 3 (([v0, v1, v2].drop 0).take (Try.prog.cellsOf 3)) = some y0 := hf 0 _ rfl
    have g1 : DataW.trod enc Try.prog W base (fun _ => true) held k 43 (([v0, v1, v2].drop 1).take (Try.prog.cellsOf 43)) = some y1 := hf 1 _ rfl
    have g2 : DataW.trod enc Try.prog W base (fun _ => true) held k 32 (([v0, v1, v2].drop 2).take (Try.prog.cellsOf 32)) = some y2 := hf 2 _ rfl
    rw [show Try.prog.cellsOf 3 = 1 from by kernel_rfl] at g0
    rw [show Try.prog.cellsOf 43 = 1 from by kernel_rfl] at g1
    rw [show Try.prog.cellsOf 32 = 1 from by kernel_rfl] at g2
    simp only [List.drop_zero, List.drop_succ_cons, List.take_succ_cons, List.take_zero] at g0 g1 g2
    obtain ⟨z0, e0, _, w0⟩ := DataW.trod_int Try.underlying3 g0
    obtain ⟨z1, e1, _, w1⟩ := DataW.trod_int Try.underlying43 g1
    simp only [List.cons.injEq, and_true] at e0 e1
    obtain ⟨a2, n2, c2, e2⟩ : ∃ a n c, v2 = .slice a n c := by
      rcases Deep.open_slice Try.underlying32 g2 with ⟨hcs, _⟩ | ⟨a', l, c, m, n, D, Pl, hcs, _⟩
      · simp at hcs; exact ⟨_, _, _, hcs⟩
      · simp at hcs; exact ⟨_, _, _, hcs⟩
    subst e2
    obtain ⟨os, hos⟩ := tcs_of g2
    exact ⟨⟨z0, z1, .slice a2 n2 c2, os⟩, ⟨bounds_i64 w0, bounds_u64 w1, hos⟩, by rw [e0, e1]; rfl⟩

end Go.Proofs.Ytmncjecbgakmfaa
