/- What a registry of versions is, in plain words, and where it lies. -/
import Derived.Test.YtakifnlfgaedjaaBase
import Derived.Below
import Derived.Laws.AppendOwn
namespace Go.Proofs.Ytakifnlfgaedjaa
open Go.RowKit
set_option linter.unusedVariables false
set_option maxRecDepth 4000

/-- Of the blocks that were there nothing has turned but those of 'S'. -/
structure Sole (S : List Nat) (w w' : World) : Prop where
  os : w'.os = w.os
  tape : w'.tape = w.tape
  output : w'.output = w.output
  size : w.heap.size ≤ w'.heap.size
  block : ∀ k, k < w.heap.size → k ∉ S → w'.heap[k]? = w.heap[k]?

theorem Sole.refl (S : List Nat) (w : World) : Sole S w w := ⟨rfl, rfl, rfl, Nat.le_refl _, fun _ _ _ => rfl⟩
theorem Sole.trans {S : List Nat} {a b c : World} (h : Sole S a b) (k : Sole S b c) : Sole S a c :=
  ⟨k.os.trans h.os, k.tape.trans h.tape, k.output.trans h.output, Nat.le_trans h.size k.size, fun i hi hn => (k.block i (Nat.lt_of_lt_of_le hi h.size) hn).trans (h.block i hi hn)⟩
theorem Sole.mono {S S' : List Nat} {w w' : World} (h : Sole S w w') (hs : ∀ k ∈ S, k ∈ S') : Sole S' w w' :=
  ⟨h.os, h.tape, h.output, h.size, fun k hk hn => h.block k hk (fun e => hn (hs k e))⟩
theorem Sole.after {S S' : List Nat} {w0 w w' : World} (h0 : Sole S w0 w) (h : Sole S' w w') (hs : ∀ k ∈ S', k ∈ S ∨ w0.heap.size ≤ k) : Sole S w0 w' :=
  ⟨h.os.trans h0.os, h.tape.trans h0.tape, h.output.trans h0.output, Nat.le_trans h0.size h.size, fun i hi hn => (h.block i (Nat.lt_of_lt_of_le hi h0.size) (fun e => by rcases hs i e with h | h; exact hn h; omega)).trans (h0.block i hi hn)⟩
theorem Sole.of_below {w w' : World} (h : Below w.heap.size w w') (S : List Nat) : Sole S w w' := ⟨h.os, h.tape, h.output, h.size, fun k hk _ => h.block k hk⟩
theorem Sole.below {w w' : World} (h : Sole [] w w') : Below w.heap.size w w' := ⟨h.os, h.tape, h.output, h.size, fun k hk => h.block k hk (by simp)⟩
theorem Sole.setCell (w : World) {a : Addr} (u : Value) {S : List Nat} (hb : a.block ∈ S) : Sole S w (w.setCell a u) :=
  ⟨rfl, rfl, rfl, by simp [World.setCell], fun k hk hn => Below.heap_setCell _ _ _ _ (fun e => hn (by rw [e]; exact hb))⟩
theorem Sole.drew (w : World) (S : List Nat) : Sole S w w.drew := ⟨rfl, rfl, rfl, Nat.le_refl _, fun _ _ _ => rfl⟩
theorem Sole.drewN (w : World) (q : Nat) (S : List Nat) : Sole S w (w.drewN q) := ⟨rfl, rfl, rfl, Nat.le_refl _, fun _ _ _ => rfl⟩
theorem Sole.belowOf {B : Nat} {S : List Nat} {w0 w w' : World} (h0 : Below B w0 w) (h : Sole S w w') (hB : B ≤ w.heap.size) (hs : ∀ k ∈ S, B ≤ k) : Below B w0 w' :=
  h0.trans ⟨h.os, h.tape, h.output, h.size, fun k hk => h.block k (by omega) (fun e => by have := hs k e; omega)⟩
theorem belowQ (W : World) (q B : Nat) : Below B W (W.drewN q) := ⟨rfl, rfl, rfl, Nat.le_refl _, fun _ _ => rfl⟩
theorem thenB {a b c : World} (h : Below a.heap.size a b) (k : Below b.heap.size b c) : Below a.heap.size a c := h.trans (k.mono h.size)

theorem own_shape {base n k : Nat} {w : World} {v : Value} {e : TypeId} {xs : List Value} (h : w.ownsRow base e k v n xs) : ∃ a c, v = .slice a n c := by
  obtain ⟨h1, ⟨rfl, h2⟩ | ⟨g, cap, cur, rfl, _⟩⟩ := h
  · exact ⟨none, 0, by rw [h2]⟩
  · exact ⟨_, _, rfl⟩
theorem own_keep {w w' : World} {base n k : Nat} {e : TypeId} {v : Value} {xs : List Value} (h : w.ownsRow base e k v n xs) (hs : w.heap.size ≤ w'.heap.size) (hb : ∀ q, v.ownBlock = some q → q < w.heap.size → w'.heap[q]? = w.heap[q]?) : w'.ownsRow base e k v n xs := by
  obtain ⟨h1, h2 | ⟨g, cap, cur, rfl, h3, h4, h5⟩⟩ := h
  · exact ⟨h1, .inl h2⟩
  · exact ⟨h1, .inr ⟨g, cap, cur, rfl, h3, (hb g rfl (Array.getElem?_eq_some_iff.1 h4).1).trans h4, h5⟩⟩
theorem own_mono {w : World} {base base' n k : Nat} {e : TypeId} {v : Value} {xs : List Value} (h : w.ownsRow base e k v n xs) (hb : base' ≤ base) : w.ownsRow base' e k v n xs := by
  obtain ⟨h1, h2 | ⟨g, cap, cur, rfl, h3, h4, h5⟩⟩ := h
  · exact ⟨h1, .inl h2⟩
  · exact ⟨h1, .inr ⟨g, cap, cur, rfl, Nat.le_trans hb h3, h4, h5⟩⟩
theorem own_below {w w' : World} {base n k : Nat} {e : TypeId} {v : Value} {xs : List Value} (h : w.ownsRow base e k v n xs) (hb : Below w.heap.size w w') : w'.ownsRow base e k v n xs := own_keep h hb.size (fun q _ hl => hb.block q hl)
theorem row_apart {w : World} {base n k q : Nat} {e e' : TypeId} {fr : Nat × Nat} {cs : Array Value} {v : Value} {xs : List Value} (he : e ≠ e') (hq : w.heap[q]? = some (.cells cs e fr)) (h : w.ownsRow base e' k v n xs) : v.ownBlock ≠ some q := by
  intro hv
  obtain ⟨_, ⟨rfl, _⟩ | ⟨g, c, cur, rfl, _, hg, _⟩⟩ := h
  · cases hv
  · simp only [Value.ownBlock, Option.some.injEq] at hv
    subst hv
    rw [hq] at hg
    simp only [Option.some.injEq, Obj.cells.injEq] at hg
    exact he hg.2.1
theorem own_same (a : Option Addr) (n m c : Nat) : (Value.slice a n c).ownBlock = (Value.slice a m c).ownBlock := by cases a <;> rfl
theorem own_cap {w : World} {base n k c : Nat} {e : TypeId} {a : Option Addr} {xs : List Value} (h : w.ownsRow base e k (.slice a n c) n xs) : n ≤ c ∧ c ≤ maxLen := by
  obtain ⟨_, ⟨e, h2⟩ | ⟨g, cap, cur, e, _, _, h5, h6, _⟩⟩ := h
  · simp only [Value.slice.injEq] at e; rw [e.2.2, h2]; exact ⟨Nat.le_refl _, by decide⟩
  · simp only [Value.slice.injEq, true_and] at e; rw [e.2]; exact ⟨h5, h6⟩
theorem rowAdd {W : World} {g : Nat} {cs : Array Value} {e : TypeId} {fr : Nat × Nat} (h : W.heap[g]? = some (.cells cs e fr)) : ∀ j x, cs.toList[j]? = some x → W.cell? ((⟨g, 0, none⟩ : Addr).add j) = some x := by
  intro j x hx
  have e1 : (⟨g, 0, none⟩ : Addr).add j = ⟨g, j, none⟩ := by unfold Addr.add; split <;> simp_all
  rw [e1, cell_of_row W g j cs e fr h, ← Array.getElem?_toList]
  exact hx
theorem info_parts {t : TypeId} {z : Value} {n b : Nat} (h : (Try.prog.info? t).map (fun i => (i.zero, i.size, i.bytes)) = some (some z, n, b)) : ∃ i, Try.prog.info? t = some i ∧ i.zero = some z ∧ i.size = n ∧ i.bytes = b := by
  cases hi : Try.prog.info? t with
  | none => rw [hi] at h; cases h
  | some i =>
    rw [hi] at h
    simp only [Option.map_some, Option.some.injEq, Prod.mk.injEq] at h
    exact ⟨i, rfl, h.1, h.2.1, h.2.2⟩
theorem wp_app {w w' : World} {v' : Value} {o : Oper} {a : Act} {K : Act → World → Prop} {Q : Exit → Act → World → Prop} (s x : Operand) (t : TypeId)
    (ho : o.op = .call { callee := .builtin .append, args := #[s, x], argTypes := #[t, t] }) (v u : Value) (hs : a.eval s = v) (hx : a.eval x = u)
    (hr : (Builtin.append_ #[t, t] o.type #[v, u]).run Try.prog w = .ok v' w') (h : K (a.put o.dst v') w') : o.wp Try.prog a w K Q := by
  unfold Oper.wp execOp
  simp only [ho, resolve, invoke, builtin, Sem.run_bind, Sem.run_pure, Result.andThen_ok, List.map_toArray, List.map_cons, List.map_nil, hs, hx, hr]
  exact h

/-- A version of the tree: its root, its number, how many places all versions up to it have changed. -/
structure Tr where
  root : Int
  ver : Int
  chg : Int
def trC (t : Tr) : List Value := [.int .u32 t.root, .int .u64 t.ver, .int .i64 t.chg]

/-- A snapshot. -/
structure Sn where
  id : Nat
  t : Tr
def snC (x : Sn) : List Value := [.int .i64 x.id, .int .u32 x.t.root, .int .u64 x.t.ver, .int .i64 x.t.chg]

/-- A registry. -/
structure Rg where
  t : Tr
  base : Int
  last : Nat
  opn : List Sn

/-- What its parts are: the open snapshots' numbers rise, from 1 up to the last one. -/
structure RgOk (s : Rg) : Prop where
  rise : s.opn.Pairwise (fun a b => a.id < b.id)
  ids : ∀ x ∈ s.opn, 1 ≤ x.id ∧ x.id ≤ s.last
  most : s.last ≤ 1000

def rgC (v : Value) (s : Rg) : Array Value := #[.int .u32 s.t.root, .int .u64 s.t.ver, .int .i64 s.t.chg, .int .i64 s.base, .int .i64 s.last, v]

/-- Where it lies: the variable in block p, the snapshots in a row of its own. -/
structure RgAt (B : Nat) (w : World) (p : Nat) (v : Value) (s : Rg) : Prop where
  row : w.heap[p]? = some (.cells (rgC v s) 62 (0, 0))
  own : w.ownsRow B 64 4 v s.opn.length (s.opn.flatMap snC)

theorem RgAt.lt {B : Nat} {w : World} {p : Nat} {v : Value} {s : Rg} (h : RgAt B w p v s) : p < w.heap.size := (Array.getElem?_eq_some_iff.1 h.row).1
theorem RgAt.cell {B : Nat} {w : World} {p : Nat} {v : Value} {s : Rg} (h : RgAt B w p v s) (j : Nat) (u : Value) (hu : (rgC v s)[j]? = some u) : w.cell? ⟨p, j, none⟩ = some u := by
  rw [cell_of_row w p j _ _ (0, 0) h.row]; exact hu
theorem RgAt.apart {B : Nat} {w : World} {p : Nat} {v : Value} {s : Rg} (h : RgAt B w p v s) : ∀ k, v.ownBlock = some k → k ≠ p ∧ B ≤ k ∧ k < w.heap.size := fun k hk =>
  ⟨fun e => row_apart (by decide) h.row h.own (by rw [hk, e]), World.ownsRow.lt h.own k hk⟩
theorem RgAt.other {B : Nat} {w w' : World} {p : Nat} {v : Value} {s : Rg} (h : RgAt B w p v s) {S : List Nat} (hS : Sole S w w') (hp : p ∉ S) (hv : ∀ k, v.ownBlock = some k → k ∉ S) : RgAt B w' p v s :=
  ⟨(hS.block p h.lt hp).trans h.row, own_keep h.own hS.size (fun q hq hl => hS.block q hl (hv q hq))⟩
theorem RgAt.below {B : Nat} {w w' : World} {p : Nat} {v : Value} {s : Rg} (h : RgAt B w p v s) (hb : Below w.heap.size w w') : RgAt B w' p v s :=
  h.other (Sole.of_below hb []) (by simp) (by simp)
theorem RgAt.mono {B B' : Nat} {w : World} {p : Nat} {v : Value} {s : Rg} (h : RgAt B w p v s) (hb : B' ≤ B) : RgAt B' w p v s := ⟨h.row, own_mono h.own hb⟩

/-- What a call on a registry leaves. -/
structure RgMoves (B : Nat) (w w' : World) (p : Nat) (v : Value) (s' : Rg) : Prop where
  at_ : ∃ v', RgAt B w' p v' s' ∧ ∀ k, v'.ownBlock = some k → v.ownBlock = some k ∨ w.heap.size ≤ k
  sole : Sole (p :: v.ownBlock.toList) w w'

theorem len_most : ∀ (K : List Sn) (m : Nat), K.Pairwise (fun a b => a.id < b.id) → (∀ x ∈ K, x.id ≤ m) → (∀ x ∈ K, 1 ≤ x.id) → K.length ≤ m
  | [], m, _, _, _ => Nat.zero_le _
  | x :: K, m, h, h2, h1 => by
    obtain ⟨ha, hK⟩ := List.pairwise_cons.1 h
    have := len_most (K.map fun y => ⟨y.id - 1, y.t⟩) (m - 1) (List.pairwise_map.2 ((hK.and (hK.imp (fun _ => trivial))).imp_of_mem (fun {a b} ma mb hh => by
      have := ha a ma; show a.id - 1 < b.id - 1; have := hh.1; have := h1 a (List.mem_cons_of_mem _ ma); omega)))
      (fun y hy => by obtain ⟨z, hz, rfl⟩ := List.mem_map.1 hy; have := h2 z (List.mem_cons_of_mem _ hz); show z.id - 1 ≤ m - 1; omega)
      (fun y hy => by obtain ⟨z, hz, rfl⟩ := List.mem_map.1 hy; have := ha z hz; have := h1 x (List.mem_cons_self); show 1 ≤ z.id - 1; omega)
    have hm := h2 x (List.mem_cons_self)
    have h1' := h1 x (List.mem_cons_self)
    simp only [List.length_map] at this
    simp only [List.length_cons]
    omega
termination_by K => K.length
theorem RgOk.len {s : Rg} (h : RgOk s) : s.opn.length ≤ s.last := len_most _ _ h.rise (fun x hx => (h.ids x hx).2) (fun x hx => (h.ids x hx).1)

theorem flatSn (K : List Sn) : ∀ (i j : Nat) (x : Sn) (v : Value), K[i]? = some x → (snC x)[j]? = some v → (K.flatMap snC)[i * 4 + j]? = some v := by
  induction K with
  | nil => intro i j x v h; simp at h
  | cons y K ih =>
    intro i j x v h hv
    have hj : j < 4 := (List.getElem?_eq_some_iff.1 hv).1
    rw [List.flatMap_cons]
    cases i with
    | zero =>
      simp only [List.getElem?_cons_zero, Option.some.injEq] at h
      subst h
      rw [Nat.zero_mul, Nat.zero_add, List.getElem?_append_left (by exact hj)]
      exact hv
    | succ i =>
      have e4 : (snC y).length = 4 := rfl
      rw [List.getElem?_append_right (by omega), e4, show (i + 1) * 4 + j - 4 = i * 4 + j from by omega]
      exact ih i j x v (by simpa using h) hv

theorem own_sns {base : Nat} {w : World} {v : Value} {K : List Sn} (h : w.ownsRow base 64 4 v K.length (K.flatMap snC)) (hK : 0 < K.length) : ∃ g cap, v = .slice (some ⟨g, 0, none⟩) K.length cap ∧ K.length ≤ cap ∧ cap ≤ maxLen ∧ base ≤ g ∧ g < w.heap.size ∧ ∀ i x, K[i]? = some x → ∀ j u, (snC x)[j]? = some u → w.cell? ⟨g, i * 4 + j, none⟩ = some u := by
  obtain ⟨h1, ⟨rfl, h2⟩ | ⟨g, cap, cur, rfl, h3, h4, h5, h6, h7, h8⟩⟩ := h
  · omega
  · refine ⟨g, cap, rfl, h5, h6, h3, (Array.getElem?_eq_some_iff.1 h4).1, fun i x hx j u hu => ?_⟩
    have hj : j < 4 := (List.getElem?_eq_some_iff.1 hu).1
    have hi := (List.getElem?_eq_some_iff.1 hx).1
    have e := flatSn K i j x u hx hu
    rw [← h8, List.getElem?_take_of_lt (by omega)] at e
    rw [cell_of_row _ _ _ _ _ (0, 0) h4, ← Array.getElem?_toList]
    exact e

theorem Try.infoSn : (Try.prog.info? 64).map (fun i => (i.zero, i.size, i.bytes)) = some (some (.agg #[.int .i64 0, .int .u32 0, .int .u64 0, .int .i64 0]), 4, 32) := by kernel_rfl

end Go.Proofs.Ytakifnlfgaedjaa
