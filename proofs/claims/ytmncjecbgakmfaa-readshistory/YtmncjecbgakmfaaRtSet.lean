/- A set, in memory; the contracts of reads.New, Mark, All and slices.Clone. -/
import Derived.Test.YtmncjecbgakmfaaRtCheck
import Derived.Test.YtmncjecbgakmfaaRtMap
import Derived.Test.YtmncjecbgakmfaaWSink
namespace Go.Proofs.Ytmncjecbgakmfaa
open Go.RowKit Go.Maps
set_option linter.unusedVariables false
set_option linter.unusedSimpArgs false
set_option maxRecDepth 100000

theorem own_shape {base n k : Nat} {w : World} {v : Value} {e : TypeId} {xs : List Value} (h : w.ownsRow base e k v n xs) : ∃ a c, v = .slice a n c := by
  obtain ⟨h1, ⟨rfl, h2⟩ | ⟨g, cap, cur, rfl, _⟩⟩ := h
  · exact ⟨none, 0, by rw [h2]⟩
  · exact ⟨_, _, rfl⟩
theorem own_row {base n k : Nat} {w : World} {v : Value} {e : TypeId} {xs : List Value} (h : w.ownsRow base e k v n xs) {q : Nat} (hq : v.ownBlock = some q) : ∃ cs, w.heap[q]? = some (.cells cs e (0, 0)) := by
  obtain ⟨h1, ⟨rfl, h2⟩ | ⟨g, cap, cur, rfl, _, h4, _⟩⟩ := h
  · cases hq
  · cases hq; exact ⟨cur, h4⟩
theorem wp_app {w w' : World} {v' : Value} {o : Oper} {a : Act} {K : Act → World → Prop} {Q : Exit → Act → World → Prop} (s x : Operand) (t : TypeId)
    (ho : o.op = .call { callee := .builtin .append, args := #[s, x], argTypes := #[t, t] }) (v u : Value) (hs : a.eval s = v) (hx : a.eval x = u)
    (hr : (Builtin.append_ #[t, t] o.type #[v, u]).run Try.prog w = .ok v' w') (h : K (a.put o.dst v') w') : o.wp Try.prog a w K Q := by
  unfold Oper.wp execOp
  simp only [ho, resolve, invoke, builtin, Sem.run_bind, Sem.run_pure, Result.andThen_ok, List.map_toArray, List.map_cons, List.map_nil, hs, hx, hr]
  exact h
theorem wp_buildS {w w' : World} {v : Value} {o : Oper} {a : Act} {K : Act → World → Prop} {Q : Exit → Act → World → Prop} (t : TypeId) (n : Nat) (parts : Array (Nat × Operand)) (ho : o.op = .buildSlice t n parts)
    (vs : Array (Nat × Value)) (hp : (parts.map fun (i, x) => (i, a.eval x)) = vs) (hr : (Instr.buildSlice t n vs).run Try.prog w = .ok v w') (h : K (a.put o.dst v) w') : o.wp Try.prog a w K Q := by
  unfold Oper.wp execOp
  simp only [ho, Sem.run_bind, Sem.run_pure, Result.andThen_ok, hp, hr]
  exact h
theorem ne_of_type {w : World} {k q : Nat} {e e' : TypeId} {cs cs' : Array Value} {fr fr' : Nat × Nat} (h : w.heap[k]? = some (.cells cs e fr)) (h' : w.heap[q]? = some (.cells cs' e' fr')) (he : e ≠ e') : k ≠ q := fun x => by
  rw [x, h'] at h
  simp only [Option.some.injEq, Obj.cells.injEq] at h
  exact he h.2.1.symm

theorem info_tc : (Try.prog.info? 24).map (fun i => (i.zero, i.size, i.bytes)) = some (some (.agg (tcC tc0)), 5, 48) := by kernel_rfl

/-- A set lies in the block 'p', its map in 'b', its row in 'v'. -/
structure SetAt (w : World) (p b : Nat) (v : Value) (L : List Tc) : Prop where
  row : w.heap[p]? = some (.cells #[v, .map (some b)] 61 (0, 0))
  sp : SpAt w b L
  own : w.ownsRow 0 24 5 v L.length (L.flatMap tcE)
  ok : ∀ t ∈ L, TcOk t
  nd : L.Nodup
theorem SetAt.lt {w : World} {p b : Nat} {v : Value} {L : List Tc} (h : SetAt w p b v L) : p < w.heap.size := (Array.getElem?_eq_some_iff.1 h.row).1
theorem SetAt.keep {w w' : World} {p b : Nat} {v : Value} {L : List Tc} (h : SetAt w p b v L) (hs : w.heap.size ≤ w'.heap.size) (hb : ∀ k, k < w.heap.size → k = p ∨ k = b ∨ v.ownBlock = some k → w'.heap[k]? = w.heap[k]?) : SetAt w' p b v L :=
  ⟨(hb p h.lt (.inl rfl)).trans h.row, h.sp.keep (hb b h.sp.lt (.inr (.inl rfl))), own_keep h.own hs (fun q hq hl => hb q hl (.inr (.inr hq))), h.ok, h.nd⟩
theorem SetAt.below {w w' : World} {p b : Nat} {v : Value} {L : List Tc} (h : SetAt w p b v L) (hb : Below w.heap.size w w') : SetAt w' p b v L := h.keep hb.size (fun k hk _ => hb.block k hk)
theorem SetAt.drew {w : World} {p b : Nat} {v : Value} {L : List Tc} (h : SetAt w p b v L) : SetAt w.drew p b v L := h.keep (Nat.le_refl _) (fun k _ _ => rfl)
theorem SetAt.c0 {w : World} {p b : Nat} {v : Value} {L : List Tc} (h : SetAt w p b v L) : w.cell? ⟨p, 0, none⟩ = some v := by rw [cell_of_row _ _ _ _ _ (0, 0) h.row]; rfl
theorem SetAt.c1 {w : World} {p b : Nat} {v : Value} {L : List Tc} (h : SetAt w p b v L) : w.cell? ⟨p, 1, none⟩ = some (.map (some b)) := by rw [cell_of_row _ _ _ _ _ (0, 0) h.row]; rfl
theorem SetAt.load0 {w : World} {p b : Nat} {v : Value} {L : List Tc} (h : SetAt w p b v L) : (Instr.loadAt 32 (.pointer (some ⟨p, 0, none⟩))).run Try.prog w = .ok v w := by
  have c := h.c0
  have u := Try.underlying32
  go_simp
theorem SetAt.load1 {w : World} {p b : Nat} {v : Value} {L : List Tc} (h : SetAt w p b v L) : (Instr.loadAt 59 (.pointer (some ⟨p, 1, none⟩))).run Try.prog w = .ok (.map (some b)) w := by
  have c := h.c1
  have u := Try.underlying59
  go_simp
theorem SetAt.bp {w : World} {p b : Nat} {v : Value} {L : List Tc} (h : SetAt w p b v L) : b ≠ p := fun e => by
  obtain ⟨x, cl, h1⟩ := h.sp.isMap
  rw [e, h.row] at h1; cases h1
theorem SetAt.vp {w : World} {p b : Nat} {v : Value} {L : List Tc} (h : SetAt w p b v L) {k : Nat} (hk : v.ownBlock = some k) : k ≠ p := by
  obtain ⟨cs, e⟩ := own_row h.own hk
  exact ne_of_type e h.row (by decide)
theorem SetAt.vb {w : World} {p b : Nat} {v : Value} {L : List Tc} (h : SetAt w p b v L) {k : Nat} (hk : v.ownBlock = some k) : k ≠ b := fun e => by
  obtain ⟨cs, e1⟩ := own_row h.own hk
  obtain ⟨x, cl, h1⟩ := h.sp.isMap
  rw [e, h1] at e1; cases e1
theorem SetAt.rd {w : World} {p b : Nat} {v : Value} {L : List Tc} (h : SetAt w p b v L) : RdZ 5 tcE w v L := rdZ_own tc_len h.own

/-- What a call on a set leaves. -/
structure KeepQ (p b : Nat) (v : Value) (w w' : World) (v' : Value) : Prop where
  os : w'.os = w.os
  tape : w'.tape = w.tape
  output : w'.output = w.output
  size : w.heap.size ≤ w'.heap.size
  block : ∀ k, k < w.heap.size → k ≠ p → k ≠ b → v.ownBlock ≠ some k → w'.heap[k]? = w.heap[k]?
  own : ∀ k, v'.ownBlock = some k → v.ownBlock = some k ∨ w.heap.size ≤ k
theorem KeepQ.of_below {p b : Nat} {v : Value} {w w' : World} (h : Below w.heap.size w w') : KeepQ p b v w w' v := ⟨h.os, h.tape, h.output, h.size, fun k hk _ _ _ => h.block k hk, fun k hk => .inl hk⟩
theorem KeepQ.trans {p b : Nat} {v v' v'' : Value} {A B C : World} (h : KeepQ p b v A B v') (k : KeepQ p b v' B C v'') : KeepQ p b v A C v'' :=
  ⟨k.os.trans h.os, k.tape.trans h.tape, k.output.trans h.output, Nat.le_trans h.size k.size, fun i hi h1 h2 h3 => (k.block i (Nat.lt_of_lt_of_le hi h.size) h1 h2 (fun e => by rcases h.own i e with e' | e'; exact h3 e'; omega)).trans (h.block i hi h1 h2 h3),
   fun i hi => by
    rcases k.own i hi with e | e
    · exact h.own i e
    · exact .inr (Nat.le_trans h.size e)⟩
theorem KeepQ.below {p b B : Nat} {v v' : Value} {w w' : World} (h : KeepQ p b v w w' v') (hp : B ≤ p) (hb : B ≤ b) (hv : ∀ k, v.ownBlock = some k → B ≤ k) (hB : B ≤ w.heap.size) : Below B w w' ∧ ∀ k, v'.ownBlock = some k → B ≤ k :=
  ⟨⟨h.os, h.tape, h.output, h.size, fun k hk => h.block k (by omega) (by omega) (by omega) (fun e => by have := hv k e; omega)⟩, fun k hk => by
    rcases h.own k hk with e | e
    · exact hv k e
    · omega⟩

set_option maxHeartbeats 1000000 in
theorem new_any (w : World) : Calls Try.prog 14 #[] w fun e w' => e = .returned (ptr (w.heap.size + 1)) ∧ SetAt w' (w.heap.size + 1) w.heap.size (.slice none 0 0) [] ∧ Below w.heap.size w w' := by
  have hmm := @run_makeMap Try.prog
  have al : ∀ (A : World) (o : Obj), Below A.heap.size A (A.alloc o) := fun A o => (Below.refl _ A).alloc (Nat.le_refl _) o
  have hr : SetAt ((w.alloc (.map #[] 0)).alloc (.cells #[.slice none 0 0, .map (some w.heap.size)] 61)) (w.heap.size + 1) w.heap.size (.slice none 0 0) [] := by
    have hr := heap_alloc_new (w.alloc (.map #[] 0)) (.cells #[.slice none 0 0, .map (some w.heap.size)] 61)
    rw [World.size_alloc] at hr
    exact ⟨hr, (SpAt.made w).keep ((al _ _).block _ (SpAt.made w).lt), World.ownsRow_nil _ _ _ _, (fun t ht => absurd ht (by simp)), List.nodup_nil⟩
  go_enter Try.func14, Try.ntmps14
  go_wp2
  go_ret
  exact ⟨rfl, hr, bel2 _ _ _⟩

set_option maxHeartbeats 1000000 in
theorem mark_any {w : World} {p b : Nat} {v : Value} {L : List Tc} (h : SetAt w p b v L) : Calls Try.prog 28 #[ptr p] w fun e w' => e = .returned (.int .i64 L.length) ∧ w = w' := by
  have c0 := h.c0
  obtain ⟨a, c, rfl⟩ := own_shape h.own
  unfold ptr
  clear h
  go_enter Try.func28, Try.ntmps28
  go_wp2
  go_ret
  exact ⟨rfl, rfl⟩

theorem grown_below {w0 w w' : World} {B : Nat} {v : Value} (hb : Below B w0 w) (hg : w.grownBy w' v.ownBlock) (hv : ∀ g, v.ownBlock = some g → B ≤ g) (hB : B ≤ w.heap.size) : Below B w0 w' :=
  hb.trans ⟨hg.os, hg.tape, hg.output, hg.size, fun k hk => hg.block k (by omega) (fun e => by have := hv k e.symm; omega)⟩

set_option maxHeartbeats 1000000 in
theorem clone_any (w : World) (v : Value) (l : List Tc) (h : RdZ 5 tcE w v l) (hl : l.length ≤ 100000) : Calls Try.prog 32 #[v] w fun e w' =>
    ∃ u, e = .returned u ∧ w'.ownsRow w.heap.size 24 5 u l.length (l.flatMap tcE) ∧ Below w.heap.size w w' := by
  obtain ⟨iE, hiE, hz0, hz1, hz2⟩ := info_parts info_tc
  have h0 := h
  obtain ⟨⟨a, cap, rfl, h1, h2, h3⟩, hz⟩ := h
  cases a with
  | none =>
    have hnil : l = [] := by
      cases l with
      | nil => rfl
      | cons x r => obtain ⟨b, off, e, _⟩ := h3 (by simp); cases e
    subst hnil
    obtain rfl := hz cap rfl
    have hq : ∀ W, (binOp .eql 32 (.slice none 0 0) (.slice none 0 0)).run Try.prog W = .ok (.bool true) W := fun W => Lib.run_eql_slice_nil W 32 24 none 0 0 0 0 Try.underlying32
    clear h0 h1 h2 h3 hz
    simp only [List.length_nil]
    go_enter Try.func32, Try.ntmps32
    go_wp2
    go_ret
    exact ⟨_, rfl, World.ownsRow_nil _ _ _ _, Below.refl _ _⟩
  | some a =>
    have hq : ∀ W, (binOp .eql 32 (.slice (some a) l.length cap) (.slice none 0 0)).run Try.prog W = .ok (.bool false) W := fun W => Lib.run_eql_slice_nil W 32 24 (some a) l.length cap 0 0 Try.underlying32
    have hb1 := bel1 w (.cells #[] 24)
    have hr1 := h0.below hb1
    have ho1 : OwnL w.heap.size 24 5 tcE (w.alloc (.cells #[] 24)) (.slice (some ⟨w.heap.size, 0, none⟩) 0 0) [] := ⟨rfl, .inr ⟨w.heap.size, 0, #[], rfl, Nat.le_refl _, heap_alloc_new _ _, Nat.le_refl _, Nat.zero_le _, rfl, rfl⟩⟩
    have HL : Hid (l.length ≤ 100000) := hl
    obtain ⟨w1, hw1⟩ : ∃ w1, w.alloc (.cells #[] 24) = w1 := ⟨_, rfl⟩
    rw [hw1] at hb1 hr1 ho1
    clear h1 h2 h3 hz h0 hl
    go_enter Try.func32, Try.ntmps32
    go_wp2_with (refine wpList_append_E tc_len tc_one Try.underlying32 hiE hz0 hz1 hz2 rfl (by decide) (by decide) rfl _ _ rfl w.heap.size _ _ rfl ho1 _ l rfl hr1 (by have := HL.out; simp; omega) hb1.size ?_; rintro v2 w2 ho2 hg2)
    go_ret
    rw [List.nil_append] at ho2
    exact ⟨_, rfl, ho2, grown_below hb1 hg2 (fun g hg => by cases hg; exact Nat.le_refl _) hb1.size⟩

set_option maxHeartbeats 1000000 in
theorem all_any {w : World} {p b : Nat} {v : Value} {L : List Tc} (h : SetAt w p b v L) (hl : L.length ≤ 100000) : Calls Try.prog 27 #[ptr p] w fun e w' =>
    ∃ u, e = .returned u ∧ w'.ownsRow w.heap.size 24 5 u L.length (L.flatMap tcE) ∧ Below w.heap.size w w' := by
  have c0 := h.c0
  have hc := clone_any w v L h.rd hl
  obtain ⟨a, c, rfl⟩ := own_shape h.own
  unfold ptr
  clear h
  go_enter Try.func27, Try.ntmps27
  go_wp2_with fail
  refine hc.mono ?_
  rintro e w1 ⟨u, rfl, ho, hb⟩
  go_wp2
  go_ret
  exact ⟨_, rfl, ho, hb⟩

end Go.Proofs.Ytmncjecbgakmfaa
