/- WWhole, WTryW, WKeep1, WKeep2: in one text. -/
import Derived.Test.YtckcdmkgmbicfaaGreatMW2
import Derived.Test.YtckcdmkgmbicfaaGreatMW3
import Derived.Test.YtckcdmkgmbicfaaGreatWSink
import Derived.BigQuiet
import Derived.Deep.RegionHeld3
namespace Go.Proofs.YtckcdmkgmbicfaaGreat
open Go.RowKit
set_option linter.unusedVariables false
set_option linter.unusedSimpArgs false
set_option maxRecDepth 4000

/-- Pieces that are read, from a place in a block on. -/
structure RFs (w : World) (b off : Nat) (L : List Fv) : Prop where
  cell : ∀ i x, L[i]? = some x → ∀ j v, (fvC x)[j]? = some v → w.cell? ⟨b, off + i * 7 + j, none⟩ = some v
  lt : b < w.heap.size
  rd : ∀ x ∈ L, Rd w x.v x.p.body
  ok : ∀ x ∈ L, PcOk x.p ∧ x.p.body.length = 488

theorem RFs.below {w w' : World} {b off : Nat} {L : List Fv} (h : RFs w b off L) (hb : Below w.heap.size w w') : RFs w' b off L :=
  ⟨fun i x hx j v hv => (hb.cell (p := ⟨b, off + i * 7 + j, none⟩) h.lt).trans (h.cell i x hx j v hv), Nat.lt_of_lt_of_le h.lt hb.size, fun x hx => (h.rd x hx).below hb, h.ok⟩

def fdOf (x : Fv) : Fd := ⟨x.p, x.blk⟩

/-- A row of blocks' numbers. -/
def blkC (l : List Nat) : List Value := l.map (fun (x : Nat) => Value.int .i64 (x : Int))
theorem Tryz.infoInt : (Tryz.prog.info? 3).map (fun i => (i.zero, i.size, i.bytes)) = some (some (.int .i64 0), 1, 8) := by kernel_rfl

theorem ret_whole {fn : Func} {R : Ending → World → Prop} {a : Act} {w : World} {p : Tmp} (h : fn.results = #[.cell p 126]) (g : Nat) (cs : Array Value) (hcs : cs.size = 4) {t : TypeId} {fr : Nat × Nat} (hp : a.tmps.getD p undef = .pointer (some ⟨g, 0, none⟩))
    (hg : w.heap[g]? = some (.cells cs t fr)) (hd : a.defers = []) (hR : R (.returned (.agg cs)) w) : bodyPost Tryz.prog fn R .ret a w :=
  bodyPost_ret (results_cell_row h a.tmps w g t cs fr _ hp hg Tryz.underlying126 rfl (by rw [hcs]; kernel_rfl)) hd hR

theorem keepSA {S : List Nat} {w1 W : World} (h : Sole S w1 W) (o : Obj) : Sole S w1 (W.alloc o) := h.trans (Sole.alloc _ _ _)

theorem wp_app {w w' : World} {v' : Value} {o : Oper} {a : Act} {K : Act → World → Prop} {Q : Exit → Act → World → Prop} (s x : Operand) (t : TypeId)
    (ho : o.op = .call { callee := .builtin .append, args := #[s, x], argTypes := #[t, t] }) (v u : Value) (hs : a.eval s = v) (hx : a.eval x = u)
    (hr : (Builtin.append_ #[t, t] o.type #[v, u]).run Tryz.prog w = .ok v' w') (h : K (a.put o.dst v') w') : o.wp Tryz.prog a w K Q := by
  unfold Oper.wp execOp
  simp only [ho, resolve, invoke, builtin, Sem.run_bind, Sem.run_pure, Result.andThen_ok, List.map_toArray, List.map_cons, List.map_nil, hs, hx, hr]
  exact h

theorem own_keep {w w' : World} {base n k : Nat} {e : TypeId} {v : Value} {xs : List Value} (h : w.ownsRow base e k v n xs) (hs : w.heap.size ≤ w'.heap.size) (hb : ∀ q, v.ownBlock = some q → q < w.heap.size → w'.heap[q]? = w.heap[q]?) : w'.ownsRow base e k v n xs := by
  obtain ⟨h1, h2 | ⟨g, cap, cur, rfl, h3, h4, h5⟩⟩ := h
  · exact ⟨h1, .inl h2⟩
  · exact ⟨h1, .inr ⟨g, cap, cur, rfl, h3, (hb g rfl (Array.getElem?_eq_some_iff.1 h4).1).trans h4, h5⟩⟩

theorem own_mono {w : World} {base base' n k : Nat} {e : TypeId} {v : Value} {xs : List Value} (h : w.ownsRow base e k v n xs) (hb : base' ≤ base) : w.ownsRow base' e k v n xs := by
  obtain ⟨h1, h2 | ⟨g, cap, cur, rfl, h3, h4, h5⟩⟩ := h
  · exact ⟨h1, .inl h2⟩
  · exact ⟨h1, .inr ⟨g, cap, cur, rfl, Nat.le_trans hb h3, h4, h5⟩⟩

/-- Rows of other elements are other rows. -/
theorem rows_apart {w : World} {base n m : Nat} {v u : Value} {xs ys : List Value} (h : w.ownsRow base 3 1 v n xs) (k : w.ownsRow base 5 1 u m ys) : v.ownBlock = none ∨ v.ownBlock ≠ u.ownBlock := by
  obtain ⟨_, ⟨rfl, _⟩ | ⟨g, c, cur, rfl, _, hg, _⟩⟩ := h
  · exact .inl rfl
  · refine .inr (fun e => ?_)
    obtain ⟨_, ⟨rfl, _⟩ | ⟨g', c', cur', rfl, _, hg', _⟩⟩ := k
    · cases e
    · simp only [Value.ownBlock, Option.some.injEq] at e
      subst e
      rw [hg] at hg'
      simp at hg'

/-- What readWhole tells. -/
def WholeOut (w : World) (r : Option Wh) (e : Ending) (w' : World) : Prop :=
  Below w.heap.size w w' ∧ match r with
    | some W => ∃ bd bp ad cp, e = .returned (.agg #[.int .u64 W.at_, .slice bd W.blocks.length bp, .slice ad W.group.length cp, .bool W.begins]) ∧ w'.ownsRow w.heap.size 3 1 (.slice bd W.blocks.length bp) W.blocks.length (blkC W.blocks) ∧ w'.ownsRow w.heap.size 9 1 (.slice ad W.group.length cp) W.group.length (strC W.group)
    | none => GaveUp e

set_option maxHeartbeats 1000000 in
theorem readWhole_any (w : World) (b off cap : Nat) (x0 : Fv) (L0 : List Fv) (h : RFs w b off (x0 :: L0)) (hl : L0.length ≤ 2000) (hcap : L0.length + 1 ≤ cap) (hcm : cap ≤ maxLen) :
    Calls Tryz.prog 94 #[.slice (some ⟨b, off, none⟩) (L0.length + 1) cap] w fun e w' => WholeOut w (wholeOf ((x0 :: L0).map fdOf)) e w' := by
  have hok0 := (h.ok x0 (by simp)).1
  have hc := h.cell 0 x0 rfl
  have hc0 := hc 0 _ rfl
  have hc1 := hc 1 _ rfl
  have hc2 := hc 2 _ rfl
  have hc3 := hc 3 _ rfl
  have hc4 := hc 4 _ rfl
  have hc5 := hc 5 _ rfl
  have hc6 := hc 6 _ rfl
  simp only [Nat.zero_mul, Nat.add_zero] at hc0 hc1 hc2 hc3 hc4 hc5 hc6
  obtain ⟨w1, hw1⟩ : ∃ w1, w.alloc (.cells #[.int .u64 0, .slice none 0 0, .slice none 0 0, .bool false] 126) = w1 := ⟨_, rfl⟩
  have hB1 : Below w.heap.size w w1 := by rw [← hw1]; exact (Below.refl _ w).alloc (Nat.le_refl _) _
  have hg1 : w1.heap[w.heap.size]? = some (.cells #[.int .u64 0, .slice none 0 0, .slice none 0 0, .bool false] 126 (0, 0)) := by rw [← hw1]; exact heap_alloc_new w _
  have hlt1 : w.heap.size < w1.heap.size := (Array.getElem?_eq_some_iff.1 hg1).1
  have hlt := h.lt
  have d0 := (hB1.cell (p := ⟨b, off, none⟩) hlt).trans hc0
  have d1 := (hB1.cell (p := ⟨b, off + 1, none⟩) hlt).trans hc1
  have d2 := (hB1.cell (p := ⟨b, off + 2, none⟩) hlt).trans hc2
  have d3 := (hB1.cell (p := ⟨b, off + 3, none⟩) hlt).trans hc3
  have d4 := (hB1.cell (p := ⟨b, off + 4, none⟩) hlt).trans hc4
  have d5 := (hB1.cell (p := ⟨b, off + 5, none⟩) hlt).trans hc5
  have d6 := (hB1.cell (p := ⟨b, off + 6, none⟩) hlt).trans hc6
  obtain ⟨w2, hw2⟩ : ∃ w2, w1.alloc (.cells #[.int .u8 x0.p.kind, .int .u64 x0.p.tail, .int .u64 x0.p.at_, .int .i64 x0.p.index, .int .i64 x0.p.length, x0.v, .int .i64 x0.blk] 117) = w2 := ⟨_, rfl⟩
  have hB2 : Below w1.heap.size w1 w2 := by rw [← hw2]; exact (Below.refl _ w1).alloc (Nat.le_refl _) _
  have hg2 : w2.heap[w1.heap.size]? = some (.cells #[.int .u8 x0.p.kind, .int .u64 x0.p.tail, .int .u64 x0.p.at_, .int .i64 x0.p.index, .int .i64 x0.p.length, x0.v, .int .i64 x0.blk] 117 (0, 0)) := by rw [← hw2]; exact heap_alloc_new w1 _
  have hlt2 : w1.heap.size < w2.heap.size := (Array.getElem?_eq_some_iff.1 hg2).1
  have e0 : w2.cell? ⟨w1.heap.size, 0, none⟩ = some (.int .u8 x0.p.kind) := by rw [cell_of_row _ _ 0 _ _ (0, 0) hg2]; rfl
  have e2 : w2.cell? ⟨w1.heap.size, 2, none⟩ = some (.int .u64 x0.p.at_) := by rw [cell_of_row _ _ 2 _ _ (0, 0) hg2]; rfl
  have e4 : w2.cell? ⟨w1.heap.size, 4, none⟩ = some (.int .i64 x0.p.length) := by rw [cell_of_row _ _ 4 _ _ (0, 0) hg2]; rfl
  have cb := fun W => blocksFor_any W x0.p.length (by have := hok0.length; omega)
  unfold Fv.v at *
  go_enter Tryz.func94, Tryz.ntmps94
  go_wp2_with (go_at_call 72; refine (cb _).mono ?_; rintro e w3 ⟨rfl, rfl⟩)
  generalize hL : x0 :: L0 = L at *
  have hLn : L.length = L0.length + 1 := by rw [← hL]; rfl
  obtain ⟨n, hn⟩ : ∃ n, piecesN x0.p.length = n := ⟨_, rfl⟩
  have hnB : n ≤ 135 := by
    rw [← hn]
    have := hok0.length
    unfold piecesN
    split <;> omega
  have hH2 : RFs w2 b off L := (h.below hB1).below hB2
  have HFst : Hid (L[0]? = some x0) := by unfold Hid; rw [← hL]; rfl
  obtain ⟨bg, hbg⟩ : ∃ bg : Bool, ((x0.p.kind : Int) == 2) = bg := ⟨_, rfl⟩
  rw [hn, hbg]
  obtain ⟨iI, hiI, hI0, hI1, hI2⟩ := info_parts Tryz.infoInt
  clear hc hc0 hc1 hc2 hc3 hc4 hc5 hc6 d0 d1 d2 d3 d4 d5 d6 h cb
  go_loopw [5, 6, 23] (fun tb _ t wr => ∃ (k : Nat) (aB : Option Addr) (cB : Nat) (aW : Option Addr) (cW : Nat), k ≤ n ∧ k ≤ L.length ∧ t = .int .i64 k ∧ tb = .slice aB (bodyOf ((L.take k).map fdOf)).length cB ∧
      Hid (Own wr (w2.heap.size + 1) (.slice aB (bodyOf ((L.take k).map fdOf)).length cB) (bodyOf ((L.take k).map fdOf))) ∧ Hid ((bodyOf ((L.take k).map fdOf)).length = 488 * k) ∧
      Hid (wr.heap[w2.heap.size]? = some (.cells #[.int .u64 x0.p.at_, .slice aW k cW, .slice none 0 0, .bool bg] 126 (0, 0))) ∧ Hid (wr.ownsRow (w2.heap.size + 1) 3 1 (.slice aW k cW) k (blkC ((L.take k).map (·.blk)))) ∧
      Hid (∀ j, j < k → ∃ x, L[j]? = some x ∧ x.p.at_ = x0.p.at_ ∧ x.p.index = j) ∧ Below w2.heap.size w2 wr ∧ w2.heap.size < wr.heap.size) (fun _ _ t _ => n - (RowKit.intOf t).toNat)
  case atStart =>
    exact ⟨0, none, 0, none, 0, Nat.zero_le _, Nat.zero_le _, rfl, rfl, Own.nil _ _, rfl, heap_alloc_new w2 _, World.ownsRow_nil _ _ _ _, fun j hj => absurd hj (Nat.not_lt_zero _), (Below.refl _ w2).alloc (Nat.le_refl _) _, by simp⟩
  case round =>
    obtain ⟨k, aB, cB, aW, cW, hk, hkl, rfl, rfl, HO, hbl, HG, HW, HP, hbr, hsr⟩ := hrel
    have HBn : ∀ x, L[k]? = some x → Hid (bodyOf ((L.take (k + 1)).map fdOf) = bodyOf ((L.take k).map fdOf) ++ x.p.body) := fun x hx => by
      unfold Hid
      rw [List.take_add_one, hx, List.map_append]
      unfold bodyOf
      rw [List.flatMap_append]
      simp [fdOf]
    have HKn : ∀ x, L[k]? = some x → Hid ((L.take (k + 1)).map (·.blk) = (L.take k).map (·.blk) ++ [x.blk]) := fun x hx => by
      unfold Hid
      rw [List.take_add_one, hx, List.map_append]
      rfl
    obtain ⟨Bd, hBd⟩ : ∃ Bd, bodyOf ((L.take k).map fdOf) = Bd := ⟨_, rfl⟩
    have HBd : Hid (bodyOf ((L.take k).map fdOf) = Bd) := hBd
    obtain ⟨Bk, hBk⟩ : ∃ Bk, (L.take k).map (·.blk) = Bk := ⟨_, rfl⟩
    have HBk : Hid ((L.take k).map (·.blk) = Bk) := hBk
    rw [hBd] at HO hbl ⊢
    rw [hBk] at HW
    simp only [hBd] at HBn
    simp only [hBk] at HKn
    clear hBd hBk
    by_cases hlt : k < n
    · by_cases hke : k = L0.length + 1
      · subst hke
        have HN : Hid (wholeOf ((x0 :: L0).map fdOf) = none) := by
          show wholeOf (fdOf x0 :: L0.map fdOf) = none
          exact whole_none (j := L0.length + 1) (by show _ < piecesN x0.p.length; omega) (fun y hy => by simp at hy)
        go_wp2_with fail
        go_quiet (fail)
        go_wp2
        refine ⟨rfl, ?_⟩
        rw [HN.out]
        exact ⟨(thenB hB1 hB2).trans ((hbr.trans (below_drewN (Below.refl _ wr) _)).mono (by omega)), ⟨4, rfl⟩⟩
      · have hkI : ¬ (k : Int) = (L0.length : Int) + 1 := by omega
        have hkL : (k : Int) < (L0.length : Int) + 1 := by omega
        obtain ⟨x, hx⟩ : ∃ x, L[k]? = some x := ⟨_, List.getElem?_eq_getElem (by omega)⟩
        have hxm : x ∈ L := List.mem_of_getElem? hx
        have hHr := hH2.below hbr
        have c2 : wr.cell? ⟨b, off + k * 7 + 2, none⟩ = some (.int .u64 x.p.at_) := hHr.cell k x hx 2 _ rfl
        have c3 : wr.cell? ⟨b, off + k * 7 + 3, none⟩ = some (.int .i64 x.p.index) := hHr.cell k x hx 3 _ rfl
        have c5 : wr.cell? ⟨b, off + k * 7 + 5, none⟩ = some (.slice x.a x.n x.d) := hHr.cell k x hx 5 _ rfl
        have c6 : wr.cell? ⟨b, off + k * 7 + 6, none⟩ = some (.int .i64 x.blk) := hHr.cell k x hx 6 _ rfl
        have g2 : wr.cell? ⟨w1.heap.size, 2, none⟩ = some (.int .u64 x0.p.at_) := (hbr.cell (p := ⟨w1.heap.size, 2, none⟩) hlt2).trans e2
        have hxo := hHr.ok x hxm
        by_cases ha : x.p.at_ = x0.p.at_
        · have haI : (x.p.at_ : Int) = x0.p.at_ := by omega
          by_cases hi : x.p.index = k
          · have hiI : (x.p.index : Int) = k := by omega
            have hiB : ((x.p.index : Int) != (k : Int)) = false := by simpa using hiI
            have haB : ((x.p.at_ : Int) != (x0.p.at_ : Int)) = false := by simpa using haI
            have hkB : ((k : Int) == (L0.length : Int) + 1) = false := by simpa using hkI
            have HI : Hid (x.p.index = k) := hi
            have HB1 := HBn x hx
            have HK1 := HKn x hx
            clear HBn HKn
            have HA : Hid (x.p.at_ = x0.p.at_) := ha
            have HX : Hid (L[k]? = some x) := hx
            go_wp2_with fail
            go_quiet (fail)
            clear hi ha hx hiI haI hiB haB c2 c3 g2
            obtain ⟨W1, hW1⟩ : ∃ W1, wr.drewN nq = W1 := ⟨_, rfl⟩
            have hbW1 : Below wr.heap.size wr W1 := by rw [← hW1]; exact below_drewN (Below.refl _ wr) _
            have hsW1 : W1.heap.size = wr.heap.size := by rw [← hW1]; rfl
            rw [hW1]
            have HO1 : Own W1 (w2.heap.size + 1) (.slice aB Bd.length cB) Bd := HO.out.below hbW1
            have HW1 : W1.ownsRow (w2.heap.size + 1) 3 1 (.slice aW k cW) k (blkC Bk) := World.ownsRow.kept HW.out (row := Option.none) ⟨hbW1.os, hbW1.tape, hbW1.output, hbW1.size, fun j hj _ => hbW1.block j hj⟩ (by cases (Value.slice aW k cW).ownBlock <;> simp)
            have HG1 := (hbW1.block _ hsr).trans HG.out
            have c5' := (hbW1.cell (p := ⟨b, off + k * 7 + 5, none⟩) hHr.lt).trans c5
            have HR1 : Rd W1 (.slice x.a x.n x.d) x.p.body := (hHr.rd x hxm).below hbW1
            have hHr1 := hHr.below hbW1
            clear hW1 c5 c6
            go_wp2_with (at_builtin; refine wpList_append_rd rfl _ _ rfl (w2.heap.size + 1) _ _ rfl HO1 _ _ rfl HR1 (by have := hbl.out; have := hxo.2; omega) (by omega) ?_; intro v2 W2 ho2 hg2'; obtain ⟨aB2, cB2, rfl⟩ := own_shape ho2)
            have hnb : ∀ q, (Value.slice aB Bd.length cB).ownBlock = some q → w2.heap.size + 1 ≤ q := fun q hq => (World.ownsRow.lt HO1 q hq).1
            have HG2 := (hg2'.block w2.heap.size (by omega) (fun e => by have := hnb _ e.symm; omega)).trans HG1
            have hap : (Value.slice aW k cW).ownBlock = none ∨ (Value.slice aW k cW).ownBlock ≠ (Value.slice aB Bd.length cB).ownBlock := rows_apart HW1 HO1
            have HW2 : W2.ownsRow (w2.heap.size + 1) 3 1 (.slice aW k cW) k (blkC Bk) := World.ownsRow.kept HW1 hg2' hap
            have hbW2 : Below w2.heap.size w2 W2 := (hbr.trans (hbW1.mono (by omega))).grown hg2' (by omega) (fun q hq => by have := hnb q hq; omega)
            have hsW2 := hg2'.size
            have c6' : W2.cell? ⟨b, off + k * 7 + 6, none⟩ = some (.int .i64 x.blk) := (World.cell?_of_block (a := ⟨b, off + k * 7 + 6, none⟩) (hg2'.block b hHr1.lt (fun e => by have := hnb _ e.symm; omega))).trans (hHr1.cell k x HX.out 6 _ rfl)
            obtain ⟨RB, HRB⟩ : ∃ RB : List Nat, Hid (RB = (Value.slice aW k cW).ownBlock.toList) := ⟨_, rfl⟩
            have hRBn : ∀ q ∈ RB, w2.heap.size + 1 ≤ q := fun q hq => by
              rw [HRB.out, Option.mem_toList] at hq
              exact (World.ownsRow.lt HW2 q hq).1
            have q1 : ∀ W, Sole RB W2 W → W.cell? ⟨w2.heap.size, 1, none⟩ = some (.slice aW k cW) := fun W hW => by
              rw [cell_of_row _ _ 1 _ _ (0, 0) ((hW.block _ (by omega) (fun e => by have := hRBn _ e; omega)).trans HG2)]; rfl
            have q6 : ∀ W, Sole RB W2 W → W.cell? ⟨b, off + k * 7 + 6, none⟩ = some (.int .i64 x.blk) := fun W hW =>
              (World.cell?_of_block (a := ⟨b, off + k * 7 + 6, none⟩) (hW.block b (by omega) (fun e => by have := hRBn _ e; omega))).trans c6'
            clear c6' HG HG1
            refine wp_region_noPanic ?_
            refine wp_region_sink 12 (S := fun W => Sole RB W2 W) (by kernel_rfl) (by kernel_rfl) (Sole.drew _ _) (fun hHeld => ?_)
            refine wpAnyH_take (i := 0) (v := .pointer (some ⟨w2.heap.size, 0, none⟩)) rfl (by kernel_rfl) (by kernel_rfl) (by kernel_rfl) (fun _ _ _ h => h) (Or.inl ⟨by rfl, fun W hSw => by (try dsimp only at hSw); go_simp⟩) (by assumption) ?_
            simp only [List.getElem_toArray, List.getElem_cons_zero, List.getElem_cons_succ, Act.put, List.setIfInBounds_toArray, List.set_cons_zero, List.set_cons_succ]
            refine wpAnyH_take (i := 1) (v := .pointer (some ⟨w2.heap.size, 1, none⟩)) rfl (by kernel_rfl) (by kernel_rfl) (by kernel_rfl) (fun _ _ _ h => h) (Or.inl ⟨by rfl, fun W hSw => by (try dsimp only at hSw); go_simp⟩) (by assumption) ?_
            simp only [List.getElem_toArray, List.getElem_cons_zero, List.getElem_cons_succ, Act.put, List.setIfInBounds_toArray, List.set_cons_zero, List.set_cons_succ]
            refine wpAnyH_take (i := 2) (v := .slice aW k cW) rfl (by kernel_rfl) (by kernel_rfl) (by kernel_rfl) (fun _ _ _ h => h) (Or.inl ⟨by rfl, fun W hSw => by (try dsimp only at hSw); go_simp⟩) (by assumption) ?_
            simp only [List.getElem_toArray, List.getElem_cons_zero, List.getElem_cons_succ, Act.put, List.setIfInBounds_toArray, List.set_cons_zero, List.set_cons_succ]
            refine wpAnyH_take (i := 3) (v := .slice (some ⟨b, off, none⟩) (L0.length + 1) cap) rfl (by kernel_rfl) (by kernel_rfl) (by kernel_rfl) (fun _ _ _ h => h) (Or.inl ⟨by rfl, fun W hSw => by (try dsimp only at hSw); go_simp⟩) (by assumption) ?_
            simp only [List.getElem_toArray, List.getElem_cons_zero, List.getElem_cons_succ, Act.put, List.setIfInBounds_toArray, List.set_cons_zero, List.set_cons_succ]
            refine wpAnyH_take (i := 4) (v := .int .i64 k) rfl (by kernel_rfl) (by kernel_rfl) (by kernel_rfl) (fun _ _ _ h => h) (Or.inl ⟨by rfl, fun W hSw => by (try dsimp only at hSw); go_simp⟩) (by assumption) ?_
            simp only [List.getElem_toArray, List.getElem_cons_zero, List.getElem_cons_succ, Act.put, List.setIfInBounds_toArray, List.set_cons_zero, List.set_cons_succ]
            refine wpAnyH_take (i := 5) (v := .pointer (some ⟨b, off + k * 7, none⟩)) rfl (by kernel_rfl) (by kernel_rfl) (by kernel_rfl) (fun _ _ _ h => h) (Or.inl ⟨by rfl, fun W hSw => by (try dsimp only at hSw); go_simp⟩) (by assumption) ?_
            simp only [List.getElem_toArray, List.getElem_cons_zero, List.getElem_cons_succ, Act.put, List.setIfInBounds_toArray, List.set_cons_zero, List.set_cons_succ]
            refine wpAnyH_take (i := 6) (v := .pointer (some ⟨b, off + k * 7 + 6, none⟩)) rfl (by kernel_rfl) (by kernel_rfl) (by kernel_rfl) (fun _ _ _ h => h) (Or.inl ⟨by rfl, fun W hSw => by (try dsimp only at hSw); go_simp⟩) (by assumption) ?_
            simp only [List.getElem_toArray, List.getElem_cons_zero, List.getElem_cons_succ, Act.put, List.setIfInBounds_toArray, List.set_cons_zero, List.set_cons_succ]
            refine wpAnyH_take (i := 7) (v := .int .i64 x.blk) rfl (by kernel_rfl) (by kernel_rfl) (by kernel_rfl) (fun _ _ _ h => h) (Or.inl ⟨by rfl, fun W hSw => by (try dsimp only at hSw); go_simp⟩) (by assumption) ?_
            simp only [List.getElem_toArray, List.getElem_cons_zero, List.getElem_cons_succ, Act.put, List.setIfInBounds_toArray, List.set_cons_zero, List.set_cons_succ]
            refine wpAnyH_ready (rs := [8]) (by kernel_rfl) (by simp) ?_
            refine AllReadyH.cons rfl (fun K hK => ?_) AllReadyH.nil
            go_simp
            go_wp2
            refine hK.out _ _ (keepSA (by assumption) _) (fun hHeld2 => ?_)
            clear hK K
            obtain ⟨W3, hW3⟩ : ∃ W3, (W2.alloc (.cells #[.int .i64 (x.blk : Int)] 3)).drew = W3 := ⟨_, rfl⟩
            have hnew : W3.heap[W2.heap.size]? = some (.cells #[.int .i64 (x.blk : Int)] 3 (0, 0)) := by rw [← hW3]; exact heap_alloc_new W2 _
            have hb23 : Below W2.heap.size W2 W3 := by rw [← hW3]; exact ((Below.refl _ W2).alloc (Nat.le_refl _) _).drew
            rw [hW3] at hHeld2 ⊢
            have HW3 : W3.ownsRow (w2.heap.size + 1) 3 1 (.slice aW k cW) k (blkC Bk) := World.ownsRow.kept HW2 (row := Option.none) ⟨hb23.os, hb23.tape, hb23.output, hb23.size, fun j hj _ => hb23.block j hj⟩ (by cases (Value.slice aW k cW).ownBlock <;> simp)
            have hs23 := hb23.size
            refine wpAnyH_ready (rs := [9]) (by kernel_rfl) (by simp) ?_
            refine AllReadyH.cons rfl (fun K hK => ?_) AllReadyH.nil
            rw [if_pos (by rfl)]
            obtain ⟨v4, W4, hrun, h4o, h4g, _, h4a⟩ := run_append_own_at (P := Tryz.prog) W3 (w2.heap.size + 1) 49 49 3 iI (.int .i64 0) 1 8 Tryz.underlying49 hiI hI0 hI1 hI2 rfl (by decide) (.slice aW k cW) k (blkC Bk) HW3 ⟨W2.heap.size, 0, none⟩ 1 1 [.int .i64 (x.blk : Int)] rfl (rowAdd hnew) (by simp [Value.oneCell']) (by unfold maxLen; omega) (by omega) (by omega)
            obtain ⟨aW4, cW4, rfl⟩ := own_shape h4o
            refine wp_app _ _ 49 rfl _ _ rfl rfl hrun ?_
            have hS4 : Sole RB W3 W4 := ⟨h4g.os, h4g.tape, h4g.output, h4g.size, fun j hj hn => h4g.block j hj (fun e => hn (by rw [HRB.out, Option.mem_toList]; exact e.symm))⟩
            have hS24 : Sole RB W2 W4 := hHeld2.trans hS4
            refine hK.out _ _ hS24 (fun hHeld4 => ?_)
            clear hK K
            simp only [List.getElem_toArray, List.getElem_cons_zero, List.getElem_cons_succ, Act.put, List.setIfInBounds_toArray, List.set_cons_zero, List.set_cons_succ]
            refine wpAnyH_take (i := 10) (v := .pointer (some ⟨w2.heap.size, 0, none⟩)) rfl (by kernel_rfl) (by kernel_rfl) (by kernel_rfl) (fun _ _ _ h => h) (Or.inl ⟨by rfl, fun W hSw => by (try dsimp only at hSw); go_simp⟩) (by assumption) ?_
            simp only [List.getElem_toArray, List.getElem_cons_zero, List.getElem_cons_succ, Act.put, List.setIfInBounds_toArray, List.set_cons_zero, List.set_cons_succ]
            refine wpAnyH_take (i := 11) (v := .pointer (some ⟨w2.heap.size, 1, none⟩)) rfl (by kernel_rfl) (by kernel_rfl) (by kernel_rfl) (fun _ _ _ h => h) (Or.inl ⟨by rfl, fun W hSw => by (try dsimp only at hSw); go_simp⟩) (by assumption) ?_
            simp only [List.getElem_toArray, List.getElem_cons_zero, List.getElem_cons_succ, Act.put, List.setIfInBounds_toArray, List.set_cons_zero, List.set_cons_succ]
            have hG4 := (hS24.block w2.heap.size (by omega) (fun e => by have := hRBn _ e; omega)).trans HG2
            have x41 := q1 W4 hS24
            have f41 := frozen_of_row W4 w2.heap.size 1 _ _ hG4
            have hG5 := heap_setCell_same W4 w2.heap.size 1 _ _ (.slice aW4 (k + 1) cW4) hG4
            obtain ⟨W5, hW5⟩ : ∃ W5, W4.setCell ⟨w2.heap.size, 1, none⟩ (.slice aW4 (k + 1) cW4) = W5 := ⟨_, rfl⟩
            have hS5 : Sole [w2.heap.size] W4 W5 := by rw [← hW5]; exact Sole.setCell _ _ (by simp)
            have hs5 := hS5.size
            have hs24 := hS24.size
            rw [hW5] at hG5
            have HO5 : Hid (Own W5 (w2.heap.size + 1) (.slice aB2 (Bd ++ x.p.body).length cB2) (Bd ++ x.p.body)) := by
              have hap2 : ∀ q, (Value.slice aB2 (Bd ++ x.p.body).length cB2).ownBlock = some q → q ∉ RB ∧ q ≠ w2.heap.size := fun q hq => by
                have hlt2 := (World.ownsRow.lt ho2 q hq)
                refine ⟨fun e => ?_, by omega⟩
                rw [HRB.out, Option.mem_toList] at e
                rcases rows_apart HW2 ho2 with h | h
                · rw [h] at e; cases e
                · exact h (by rw [hq]; exact e)
              exact own_keep ho2 (Nat.le_trans hS24.size hS5.size) (fun q hq hl => (hS5.block q (by omega) (by simpa using (hap2 q hq).2)).trans (hS24.block q hl (hap2 q hq).1))
            have HW5 : Hid (W5.ownsRow (w2.heap.size + 1) 3 1 (.slice aW4 (k + 1) cW4) (k + 1) (blkC (Bk ++ [x.blk]))) := by
              have h4o' : W4.ownsRow (w2.heap.size + 1) 3 1 (.slice aW4 (k + 1) cW4) (k + 1) (blkC (Bk ++ [x.blk])) := by
                have : blkC (Bk ++ [x.blk]) = blkC Bk ++ [.int .i64 (x.blk : Int)] := by unfold blkC; rw [List.map_append]; rfl
                rw [this]; exact h4o
              refine own_keep h4o' hS5.size (fun q hq hl => hS5.block q hl (fun e => ?_))
              have := (World.ownsRow.lt h4o' q hq).1
              simp only [List.mem_singleton] at e
              omega
            have hb5 : Below w2.heap.size w2 W5 := (hbW2.trans ⟨hS24.os, hS24.tape, hS24.output, hS24.size, fun j hj => hS24.block j (by omega) (fun e => by have := hRBn _ e; omega)⟩).trans ⟨hS5.os, hS5.tape, hS5.output, hS5.size, fun j hj => hS5.block j (by omega) (by simp; omega)⟩
            have HG5 : Hid _ := hG5
            refine wpAnyH_done (by kernel_rfl) ?_ _
            refine Behind.run (by rfl) ?_
            go_simp
            go_wp2
            refine NoPanic.normal ?_
            clear q1 q6 hG4 hG5 hrun h4o h4g h4a HW3 HW2 hnew HG2
            go_wp2
            go_roundw
            case rel =>
              refine ⟨k + 1, aB2, cB2, aW4, cW4, by omega, by omega, by go_num, ?_, ?_, ?_, HG5, ?_, ?_, hb5, by omega⟩
              · rw [HB1.out, List.length_append, hxo.2]
              · rw [HB1.out]; exact HO5
              · unfold Hid; rw [HB1.out, List.length_append, hbl.out, hxo.2]; omega
              · rw [HK1.out]; exact HW5
              · intro j hj
                by_cases e : j = k
                · subst e; exact ⟨x, HX.out, HA.out, HI.out⟩
                · exact HP.out j (by omega)
            case measure => simp [RowKit.intOf]; omega
          · have hiI : ¬ (x.p.index : Int) = k := by omega
            have hiB : ((x.p.index : Int) != (k : Int)) = true := by simpa using hiI
            have haB : ((x.p.at_ : Int) != (x0.p.at_ : Int)) = false := by simpa using haI
            have HN : Hid (wholeOf ((x0 :: L0).map fdOf) = none) := by
              show wholeOf (fdOf x0 :: L0.map fdOf) = none
              refine whole_none (j := k) (by show _ < piecesN x0.p.length; omega) (fun y hy => ?_)
              have : (L.map fdOf)[k]? = some y := by rw [← hL]; exact hy
              rw [List.getElem?_map, hx] at this
              simp only [Option.map_some, Option.some.injEq] at this
              subst this
              exact fun e => hi e.2
            clear c5 c6
            go_wp2_with fail
            go_quiet (fail)
            go_wp2
            refine ⟨rfl, ?_⟩
            rw [HN.out]
            exact ⟨(thenB hB1 hB2).trans ((hbr.trans (below_drewN (Below.refl _ wr) _)).mono (by omega)), ⟨4, rfl⟩⟩
        · have haI : ¬ (x.p.at_ : Int) = x0.p.at_ := by omega
          have HN : Hid (wholeOf ((x0 :: L0).map fdOf) = none) := by
            show wholeOf (fdOf x0 :: L0.map fdOf) = none
            refine whole_none (j := k) (by show _ < piecesN x0.p.length; omega) (fun y hy => ?_)
            have : (L.map fdOf)[k]? = some y := by rw [← hL]; exact hy
            rw [List.getElem?_map, hx] at this
            simp only [Option.map_some, Option.some.injEq] at this
            subst this
            exact fun e => ha e.1
          clear c3 c5 c6
          go_wp2_with fail
          go_quiet (fail)
          go_wp2
          refine ⟨rfl, ?_⟩
          rw [HN.out]
          exact ⟨(thenB hB1 hB2).trans ((hbr.trans (below_drewN (Below.refl _ wr) _)).mono (by omega)), ⟨4, rfl⟩⟩
    · obtain rfl : k = n := by omega
      have hlt0 : x0.p.length ≤ Bd.length := by
        rw [hbl.out, ← hn]
        exact piecesN_room _
      have hn0 : 0 < k := by rw [← hn]; exact piecesN_pos _
      have hBp : 0 < Bd.length := by rw [hbl.out]; omega
      have hby : Byt Bd := by
        have : ∀ y ∈ (L.take k).map fdOf, Byt y.p.body := fun y hy => by
          obtain ⟨z, hz, rfl⟩ := List.mem_map.1 hy
          exact (hH2.ok z (List.mem_of_mem_take hz)).1.byt
        rw [← HBd.out]
        intro z hz
        obtain ⟨y, hy, hzy⟩ := List.mem_flatMap.1 hz
        exact this y hy z hzy
      obtain ⟨gB, cB', hvB, hcB1, hcB2⟩ := Own.open HO.out hBp
      simp only [Value.slice.injEq] at hvB
      obtain ⟨rfl, -, rfl⟩ := hvB
      have hrd := Rd.cut HO.out.rd x0.p.length hlt0
      have cg := readGroup_any wr _ _ hrd (hby.take _) (by rw [List.length_take]; have := hok0.length; omega)
      have HWh : Hid (wholeOf ((x0 :: L0).map fdOf) = (parseG (Bd.take x0.p.length).length (Bd.take x0.p.length)).map fun g => (⟨x0.p.at_, Bk, g, bg⟩ : Wh)) := by
        have hr : runOk x0.p.at_ (piecesN x0.p.length) ((x0 :: L0).map fdOf) 0 = true := runOk_of (fun j hj => by
          obtain ⟨x, hx, h1, h2⟩ := HP.out j (by omega)
          refine ⟨fdOf x, ?_, h1, by rw [Nat.zero_add]; exact h2⟩
          rw [hL, List.getElem?_map, hx]; rfl)
        have hb2 : bodyOf (((x0 :: L0).map fdOf).take (piecesN x0.p.length)) = Bd := by rw [hL, hn, ← List.map_take]; exact HBd.out
        have hk2 : (((x0 :: L0).map fdOf).take (piecesN x0.p.length)).map (·.block) = Bk := by rw [hL, hn, ← List.map_take, List.map_map]; exact HBk.out
        have e : wholeOf ((x0 :: L0).map fdOf) = _ := whole_cons (fdOf x0) (L0.map fdOf)
        unfold Hid
        rw [e]
        show (if runOk x0.p.at_ (piecesN x0.p.length) ((x0 :: L0).map fdOf) 0 then (parseG ((bodyOf (((x0 :: L0).map fdOf).take (piecesN x0.p.length))).take x0.p.length).length ((bodyOf (((x0 :: L0).map fdOf).take (piecesN x0.p.length))).take x0.p.length)).map fun g => (⟨x0.p.at_, (((x0 :: L0).map fdOf).take (piecesN x0.p.length)).map (·.block), g, decide (x0.p.kind = 2)⟩ : Wh) else none) = _
        rw [if_pos hr, hb2, hk2, ← hbg]
        congr 2
        funext g
        congr 1
        by_cases h2 : x0.p.kind = 2
        · simp [h2]
        · have : ¬ (x0.p.kind : Int) = 2 := by omega
          simp [h2, this]
      have g4 : wr.cell? ⟨w1.heap.size, 4, none⟩ = some (.int .i64 x0.p.length) := (hbr.cell (p := ⟨w1.heap.size, 4, none⟩) hlt2).trans e4
      have hG := HG.out
      clear hH2 HP HBn HKn
      cases hp : parseG (Bd.take x0.p.length).length (Bd.take x0.p.length) with
      | none =>
        rw [hp] at cg HWh
        simp only [Option.map_none] at HWh
        clear hp
        go_wp2_with fail
        refine cg.mono ?_
        rintro e w5 ⟨hb5, ex, rfl⟩
        refine ⟨rfl, ?_⟩
        rw [HWh.out]
        exact ⟨(thenB hB1 hB2).trans ((hbr.trans (hb5.mono (by omega))).mono (by omega)), ⟨ex, rfl⟩⟩
      | some G =>
        rw [hp] at cg HWh
        simp only [Option.map_some] at HWh
        clear hp
        go_wp2_with fail
        refine cg.mono ?_
        rintro e w5 ⟨hb5, u, rfl, hu⟩
        obtain ⟨au, cu, rfl⟩ := own_shape hu
        have hs5 := hb5.size
        have hG5 := (hb5.block _ hsr).trans hG
        have c52 : w5.cell? ⟨w2.heap.size, 2, none⟩ = some (.slice none 0 0) := by rw [cell_of_row _ _ 2 _ _ (0, 0) hG5]; rfl
        have f52 := frozen_of_row w5 w2.heap.size 2 _ _ hG5
        have hG6 := heap_setCell_same w5 w2.heap.size 2 _ _ (.slice au G.length cu) hG5
        obtain ⟨w6, hw6⟩ : ∃ w6, w5.setCell ⟨w2.heap.size, 2, none⟩ (.slice au G.length cu) = w6 := ⟨_, rfl⟩
        rw [hw6] at hG6
        have hs6 : w6.heap.size = w5.heap.size := by rw [← hw6]; simp [World.setCell]
        have ho6 : ∀ j, j ≠ w2.heap.size → w6.heap[j]? = w5.heap[j]? := fun j hj => by rw [← hw6]; exact heap_setCell_other _ _ _ _ hj
        have k0 : w6.cell? ⟨w2.heap.size, 0, none⟩ = some (.int .u64 x0.p.at_) := by rw [cell_of_row _ _ 0 _ _ (0, 0) hG6]; rfl
        have k1 : w6.cell? ⟨w2.heap.size, 1, none⟩ = some (.slice aW k cW) := by rw [cell_of_row _ _ 1 _ _ (0, 0) hG6]; rfl
        have k2 : w6.cell? ⟨w2.heap.size, 2, none⟩ = some (.slice au G.length cu) := by rw [cell_of_row _ _ 2 _ _ (0, 0) hG6]; rfl
        have k3 : w6.cell? ⟨w2.heap.size, 3, none⟩ = some (.bool bg) := by rw [cell_of_row _ _ 3 _ _ (0, 0) hG6]; rfl
        have hR6 : w6.heap[w.heap.size]? = some (.cells #[.int .u64 0, .slice none 0 0, .slice none 0 0, .bool false] 126 (0, 0)) :=
          (ho6 _ (by omega)).trans ((hb5.block _ (by omega)).trans ((hbr.block _ (by omega)).trans ((hB2.block _ hlt1).trans hg1)))
        have r0 : w6.cell? ⟨w.heap.size, 0, none⟩ = some (.int .u64 0) := by rw [cell_of_row _ _ 0 _ _ (0, 0) hR6]; rfl
        have r1 : w6.cell? ⟨w.heap.size, 1, none⟩ = some (.slice none 0 0) := by rw [cell_of_row _ _ 1 _ _ (0, 0) hR6]; rfl
        have r2 : w6.cell? ⟨w.heap.size, 2, none⟩ = some (.slice none 0 0) := by rw [cell_of_row _ _ 2 _ _ (0, 0) hR6]; rfl
        have r3 : w6.cell? ⟨w.heap.size, 3, none⟩ = some (.bool false) := by rw [cell_of_row _ _ 3 _ _ (0, 0) hR6]; rfl
        have fz := fun j => frozen_of_row w6 w.heap.size j _ _ hR6
        have fz0 := fz 0; have fz1 := fz 1; have fz2 := fz 2; have fz3 := fz 3
        have z1 := heap_setCell_same w6 w.heap.size 0 _ _ (.int .u64 x0.p.at_) hR6
        have z2 := heap_setCell_same _ w.heap.size 1 _ _ (.slice aW k cW) z1
        have z3 := heap_setCell_same _ w.heap.size 2 _ _ (.slice au G.length cu) z2
        have z4 := heap_setCell_same _ w.heap.size 3 _ _ (.bool bg) z3
        obtain ⟨w7, hw7⟩ : ∃ w7, (((w6.setCell ⟨w.heap.size, 0, none⟩ (.int .u64 x0.p.at_)).setCell ⟨w.heap.size, 1, none⟩ (.slice aW k cW)).setCell ⟨w.heap.size, 2, none⟩ (.slice au G.length cu)).setCell ⟨w.heap.size, 3, none⟩ (.bool bg) = w7 := ⟨_, rfl⟩
        rw [hw7] at z4
        have hs7 : w7.heap.size = w6.heap.size := by rw [← hw7]; simp [World.setCell]
        have ho7 : ∀ j, j ≠ w.heap.size → w7.heap[j]? = w6.heap[j]? := fun j hj => by
          rw [← hw7, heap_setCell_other _ _ _ _ hj, heap_setCell_other _ _ _ _ hj, heap_setCell_other _ _ _ _ hj, heap_setCell_other _ _ _ _ hj]
        have HZ : Hid _ := z4
        have HW7 : Hid (w7.ownsRow w.heap.size 3 1 (.slice aW k cW) k (blkC Bk)) := by
          refine own_mono (own_keep HW.out (by omega) (fun q hq hl => ?_)) (by omega)
          have := (World.ownsRow.lt HW.out q hq).1
          rw [ho7 q (by omega), ho6 q (by omega), hb5.block q hl]
        have HU7 : Hid (w7.ownsRow w.heap.size 9 1 (.slice au G.length cu) G.length (strC G)) := by
          refine own_mono (own_keep hu (by omega) (fun q hq hl => ?_)) (by omega)
          have := (World.ownsRow.lt hu q hq).1
          rw [ho7 q (by omega), ho6 q (by omega)]
        have HBk' : Hid (Bk.length = k) := by
          have h1 := HW.out.1
          unfold Hid
          simpa [blkC] using h1
        have HB7 : Hid (Below w.heap.size w w7) := by
          have b5 : Below w.heap.size w w5 := (thenB hB1 hB2).trans ((hbr.trans (hb5.mono (by omega))).mono (by omega))
          refine ⟨?_, ?_, ?_, by omega, fun j hj => by rw [ho7 j (by omega), ho6 j (by omega)]; exact b5.block j hj⟩
          · rw [← hw7, ← hw6]; exact b5.os
          · rw [← hw7, ← hw6]; exact b5.tape
          · rw [← hw7, ← hw6]; exact b5.output
        have hWI := HWh
        clear hG hG5 hG6 hR6 z1 z2 z3 z4 fz ho6 ho7 hu cg HWh
        go_wp2
        refine ret_whole Tryz.results94 w.heap.size #[.int .u64 x0.p.at_, .slice aW k cW, .slice au G.length cu, .bool bg] rfl rfl HZ.out rfl ?_
        rw [hWI.out]
        refine ⟨HB7.out, aW, cW, au, cu, ?_, ?_, HU7.out⟩
        · show _ = Ending.returned (Value.agg #[_, Value.slice aW Bk.length cW, _, _])
          rw [HBk'.out]
        · show w7.ownsRow w.heap.size 3 1 (.slice aW Bk.length cW) Bk.length (blkC Bk)
          rw [HBk'.out]; exact HW7.out

set_option maxHeartbeats 2000000 in
theorem attemptW_no (w : World) (caps : Array Value) (h : ∀ W, Below w.heap.size w W → Calls Tryz.prog 93 caps W fun e w' => GaveUp e ∧ Below W.heap.size W w') :
    Calls Tryz.prog 92 #[.func (Fn.func 93) #[] caps] w fun e w' => e = .returned (.tuple #[.agg #[.int .u64 0, .slice none 0 0, .slice none 0 0, .bool false], .bool false]) ∧ Below w.heap.size w w' := by
  have hmf : ∀ (fn : Fn) (first cap : Array Value) (w : World), (Instr.makeFunc fn first cap).run Tryz.prog w = .ok (.func fn first cap) w := fun _ _ _ _ => rfl
  go_enter_defers Tryz.func92, Tryz.ntmps92
  obtain ⟨W2, hW2⟩ : ∃ W2, ((w.alloc (.cells #[.int .u64 0, .slice none 0 0, .slice none 0 0, .bool false] 126)).alloc (.cells #[.bool false] 4)) = W2 := ⟨_, rfl⟩
  have hz0 : (w.alloc (.cells #[.int .u64 0, .slice none 0 0, .slice none 0 0, .bool false] 126)).heap.size = w.heap.size + 1 := by simp
  have hz2 : W2.heap.size = w.heap.size + 2 := by rw [← hW2]; simp
  have hg1 : W2.heap[w.heap.size + 1]? = some (.cells #[.bool false] 4 (0, 0)) := by rw [← hW2, ← hz0]; exact heap_alloc_new _ _
  have hg0 : W2.heap[w.heap.size]? = some (.cells #[.int .u64 0, .slice none 0 0, .slice none 0 0, .bool false] 126 (0, 0)) := by
    have hb : Below (w.heap.size + 1) (w.alloc (.cells #[.int .u64 0, .slice none 0 0, .slice none 0 0, .bool false] 126)) W2 := by rw [← hW2]; exact (Below.refl _ _).alloc (by omega) _
    exact (hb.block _ (by omega)).trans (heap_alloc_new w _)
  have hbW : Below w.heap.size w W2 := by rw [← hW2]; exact ((Below.refl _ w).alloc (Nat.le_refl _) _).alloc (by omega) _
  have hl1 := (Array.getElem?_eq_some_iff.1 hg1).1
  go_wp2_with fail
  (try rw [hW2])
  refine (h W2 hbW).mono ?_
  clear hW2 h
  rintro e w1 ⟨⟨x, rfl⟩, hb1⟩
  have k1 := (hb1.block _ hl1).trans hg1
  have k0 := (hb1.block _ (show w.heap.size < W2.heap.size by omega)).trans hg0
  have hc : w1.cell? ⟨w.heap.size + 1, 0, none⟩ = some (.bool false) := by rw [cell_of_row _ _ 0 _ _ (0, 0) k1]; rfl
  have hf := frozen_of_row w1 (w.heap.size + 1) 0 _ 4 k1
  have k0' : (w1.setCell ⟨w.heap.size + 1, 0, none⟩ (.bool false)).heap[w.heap.size]? = some (.cells #[.int .u64 0, .slice none 0 0, .slice none 0 0, .bool false] 126 (0, 0)) := (Below.heap_setCell _ _ _ _ (by show w.heap.size ≠ w.heap.size + 1; omega)).trans k0
  have k1' : (w1.setCell ⟨w.heap.size + 1, 0, none⟩ (.bool false)).heap[w.heap.size + 1]? = some (.cells #[.bool false] 4 (0, 0)) := heap_setCell_same w1 (w.heap.size + 1) 0 _ 4 _ k1
  have hB : Below w.heap.size w (w1.setCell ⟨w.heap.size + 1, 0, none⟩ (.bool false)) := (hbW.trans (hb1.mono hbW.size)).setCell (p := ⟨w.heap.size + 1, 0, none⟩) (by show w.heap.size ≤ w.heap.size + 1; omega) _
  have hl := run_loadVar_row (P := Tryz.prog) (w1.setCell ⟨w.heap.size + 1, 0, none⟩ (.bool false)) w.heap.size 126 126 #[.int .u64 0, .slice none 0 0, .slice none 0 0, .bool false] (0, 0) _ k0' Tryz.underlying126 rfl (by kernel_rfl)
  refine leaves_cons (f := 121) (args := #[.pointer (some ⟨w.heap.size + 1, 0, none⟩)]) (by simp) (by simp [go_sem]) ?_
  refine (catchW_no ⟨w.heap.size + 1, 0, none⟩ false _ _ [] _ hc hf).mono ?_
  rintro e u' w'' ⟨rfl, rfl, rfl⟩
  have hcb : (w1.setCell ⟨w.heap.size + 1, 0, none⟩ (.bool false)).cell? ⟨w.heap.size + 1, 0, none⟩ = some (.bool false) := by rw [cell_of_row _ _ 0 _ _ (0, 0) k1']; rfl
  generalize w1.setCell ⟨w.heap.size + 1, 0, none⟩ (.bool false) = W9 at *
  have hlb := run_loadVar_bool W9 ⟨w.heap.size + 1, 0, none⟩ false hcb
  show ∃ v, (results Tryz.f92 _).run Tryz.prog W9 = .ok v W9 ∧ _
  refine ⟨_, ?_, rfl, hB⟩
  simp [results, Tryz.results92, asAddr, hl, hlb, Result.andThen]

set_option maxHeartbeats 2000000 in
theorem attemptW_ok (w : World) (caps : Array Value) (a : Int) (c : Bool) (Φ : Value → Value → World → Prop) (h : ∀ W, Below w.heap.size w W → Calls Tryz.prog 93 caps W fun e w' => ∃ bd bn bp ad n cp, e = .returned (.agg #[.int .u64 a, .slice bd bn bp, .slice ad n cp, .bool c]) ∧ Keeps W.heap.size w' (Φ (.slice bd bn bp) (.slice ad n cp)) ∧ Below W.heap.size W w') :
    Calls Tryz.prog 92 #[.func (Fn.func 93) #[] caps] w fun e w' => ∃ bd bn bp ad n cp, e = .returned (.tuple #[.agg #[.int .u64 a, .slice bd bn bp, .slice ad n cp, .bool c], .bool true]) ∧ Keeps w.heap.size w' (Φ (.slice bd bn bp) (.slice ad n cp)) ∧ Below w.heap.size w w' := by
  have hmf : ∀ (fn : Fn) (first cap : Array Value) (w : World), (Instr.makeFunc fn first cap).run Tryz.prog w = .ok (.func fn first cap) w := fun _ _ _ _ => rfl
  go_enter_defers Tryz.func92, Tryz.ntmps92
  obtain ⟨W2, hW2⟩ : ∃ W2, ((w.alloc (.cells #[.int .u64 0, .slice none 0 0, .slice none 0 0, .bool false] 126)).alloc (.cells #[.bool false] 4)) = W2 := ⟨_, rfl⟩
  have hz0 : (w.alloc (.cells #[.int .u64 0, .slice none 0 0, .slice none 0 0, .bool false] 126)).heap.size = w.heap.size + 1 := by simp
  have hz2 : W2.heap.size = w.heap.size + 2 := by rw [← hW2]; simp
  have hg1 : W2.heap[w.heap.size + 1]? = some (.cells #[.bool false] 4 (0, 0)) := by rw [← hW2, ← hz0]; exact heap_alloc_new _ _
  have hg0 : W2.heap[w.heap.size]? = some (.cells #[.int .u64 0, .slice none 0 0, .slice none 0 0, .bool false] 126 (0, 0)) := by
    have hb : Below (w.heap.size + 1) (w.alloc (.cells #[.int .u64 0, .slice none 0 0, .slice none 0 0, .bool false] 126)) W2 := by rw [← hW2]; exact (Below.refl _ _).alloc (by omega) _
    exact (hb.block _ (by omega)).trans (heap_alloc_new w _)
  have hbW : Below w.heap.size w W2 := by rw [← hW2]; exact ((Below.refl _ w).alloc (Nat.le_refl _) _).alloc (by omega) _
  have hl1 := (Array.getElem?_eq_some_iff.1 hg1).1
  go_wp2_with fail
  (try rw [hW2])
  refine (h W2 hbW).mono ?_
  clear hW2 h
  rintro e w1 ⟨bd, bn, bp, ad, n, cp, rfl, hfr, hb1⟩
  have k1 := (hb1.block _ hl1).trans hg1
  have k0 := (hb1.block _ (show w.heap.size < W2.heap.size by omega)).trans hg0
  have q0 : w1.cell? ⟨w.heap.size, 0, none⟩ = some (.int .u64 0) := by rw [cell_of_row _ _ 0 _ _ (0, 0) k0]; rfl
  have q1 : w1.cell? ⟨w.heap.size, 1, none⟩ = some (.slice none 0 0) := by rw [cell_of_row _ _ 1 _ _ (0, 0) k0]; rfl
  have q2 : w1.cell? ⟨w.heap.size, 2, none⟩ = some (.slice none 0 0) := by rw [cell_of_row _ _ 2 _ _ (0, 0) k0]; rfl
  have q3 : w1.cell? ⟨w.heap.size, 3, none⟩ = some (.bool false) := by rw [cell_of_row _ _ 3 _ _ (0, 0) k0]; rfl
  have f0 := fun j => frozen_of_row w1 w.heap.size j _ _ k0
  have hc : w1.cell? ⟨w.heap.size + 1, 0, none⟩ = some (.bool false) := by rw [cell_of_row _ _ 0 _ _ (0, 0) k1]; rfl
  have hf := frozen_of_row w1 (w.heap.size + 1) 0 _ 4 k1
  have f00 := f0 0
  have f01 := f0 1
  have f02 := f0 2
  have f03 := f0 3
  have g1 := heap_setCell_same w1 w.heap.size 0 _ _ (.int .u64 a) k0
  have g2 := heap_setCell_same _ w.heap.size 1 _ _ (.slice bd bn bp) g1
  have g3 := heap_setCell_same _ w.heap.size 2 _ _ (.slice ad n cp) g2
  have g4 := heap_setCell_same _ w.heap.size 3 _ _ (.bool c) g3
  go_wp2_with fail
  obtain ⟨W5, hW5⟩ : ∃ W5, ((((w1.setCell ⟨w.heap.size, 0, none⟩ (.int .u64 a)).setCell ⟨w.heap.size, 1, none⟩ (.slice bd bn bp)).setCell ⟨w.heap.size, 2, none⟩ (.slice ad n cp)).setCell ⟨w.heap.size, 3, none⟩ (.bool c)) = W5 := ⟨_, rfl⟩
  have hsz5 : W5.heap.size = w1.heap.size := by rw [← hW5]; simp [World.setCell]
  have hoth : ∀ k, k ≠ w.heap.size → W5.heap[k]? = w1.heap[k]? := fun k hk => by
    rw [← hW5, heap_setCell_other _ _ _ _ hk, heap_setCell_other _ _ _ _ hk, heap_setCell_other _ _ _ _ hk, heap_setCell_other _ _ _ _ hk]
  rw [hW5] at g4
  have hB5 : Below w.heap.size w W5 := by
    have h1 := hbW.trans (hb1.mono hbW.size)
    rw [← hW5]
    exact ((((h1.setCell (p := ⟨w.heap.size, 0, none⟩) (Nat.le_refl _) _).setCell (p := ⟨w.heap.size, 1, none⟩) (Nat.le_refl _) _).setCell (p := ⟨w.heap.size, 2, none⟩) (Nat.le_refl _) _).setCell (p := ⟨w.heap.size, 3, none⟩) (Nat.le_refl _) _)
  rw [hW5]
  clear hW5 g1 g2 g3
  have k15 := (hoth (w.heap.size + 1) (by omega)).trans k1
  have gg : (W5.setCell ⟨w.heap.size + 1, 0, none⟩ (.bool true)).heap[w.heap.size + 1]? = some (.cells #[.bool true] 4 (0, 0)) := heap_setCell_same W5 (w.heap.size + 1) 0 _ 4 (.bool true) k15
  obtain ⟨W6, hW6⟩ : ∃ W6, W5.setCell ⟨w.heap.size + 1, 0, none⟩ (.bool true) = W6 := ⟨_, rfl⟩
  have hsz6 : W6.heap.size = w1.heap.size := by rw [← hW6, ← hsz5]; simp [World.setCell]
  have hoth6 : ∀ k, k ≠ w.heap.size + 1 → W6.heap[k]? = W5.heap[k]? := fun k hk => by rw [← hW6]; exact heap_setCell_other _ _ _ _ hk
  have hB6 : Below w.heap.size w W6 := by rw [← hW6]; exact hB5.setCell (p := ⟨w.heap.size + 1, 0, none⟩) (by show w.heap.size ≤ w.heap.size + 1; omega) _
  rw [hW6] at gg ⊢
  clear hW6
  have hc6 : W6.cell? ⟨w.heap.size + 1, 0, none⟩ = some (.bool true) := by rw [cell_of_row _ _ 0 _ _ (0, 0) gg]; rfl
  have hf6 := frozen_of_row W6 (w.heap.size + 1) 0 _ 4 gg
  refine leaves_cons (f := 121) (args := #[.pointer (some ⟨w.heap.size + 1, 0, none⟩)]) (by simp) (by simp [go_sem]) ?_
  refine (catchW_ok ⟨w.heap.size + 1, 0, none⟩ true _ hc6 hf6).mono ?_
  rintro e u' w'' ⟨rfl, rfl, rfl⟩
  have gh : (W6.setCell ⟨w.heap.size + 1, 0, none⟩ (.bool true)).heap[w.heap.size + 1]? = some (.cells #[.bool true] 4 (0, 0)) := heap_setCell_same W6 (w.heap.size + 1) 0 _ 4 (.bool true) gg
  have hsz7 : (W6.setCell ⟨w.heap.size + 1, 0, none⟩ (.bool true)).heap.size = w1.heap.size := by rw [← hsz6]; simp [World.setCell]
  have hoth7 : ∀ k, k ≠ w.heap.size + 1 → (W6.setCell ⟨w.heap.size + 1, 0, none⟩ (.bool true)).heap[k]? = W6.heap[k]? := fun k hk => heap_setCell_other _ _ _ _ hk
  have hB7 : Below w.heap.size w (W6.setCell ⟨w.heap.size + 1, 0, none⟩ (.bool true)) := hB6.setCell (p := ⟨w.heap.size + 1, 0, none⟩) (by show w.heap.size ≤ w.heap.size + 1; omega) _
  generalize W6.setCell ⟨w.heap.size + 1, 0, none⟩ (.bool true) = W9 at *
  have hcb : W9.cell? ⟨w.heap.size + 1, 0, none⟩ = some (.bool true) := by rw [cell_of_row _ _ 0 _ _ (0, 0) gh]; rfl
  have g0' := (hoth7 w.heap.size (by omega)).trans ((hoth6 w.heap.size (by omega)).trans g4)
  have hl := run_loadVar_row (P := Tryz.prog) W9 w.heap.size 126 126 #[.int .u64 a, .slice bd bn bp, .slice ad n cp, .bool c] (0, 0) _ g0' Tryz.underlying126 rfl (by kernel_rfl)
  have hlb := run_loadVar_bool W9 ⟨w.heap.size + 1, 0, none⟩ true hcb
  have hfin : Keeps w.heap.size W9 (Φ (.slice bd bn bp) (.slice ad n cp)) := fun W h1 h2 => hfr W (by omega) (fun k hk1 hk2 => by
    rw [h2 k (by omega) (by omega), hoth7 k (by omega), hoth6 k (by omega), hoth k (by omega)])
  show ∃ v, (results Tryz.f92 _).run Tryz.prog W9 = .ok v W9 ∧ _
  refine ⟨_, ?_, bd, bn, bp, ad, n, cp, rfl, hfin, hB7⟩
  simp [results, Tryz.results92, asAddr, hl, hlb, Result.andThen]

theorem flat7 (L : List Fv) : ∀ (i j : Nat) (x : Fv) (v : Value), L[i]? = some x → (fvC x)[j]? = some v → (L.flatMap fvC)[i * 7 + j]? = some v := by
  induction L with
  | nil => intro i j x v h; simp at h
  | cons y L ih =>
    intro i j x v h hv
    have hj : j < 7 := by
      have := (List.getElem?_eq_some_iff.1 hv).1
      rw [fvC_len] at this
      exact this
    rw [List.flatMap_cons]
    cases i with
    | zero =>
      simp only [List.getElem?_cons_zero, Option.some.injEq] at h
      subst h
      rw [Nat.zero_mul, Nat.zero_add, List.getElem?_append_left (by rw [fvC_len]; exact hj)]
      exact hv
    | succ i =>
      rw [List.getElem?_append_right (by rw [fvC_len]; omega), fvC_len]
      rw [show (i + 1) * 7 + j - 7 = i * 7 + j from by omega]
      exact ih i j x v (by simpa using h) hv

/-- The pieces from the k-th on. -/
theorem FsAt.from {base : Nat} {w : World} {v : Value} {L : List Fv} (h : FsAt base w v L) {k : Nat} (hk : k < L.length) :
    ∃ g cap, v = .slice (some ⟨g, 0, none⟩) L.length cap ∧ L.length ≤ cap ∧ cap ≤ maxLen ∧ RFs w g (k * 7) (L.drop k) := by
  obtain ⟨h1, ⟨rfl, h2⟩ | ⟨g, cap, cur, rfl, h3, h4, h5, h6, h7, h8⟩⟩ := h.own
  · omega
  · refine ⟨g, cap, rfl, h5, h6, fun i x hx j u hu => ?_, (Array.getElem?_eq_some_iff.1 h4).1, fun x hx => (h.each x (List.mem_of_mem_drop hx)).rd.1, fun x hx => ⟨(h.each x (List.mem_of_mem_drop hx)).ok, (h.each x (List.mem_of_mem_drop hx)).len⟩⟩
    rw [List.getElem?_drop] at hx
    have hj : j < 7 := by
      have := (List.getElem?_eq_some_iff.1 hu).1
      rw [fvC_len] at this
      exact this
    have hik : k + i < L.length := (List.getElem?_eq_some_iff.1 hx).1
    have e1 := flat7 L (k + i) j x u hx hu
    rw [← h8, List.getElem?_take_of_lt (by omega)] at e1
    rw [cell_of_row _ _ _ _ _ (0, 0) h4, ← Array.getElem?_toList, show k * 7 + i * 7 + j = (k + i) * 7 + j from by omega]
    exact e1

set_option maxRecDepth 100000 in
set_option maxHeartbeats 2000000 in
theorem keep1_any {w : World} {c0 c1 q base : Nat} {L : List Fv} {a : Option Addr} {cp : Nat} {fc : Array Value} (k : Nat) (hk : k < L.length) (hl : L.length ≤ 1024) (hc0 : w.heap[c0]? = some (.cells #[.pointer (some ⟨q, 0, none⟩)] 155 (0, 0))) (hc1 : w.heap[c1]? = some (.cells #[.int .i64 (k : Int)] 3 (0, 0)))
    (hq : w.heap[q]? = some (.cells fc 88 (0, 0))) (hfc : fc[3]? = some (.slice a L.length cp)) (hF : FsAt base w (.slice a L.length cp) L) :
    Calls Tryz.prog 93 #[.pointer (some ⟨c0, 0, none⟩), .pointer (some ⟨c1, 0, none⟩)] w fun e w' => WholeOut w (wholeOf ((L.drop k).map fdOf)) e w' := by
  obtain ⟨w1, hw1⟩ : ∃ w1, w.alloc (.cells #[.int .u64 0, .slice none 0 0, .slice none 0 0, .bool false] 126) = w1 := ⟨_, rfl⟩
  have hB1 : Below w.heap.size w w1 := by rw [← hw1]; exact (Below.refl _ w).alloc (Nat.le_refl _) _
  have hg1 : w1.heap[w.heap.size]? = some (.cells #[.int .u64 0, .slice none 0 0, .slice none 0 0, .bool false] 126 (0, 0)) := by rw [← hw1]; exact heap_alloc_new w _
  have hlt1 : w.heap.size < w1.heap.size := (Array.getElem?_eq_some_iff.1 hg1).1
  have hl0 := (Array.getElem?_eq_some_iff.1 hc0).1
  have hl1 := (Array.getElem?_eq_some_iff.1 hc1).1
  have hlq := (Array.getElem?_eq_some_iff.1 hq).1
  have q0 : ∀ W, Below w1.heap.size w1 W → W.cell? ⟨c0, 0, none⟩ = some (.pointer (some ⟨q, 0, none⟩)) := fun W hW => by
    rw [cell_of_row _ _ 0 _ _ (0, 0) ((hW.block _ (by omega)).trans ((hB1.block _ hl0).trans hc0))]; rfl
  have q1 : ∀ W, Below w1.heap.size w1 W → W.cell? ⟨c1, 0, none⟩ = some (.int .i64 (k : Int)) := fun W hW => by
    rw [cell_of_row _ _ 0 _ _ (0, 0) ((hW.block _ (by omega)).trans ((hB1.block _ hl1).trans hc1))]; rfl
  obtain ⟨g, cap, hv, hcl, hcm, hR⟩ := (hF.below hB1).from hk
  simp only [Value.slice.injEq] at hv
  obtain ⟨rfl, -, rfl⟩ := hv
  have q3 : ∀ W, Below w1.heap.size w1 W → W.cell? ⟨q, 3, none⟩ = some (.slice (some ⟨g, 0, none⟩) L.length cp) := fun W hW => by
    rw [cell_of_row _ _ 3 _ _ (0, 0) ((hW.block _ (by omega)).trans ((hB1.block _ hlq).trans hq))]; exact hfc
  obtain ⟨x0, L0, hxL⟩ : ∃ x0 L0, L.drop k = x0 :: L0 := by
    cases hd : L.drop k with
    | nil => have := congrArg List.length hd; rw [List.length_drop] at this; simp at this; omega
    | cons x l => exact ⟨x, l, rfl⟩
  have hL0 : L0.length + 1 = L.length - k := by have := congrArg List.length hxL; rw [List.length_drop] at this; simp at this; omega
  rw [hxL] at hR ⊢
  have cr := readWhole_any w1.drew g (k * 7) (cp - k) x0 L0 (hR.below (Below.refl _ w1).drew) (by omega) (by omega) (by omega)
  rw [hL0] at cr
  have hkI : (k : Int) ≤ L.length := by omega
  have hkc : k ≤ cp := by omega
  clear hc0 hc1 hq hfc hF hR
  generalize hWo : wholeOf ((x0 :: L0).map fdOf) = WO at *
  go_enter Tryz.func93, Tryz.ntmps93
  go_wp2_with fail
  refine wp_region_sink 7 (S := fun W => Below w1.heap.size w1 W) (by kernel_rfl) (by kernel_rfl) (Below.refl _ _).drew (fun hHeld => ?_)
  refine wpAnyH_take (i := 0) (v := .pointer (some ⟨q, 0, none⟩)) rfl (by kernel_rfl) (by kernel_rfl) (by kernel_rfl) (fun _ _ _ h => h) (Or.inl ⟨by rfl, fun W hSw => by (try dsimp only at hSw); go_simp⟩) (by assumption) ?_
  simp only [List.getElem_toArray, List.getElem_cons_zero, List.getElem_cons_succ, Act.put, List.setIfInBounds_toArray, List.set_cons_zero, List.set_cons_succ]
  refine wpAnyH_take (i := 1) (v := .pointer (some ⟨q, 0, none⟩)) rfl (by kernel_rfl) (by kernel_rfl) (by kernel_rfl) (fun _ _ _ h => h) (Or.inl ⟨by rfl, fun W hSw => by (try dsimp only at hSw); go_simp⟩) (by assumption) ?_
  simp only [List.getElem_toArray, List.getElem_cons_zero, List.getElem_cons_succ, Act.put, List.setIfInBounds_toArray, List.set_cons_zero, List.set_cons_succ]
  refine wpAnyH_take (i := 2) (v := .pointer (some ⟨q, 3, none⟩)) rfl (by kernel_rfl) (by kernel_rfl) (by kernel_rfl) (fun _ _ _ h => h) (Or.inl ⟨by rfl, fun W hSw => by (try dsimp only at hSw); go_simp⟩) (by assumption) ?_
  simp only [List.getElem_toArray, List.getElem_cons_zero, List.getElem_cons_succ, Act.put, List.setIfInBounds_toArray, List.set_cons_zero, List.set_cons_succ]
  refine wpAnyH_take (i := 3) (v := .slice (some ⟨g, 0, none⟩) L.length cp) rfl (by kernel_rfl) (by kernel_rfl) (by kernel_rfl) (fun _ _ _ h => h) (Or.inl ⟨by rfl, fun W hSw => by (try dsimp only at hSw); go_simp⟩) (by assumption) ?_
  simp only [List.getElem_toArray, List.getElem_cons_zero, List.getElem_cons_succ, Act.put, List.setIfInBounds_toArray, List.set_cons_zero, List.set_cons_succ]
  refine wpAnyH_take (i := 4) (v := .int .i64 k) rfl (by kernel_rfl) (by kernel_rfl) (by kernel_rfl) (fun _ _ _ h => h) (Or.inl ⟨by rfl, fun W hSw => by (try dsimp only at hSw); go_simp⟩) (by assumption) ?_
  simp only [List.getElem_toArray, List.getElem_cons_zero, List.getElem_cons_succ, Act.put, List.setIfInBounds_toArray, List.set_cons_zero, List.set_cons_succ]
  refine wpAnyH_take (i := 5) (v := .slice (some ⟨g, k * 7, none⟩) (L.length - k) (cp - k)) rfl (by kernel_rfl) (by kernel_rfl) (by kernel_rfl) (fun _ _ _ h => h) (Or.inl ⟨by rfl, fun W hSw => by (try dsimp only at hSw); (go_simp; intro h; omega)⟩) (by assumption) ?_
  simp only [List.getElem_toArray, List.getElem_cons_zero, List.getElem_cons_succ, Act.put, List.setIfInBounds_toArray, List.set_cons_zero, List.set_cons_succ]
  cases WO with
  | none =>
    refine wpAnyH_ready (rs := [6]) (by kernel_rfl) (by simp) ?_
    refine AllReadyH.cons rfl (fun K hK => ?_) AllReadyH.nil
    go_simp
    go_wp2_with (go_at_call 94; refine cr.mono ?_; rintro e w2 ⟨hb2, ex, rfl⟩)
    clear q0 q1 q3
    refine ⟨rfl, ?_⟩
    exact ⟨thenB hB1 (thenB (Below.refl _ w1).drew hb2), ⟨ex, rfl⟩⟩
  | some Wv =>
    obtain ⟨At, Bs, Gs, Bg⟩ := Wv
    unfold WholeOut at cr
    dsimp only at cr
    refine wpAnyH_ready (rs := [6]) (by kernel_rfl) (by simp) ?_
    refine AllReadyH.cons rfl (fun K hK => ?_) AllReadyH.nil
    go_simp
    go_wp2_with (go_at_call 94; refine cr.mono ?_; rintro e w2 ⟨hb2, bd, bp, ad, ap, rfl, ho1, ho2⟩)
    refine hK.out _ _ (keep2 (by assumption) (by assumption)) (fun hHeld2 => ?_)
    clear hK K
    have hsz : w1.drew.heap.size = w1.heap.size := rfl
    have hb12 : Below w1.heap.size w1 w2 := thenB (Below.refl _ w1).drew hb2
    have hg2 := (hb12.block _ hlt1).trans hg1
    have r0 : w2.cell? ⟨w.heap.size, 0, none⟩ = some (.int .u64 0) := by rw [cell_of_row _ _ 0 _ _ (0, 0) hg2]; rfl
    have r1 : w2.cell? ⟨w.heap.size, 1, none⟩ = some (.slice none 0 0) := by rw [cell_of_row _ _ 1 _ _ (0, 0) hg2]; rfl
    have r2 : w2.cell? ⟨w.heap.size, 2, none⟩ = some (.slice none 0 0) := by rw [cell_of_row _ _ 2 _ _ (0, 0) hg2]; rfl
    have r3 : w2.cell? ⟨w.heap.size, 3, none⟩ = some (.bool false) := by rw [cell_of_row _ _ 3 _ _ (0, 0) hg2]; rfl
    have fz := fun j => frozen_of_row w2 w.heap.size j _ _ hg2
    have fz0 := fz 0; have fz1 := fz 1; have fz2 := fz 2; have fz3 := fz 3
    have z1 := heap_setCell_same w2 w.heap.size 0 _ _ (.int .u64 At) hg2
    have z2 := heap_setCell_same _ w.heap.size 1 _ _ (.slice bd Bs.length bp) z1
    have z3 := heap_setCell_same _ w.heap.size 2 _ _ (.slice ad Gs.length ap) z2
    have z4 := heap_setCell_same _ w.heap.size 3 _ _ (.bool Bg) z3
    obtain ⟨w7, hw7⟩ : ∃ w7, (((w2.setCell ⟨w.heap.size, 0, none⟩ (.int .u64 At)).setCell ⟨w.heap.size, 1, none⟩ (.slice bd Bs.length bp)).setCell ⟨w.heap.size, 2, none⟩ (.slice ad Gs.length ap)).setCell ⟨w.heap.size, 3, none⟩ (.bool Bg) = w7 := ⟨_, rfl⟩
    rw [hw7] at z4
    have hs7 : w7.heap.size = w2.heap.size := by rw [← hw7]; simp [World.setCell]
    have ho7 : ∀ j, j ≠ w.heap.size → w7.heap[j]? = w2.heap[j]? := fun j hj => by
      rw [← hw7, heap_setCell_other _ _ _ _ hj, heap_setCell_other _ _ _ _ hj, heap_setCell_other _ _ _ _ hj, heap_setCell_other _ _ _ _ hj]
    have HZ : Hid _ := z4
    have H1 : Hid (w7.ownsRow w.heap.size 3 1 (.slice bd Bs.length bp) Bs.length (blkC Bs)) := by
      refine own_mono (own_keep ho1 (by omega) (fun q hq hl => ?_)) (by omega)
      have := (World.ownsRow.lt ho1 q hq).1
      exact ho7 q (by omega)
    have H2 : Hid (w7.ownsRow w.heap.size 9 1 (.slice ad Gs.length ap) Gs.length (strC Gs)) := by
      refine own_mono (own_keep ho2 (by omega) (fun q hq hl => ?_)) (by omega)
      have := (World.ownsRow.lt ho2 q hq).1
      exact ho7 q (by omega)
    have HB7 : Hid (Below w.heap.size w w7) := by
      have b2 : Below w.heap.size w w2 := thenB hB1 hb12
      refine ⟨?_, ?_, ?_, by have := b2.size; omega, fun j hj => by rw [ho7 j (by omega)]; exact b2.block j hj⟩
      · rw [← hw7]; exact b2.os
      · rw [← hw7]; exact b2.tape
      · rw [← hw7]; exact b2.output
    clear z1 z2 z3 z4 fz ho7 hg2 q0 q1 q3 ho1 ho2
    refine wpAnyH_done (by kernel_rfl) ?_ _
    refine Behind.run (by rfl) ?_
    go_simp
    go_wp2
    exact ret_whole Tryz.results93 w.heap.size #[.int .u64 At, .slice bd Bs.length bp, .slice ad Gs.length ap, .bool Bg] rfl rfl HZ.out rfl ⟨HB7.out, bd, bp, ad, ap, rfl, H1.out, H2.out⟩

/-- Attempt at the whole record whose pieces stand from the k-th on. -/
theorem tryWhole {w : World} {c0 c1 q base : Nat} {L : List Fv} {a : Option Addr} {cp : Nat} {fc : Array Value} (k : Nat) (hk : k < L.length) (hl : L.length ≤ 1024) (hc0 : w.heap[c0]? = some (.cells #[.pointer (some ⟨q, 0, none⟩)] 155 (0, 0))) (hc1 : w.heap[c1]? = some (.cells #[.int .i64 (k : Int)] 3 (0, 0)))
    (hq : w.heap[q]? = some (.cells fc 88 (0, 0))) (hfc : fc[3]? = some (.slice a L.length cp)) (hF : FsAt base w (.slice a L.length cp) L) :
    Calls Tryz.prog 92 #[.func (Fn.func 93) #[] #[.pointer (some ⟨c0, 0, none⟩), .pointer (some ⟨c1, 0, none⟩)]] w fun e w' => Below w.heap.size w w' ∧ match wholeOf ((L.drop k).map fdOf) with
      | some W => ∃ bd bp ad ap, e = .returned (.tuple #[.agg #[.int .u64 W.at_, .slice bd W.blocks.length bp, .slice ad W.group.length ap, .bool W.begins], .bool true]) ∧ w'.ownsRow w.heap.size 3 1 (.slice bd W.blocks.length bp) W.blocks.length (blkC W.blocks) ∧ w'.ownsRow w.heap.size 9 1 (.slice ad W.group.length ap) W.group.length (strC W.group)
      | none => e = .returned (.tuple #[.agg #[.int .u64 0, .slice none 0 0, .slice none 0 0, .bool false], .bool false]) := by
  have hl0 := (Array.getElem?_eq_some_iff.1 hc0).1
  have hl1 := (Array.getElem?_eq_some_iff.1 hc1).1
  have hlq := (Array.getElem?_eq_some_iff.1 hq).1
  have hk1 := fun W (hW : Below w.heap.size w W) => keep1_any k hk hl ((hW.block _ hl0).trans hc0) ((hW.block _ hl1).trans hc1) ((hW.block _ hlq).trans hq) hfc (hF.below hW)
  cases hWo : wholeOf ((L.drop k).map fdOf) with
  | none =>
    rw [hWo] at hk1
    refine (attemptW_no w _ (fun W hW => (hk1 W hW).mono ?_)).mono ?_
    · rintro e w' ⟨hb, hg⟩; exact ⟨hg, hb⟩
    · rintro e w' ⟨rfl, hb⟩; exact ⟨hb, rfl⟩
  | some Wv =>
    rw [hWo] at hk1
    obtain ⟨At, Bs, Gs, Bg⟩ := Wv
    refine (attemptW_ok w _ At Bg (fun v u W => ∃ bd bp ad ap, v = .slice bd Bs.length bp ∧ u = .slice ad Gs.length ap ∧ W.ownsRow w.heap.size 3 1 (.slice bd Bs.length bp) Bs.length (blkC Bs) ∧ W.ownsRow w.heap.size 9 1 (.slice ad Gs.length ap) Gs.length (strC Gs)) (fun W hW => (hk1 W hW).mono ?_)).mono ?_
    · rintro e w' ⟨hb, bd, bp, ad, ap, rfl, h1, h2⟩
      refine ⟨bd, Bs.length, bp, ad, Gs.length, ap, rfl, fun X hX1 hX2 => ⟨bd, bp, ad, ap, rfl, rfl, ?_, ?_⟩, hb⟩
      · exact own_mono (own_keep h1 hX1 (fun q hq hl => hX2 q (World.ownsRow.lt h1 q hq).1 hl)) hW.size
      · exact own_mono (own_keep h2 hX1 (fun q hq hl => hX2 q (World.ownsRow.lt h2 q hq).1 hl)) hW.size
    · rintro e w' ⟨bd, bn, bp, ad, n, ap, rfl, hK, hb⟩
      obtain ⟨bd', bp', ad', ap', e1, e2, h1, h2⟩ := hK w' (Nat.le_refl _) (fun _ _ _ => rfl)
      simp only [Value.slice.injEq] at e1 e2
      obtain ⟨rfl, rfl, rfl⟩ := e1
      obtain ⟨rfl, rfl, rfl⟩ := e2
      exact ⟨hb, bd, bp, ad, ap, rfl, h1, h2⟩

/-- A record that is kept, with its slices. -/
structure Wm where
  at_ : Nat
  blocks : List Nat
  ba : Option Addr
  bc : Nat
  group : List ByteArray
  ga : Option Addr
  gc : Nat
  begins : Bool

def Wm.bv (x : Wm) : Value := .slice x.ba x.blocks.length x.bc
def Wm.gv (x : Wm) : Value := .slice x.ga x.group.length x.gc
def wmC (x : Wm) : List Value := [.int .u64 x.at_, x.bv, x.gv, .bool x.begins]
def whOf (x : Wm) : Wh := ⟨x.at_, x.blocks, x.group, x.begins⟩

structure WmAt (base : Nat) (w : World) (x : Wm) : Prop where
  b : w.ownsRow base 3 1 x.bv x.blocks.length (blkC x.blocks)
  g : w.ownsRow base 9 1 x.gv x.group.length (strC x.group)

/-- The texts of each record lie in a block of its own. -/
def GApart (K : List Wm) : Prop := K.Pairwise fun x y => ∀ q, x.gv.ownBlock = some q → y.gv.ownBlock ≠ some q

structure WsAt (base : Nat) (w : World) (v : Value) (K : List Wm) : Prop where
  own : w.ownsRow base 126 4 v K.length (K.flatMap wmC)
  each : ∀ x ∈ K, WmAt base w x
  apart : GApart K

theorem Tryz.infoWh : (Tryz.prog.info? 126).map (fun i => (i.zero, i.size, i.bytes)) = some (some (.agg #[.int .u64 0, .slice none 0 0, .slice none 0 0, .bool false]), 4, 64) := by kernel_rfl

theorem types_apart {w : World} {base base' n m k k' : Nat} {e e' : TypeId} (he : e ≠ e') {v u : Value} {xs ys : List Value} (h : w.ownsRow base e k v n xs) (k : w.ownsRow base' e' k' u m ys) : ∀ q, v.ownBlock = some q → u.ownBlock ≠ some q := by
  intro q hq hu
  obtain ⟨_, ⟨rfl, _⟩ | ⟨g, c, cur, rfl, _, hg, _⟩⟩ := h
  · cases hq
  · obtain ⟨_, ⟨rfl, _⟩ | ⟨g', c', cur', rfl, _, hg', _⟩⟩ := k
    · cases hu
    · simp only [Value.ownBlock, Option.some.injEq] at hq hu
      subst hq
      subst hu
      rw [hg] at hg'
      simp only [Option.some.injEq, Obj.cells.injEq] at hg'
      exact he hg'.2.1

theorem WsAt.nil (base : Nat) (w : World) : WsAt base w (.slice none 0 0) [] := ⟨World.ownsRow_nil _ _ _ _, (fun x hx => by cases hx), List.Pairwise.nil⟩

theorem WsAt.keep {base : Nat} {w w' : World} {v : Value} {K : List Wm} (h : WsAt base w v K) (hs : w.heap.size ≤ w'.heap.size) (hb : ∀ q, base ≤ q → q < w.heap.size → w'.heap[q]? = w.heap[q]?) : WsAt base w' v K :=
  ⟨own_keep h.own hs (fun q hq hl => hb q (World.ownsRow.lt h.own q hq).1 hl), fun x hx => ⟨own_keep (h.each x hx).b hs (fun q hq hl => hb q (World.ownsRow.lt (h.each x hx).b q hq).1 hl), own_keep (h.each x hx).g hs (fun q hq hl => hb q (World.ownsRow.lt (h.each x hx).g q hq).1 hl)⟩, h.apart⟩

theorem WsAt.mono' {base base' : Nat} {w : World} {v : Value} {K : List Wm} (h : WsAt base w v K) (hb : base' ≤ base) : WsAt base' w v K := ⟨own_mono h.own hb, fun x hx => ⟨own_mono (h.each x hx).b hb, own_mono (h.each x hx).g hb⟩, h.apart⟩

theorem whole_len {x : Fd} {r : List Fd} {W : Wh} (h : wholeOf (x :: r) = some W) (hx : x.p.length < 65536) : W.blocks.length ≤ 1000 := by
  rw [whole_cons] at h
  split at h
  · rw [Option.map_eq_some_iff] at h
    obtain ⟨g, _, rfl⟩ := h
    rw [List.length_map, List.length_take]
    have : piecesN x.p.length ≤ 1000 := by unfold piecesN; split <;> omega
    omega
  · cases h

theorem WmAt.grown {base : Nat} {w w' : World} {v : Value} {K : List Wm} {x : Wm} (h : WmAt base w x) (ho : w.ownsRow base 126 4 v K.length (K.flatMap wmC)) (hg : w.grownBy w' v.ownBlock) : WmAt base w' x :=
  ⟨own_keep h.b hg.size (fun q hq hl => hg.block q hl (fun e => types_apart (by decide) h.b ho q hq e.symm)), own_keep h.g hg.size (fun q hq hl => hg.block q hl (fun e => types_apart (by decide) h.g ho q hq e.symm))⟩

theorem WsAt.snoc {base : Nat} {w w' : World} {v v' : Value} {K : List Wm} {x : Wm} (h : WsAt base w v K) (ho : w'.ownsRow base 126 4 v' (K.length + 1) (K.flatMap wmC ++ wmC x)) (hg : w.grownBy w' v.ownBlock) (hx : WmAt base w x) (ha : ∀ y ∈ K, ∀ q, y.gv.ownBlock = some q → x.gv.ownBlock ≠ some q) : WsAt base w' v' (K ++ [x]) := by
  refine ⟨by simpa using ho, fun y hy => ?_, List.pairwise_append.2 ⟨h.apart, List.pairwise_singleton _ _, fun y hy z hz => by simp only [List.mem_singleton] at hz; rw [hz]; exact ha y hy⟩⟩
  rcases List.mem_append.1 hy with hy | hy
  · exact (h.each y hy).grown h.own hg
  · simp only [List.mem_singleton] at hy; rw [hy]; exact hx.grown h.own hg

theorem FsAt.grownW {base : Nat} {w w' : World} {v u : Value} {L : List Fv} {K : List Wm} (h : FsAt base w v L) (ho : w.ownsRow base 126 4 u K.length (K.flatMap wmC)) (hg : w.grownBy w' u.ownBlock) (hf : ∀ x ∈ L, ∀ b off l c, x.v = .slice (some ⟨b, off, none⟩) l c → x.p.body ≠ [] → u.ownBlock ≠ some b) : FsAt base w' v L := by
  refine ⟨own_keep h.own hg.size (fun q hq hl => hg.block q hl (fun e => types_apart (by decide) h.own ho q hq e.symm)), fun x hx => ?_⟩
  have hx' := h.each x hx
  refine ⟨hx'.sl, ⟨?_, hx'.rd.2⟩, hx'.ap, hx'.ok, hx'.len⟩
  obtain ⟨⟨a', c', e', h1, h2, h3, h4⟩, _⟩ := hx'.rd
  refine ⟨a', c', e', h1, h2, h3, fun hne => ?_⟩
  obtain ⟨b', off', rfl, hlt, hc'⟩ := h4 hne
  exact ⟨b', off', rfl, Nat.lt_of_lt_of_le hlt hg.size, fun i hi => (World.cell?_of_block (a := ⟨b', off' + i, none⟩) (hg.block b' hlt (fun e => hf x hx b' off' _ _ e' hne e.symm))).trans (hc' i hi)⟩

end Go.Proofs.YtckcdmkgmbicfaaGreat
