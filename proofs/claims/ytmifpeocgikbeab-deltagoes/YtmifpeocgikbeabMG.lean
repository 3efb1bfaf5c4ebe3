/- PArg, PtArg, DCg, DOps: in one text. -/
import Derived.Test.YtmifpeocgikbeabPState
import Derived.Lib.SmallJoins
import Derived.Deep.Slices
import Derived.Test.YtmifpeocgikbeabPtState
import Derived.Test.YtmifpeocgikbeabIArg
import Derived.Test.YtmifpeocgikbeabCgState
import Derived.Test.YtmifpeocgikbeabDlLive
namespace Go.Proofs.Ytmifpeocgikbeab
open Go.RowKit
set_option linter.unusedVariables false
set_option linter.unusedSimpArgs false
set_option maxRecDepth 4000

set_option maxRecDepth 100000 in
theorem place_of {H : Type} {enc : TypeId × Value → H} {W : World} {base : Nat} {held : Bool} {fuel : Nat} {cs : Array Value} {x : DataW H × List MemPlace} (hc : cs.size = Try.prog.cellsOf 25)
    (h : DataW.trod enc Try.prog W base (fun _ => true) held fuel 25 (Value.agg cs).cells.toList = some x) : ∃ p : Pl, PlOk p ∧ cs = plCells p := by
  obtain ⟨xs, k, hk, hxy, _, hxl, hf⟩ := DataW.trod_struct Try.underlying25 h
  have hxl : xs.length = 4 := hxl
  have hlen : cs.toList.length = 4 := by rw [Array.length_toList, hc]; kernel_rfl
  clear hxy hk h
  obtain ⟨l⟩ := cs
  simp only [Value.cells] at hf
  match xs, hxl, l, hlen with
  | [y0, y1, y2, y3], _, [v0, v1, v2, v3], _ =>
    have g0 : DataW.trod enc Try.prog W base (fun _ => true) held k 23 (([v0, v1, v2, v3].drop 0).take (Try.prog.cellsOf 23)) = some y0 := hf 0 _ rfl
    have g1 : DataW.trod enc Try.prog W base (fun _ => true) held k 3 (([v0, v1, v2, v3].drop 1).take (Try.prog.cellsOf 3)) = some y1 := hf 1 _ rfl
    have g2 : DataW.trod enc Try.prog W base (fun _ => true) held k 9 (([v0, v1, v2, v3].drop 2).take (Try.prog.cellsOf 9)) = some y2 := hf 2 _ rfl
    have g3 : DataW.trod enc Try.prog W base (fun _ => true) held k 23 (([v0, v1, v2, v3].drop 3).take (Try.prog.cellsOf 23)) = some y3 := hf 3 _ rfl
    rw [show Try.prog.cellsOf 23 = 1 from by kernel_rfl] at g0 g3
    rw [show Try.prog.cellsOf 3 = 1 from by kernel_rfl] at g1
    rw [show Try.prog.cellsOf 9 = 1 from by kernel_rfl] at g2
    simp only [List.drop_zero, List.drop_succ_cons, List.take_succ_cons, List.take_zero] at g0 g1 g2 g3
    obtain ⟨z0, e0, _, w0⟩ := DataW.trod_int Try.underlying23 g0
    obtain ⟨z1, e1, _, w1⟩ := DataW.trod_int Try.underlying3 g1
    obtain ⟨z2, e2, _, w2⟩ := DataW.trod_string Try.underlying9 g2
    obtain ⟨z3, e3, _, w3⟩ := DataW.trod_int Try.underlying23 g3
    simp only [List.cons.injEq, and_true] at e0 e1 e2 e3
    subst e0 e1 e2 e3
    obtain ⟨a0, a1⟩ := bounds_u32 w0
    obtain ⟨b0, b1⟩ := bounds_i64 w1
    obtain ⟨c0, c1⟩ := bounds_u32 w3
    exact ⟨⟨z0, z1, z2, z3⟩, ⟨a0, a1, b0, b1, w2, c0, c1⟩, rfl⟩

set_option maxRecDepth 100000 in
theorem patch_of {H : Type} {enc : TypeId × Value → H} {W : World} {base : Nat} {held : Bool} {fuel : Nat} {cs : Array Value} {x : DataW H × List MemPlace} (hc : cs.size = Try.prog.cellsOf 35)
    (h : DataW.trod enc Try.prog W base (fun _ => true) held fuel 35 (Value.agg cs).cells.toList = some x) : ∃ p : Pt, PtOk p ∧ cs = ptC p := by
  obtain ⟨xs, n, hk, hxy, _, hxl, hf⟩ := DataW.trod_struct Try.underlying35 h
  have hxl : xs.length = 3 := hxl
  have hlen : cs.toList.length = 34 := by rw [Array.length_toList, hc]; kernel_rfl
  clear hxy hk h
  obtain ⟨l⟩ := cs
  simp only [Value.cells] at hf
  match xs, hxl, l, hlen with
  | [y0, y1, y2], _, v0 :: v1 :: r, hlen =>
    have hr : r.length = 32 := by simpa using hlen
    have g0 : DataW.trod enc Try.prog W base (fun _ => true) held n 4 (((v0 :: v1 :: r).drop 0).take (Try.prog.cellsOf 4)) = some y0 := hf 0 _ rfl
    have g1 : DataW.trod enc Try.prog W base (fun _ => true) held n 23 (((v0 :: v1 :: r).drop 1).take (Try.prog.cellsOf 23)) = some y1 := hf 1 _ rfl
    have g2 : DataW.trod enc Try.prog W base (fun _ => true) held n 33 (((v0 :: v1 :: r).drop 2).take (Try.prog.cellsOf 33)) = some y2 := hf 2 _ rfl
    rw [show Try.prog.cellsOf 4 = 1 from by kernel_rfl] at g0
    rw [show Try.prog.cellsOf 23 = 1 from by kernel_rfl] at g1
    rw [show Try.prog.cellsOf 33 = 32 from by kernel_rfl] at g2
    simp only [List.drop_zero, List.drop_succ_cons, List.take_succ_cons, List.take_zero] at g0 g1
    rw [show ((v0 :: v1 :: r).drop 2).take 32 = (Value.agg r.toArray).cells.toList from by
      show r.take 32 = r
      exact List.take_of_length_le (by omega)] at g2
    obtain ⟨z0, e0, _⟩ := DataW.trod_bool Try.underlying4 g0
    obtain ⟨z1, e1, _, w1⟩ := DataW.trod_int Try.underlying23 g1
    simp only [List.cons.injEq, and_true] at e0 e1
    subst e0 e1
    obtain ⟨b, hb, eb⟩ := chunk_of (cs := r.toArray) (by rw [show Try.prog.cellsOf 33 = 32 from by kernel_rfl]; simpa using hr) g2
    obtain ⟨m0, m1⟩ := bounds_u32 w1
    have er : r = b.map (Value.int .u8) := by simpa [bytesV] using congrArg Array.toList eb
    obtain ⟨m, rfl⟩ : ∃ m : Nat, z1 = m := ⟨z1.toNat, by omega⟩
    refine ⟨⟨z0, m, b⟩, ⟨by show m < 4294967296; omega, hb⟩, ?_⟩
    rw [er]; rfl

set_option maxRecDepth 100000

/-- A change that is handed in. -/
theorem cg_ofL {H : Type} {enc : TypeId × Value → H} {W : World} {base : Nat} {held : Bool} {fuel : Nat} {l : List Value} {x : DataW H × List MemPlace} (hlen : l.length = 46)
    (h : DataW.trod enc Try.prog W base (fun _ => true) held fuel 37 l = some x) : ∃ c : Cg, CgOk c ∧ l = cgL c := by
  obtain ⟨xs, n, hk, hxy, _, hxl, hf⟩ := DataW.trod_struct Try.underlying37 h
  have hxl : xs.length = 7 := hxl
  clear hxy hk h
  have n24 : Try.prog.cellsOf 25 = 4 := by kernel_rfl
  have n26 : Try.prog.cellsOf 32 = 4 := by kernel_rfl
  have n29 : Try.prog.cellsOf 35 = 34 := by kernel_rfl
  match xs, hxl, l, hlen with
  | [y0, y1, y2, y3, y4, y5, y6], _, v0 :: v1 :: v2 :: v3 :: v4 :: v5 :: v6 :: v7 :: v8 :: v9 :: v10 :: v11 :: r, hlen =>
    have hr : r.length = 34 := by simpa using hlen
    have g0 : DataW.trod enc Try.prog W base (fun _ => true) held n 25 (((v0 :: v1 :: v2 :: v3 :: v4 :: v5 :: v6 :: v7 :: v8 :: v9 :: v10 :: v11 :: r).drop 0).take (Try.prog.cellsOf 25)) = some y0 := hf 0 _ rfl
    have g1 : DataW.trod enc Try.prog W base (fun _ => true) held n 4 (((v0 :: v1 :: v2 :: v3 :: v4 :: v5 :: v6 :: v7 :: v8 :: v9 :: v10 :: v11 :: r).drop 4).take (Try.prog.cellsOf 4)) = some y1 := hf 1 _ rfl
    have g2 : DataW.trod enc Try.prog W base (fun _ => true) held n 4 (((v0 :: v1 :: v2 :: v3 :: v4 :: v5 :: v6 :: v7 :: v8 :: v9 :: v10 :: v11 :: r).drop 5).take (Try.prog.cellsOf 4)) = some y2 := hf 2 _ rfl
    have g3 : DataW.trod enc Try.prog W base (fun _ => true) held n 3 (((v0 :: v1 :: v2 :: v3 :: v4 :: v5 :: v6 :: v7 :: v8 :: v9 :: v10 :: v11 :: r).drop 6).take (Try.prog.cellsOf 3)) = some y3 := hf 3 _ rfl
    have g4 : DataW.trod enc Try.prog W base (fun _ => true) held n 32 (((v0 :: v1 :: v2 :: v3 :: v4 :: v5 :: v6 :: v7 :: v8 :: v9 :: v10 :: v11 :: r).drop 7).take (Try.prog.cellsOf 32)) = some y4 := hf 4 _ rfl
    have g5 : DataW.trod enc Try.prog W base (fun _ => true) held n 23 (((v0 :: v1 :: v2 :: v3 :: v4 :: v5 :: v6 :: v7 :: v8 :: v9 :: v10 :: v11 :: r).drop 11).take (Try.prog.cellsOf 23)) = some y5 := hf 5 _ rfl
    have g6 : DataW.trod enc Try.prog W base (fun _ => true) held n 35 (((v0 :: v1 :: v2 :: v3 :: v4 :: v5 :: v6 :: v7 :: v8 :: v9 :: v10 :: v11 :: r).drop 12).take (Try.prog.cellsOf 35)) = some y6 := hf 6 _ rfl
    rw [show Try.prog.cellsOf 4 = 1 from by kernel_rfl] at g1 g2
    rw [show Try.prog.cellsOf 3 = 1 from by kernel_rfl] at g3
    rw [show Try.prog.cellsOf 23 = 1 from by kernel_rfl] at g5
    rw [n24] at g0
    rw [n26] at g4
    rw [n29] at g6
    simp only [List.drop_zero, List.drop_succ_cons, List.take_succ_cons, List.take_zero] at g0 g1 g2 g3 g4 g5
    rw [show ((v0 :: v1 :: v2 :: v3 :: v4 :: v5 :: v6 :: v7 :: v8 :: v9 :: v10 :: v11 :: r).drop 12).take 34 = (Value.agg r.toArray).cells.toList from by
      show r.take 34 = r
      exact List.take_of_length_le (by omega)] at g6
    obtain ⟨p, hp, e0⟩ := place_of (cs := #[v0, v1, v2, v3]) (by rw [n24]; rfl) g0
    obtain ⟨z1, e1, _⟩ := DataW.trod_bool Try.underlying4 g1
    obtain ⟨z2, e2, _⟩ := DataW.trod_bool Try.underlying4 g2
    obtain ⟨z3, e3, _, w3⟩ := DataW.trod_int Try.underlying3 g3
    obtain ⟨k, m, ln, s, hi, e4⟩ := inode_of (cs := #[v7, v8, v9, v10]) (by rw [n26]; rfl) g4
    obtain ⟨z5, e5, _, w5⟩ := DataW.trod_int Try.underlying23 g5
    obtain ⟨q, hq, e6⟩ := patch_of (cs := r.toArray) (by rw [n29]; simpa using hr) g6
    simp only [List.cons.injEq, and_true] at e1 e2 e3 e5
    simp only [plCells, Array.mk.injEq, List.cons.injEq, and_true] at e0
    simp only [inoV, Array.mk.injEq, List.cons.injEq, and_true] at e4
    have e6' : r = (ptC q).toList := by have := congrArg Array.toList e6; simpa using this
    obtain ⟨a0, a1⟩ := bounds_i64 w3
    obtain ⟨b0, b1⟩ := bounds_u32 w5
    refine ⟨⟨p, z1, z2, z3, k, m, ln, s, z5, q⟩, ⟨hp, a0, a1, hi, b0, b1, hq⟩, ?_⟩
    obtain ⟨e00, e01, e02, e03⟩ := e0
    obtain ⟨e40, e41, e42, e43⟩ := e4
    rw [e00, e01, e02, e03, e1, e2, e3, e40, e41, e42, e43, e5, e6']
    rfl
theorem cg_of {H : Type} {enc : TypeId × Value → H} {W : World} {base : Nat} {held : Bool} {fuel : Nat} {cs : Array Value} {x : DataW H × List MemPlace} (hc : cs.size = Try.prog.cellsOf 37)
    (h : DataW.trod enc Try.prog W base (fun _ => true) held fuel 37 (Value.agg cs).cells.toList = some x) : ∃ c : Cg, CgOk c ∧ cs = cgC c := by
  obtain ⟨c, h1, h2⟩ := cg_ofL (by rw [show (Value.agg cs).cells.toList = cs.toList from rfl, Array.length_toList, hc]; kernel_rfl) h
  exact ⟨c, h1, Array.ext' h2⟩

set_option maxRecDepth 100000

/-- A call, as it is handed in. -/
structure Dop where
  f0 : Int
  f1 : Int
  c : Cg
def dop0 : Dop := ⟨0, 0, cg0⟩
structure DopOk (o : Dop) : Prop where
  a0 : -9223372036854775808 ≤ o.f0 ∧ o.f0 ≤ 9223372036854775807
  a1 : -9223372036854775808 ≤ o.f1 ∧ o.f1 ≤ 9223372036854775807
  c : CgOk o.c
def dopL (o : Dop) : List Value := .int .i64 o.f0 :: .int .i64 o.f1 :: cgL o.c
def dopC (o : Dop) : Array Value := (dopL o).toArray
theorem dopL_len {o : Dop} (h : o.c.pt.bytes.length = 32) : (dopL o).length = 48 := by simp [dopL, cgL_len h]
theorem dopC_size {o : Dop} (h : o.c.pt.bytes.length = 32) : (dopC o).size = 48 := by simp [dopC, dopL_len h]
theorem one_dop (o : Dop) : (dopC o).all (·.oneCell') = true := Array.all_eq_true_iff_forall_mem.2 fun u hu => by
  simp only [dopC, dopL, List.mem_toArray, List.mem_cons] at hu
  rcases hu with rfl | rfl | hu
  · rfl
  · rfl
  · exact one_cgL _ u hu
theorem size_dop : (Try.prog.info? 39).map (·.size) = some 48 := by kernel_rfl
theorem zeroDop (w : World) : (zeroValue 39).run Try.prog w = .ok (.agg (dopC dop0)) w := by
  have h : (Try.prog.info? 39).map (fun i => (i.zero, i.size)) = some (some (.agg (dopC dop0)), 48) := by kernel_rfl
  exact (zero_of_info h).1 w

/-- A slice of them. -/
def DopsAt (w : World) (a : Option Addr) (len cap : Nat) (os : List Dop) : Prop :=
  os.length = len ∧ len ≤ cap ∧ cap ≤ maxLen ∧ (∀ o ∈ os, DopOk o) ∧ (0 < len → ∃ b off, a = some ⟨b, off, none⟩ ∧ b < w.heap.size ∧ ∀ i, i < len → w.rangeAt b (off + i * 48) (dopL (os.getD i dop0)))

theorem dopsAt_of {H : Type} {enc : TypeId × Value → H} {W : World} {base : Nat} {held : Bool} {fuel : Nat} {a : Option Addr} {len cap : Nat} {x : DataW H × List MemPlace}
    (h : DataW.trod enc Try.prog W base (fun _ => true) held fuel 22 [.slice a len cap] = some x) : ∃ os, DopsAt W a len cap os := by
  rcases Deep.open_slice Try.underlying22 h with ⟨hcs, _⟩ | ⟨a', l, c, m, n, D, Pl, hcs, hb, hl, hm, hmm, _, hx⟩
  · simp at hcs
    obtain ⟨rfl, rfl, rfl⟩ := hcs
    exact ⟨[], rfl, Nat.le_refl _, Nat.zero_le _, by simp, fun h => by omega⟩
  · simp at hcs
    obtain ⟨rfl, rfl, rfl⟩ := hcs
    have each : ∀ i, i < len → ∃ o : Dop, DopOk o ∧ ∀ j u, (dopL o)[j]? = some u → W.cell? (a'.add (i * 48 + j)) = some u := by
      intro i hi
      obtain ⟨cs', h1, h2⟩ := hx i (by rw [hmm]; simp; omega)
      rw [show Try.prog.cellsOf 39 = 48 from by kernel_rfl] at h1
      obtain ⟨_, hlen, hcell⟩ := World.cells?_some h1
      obtain ⟨xs, k, hk, hxy, _, hxl, hf⟩ := DataW.trod_struct Try.underlying39 h2
      have hxl : xs.length = 3 := hxl
      clear hxy hk h1 h2
      match xs, hxl, cs', hlen with
      | [y0, y1, y2], _, v0 :: v1 :: r, hlen =>
        have hr : r.length = 46 := by simpa using hlen
        have g0 : DataW.trod enc Try.prog W base (fun _ => true) held k 3 (((v0 :: v1 :: r).drop 0).take (Try.prog.cellsOf 3)) = some y0 := hf 0 _ rfl
        have g1 : DataW.trod enc Try.prog W base (fun _ => true) held k 3 (((v0 :: v1 :: r).drop 1).take (Try.prog.cellsOf 3)) = some y1 := hf 1 _ rfl
        have g2 : DataW.trod enc Try.prog W base (fun _ => true) held k 37 (((v0 :: v1 :: r).drop 2).take (Try.prog.cellsOf 37)) = some y2 := hf 2 _ rfl
        rw [show Try.prog.cellsOf 3 = 1 from by kernel_rfl] at g0 g1
        rw [show Try.prog.cellsOf 37 = 46 from by kernel_rfl] at g2
        simp only [List.drop_zero, List.drop_succ_cons, List.take_succ_cons, List.take_zero] at g0 g1
        rw [show ((v0 :: v1 :: r).drop 2).take 46 = r from by
          show r.take 46 = r
          exact List.take_of_length_le (by omega)] at g2
        obtain ⟨z0, e0, _, w0⟩ := DataW.trod_int Try.underlying3 g0
        obtain ⟨z1, e1, _, w1⟩ := DataW.trod_int Try.underlying3 g1
        simp only [List.cons.injEq, and_true] at e0 e1
        obtain ⟨c, hc, er⟩ := cg_ofL hr g2
        refine ⟨⟨z0, z1, c⟩, ⟨bounds_i64 w0, bounds_i64 w1, hc⟩, fun j u hu => ?_⟩
        have hj : j < 48 := by
          have := (List.getElem?_eq_some_iff.1 hu).1
          rw [dopL_len hc.pt.ch.1] at this; exact this
        have q := hcell j hj
        rw [Deep.add_add] at q
        rw [q]
        rw [e0, e1, er]
        exact hu
    have hin : Inhabited Dop := ⟨dop0⟩
    obtain ⟨f, hf⟩ := Deep.choose_lt each
    refine ⟨(List.range len).map f, by simp, hl, hm, fun o ho => ?_, fun hp => ?_⟩
    · obtain ⟨i, hi, rfl⟩ := List.mem_map.1 ho
      exact (hf i (List.mem_range.1 hi)).1
    · obtain ⟨b, off, spot⟩ := a'
      have q0 := (hf 0 hp).2 0 _ rfl
      have hspot : spot = none := by simpa [Addr.add] using World.cell?_spot q0
      subst hspot
      have hadd : ∀ j, (⟨b, off, none⟩ : Addr).add j = ⟨b, off + j, none⟩ := fun j => by unfold Addr.add; split <;> simp_all
      rw [hadd] at q0
      refine ⟨b, off, rfl, World.block_lt_of_cell? _ _ q0, fun i hi j u hu => ?_⟩
      rw [List.getD_eq_getElem?_getD, List.getElem?_map, List.getElem?_range hi] at hu
      have q := (hf i hi).2 j u hu
      rw [hadd, ← Nat.add_assoc] at q
      exact q

/-- The block of the calls. -/
def dopB (a : Option Addr) (k : Nat) : Prop := ∃ off, a = some ⟨k, off, none⟩
/-- One of the calls, while their block is as it was. -/
theorem dop_at {w W : World} {a : Option Addr} {len cap : Nat} {os : List Dop} (h : DopsAt w a len cap os) (hb : Below w.heap.size w W) (k : Nat) (hk : k < len) : ∃ b off, a = some ⟨b, off, none⟩ ∧ DopOk (os.getD k dop0) ∧
    (Instr.loadAt 39 (.pointer (some ⟨b, off + k * 48, none⟩))).run Try.prog W = .ok (.agg (dopC (os.getD k dop0))) W := by
  obtain ⟨h1, h2, h3, h4, h5⟩ := h
  obtain ⟨b, off, rfl, hbl, hat⟩ := h5 (by omega)
  have hok : DopOk (os.getD k dop0) := by
    apply h4
    rw [List.getD_eq_getElem?_getD, List.getElem?_eq_getElem (by omega)]
    exact List.getElem_mem _
  refine ⟨b, off, rfl, hok, ?_⟩
  have hr : W.rangeAt b (off + k * 48) (dopL (os.getD k dop0)) := fun j u hu => (World.cell?_of_block (hb.block b hbl)).trans (hat k hk j u hu)
  have := run_loadAt_mid (P := Try.prog) W b (off + k * 48) 39 _ _ hr Try.underlying39 rfl (by rw [dopL_len hok.c.pt.ch.1]; exact size_dop)
  exact this

/-- A call lies in a variable of its own. -/
structure DoAt (w : World) (g : Nat) (o : Dop) : Prop where
  row : w.heap[g]? = some (.cells (dopC o) 39 (0, 0))
theorem DoAt.lt {w : World} {g : Nat} {o : Dop} (h : DoAt w g o) : g < w.heap.size := (Array.getElem?_eq_some_iff.1 h.row).1
theorem DoAt.below {w w' : World} {g : Nat} {o : Dop} (h : DoAt w g o) (hb : Below w.heap.size w w') : DoAt w' g o := ⟨(hb.block g h.lt).trans h.row⟩
theorem DoAt.keep {w w' : World} {g b : Nat} {o : Dop} (h : DoAt w g o) (hne : g ≠ b) (k : KeepD b w w') : DoAt w' g o := ⟨(k.block g h.lt (fun hd => by
    rcases hd with e | ⟨cs, fr, e⟩ | ⟨cs, fr, e⟩
    · exact hne e
    · rw [h.row] at e; cases e
    · rw [h.row] at e; cases e)).trans h.row⟩
theorem DoAt.c0 {w : World} {g : Nat} {o : Dop} (h : DoAt w g o) : w.cell? ⟨g, 0, none⟩ = some (.int .i64 o.f0) := by rw [cell_of_row _ _ _ _ _ (0, 0) h.row]; rfl
theorem DoAt.c1 {w : World} {g : Nat} {o : Dop} (h : DoAt w g o) : w.cell? ⟨g, 1, none⟩ = some (.int .i64 o.f1) := by rw [cell_of_row _ _ _ _ _ (0, 0) h.row]; rfl
theorem dopC_mid (o : Dop) (n : Nat) : ((dopC o).extract 2 (2 + n)).toList = (cgL o.c).take n := by
  simp only [dopC, dopL, Array.toList_extract, List.extract_eq_take_drop]
  simp only [List.drop_succ_cons, List.drop_zero]
  rw [Nat.add_sub_cancel_left]
theorem DoAt.loadC {w : World} {g : Nat} {o : Dop} (h : DoAt w g o) (hl : o.c.pt.bytes.length = 32) : (Instr.loadAt 37 (.pointer (some ⟨g, 2, none⟩))).run Try.prog w = .ok (.agg (cgC o.c)) w := by
  have hr : w.rangeAt g 2 (cgL o.c) := by
    have := World.rangeAt_of_block h.row 2 46
    rwa [dopC_mid, List.take_of_length_le (by rw [cgL_len hl]; exact Nat.le_refl _)] at this
  exact run_loadAt_mid (P := Try.prog) w g 2 37 _ _ hr Try.underlying37 rfl (by rw [cgL_len hl]; exact size_cg)
theorem DoAt.loadP {w : World} {g : Nat} {o : Dop} (h : DoAt w g o) : (Instr.loadAt 25 (.pointer (some ⟨g, 2, none⟩))).run Try.prog w = .ok (plV o.c.pl) w := by
  have hr : w.rangeAt g 2 (plCells o.c.pl).toList := by
    have := World.rangeAt_of_block h.row 2 4
    rw [dopC_mid] at this
    exact this
  exact run_loadAt_mid w g 2 25 (plCells o.c.pl).toList _ hr Try.underlying25 rfl (by kernel_rfl)

end Go.Proofs.Ytmifpeocgikbeab
