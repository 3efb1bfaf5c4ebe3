/- DgSame, DgBoth, PtArg, DCg, VwCgs, VwDlt: in one text. -/
import Derived.Test.YtjlglnhmkheidaaGreatN1
import Derived.Test.YtjlglnhmkheidaaGreatD6
import Derived.Test.YtjlglnhmkheidaaGreatM3
import Derived.Test.YtjlglnhmkheidaaGreatT1
import Derived.Test.YtjlglnhmkheidaaGreatI1
import Derived.Test.YtjlglnhmkheidaaGreatCgState
import Derived.Test.YtjlglnhmkheidaaGreatP1
import Derived.Lib.SmallJoins
import Derived.Deep.Slices
import Derived.Test.YtjlglnhmkheidaaGreatV7
import Derived.Test.YtjlglnhmkheidaaGreatN4
namespace Go.Proofs.YtjlglnhmkheidaaGreat
open Go.RowKit
set_option linter.unusedVariables false
set_option linter.unusedSimpArgs false
set_option maxRecDepth 4000

theorem putS_err {s : Dl} {c : Cg} (h : ¬ (putX s c).2 = 0) : putS s c = s := by unfold putS; rw [if_neg h]

open Go.RowKit Go.Maps
set_option maxRecDepth 100000

theorem XdAt.keepD {B : Nat} {w0 w w' : World} {p b q : Nat} {v : Value} {M : Int} {xs : List Cg} {s : Dl} (h : XdAt w q v M xs) (hd : DlN B w0 w p b s) (k : KeepD b w w') : XdAt w' q v M xs := by
  obtain ⟨u, h1, _⟩ := hd.d
  obtain ⟨e0, cl, hm⟩ := h1.mp.isMap
  refine h.keep k.size (k.block q h.lt (fun hb => ?_)) (fun g hg => ?_)
  · rcases hb with e | ⟨cs, fr, e⟩ | ⟨cs, fr, e⟩
    · have := h.row; rw [e, hm] at this; cases this
    · have := h.row; rw [e] at this; cases this
    · have := h.row; rw [e] at this; cases this
  · obtain ⟨cs', e'⟩ := own_row h.at_ hg
    refine k.block g (World.ownsRow.lt h.at_ g hg).2 (fun hb => ?_)
    rcases hb with e | ⟨cs, fr, e⟩ | ⟨cs, fr, e⟩
    · rw [e, hm] at e'; cases e'
    · rw [e] at e'; cases e'
    · rw [e] at e'; cases e'

theorem DlN.keepX {B : Nat} {w0 w w' : World} {p b q : Nat} {v : Value} {M : Int} {xs : List Cg} {s : Dl} (h : DlN B w0 w p b s) (hx : XdAt w q v M xs) (hq : B ≤ q) (k : KeepX q w w') : DlN B w0 w' p b s := by
  obtain ⟨u, h1, h2⟩ := h.d
  obtain ⟨e0, cl, hm⟩ := h1.mp.isMap
  have hr := hx.row
  refine ⟨⟨k.os.trans h.bel.os, k.tape.trans h.bel.tape, k.output.trans h.bel.output, Nat.le_trans h.bel.size k.size, fun j hj => (k.block j (Nat.lt_of_lt_of_le hj h.le) (by omega)).trans (h.bel.block j hj)⟩, Nat.le_trans h.le k.size, ⟨u, ?_, h2⟩, h.p, h.b⟩
  refine ⟨(k.block p h1.lt (fun e => ?_)).trans h1.row, h1.mp.keep (k.block b h1.mp.lt (fun e => ?_)), own_keep h1.pus k.size (fun g hg hl => k.block g hl (fun e => ?_)), h1.ok⟩
  · have := h1.row; rw [e, hr] at this; cases this
  · rw [e, hr] at hm; cases hm
  · obtain ⟨cs, e'⟩ := own_row h1.pus hg
    rw [e, hr] at e'; cases e'

theorem KeepX.of_sole {q : Nat} {w w' : World} (h : Sole [q] w w') : KeepX q w w' := ⟨h.os, h.tape, h.output, h.size, fun k hk hn => h.block k hk (by simpa using hn)⟩

/-- Both deltas have the same changes. -/
structure Both (B : Nat) (w0 w : World) (p b q : Nat) (s : Dl) (xs : List Cg) : Prop where
  d : DlN B w0 w p b s
  x : ∃ v, XdAt w q v s.most xs
  q : B ≤ q
  r : Rel s xs

theorem Both.below {B : Nat} {w0 w w' : World} {p b q : Nat} {s : Dl} {xs : List Cg} (h : Both B w0 w p b q s xs) (hb : Below w.heap.size w w') : Both B w0 w' p b q s xs := by
  obtain ⟨v, hv⟩ := h.x
  exact ⟨h.d.below hb, ⟨v, hv.below hb⟩, h.q, h.r⟩

theorem Both.ok {B : Nat} {w0 w : World} {p b q : Nat} {s : Dl} {xs : List Cg} (h : Both B w0 w p b q s xs) : DlOk s := by obtain ⟨v, hd, _⟩ := h.d.d; exact hd.ok

theorem Both.len {B : Nat} {w0 w : World} {p b q : Nat} {s : Dl} {xs : List Cg} (h : Both B w0 w p b q s xs) : ∃ a c, w.cell? ⟨q, 0, none⟩ = some (.slice a xs.length c) := by
  obtain ⟨v, hv⟩ := h.x
  obtain ⟨a, c, rfl⟩ := hv.shape
  exact ⟨a, c, hv.c0⟩

theorem Both.dget {B : Nat} {w0 w : World} {p b q : Nat} {s : Dl} {xs : List Cg} (h : Both B w0 w p b q s xs) (z : Pl) (hz : PlOk z) : Calls Tryz.prog 34 #[.pointer (some ⟨p, 0, none⟩), plV z] w fun e w' => e = .returned (.tuple #[.agg (cgC (wasX s z)), .bool (isX s z)]) ∧ Below w.heap.size w w' := h.d.get z hz

theorem Both.xget {B : Nat} {w0 w : World} {p b q : Nat} {s : Dl} {xs : List Cg} (h : Both B w0 w p b q s xs) (z : Pl) (hz : PlOk z) : Calls Tryz.prog 24 #[.pointer (some ⟨q, 0, none⟩), plV z] w fun e w' => e = .returned (.tuple #[.agg (cgC (wasX s z)), .bool (isX s z)]) ∧ Below w.heap.size w w' := by
  obtain ⟨v, hv⟩ := h.x
  have := xget_any hv z hz
  rw [← h.r.now z] at this
  exact this

/-- A change was put into the first one. -/
structure Half (B : Nat) (w0 w : World) (p b q : Nat) (s s' : Dl) (xs : List Cg) : Prop where
  d : DlN B w0 w p b s'
  x : ∃ v, XdAt w q v s.most xs
  q : B ≤ q
  r : Rel s xs
  ok : DlOk s

theorem Both.dput {B : Nat} {w0 w : World} {p b q : Nat} {s : Dl} {xs : List Cg} (h : Both B w0 w p b q s xs) (hm : xs.length ≤ 1000) (hL : s.L.length ≤ 1000) (c : Cg) (hc : CgOk c) : Calls Tryz.prog 30 #[.pointer (some ⟨p, 0, none⟩), .agg (cgC c)] w fun e w' =>
    e = .returned (.int .i64 (putX s c).2) ∧ Half B w0 w' p b q s (putS s c) xs ∧ KeepD b w w' := by
  obtain ⟨v, hv⟩ := h.x
  refine (h.d.put c hc hL (by rw [← h.r.len]; exact hm)).mono ?_
  rintro e w' ⟨rfl, h1, h2⟩
  exact ⟨rfl, ⟨h1, ⟨v, hv.keepD h.d h2⟩, h.q, h.r, h.ok⟩, h2⟩

theorem Half.xput {B : Nat} {w0 w : World} {p b q : Nat} {s : Dl} {xs : List Cg} (c : Cg) (hc : CgOk c) (h : Half B w0 w p b q s (putS s c) xs) (hm : xs.length ≤ 1000) (hL : s.L.length ≤ 1000) : Calls Tryz.prog 33 #[.pointer (some ⟨q, 0, none⟩), .agg (cgC c)] w fun e w' =>
    e = .returned (.int .i64 (putX s c).2) ∧ (∃ xs', Both B w0 w' p b q (putS s c) xs' ∧ xs'.length ≤ xs.length + 1) ∧ KeepX q w w' := by
  obtain ⟨v, hv⟩ := h.x
  refine (xput_any hv h.r h.ok rfl hm hL c hc).mono ?_
  rintro e w' ⟨rfl, v', h1, h2, _⟩
  have hd := h.d.keepX hv h.q h2
  by_cases h0 : (putX s c).2 = 0
  · rw [if_pos h0] at h1
    refine ⟨rfl, ⟨xs ++ [c], ⟨hd, ⟨v', ?_⟩, h.q, h.r.put h.ok hc h0⟩, by simp⟩, h2⟩
    rw [show (putS s c).most = s.most by unfold putS; rw [if_pos h0]]
    exact h1
  · rw [if_neg h0] at h1
    have e1 := putS_err (s := s) (c := c) h0
    rw [e1] at hd ⊢
    exact ⟨rfl, ⟨xs, ⟨hd, ⟨v', h1⟩, h.q, h.r⟩, by omega⟩, h2⟩

theorem undoS_ok {B : Nat} {w0 w : World} {p b : Nat} {s : Dl} (h : DlN B w0 w p b s) : DlOk s := by obtain ⟨v, hd, _⟩ := h.d; exact hd.ok

theorem len_sub {α : Type} [DecidableEq α] : ∀ {P Q : List α}, P.Nodup → (∀ x ∈ P, x ∈ Q) → P.length ≤ Q.length
  | [], _, _, _ => Nat.zero_le _
  | p :: P, Q, hn, hs => by
    have hp := hs p (by simp)
    have ih := len_sub (P := P) (Q := Q.erase p) (List.nodup_cons.1 hn).2 (fun x hx => (List.mem_erase_of_ne (show x ≠ p from fun e => (List.nodup_cons.1 hn).1 (by rw [← e]; exact hx))).2 (hs x (by simp [hx])))
    rw [List.length_erase_of_mem hp] at ih
    have := List.length_pos_of_mem hp
    rw [List.length_cons]
    omega

theorem Rel.lenL {s : Dl} {xs : List Cg} (h : Rel s xs) (hs : DlOk s) : s.L.length ≤ xs.length := by
  have h1 : (s.L.map (·.pl)).Nodup := List.pairwise_map.2 (hs.L.rise.imp fun h => cmp_ne h)
  have h2 := @len_sub Pl (Classical.typeDecidableEq Pl) (s.L.map (·.pl)) (xs.map (·.pl)) h1 (fun x hx => by
    obtain ⟨c, hc, rfl⟩ := List.mem_map.1 hx
    have h3 := foldX_any xs c.pl
    rw [← h.now, (getL_some hs.L.rise).2 ⟨hc, rfl⟩] at h3
    obtain ⟨y, hy, e⟩ := List.any_eq_true.1 h3.symm
    exact List.mem_map.2 ⟨y, hy, plEq_iff.1 e⟩)
  simpa using h2

theorem undoS_len (s : Dl) (m : Nat) : (undoS s m).L.length ≤ s.L.length + s.pus.length := by
  have := undoL_len (s.pus.drop m).reverse s.L
  unfold undoS
  rw [List.length_reverse, List.length_drop] at this
  dsimp only
  omega

set_option maxRecDepth 100000 in
theorem patch_of {H : Type} {enc : TypeId × Value → H} {W : World} {base : Nat} {held : Bool} {fuel : Nat} {cs : Array Value} {x : DataW H × List MemPlace} (hc : cs.size = Tryz.prog.cellsOf 54)
    (h : DataW.trod enc Tryz.prog W base (fun _ => true) held fuel 54 (Value.agg cs).cells.toList = some x) : ∃ p : Pt, PtOk p ∧ cs = ptC p := by
  obtain ⟨xs, n, hk, hxy, _, hxl, hf⟩ := DataW.trod_struct Tryz.underlying54 h
  have hxl : xs.length = 3 := hxl
  have hlen : cs.toList.length = 34 := by rw [Array.length_toList, hc]; kernel_rfl
  clear hxy hk h
  obtain ⟨l⟩ := cs
  simp only [Value.cells] at hf
  match xs, hxl, l, hlen with
  | [y0, y1, y2], _, v0 :: v1 :: r, hlen =>
    have hr : r.length = 32 := by simpa using hlen
    have g0 : DataW.trod enc Tryz.prog W base (fun _ => true) held n 4 (((v0 :: v1 :: r).drop 0).take (Tryz.prog.cellsOf 4)) = some y0 := hf 0 _ rfl
    have g1 : DataW.trod enc Tryz.prog W base (fun _ => true) held n 24 (((v0 :: v1 :: r).drop 1).take (Tryz.prog.cellsOf 24)) = some y1 := hf 1 _ rfl
    have g2 : DataW.trod enc Tryz.prog W base (fun _ => true) held n 43 (((v0 :: v1 :: r).drop 2).take (Tryz.prog.cellsOf 43)) = some y2 := hf 2 _ rfl
    rw [show Tryz.prog.cellsOf 4 = 1 from by kernel_rfl] at g0
    rw [show Tryz.prog.cellsOf 24 = 1 from by kernel_rfl] at g1
    rw [show Tryz.prog.cellsOf 43 = 32 from by kernel_rfl] at g2
    simp only [List.drop_zero, List.drop_succ_cons, List.take_succ_cons, List.take_zero] at g0 g1
    rw [show ((v0 :: v1 :: r).drop 2).take 32 = (Value.agg r.toArray).cells.toList from by
      show r.take 32 = r
      exact List.take_of_length_le (by omega)] at g2
    obtain ⟨z0, e0, _⟩ := DataW.trod_bool Tryz.underlying4 g0
    obtain ⟨z1, e1, _, w1⟩ := DataW.trod_int Tryz.underlying24 g1
    simp only [List.cons.injEq, and_true] at e0 e1
    subst e0 e1
    obtain ⟨b, hb, eb⟩ := chunk_of (cs := r.toArray) (by rw [show Tryz.prog.cellsOf 43 = 32 from by kernel_rfl]; simpa using hr) g2
    obtain ⟨m0, m1⟩ := bounds_u32 w1
    have er : r = b.map (Value.int .u8) := by simpa [bytesV] using congrArg Array.toList eb
    obtain ⟨m, rfl⟩ : ∃ m : Nat, z1 = m := ⟨z1.toNat, by omega⟩
    refine ⟨⟨z0, m, b⟩, ⟨by show m < 4294967296; omega, hb⟩, ?_⟩
    rw [er]; rfl

set_option maxRecDepth 100000

/-- A change that is handed in. -/
theorem cg_ofL {H : Type} {enc : TypeId × Value → H} {W : World} {base : Nat} {held : Bool} {fuel : Nat} {l : List Value} {x : DataW H × List MemPlace} (hlen : l.length = 46)
    (h : DataW.trod enc Tryz.prog W base (fun _ => true) held fuel 56 l = some x) : ∃ c : Cg, CgOk c ∧ l = cgL c := by
  obtain ⟨xs, n, hk, hxy, _, hxl, hf⟩ := DataW.trod_struct Tryz.underlying56 h
  have hxl : xs.length = 7 := hxl
  clear hxy hk h
  have n24 : Tryz.prog.cellsOf 26 = 4 := by kernel_rfl
  have n26 : Tryz.prog.cellsOf 42 = 4 := by kernel_rfl
  have n29 : Tryz.prog.cellsOf 54 = 34 := by kernel_rfl
  match xs, hxl, l, hlen with
  | [y0, y1, y2, y3, y4, y5, y6], _, v0 :: v1 :: v2 :: v3 :: v4 :: v5 :: v6 :: v7 :: v8 :: v9 :: v10 :: v11 :: r, hlen =>
    have hr : r.length = 34 := by simpa using hlen
    have g0 : DataW.trod enc Tryz.prog W base (fun _ => true) held n 26 (((v0 :: v1 :: v2 :: v3 :: v4 :: v5 :: v6 :: v7 :: v8 :: v9 :: v10 :: v11 :: r).drop 0).take (Tryz.prog.cellsOf 26)) = some y0 := hf 0 _ rfl
    have g1 : DataW.trod enc Tryz.prog W base (fun _ => true) held n 4 (((v0 :: v1 :: v2 :: v3 :: v4 :: v5 :: v6 :: v7 :: v8 :: v9 :: v10 :: v11 :: r).drop 4).take (Tryz.prog.cellsOf 4)) = some y1 := hf 1 _ rfl
    have g2 : DataW.trod enc Tryz.prog W base (fun _ => true) held n 4 (((v0 :: v1 :: v2 :: v3 :: v4 :: v5 :: v6 :: v7 :: v8 :: v9 :: v10 :: v11 :: r).drop 5).take (Tryz.prog.cellsOf 4)) = some y2 := hf 2 _ rfl
    have g3 : DataW.trod enc Tryz.prog W base (fun _ => true) held n 3 (((v0 :: v1 :: v2 :: v3 :: v4 :: v5 :: v6 :: v7 :: v8 :: v9 :: v10 :: v11 :: r).drop 6).take (Tryz.prog.cellsOf 3)) = some y3 := hf 3 _ rfl
    have g4 : DataW.trod enc Tryz.prog W base (fun _ => true) held n 42 (((v0 :: v1 :: v2 :: v3 :: v4 :: v5 :: v6 :: v7 :: v8 :: v9 :: v10 :: v11 :: r).drop 7).take (Tryz.prog.cellsOf 42)) = some y4 := hf 4 _ rfl
    have g5 : DataW.trod enc Tryz.prog W base (fun _ => true) held n 24 (((v0 :: v1 :: v2 :: v3 :: v4 :: v5 :: v6 :: v7 :: v8 :: v9 :: v10 :: v11 :: r).drop 11).take (Tryz.prog.cellsOf 24)) = some y5 := hf 5 _ rfl
    have g6 : DataW.trod enc Tryz.prog W base (fun _ => true) held n 54 (((v0 :: v1 :: v2 :: v3 :: v4 :: v5 :: v6 :: v7 :: v8 :: v9 :: v10 :: v11 :: r).drop 12).take (Tryz.prog.cellsOf 54)) = some y6 := hf 6 _ rfl
    rw [show Tryz.prog.cellsOf 4 = 1 from by kernel_rfl] at g1 g2
    rw [show Tryz.prog.cellsOf 3 = 1 from by kernel_rfl] at g3
    rw [show Tryz.prog.cellsOf 24 = 1 from by kernel_rfl] at g5
    rw [n24] at g0
    rw [n26] at g4
    rw [n29] at g6
    simp only [List.drop_zero, List.drop_succ_cons, List.take_succ_cons, List.take_zero] at g0 g1 g2 g3 g4 g5
    rw [show ((v0 :: v1 :: v2 :: v3 :: v4 :: v5 :: v6 :: v7 :: v8 :: v9 :: v10 :: v11 :: r).drop 12).take 34 = (Value.agg r.toArray).cells.toList from by
      show r.take 34 = r
      exact List.take_of_length_le (by omega)] at g6
    obtain ⟨p, hp, e0⟩ := place_of (cs := #[v0, v1, v2, v3]) (by rw [n24]; rfl) g0
    obtain ⟨z1, e1, _⟩ := DataW.trod_bool Tryz.underlying4 g1
    obtain ⟨z2, e2, _⟩ := DataW.trod_bool Tryz.underlying4 g2
    obtain ⟨z3, e3, _, w3⟩ := DataW.trod_int Tryz.underlying3 g3
    obtain ⟨k, m, ln, s, hi, e4⟩ := inode_of (cs := #[v7, v8, v9, v10]) (by rw [n26]; rfl) g4
    obtain ⟨z5, e5, _, w5⟩ := DataW.trod_int Tryz.underlying24 g5
    obtain ⟨q, hq, e6⟩ := patch_of (cs := r.toArray) (by rw [n29]; simpa using hr) g6
    simp only [List.cons.injEq, and_true] at e1 e2 e3 e5
    simp only [plCells, Array.mk.injEq, List.cons.injEq, and_true] at e0
    simp only [inoV, Array.mk.injEq, List.cons.injEq, and_true] at e4
    have e6' : r = (ptC q).toList := by have := congrArg Array.toList e6; simpa using this
    obtain ⟨a0, a1⟩ := bounds_i64 w3
    obtain ⟨b0, b1⟩ := bounds_u32 w5
    refine ⟨⟨p, z1, z2, z3, k, m, ln, s, z5, q⟩, ⟨hp, a0, a1, hi, b0, b1, hq⟩, ?_⟩
    obtain ⟨e00, e01, e02, e03⟩ := e0
    obtain ⟨e40, e41, e42, e43⟩ := e4
    rw [e00, e01, e02, e03, e1, e2, e3, e40, e41, e42, e43, e5, e6']
    rfl
theorem cg_of {H : Type} {enc : TypeId × Value → H} {W : World} {base : Nat} {held : Bool} {fuel : Nat} {cs : Array Value} {x : DataW H × List MemPlace} (hc : cs.size = Tryz.prog.cellsOf 56)
    (h : DataW.trod enc Tryz.prog W base (fun _ => true) held fuel 56 (Value.agg cs).cells.toList = some x) : ∃ c : Cg, CgOk c ∧ cs = cgC c := by
  obtain ⟨c, h1, h2⟩ := cg_ofL (by rw [show (Value.agg cs).cells.toList = cs.toList from rfl, Array.length_toList, hc]; kernel_rfl) h
  exact ⟨c, h1, Array.ext' h2⟩

set_option maxRecDepth 100000

/-- A slice of them. -/
def CgsAt (w : World) (a : Option Addr) (len cap : Nat) (os : List Cg) : Prop :=
  os.length = len ∧ len ≤ cap ∧ cap ≤ maxLen ∧ (∀ o ∈ os, CgOk o) ∧ (0 < len → ∃ b off, a = some ⟨b, off, none⟩ ∧ b < w.heap.size ∧ ∀ i, i < len → w.rangeAt b (off + i * 46) (cgL (os.getD i cg0)))

theorem cgs_of {H : Type} {enc : TypeId × Value → H} {W : World} {base : Nat} {held : Bool} {fuel : Nat} {a : Option Addr} {len cap : Nat} {x : DataW H × List MemPlace}
    (h : DataW.trod enc Tryz.prog W base (fun _ => true) held fuel 23 [.slice a len cap] = some x) : ∃ os, CgsAt W a len cap os := by
  rcases Deep.open_slice Tryz.underlying23 h with ⟨hcs, _⟩ | ⟨a', l, c, m, n, D, Pl, hcs, hb, hl, hm, hmm, _, hx⟩
  · simp at hcs
    obtain ⟨rfl, rfl, rfl⟩ := hcs
    exact ⟨[], rfl, Nat.le_refl _, Nat.zero_le _, by simp, fun h => by omega⟩
  · simp at hcs
    obtain ⟨rfl, rfl, rfl⟩ := hcs
    have each : ∀ i, i < len → ∃ o : Cg, CgOk o ∧ ∀ j u, (cgL o)[j]? = some u → W.cell? (a'.add (i * 46 + j)) = some u := by
      intro i hi
      obtain ⟨cs', h1, h2⟩ := hx i (by rw [hmm]; simp; omega)
      rw [show Tryz.prog.cellsOf 56 = 46 from by kernel_rfl] at h1
      obtain ⟨_, hlen, hcell⟩ := World.cells?_some h1
      obtain ⟨c, hc, er⟩ := cg_ofL hlen h2
      refine ⟨c, hc, fun j u hu => ?_⟩
      have hj : j < 46 := by
        have := (List.getElem?_eq_some_iff.1 hu).1
        rw [cgL_len hc.pt.ch.1] at this; exact this
      have q := hcell j hj
      rw [Deep.add_add] at q
      rw [q, er]
      exact hu
    have hin : Inhabited Cg := ⟨cg0⟩
    obtain ⟨f, hf⟩ := Deep.choose_lt each
    refine ⟨(List.range len).map f, by simp, hl, hm, fun o ho => ?_, fun hp => ?_⟩
    · obtain ⟨i, hi, rfl⟩ := List.mem_map.1 ho
      exact (hf i (List.mem_range.1 hi)).1
    · obtain ⟨b, off, spot⟩ := a'
      have q0 := (hf 0 hp).2 0 _ rfl
      have hspot : spot = none := by simpa [Addr.add] using World.cell?_spot q0
      subst hspot
      have hadd : ∀ j, (⟨b, off, none⟩ : Addr).add j = ⟨b, off + j, none⟩ := fun j => by unfold Addr.add; split <;> simp_all
      rw [hadd] at q0
      refine ⟨b, off, rfl, World.block_lt_of_cell? _ _ q0, fun i hi j u hu => ?_⟩
      rw [List.getD_eq_getElem?_getD, List.getElem?_map, List.getElem?_range hi] at hu
      have q := (hf i hi).2 j u hu
      rw [hadd, ← Nat.add_assoc] at q
      exact q

/-- One of the changes, while their block is as it was. -/
theorem cgs_at {w W : World} {a : Option Addr} {len cap : Nat} {os : List Cg} (h : CgsAt w a len cap os) (hb : Below w.heap.size w W) (k : Nat) (hk : k < len) : ∃ b off, a = some ⟨b, off, none⟩ ∧ CgOk (os.getD k cg0) ∧
    (Instr.loadAt 56 (.pointer (some ⟨b, off + k * 46, none⟩))).run Tryz.prog W = .ok (.agg (cgC (os.getD k cg0))) W := by
  obtain ⟨h1, h2, h3, h4, h5⟩ := h
  obtain ⟨b, off, rfl, hbl, hat⟩ := h5 (by omega)
  have hok : CgOk (os.getD k cg0) := by
    apply h4
    rw [List.getD_eq_getElem?_getD, List.getElem?_eq_getElem (by omega)]
    exact List.getElem_mem _
  refine ⟨b, off, rfl, hok, ?_⟩
  have hr : W.rangeAt b (off + k * 46) (cgL (os.getD k cg0)) := fun j u hu => (World.cell?_of_block (hb.block b hbl)).trans (hat k hk j u hu)
  exact run_loadAt_mid (P := Tryz.prog) W b (off + k * 46) 56 _ _ hr Tryz.underlying56 rfl (by rw [cgL_len hok.pt.ch.1]; exact size_cg)
theorem CgsAt.below {w W : World} {a : Option Addr} {len cap : Nat} {os : List Cg} (h : CgsAt w a len cap os) (hb : Below w.heap.size w W) : CgsAt W a len cap os := by
  obtain ⟨h1, h2, h3, h4, h5⟩ := h
  refine ⟨h1, h2, h3, h4, fun hp => ?_⟩
  obtain ⟨b, off, e, hbl, hat⟩ := h5 hp
  exact ⟨b, off, e, Nat.lt_of_lt_of_le hbl hb.size, fun i hi j u hu => (World.cell?_of_block (hb.block b hbl)).trans (hat i hi j u hu)⟩

open Go.RowKit Go.Maps
set_option maxRecDepth 100000

theorem CgAt.keepX {q : Nat} {w w' : World} {g : Nat} {c : Cg} (h : CgAt w g c) (hne : g ≠ q) (k : KeepX q w w') : CgAt w' g c := ⟨(k.block g h.lt hne).trans h.row⟩

/-- What deltas tells. -/
def DltOut (w : World) (e : Ending) (w' : World) : Prop :=
  ∃ p b q s xs, e = .returned (.tuple #[.pointer (some ⟨p, 0, none⟩), .pointer (some ⟨q, 0, none⟩)]) ∧ Both w.heap.size w w' p b q s xs ∧ xs.length ≤ 80 ∧ CksOk s

set_option maxHeartbeats 8000000 in
theorem deltas_any (w : World) (a : Option Addr) (len cap : Nat) (os : List Cg) (ho : CgsAt w a len cap os) : Calls Tryz.prog 10 #[.slice a len cap] w fun e w' => DltOut w e w' := by
  have hlc := ho.2.1
  have hcm := ho.2.2.1
  unfold maxLen at hcm
  have HO : Hid (CgsAt w a len cap os) := ho
  clear ho
  have hz := zeroCg
  have len0 : cg0.pt.bytes.length = 32 := cg0_ok.pt.ch.1
  have cn := DlN.new w 64 (by decide)
  go_enter Tryz.func10, Tryz.ntmps10
  go_wp2_with fail
  refine cn.mono ?_
  rintro e w2 ⟨p, b, rfl, hD2, hnb⟩
  clear cn
  have cx := xnew_any w2 64
  go_wp2_with fail
  refine cx.mono ?_
  rintro e w3 ⟨rfl, hX3, hb3⟩
  clear cx
  have hq2 := hD2.le
  have HE : Hid (Both w.heap.size w w3 p b w2.heap.size (newS 64) []) := ⟨hD2.below hb3, ⟨_, hX3⟩, hq2, Rel.new 64⟩
  obtain ⟨q, hq⟩ : ∃ q, w2.heap.size = q := ⟨_, rfl⟩
  rw [hq] at HE
  rw [hq]
  clear hX3 hD2 hnb hq2 hq hb3
  go_wp2_with fail
  go_loopw [6, 7, 12] (fun _ _ t wr => ∃ (k : Nat) (s : Dl) (xs : List Cg), k ≤ len ∧ t = .int .i64 k ∧ Hid (xs.length ≤ k) ∧ Hid (xs.length ≤ 80) ∧ Hid (CksOk s) ∧ Hid (Both w.heap.size w wr p b q s xs)) (fun _ _ t _ => len - (intOf t).toNat)
  case atStart => exact ⟨0, newS 64, [], Nat.zero_le _, rfl, Nat.le_refl _, Nat.zero_le _, (show CksOk (newS 64) from fun c hc => by cases hc), HE⟩
  case round =>
    clear HE
    obtain ⟨k, s, xs, hk, rfl, HK, H80, HPO, HB⟩ := hrel
    have hB : Below w.heap.size w wr := HB.out.d.bel
    have hkx := HK.out
    have hk8 := H80.out
    have hlL := HB.out.r.lenL HB.out.ok
    by_cases hlt : k < len
    · have hltI : (k : Int) < len := by omega
      obtain ⟨bk, off, rfl, hok, hld⟩ := cgs_at HO.out hB k hlt
      obtain ⟨o, hoe⟩ : ∃ o, os.getD k cg0 = o := ⟨_, rfl⟩
      rw [hoe] at hok hld
      clear hoe
      have HL : Hid (o.pt.bytes.length = 32) := hok.pt.ch.1
      have HLD : Hid _ := hld
      clear hld
      have hz3 := CgAt.laid wr cg0
      have hb3 := alloc_row (A := wr) (.cells (cgC cg0) 56) (cgC o)
      have hd3 := hz3.setRow o
      obtain ⟨w4, hw4⟩ : ∃ w4, (wr.alloc (.cells (cgC cg0) 56)).setRow wr.heap.size (cgC o) = w4 := ⟨_, rfl⟩
      rw [hw4] at hb3 hd3
      have HB4 : Hid (Both w.heap.size w w4 p b q s xs) := HB.out.below hb3
      have nq3 : wr.heap.size ≠ q := fun e => by obtain ⟨v, hv⟩ := HB.out.x; have := hv.lt; omega
      have NQ : Hid (wr.heap.size ≠ q) := nq3
      have HD4 : Hid (CgAt w4 wr.heap.size o) := hd3
      have l4 : Hid _ := hd3.load HL.out
      clear nq3 hd3
      by_cases h80 : k < 80
      · have h80I : (k : Int) < 80 := by omega
        have cd := HB4.out.dput (by omega) (by omega) o hok
        go_wp2_with (first
          | (refine wpList_loadG rfl 56 _ rfl _ rfl _ HLD.out ?_)
          | (refine wpList_storeG rfl _ _ rfl wr.heap.size o cg0 rfl rfl HL.out len0 hz3 ?_; rw [hw4])
          | (refine wpList_loadG rfl 56 _ rfl _ rfl _ l4.out ?_))
        refine cd.mono ?_
        rintro e w5 ⟨rfl, hH5, hK5⟩
        clear cd
        have hd5 := HD4.out.keepD HB4.out.d hK5
        have l5 : Hid _ := hd5.load HL.out
        have cx := Half.xput o hok hH5 (by omega) (by omega)
        clear l4 hz3 hw4
        go_wp2_with (refine wpList_loadG rfl 56 _ rfl _ rfl _ l5.out ?_)
        refine cx.mono ?_
        rintro e w6 ⟨rfl, ⟨xs', hB6, hl6⟩, hK6⟩
        clear cx
        have HB6 : Hid _ := hB6
        have HC6 : Hid _ := HPO.out.put o
        go_wp2_with fail
        go_roundw
        case rel => exact ⟨k + 1, putS s o, xs', by omega, by go_num, (show xs'.length ≤ k + 1 by omega), (show xs'.length ≤ 80 by omega), HC6, HB6⟩
        case measure => simp [intOf]; omega
      · have h80I : ¬ (k : Int) < 80 := by omega
        go_wp2_with (first
          | (refine wpList_loadG rfl 56 _ rfl _ rfl _ HLD.out ?_)
          | (refine wpList_storeG rfl _ _ rfl wr.heap.size o cg0 rfl rfl HL.out len0 hz3 ?_; rw [hw4]))
        go_roundw
        case rel => exact ⟨k + 1, s, xs, by omega, by go_num, (show xs.length ≤ k + 1 by omega), H80, HPO, HB4⟩
        case measure => simp [intOf]; omega
    · obtain rfl : k = len := by omega
      have hltI : ¬ (k : Int) < k := by omega
      go_wp2
      go_ret2
      exact ⟨p, b, q, s, xs, rfl, HB.out, H80.out, HPO.out⟩

end Go.Proofs.YtjlglnhmkheidaaGreat
