/- DgSame, DgBoth: in one text. -/
import Derived.Test.YtjlglnhmkheidaaGreatN1
import Derived.Test.YtjlglnhmkheidaaGreatD6
import Derived.Test.YtjlglnhmkheidaaGreatM3
namespace Go.Proofs.YtjlglnhmkheidaaGreat
open Go.RowKit
set_option linter.unusedVariables false
set_option linter.unusedSimpArgs false
set_option maxRecDepth 4000

theorem putS_err {s : Dl} {c : Cg} (h : ¬ (putX s c).2 = 0) : putS s c = s := by unfold putS; rw [if_neg h]

open Go.RowKit Go.Maps
set_option maxRecDepth 100000

theorem XdAt.keepD {B : Nat} {w0 w w' : World} {p b q : Nat} {v : Value} {M : Int} {xs : List Cg} {s : Dl} (h : XdAt w q v M xs) (hd : DlN B w0 w p b s) (k : KeepD b w w') : XdAt w' q v M xs := by
  obtain ⟨u, h1, _⟩ := hd.d
  obtain ⟨e0, cl, hm⟩ := h1.mp.isMap
  refine h.keep k.size (k.block q h.lt (fun hb => ?_)) (fun g hg => ?_)
  · rcases hb with e | ⟨cs, fr, e⟩ | ⟨cs, fr, e⟩
    · have := h.row; rw [e, hm] at this; cases this
    · have := h.row; rw [e] at this; cases this
    · have := h.row; rw [e] at this; cases this
  · obtain ⟨cs', e'⟩ := own_row h.at_ hg
    refine k.block g (World.ownsRow.lt h.at_ g hg).2 (fun hb => ?_)
    rcases hb with e | ⟨cs, fr, e⟩ | ⟨cs, fr, e⟩
    · rw [e, hm] at e'; cases e'
    · rw [e] at e'; cases e'
    · rw [e] at e'; cases e'

theorem DlN.keepX {B : Nat} {w0 w w' : World} {p b q : Nat} {v : Value} {M : Int} {xs : List Cg} {s : Dl} (h : DlN B w0 w p b s) (hx : XdAt w q v M xs) (hq : B ≤ q) (k : KeepX q w w') : DlN B w0 w' p b s := by
  obtain ⟨u, h1, h2⟩ := h.d
  obtain ⟨e0, cl, hm⟩ := h1.mp.isMap
  have hr := hx.row
  refine ⟨⟨k.os.trans h.bel.os, k.tape.trans h.bel.tape, k.output.trans h.bel.output, Nat.le_trans h.bel.size k.size, fun j hj => (k.block j (Nat.lt_of_lt_of_le hj h.le) (by omega)).trans (h.bel.block j hj)⟩, Nat.le_trans h.le k.size, ⟨u, ?_, h2⟩, h.p, h.b⟩
  refine ⟨(k.block p h1.lt (fun e => ?_)).trans h1.row, h1.mp.keep (k.block b h1.mp.lt (fun e => ?_)), own_keep h1.pus k.size (fun g hg hl => k.block g hl (fun e => ?_)), h1.ok⟩
  · have := h1.row; rw [e, hr] at this; cases this
  · rw [e, hr] at hm; cases hm
  · obtain ⟨cs, e'⟩ := own_row h1.pus hg
    rw [e, hr] at e'; cases e'

theorem KeepX.of_sole {q : Nat} {w w' : World} (h : Sole [q] w w') : KeepX q w w' := ⟨h.os, h.tape, h.output, h.size, fun k hk hn => h.block k hk (by simpa using hn)⟩

/-- Both deltas have the same changes. -/
structure Both (B : Nat) (w0 w : World) (p b q : Nat) (s : Dl) (xs : List Cg) : Prop where
  d : DlN B w0 w p b s
  x : ∃ v, XdAt w q v s.most xs
  q : B ≤ q
  r : Rel s xs

theorem Both.below {B : Nat} {w0 w w' : World} {p b q : Nat} {s : Dl} {xs : List Cg} (h : Both B w0 w p b q s xs) (hb : Below w.heap.size w w') : Both B w0 w' p b q s xs := by
  obtain ⟨v, hv⟩ := h.x
  exact ⟨h.d.below hb, ⟨v, hv.below hb⟩, h.q, h.r⟩

theorem Both.ok {B : Nat} {w0 w : World} {p b q : Nat} {s : Dl} {xs : List Cg} (h : Both B w0 w p b q s xs) : DlOk s := by obtain ⟨v, hd, _⟩ := h.d.d; exact hd.ok

theorem Both.len {B : Nat} {w0 w : World} {p b q : Nat} {s : Dl} {xs : List Cg} (h : Both B w0 w p b q s xs) : ∃ a c, w.cell? ⟨q, 0, none⟩ = some (.slice a xs.length c) := by
  obtain ⟨v, hv⟩ := h.x
  obtain ⟨a, c, rfl⟩ := hv.shape
  exact ⟨a, c, hv.c0⟩

theorem Both.dget {B : Nat} {w0 w : World} {p b q : Nat} {s : Dl} {xs : List Cg} (h : Both B w0 w p b q s xs) (z : Pl) (hz : PlOk z) : Calls Tryz.prog 34 #[.pointer (some ⟨p, 0, none⟩), plV z] w fun e w' => e = .returned (.tuple #[.agg (cgC (wasX s z)), .bool (isX s z)]) ∧ Below w.heap.size w w' := h.d.get z hz

theorem Both.xget {B : Nat} {w0 w : World} {p b q : Nat} {s : Dl} {xs : List Cg} (h : Both B w0 w p b q s xs) (z : Pl) (hz : PlOk z) : Calls Tryz.prog 24 #[.pointer (some ⟨q, 0, none⟩), plV z] w fun e w' => e = .returned (.tuple #[.agg (cgC (wasX s z)), .bool (isX s z)]) ∧ Below w.heap.size w w' := by
  obtain ⟨v, hv⟩ := h.x
  have := xget_any hv z hz
  rw [← h.r.now z] at this
  exact this

/-- A change was put into the first one. -/
structure Half (B : Nat) (w0 w : World) (p b q : Nat) (s s' : Dl) (xs : List Cg) : Prop where
  d : DlN B w0 w p b s'
  x : ∃ v, XdAt w q v s.most xs
  q : B ≤ q
  r : Rel s xs
  ok : DlOk s

theorem Both.dput {B : Nat} {w0 w : World} {p b q : Nat} {s : Dl} {xs : List Cg} (h : Both B w0 w p b q s xs) (hm : xs.length ≤ 1000) (hL : s.L.length ≤ 1000) (c : Cg) (hc : CgOk c) : Calls Tryz.prog 30 #[.pointer (some ⟨p, 0, none⟩), .agg (cgC c)] w fun e w' =>
    e = .returned (.int .i64 (putX s c).2) ∧ Half B w0 w' p b q s (putS s c) xs ∧ KeepD b w w' := by
  obtain ⟨v, hv⟩ := h.x
  refine (h.d.put c hc hL (by rw [← h.r.len]; exact hm)).mono ?_
  rintro e w' ⟨rfl, h1, h2⟩
  exact ⟨rfl, ⟨h1, ⟨v, hv.keepD h.d h2⟩, h.q, h.r, h.ok⟩, h2⟩

theorem Half.xput {B : Nat} {w0 w : World} {p b q : Nat} {s : Dl} {xs : List Cg} (c : Cg) (hc : CgOk c) (h : Half B w0 w p b q s (putS s c) xs) (hm : xs.length ≤ 1000) (hL : s.L.length ≤ 1000) : Calls Tryz.prog 33 #[.pointer (some ⟨q, 0, none⟩), .agg (cgC c)] w fun e w' =>
    e = .returned (.int .i64 (putX s c).2) ∧ (∃ xs', Both B w0 w' p b q (putS s c) xs' ∧ xs'.length ≤ xs.length + 1) ∧ KeepX q w w' := by
  obtain ⟨v, hv⟩ := h.x
  refine (xput_any hv h.r h.ok rfl hm hL c hc).mono ?_
  rintro e w' ⟨rfl, v', h1, h2, _⟩
  have hd := h.d.keepX hv h.q h2
  by_cases h0 : (putX s c).2 = 0
  · rw [if_pos h0] at h1
    refine ⟨rfl, ⟨xs ++ [c], ⟨hd, ⟨v', ?_⟩, h.q, h.r.put h.ok hc h0⟩, by simp⟩, h2⟩
    rw [show (putS s c).most = s.most by unfold putS; rw [if_pos h0]]
    exact h1
  · rw [if_neg h0] at h1
    have e1 := putS_err (s := s) (c := c) h0
    rw [e1] at hd ⊢
    exact ⟨rfl, ⟨xs, ⟨hd, ⟨v', h1⟩, h.q, h.r⟩, by omega⟩, h2⟩

theorem undoS_ok {B : Nat} {w0 w : World} {p b : Nat} {s : Dl} (h : DlN B w0 w p b s) : DlOk s := by obtain ⟨v, hd, _⟩ := h.d; exact hd.ok

theorem len_sub {α : Type} [DecidableEq α] : ∀ {P Q : List α}, P.Nodup → (∀ x ∈ P, x ∈ Q) → P.length ≤ Q.length
  | [], _, _, _ => Nat.zero_le _
  | p :: P, Q, hn, hs => by
    have hp := hs p (by simp)
    have ih := len_sub (P := P) (Q := Q.erase p) (List.nodup_cons.1 hn).2 (fun x hx => (List.mem_erase_of_ne (show x ≠ p from fun e => (List.nodup_cons.1 hn).1 (by rw [← e]; exact hx))).2 (hs x (by simp [hx])))
    rw [List.length_erase_of_mem hp] at ih
    have := List.length_pos_of_mem hp
    rw [List.length_cons]
    omega

theorem Rel.lenL {s : Dl} {xs : List Cg} (h : Rel s xs) (hs : DlOk s) : s.L.length ≤ xs.length := by
  have h1 : (s.L.map (·.pl)).Nodup := List.pairwise_map.2 (hs.L.rise.imp fun h => cmp_ne h)
  have h2 := @len_sub Pl (Classical.typeDecidableEq Pl) (s.L.map (·.pl)) (xs.map (·.pl)) h1 (fun x hx => by
    obtain ⟨c, hc, rfl⟩ := List.mem_map.1 hx
    have h3 := foldX_any xs c.pl
    rw [← h.now, (getL_some hs.L.rise).2 ⟨hc, rfl⟩] at h3
    obtain ⟨y, hy, e⟩ := List.any_eq_true.1 h3.symm
    exact List.mem_map.2 ⟨y, hy, plEq_iff.1 e⟩)
  simpa using h2

theorem undoS_len (s : Dl) (m : Nat) : (undoS s m).L.length ≤ s.L.length + s.pus.length := by
  have := undoL_len (s.pus.drop m).reverse s.L
  unfold undoS
  rw [List.length_reverse, List.length_drop] at this
  dsimp only
  omega

end Go.Proofs.YtjlglnhmkheidaaGreat
