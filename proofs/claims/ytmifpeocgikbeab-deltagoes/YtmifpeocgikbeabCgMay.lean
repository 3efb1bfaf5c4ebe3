/- The contracts of delta.recordMayBe, fieldsMayBe, entryMayBe, dataMayBe. -/
import Derived.Test.YtmifpeocgikbeabCgPart
import Derived.Test.YtmifpeocgikbeabPCheck2
namespace Go.Proofs.Ytmifpeocgikbeab
open Go.RowKit
set_option linter.unusedVariables false
set_option linter.unusedSimpArgs false
set_option maxRecDepth 100000

def goneC (p : Pl) : Cg := ⟨p, true, false, 0, 0, 0, 0, 0, 0, pt0⟩
def freshC (p : Pl) (k m l s : Int) : Cg := ⟨p, false, true, 0, k, m, l, s, 0, pt0⟩
def fieldsC (p : Pl) (f k m l s : Int) : Cg := ⟨p, false, false, f, k, m, l, s, 0, pt0⟩
def entC (p : Pl) (t : Int) : Cg := ⟨p, false, false, 0, 0, 0, 0, 0, t, pt0⟩
def dataC (p : Pl) (q : Pt) : Cg := ⟨p, false, false, 0, 0, 0, 0, 0, 0, q⟩
theorem bt_gone (p : Pl) : Try.prog.built 37 [(0, plV p), (1, .bool true)] = some (cgC (goneC p)) := built_gone p
theorem bt_fresh (p : Pl) (k m l s : Int) : Try.prog.built 37 [(0, plV p), (2, .bool true), (4, .agg #[.int .i64 k, .int .i64 m, .int .i64 l, .int .i64 s])] = some (cgC (freshC p k m l s)) := built_fresh_ p k m l s
theorem bt_fields (p : Pl) (f k m l s : Int) : Try.prog.built 37 [(0, plV p), (3, .int .i64 f), (4, .agg #[.int .i64 k, .int .i64 m, .int .i64 l, .int .i64 s])] = some (cgC (fieldsC p f k m l s)) := built_fields p f k m l s
theorem bt_ent (p : Pl) (t : Int) : Try.prog.built 37 [(0, plV p), (5, .int .u32 t)] = some (cgC (entC p t)) := built_ent p t
theorem bt_data (p : Pl) {q : Pt} (hq : q.bytes.length = 32) : Try.prog.built 37 [(0, plV p), (6, .agg (ptC q))] = some (cgC (dataC p q)) := built_data p hq
theorem len0 : pt0.bytes.length = 32 := ch_zero.1

def fieldsOk (c : Cg) : Bool := if c.fields < 1 then false else if c.fields > 7 then false else cgEq c (fieldsC c.pl c.fields 0 (wM c 0) (wL c 0) (wS c 0)) && inoOk 1 (wM c 0) (wL c 1) (wS c 0)
def recOk (c : Cg) : Bool := if c.fresh then cgEq c (freshC c.pl c.kind c.mode c.links c.size) && inoOk c.kind c.mode c.links c.size else fieldsOk c
def entOk (c : Cg) : Bool := cgEq c (entC c.pl c.to) && c.to != 0
def datOk (c : Cg) : Bool := cgEq c (dataC c.pl (trimP c.pt))

/-- One change in a variable of its own. -/
structure OneS (w W : World) (c : Cg) : Prop where
  c : CgAt W w.heap.size c
  bel : Below w.heap.size w W
theorem one_laid (w : World) (c : Cg) : OneS w (w.alloc (.cells (cgC c) 37)) c := ⟨CgAt.laid w c, (Below.refl _ w).alloc (Nat.le_refl _) _⟩

set_option maxHeartbeats 2000000 in
theorem fieldsMayBe_any (w : World) (c : Cg) (h : CgOk c) : Calls Try.prog 64 #[.agg (cgC c)] w fun e w' => e = .returned (.bool (fieldsOk c)) ∧ Below w.heap.size w w' := by
  have HL : Hid (c.pt.bytes.length = 32) := h.pt.ch.1
  have hS := one_laid w c
  obtain ⟨w1, hw1⟩ : ∃ w1, w.alloc (.cells (cgC c) 37) = w1 := ⟨_, rfl⟩
  rw [hw1] at hS
  have c6 := hS.c.c6
  have hl1 : Hid _ := hS.c.load HL.out
  unfold fieldsOk
  by_cases h1 : c.fields < 1
  · rw [if_pos h1]
    go_enter Try.func64, Try.ntmps64
    go_wp2
    go_ret
    exact ⟨rfl, hS.bel⟩
  rw [if_neg h1]
  by_cases h7 : c.fields > 7
  · rw [if_pos h7]
    go_enter Try.func64, Try.ntmps64
    go_wp2
    go_ret
    exact ⟨rfl, hS.bel⟩
  rw [if_neg h7]
  go_enter Try.func64, Try.ntmps64
  go_wp2_with (refine wpList_loadG rfl 37 _ rfl _ rfl _ hl1.out ?_)
  refine (with_any _ 0 0 0 0 c).mono ?_
  rintro e w2 ⟨rfl, hb2⟩
  have hc2 := hS.c.below hb2
  have hB2 : Below w.heap.size w w2 := hS.bel.trans (hb2.mono hS.bel.size)
  have HX : Hid (w1.heap.size ≤ w2.heap.size) := hb2.size
  have hlt : w.heap.size < w2.heap.size := hc2.lt
  obtain ⟨w3, hw3⟩ : ∃ w3, w2.alloc (.cells #[.int .i64 0, .int .i64 (wM c 0), .int .i64 (wL c 0), .int .i64 (wS c 0)] 32) = w3 := ⟨_, rfl⟩
  have hc3 : CgAt w3 w.heap.size c := by rw [← hw3]; exact hc2.below ((Below.refl _ _).alloc (Nat.le_refl _) _)
  have hi3 : InRow w3 w2.heap.size 0 (wM c 0) (wL c 0) (wS c 0) := by rw [← hw3]; exact ⟨heap_alloc_new _ _⟩
  have hB3 : Below w.heap.size w w3 := by rw [← hw3]; exact hB2.alloc (Nat.le_of_lt hlt) _
  have hl3 : Hid _ := hc3.load HL.out
  go_wp2_with (refine wpList_loadG rfl 37 _ rfl _ rfl _ hl3.out ?_)
  refine (with_any _ 1 0 1 0 c).mono ?_
  rintro e w4 ⟨rfl, hb4⟩
  have hc4 := hc3.below hb4
  have hi4 := hi3.below hb4
  have hB4 : Below w.heap.size w w4 := hB3.trans (hb4.mono hB3.size)
  have hlt4 : w.heap.size < w4.heap.size := hc4.lt
  have al4 : ∀ o, Below w4.heap.size w4 (w4.alloc o) := fun o => (Below.refl _ _).alloc (Nat.le_refl _) o
  obtain ⟨w5, hw5⟩ : ∃ w5, w4.alloc (.cells #[.int .i64 1, .int .i64 (wM c 0), .int .i64 (wL c 1), .int .i64 (wS c 0)] 32) = w5 := ⟨_, rfl⟩
  have hc5 : CgAt w5 w.heap.size c := by rw [← hw5]; exact hc4.below (al4 _)
  have hi5 : InRow w5 w2.heap.size 0 (wM c 0) (wL c 0) (wS c 0) := by rw [← hw5]; exact hi4.below (al4 _)
  have hj5 : InRow w5 w4.heap.size 1 (wM c 0) (wL c 1) (wS c 0) := by rw [← hw5]; exact ⟨heap_alloc_new _ _⟩
  have hB5 : Below w.heap.size w w5 := by rw [← hw5]; exact hB4.alloc (Nat.le_of_lt hlt4) _
  have hl5 : Hid _ := hc5.load HL.out
  have hp5 : Hid _ := hc5.loadP
  have hi5' : Hid _ := hi5.load
  have hj5' : Hid _ := hj5.load
  have d6 := hc5.c6
  have heq := fun W => eq_cgs W (x := c) (y := fieldsC c.pl c.fields 0 (wM c 0) (wL c 0) (wS c 0)) HL.out len0
  cases hq : cgEq c (fieldsC c.pl c.fields 0 (wM c 0) (wL c 0) (wS c 0))
  · rw [hq] at heq
    go_wp2_with (first
      | (refine wpList_loadG rfl 37 _ rfl _ rfl _ hl5.out ?_)
      | (refine wpList_loadG rfl 25 _ rfl _ rfl _ hp5.out ?_)
      | (refine wpList_loadG rfl 32 _ rfl _ rfl _ hi5'.out ?_)
      | (refine wpList_buildBy rfl 37 _ rfl _ rfl [(0, plV c.pl), (3, .int .i64 c.fields), (4, .agg #[.int .i64 0, .int .i64 (wM c 0), .int .i64 (wL c 0), .int .i64 (wS c 0)])] (by kernel_rfl) _ (bt_fields c.pl c.fields 0 (wM c 0) (wL c 0) (wS c 0)) ?_))
    go_ret
    exact ⟨by rw [hq]; rfl, hB5⟩
  · rw [hq] at heq
    go_wp2_with (first
      | (refine wpList_loadG rfl 37 _ rfl _ rfl _ hl5.out ?_)
      | (refine wpList_loadG rfl 25 _ rfl _ rfl _ hp5.out ?_)
      | (refine wpList_loadG rfl 32 _ rfl _ rfl _ hi5'.out ?_)
      | (refine wpList_loadG rfl 32 _ rfl _ rfl _ hj5'.out ?_)
      | (refine wpList_buildBy rfl 37 _ rfl _ rfl [(0, plV c.pl), (3, .int .i64 c.fields), (4, .agg #[.int .i64 0, .int .i64 (wM c 0), .int .i64 (wL c 0), .int .i64 (wS c 0)])] (by kernel_rfl) _ (bt_fields c.pl c.fields 0 (wM c 0) (wL c 0) (wS c 0)) ?_))
    refine (checkInode_any _ 1 (wM c 0) (wL c 1) (wS c 0)).mono ?_
    rintro e w6 ⟨rfl, hb6⟩
    have hB6 : Below w.heap.size w w6 := hB5.trans (hb6.mono hB5.size)
    cases hi : inoOk 1 (wM c 0) (wL c 1) (wS c 0)
    · rw [inoE_11 hi]
      go_wp2
      go_ret
      exact ⟨by rw [hq, hi]; rfl, hB6⟩
    · rw [inoE_0 hi]
      go_wp2
      go_ret
      exact ⟨by rw [hq, hi]; rfl, hB6⟩

end Go.Proofs.Ytmifpeocgikbeab
