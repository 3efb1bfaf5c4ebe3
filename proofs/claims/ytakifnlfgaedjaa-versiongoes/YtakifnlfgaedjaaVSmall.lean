/- The contracts of version's New, Trunk, Window, Next, and of the law's places. -/
import Derived.Test.YtakifnlfgaedjaaVBase
import Derived.Test.YtakifnlfgaedjaaWSink
import Derived.BigQuiet
import Derived.Deep.QuietTactic
namespace Go.Proofs.Ytakifnlfgaedjaa
open Go.RowKit
set_option linter.unusedVariables false
set_option linter.unusedSimpArgs false
set_option maxRecDepth 4000

def ptrR (p : Nat) : Value := .pointer (some ⟨p, 0, none⟩)
def newR (root ver : Int) : Rg := ⟨⟨root, ver, 0⟩, 0, 0, []⟩

set_option maxHeartbeats 400000 in
theorem new_any (w : World) (root ver : Int) : Calls Try.prog 8 #[.int .u32 root, .int .u64 ver] w fun e w' => e = .returned (ptrR w.heap.size) ∧ RgAt w.heap.size w' w.heap.size (.slice none 0 0) (newR root ver) ∧ Below w.heap.size w w' := by
  go_enter Try.func8, Try.ntmps8
  go_wp2
  go_ret
  exact ⟨rfl, ⟨heap_alloc_new w _, World.ownsRow_nil _ _ _ _⟩, (Below.refl _ _).alloc (Nat.le_refl _) _⟩

theorem new_ok (root ver : Int) : RgOk (newR root ver) := ⟨List.Pairwise.nil, (fun x hx => by cases hx), Nat.zero_le _⟩

set_option maxHeartbeats 400000 in
theorem trunk_any {B : Nat} {w : World} {p : Nat} {v : Value} {s : Rg} (h : RgAt B w p v s) : Calls Try.prog 21 #[ptrR p] w fun e w' => e = .returned (.tuple #[.int .u32 s.t.root, .int .u64 s.t.ver]) ∧ ∃ q, w' = w.drewN q := by
  have c0 : w.cell? ⟨p, 0, none⟩ = some (.int .u32 s.t.root) := h.cell 0 _ rfl
  have c1 : w.cell? ⟨p, 1, none⟩ = some (.int .u64 s.t.ver) := h.cell 1 _ rfl
  clear h
  unfold ptrR
  go_enter Try.func21, Try.ntmps21
  go_wp2_with fail
  go_quiet (fail)
  go_wp2
  go_ret2
  exact ⟨rfl, _, rfl⟩

def winR (s : Rg) : Int := wrap64 (s.t.chg - s.base)

set_option maxHeartbeats 400000 in
theorem window_any {B : Nat} {w : World} {p : Nat} {v : Value} {s : Rg} (h : RgAt B w p v s) : Calls Try.prog 24 #[ptrR p] w fun e w' => e = .returned (.int .i64 (winR s)) ∧ ∃ q, w' = w.drewN q := by
  have c0 : w.cell? ⟨p, 2, none⟩ = some (.int .i64 s.t.chg) := h.cell 2 _ rfl
  have c1 : w.cell? ⟨p, 3, none⟩ = some (.int .i64 s.base) := h.cell 3 _ rfl
  clear h
  unfold ptrR winR
  go_enter Try.func24, Try.ntmps24
  go_wp2_with fail
  go_quiet (fail)
  go_wp2
  go_ret
  exact ⟨rfl, _, rfl⟩

/-- At most so many places. -/
def plN (n : Int) : Int := if n < 0 then n else n % 100000

theorem places_any (w : World) (n : Int) : Calls Try.prog 15 #[.int .i64 n] w fun e w' => e = .returned (.int .i64 (plN n)) ∧ w' = w := by
  unfold plN
  by_cases h : n < 0
  · rw [if_pos h]
    go_enter Try.func15, Try.ntmps15
    go_wp2
    go_ret
    exact ⟨rfl, rfl⟩
  · rw [if_neg h]
    go_enter Try.func15, Try.ntmps15
    go_wp2
    go_ret
    exact ⟨rfl, rfl⟩

def nextR (s : Rg) (root n : Int) : Rg := if n < 0 then s else ⟨⟨root, (s.t.ver + 1) % 18446744073709551616, wrap64 (s.t.chg + n)⟩, s.base, s.last, s.opn⟩
def nextE (n : Int) : Int := if n < 0 then 1 else 0

set_option maxHeartbeats 2000000 in
theorem next_any {B : Nat} {w : World} {p : Nat} {v : Value} {s : Rg} (h : RgAt B w p v s) (root n : Int) : Calls Try.prog 14 #[ptrR p, .int .u32 root, .int .i64 n] w fun e w' => e = .returned (.int .i64 (nextE n)) ∧ RgAt B w' p v (nextR s root n) ∧ Sole [p] w w' := by
  unfold ptrR nextR nextE
  by_cases hn : n < 0
  · rw [if_pos hn, if_pos hn]
    have H : Hid (RgAt B w p v s) := h
    clear h
    go_enter Try.func14, Try.ntmps14
    go_wp2
    go_ret
    exact ⟨rfl, H.out, Sole.refl _ _⟩
  · rw [if_neg hn, if_neg hn]
    have H : Hid (RgAt B w p v s) := h
    have hrow := h.row
    have hp := h.lt
    have q1 : ∀ W, Sole [] w W → W.cell? ⟨p, 1, none⟩ = some (.int .u64 s.t.ver) := fun W hW => (hW.below.cell (p := ⟨p, 1, none⟩) hp).trans (h.cell 1 _ rfl)
    have q2 : ∀ W, Sole [] w W → W.cell? ⟨p, 2, none⟩ = some (.int .i64 s.t.chg) := fun W hW => (hW.below.cell (p := ⟨p, 2, none⟩) hp).trans (h.cell 2 _ rfl)
    have HR : Hid _ := hrow
    clear h hrow
    go_enter Try.func14, Try.ntmps14
    go_wp2_with fail
    refine wp_region_noPanic ?_
    refine wp_region_sink 18 (S := fun W => Sole [] w W) (by kernel_rfl) (by kernel_rfl) (Sole.drew _ _) (fun hHeld => ?_)
    refine wpAnyH_take (i := 0) (v := .pointer (some ⟨p, 0, none⟩)) rfl (by kernel_rfl) (by kernel_rfl) (by kernel_rfl) (fun _ _ _ h => h) (Or.inl ⟨by rfl, fun W hSw => by (try dsimp only at hSw); go_simp⟩) (by assumption) ?_
    simp only [List.getElem_toArray, List.getElem_cons_zero, List.getElem_cons_succ, Act.put, List.setIfInBounds_toArray, List.set_cons_zero, List.set_cons_succ]
    refine wpAnyH_take (i := 1) (v := .int .u32 root) rfl (by kernel_rfl) (by kernel_rfl) (by kernel_rfl) (fun _ _ _ h => h) (Or.inl ⟨by rfl, fun W hSw => by (try dsimp only at hSw); go_simp⟩) (by assumption) ?_
    simp only [List.getElem_toArray, List.getElem_cons_zero, List.getElem_cons_succ, Act.put, List.setIfInBounds_toArray, List.set_cons_zero, List.set_cons_succ]
    refine wpAnyH_take (i := 2) (v := .pointer (some ⟨p, 0, none⟩)) rfl (by kernel_rfl) (by kernel_rfl) (by kernel_rfl) (fun _ _ _ h => h) (Or.inl ⟨by rfl, fun W hSw => by (try dsimp only at hSw); go_simp⟩) (by assumption) ?_
    simp only [List.getElem_toArray, List.getElem_cons_zero, List.getElem_cons_succ, Act.put, List.setIfInBounds_toArray, List.set_cons_zero, List.set_cons_succ]
    refine wpAnyH_take (i := 3) (v := .pointer (some ⟨p, 0, none⟩)) rfl (by kernel_rfl) (by kernel_rfl) (by kernel_rfl) (fun _ _ _ h => h) (Or.inl ⟨by rfl, fun W hSw => by (try dsimp only at hSw); go_simp⟩) (by assumption) ?_
    simp only [List.getElem_toArray, List.getElem_cons_zero, List.getElem_cons_succ, Act.put, List.setIfInBounds_toArray, List.set_cons_zero, List.set_cons_succ]
    refine wpAnyH_take (i := 4) (v := .pointer (some ⟨p, 0, none⟩)) rfl (by kernel_rfl) (by kernel_rfl) (by kernel_rfl) (fun _ _ _ h => h) (Or.inl ⟨by rfl, fun W hSw => by (try dsimp only at hSw); go_simp⟩) (by assumption) ?_
    simp only [List.getElem_toArray, List.getElem_cons_zero, List.getElem_cons_succ, Act.put, List.setIfInBounds_toArray, List.set_cons_zero, List.set_cons_succ]
    refine wpAnyH_take (i := 5) (v := .pointer (some ⟨p, 1, none⟩)) rfl (by kernel_rfl) (by kernel_rfl) (by kernel_rfl) (fun _ _ _ h => h) (Or.inl ⟨by rfl, fun W hSw => by (try dsimp only at hSw); go_simp⟩) (by assumption) ?_
    simp only [List.getElem_toArray, List.getElem_cons_zero, List.getElem_cons_succ, Act.put, List.setIfInBounds_toArray, List.set_cons_zero, List.set_cons_succ]
    refine wpAnyH_take (i := 6) (v := .int .u64 s.t.ver) rfl (by kernel_rfl) (by kernel_rfl) (by kernel_rfl) (fun _ _ _ h => h) (Or.inl ⟨by rfl, fun W hSw => by (try dsimp only at hSw); go_simp⟩) (by assumption) ?_
    simp only [List.getElem_toArray, List.getElem_cons_zero, List.getElem_cons_succ, Act.put, List.setIfInBounds_toArray, List.set_cons_zero, List.set_cons_succ]
    refine wpAnyH_take (i := 7) (v := .int .u64 ((s.t.ver + 1) % 18446744073709551616)) rfl (by kernel_rfl) (by kernel_rfl) (by kernel_rfl) (fun _ _ _ h => h) (Or.inl ⟨by rfl, fun W hSw => by (try dsimp only at hSw); (go_simp <;> exact IntKind.wrap_u64 _)⟩) (by assumption) ?_
    simp only [List.getElem_toArray, List.getElem_cons_zero, List.getElem_cons_succ, Act.put, List.setIfInBounds_toArray, List.set_cons_zero, List.set_cons_succ]
    refine wpAnyH_take (i := 8) (v := .pointer (some ⟨p, 0, none⟩)) rfl (by kernel_rfl) (by kernel_rfl) (by kernel_rfl) (fun _ _ _ h => h) (Or.inl ⟨by rfl, fun W hSw => by (try dsimp only at hSw); go_simp⟩) (by assumption) ?_
    simp only [List.getElem_toArray, List.getElem_cons_zero, List.getElem_cons_succ, Act.put, List.setIfInBounds_toArray, List.set_cons_zero, List.set_cons_succ]
    refine wpAnyH_take (i := 9) (v := .pointer (some ⟨p, 0, none⟩)) rfl (by kernel_rfl) (by kernel_rfl) (by kernel_rfl) (fun _ _ _ h => h) (Or.inl ⟨by rfl, fun W hSw => by (try dsimp only at hSw); go_simp⟩) (by assumption) ?_
    simp only [List.getElem_toArray, List.getElem_cons_zero, List.getElem_cons_succ, Act.put, List.setIfInBounds_toArray, List.set_cons_zero, List.set_cons_succ]
    refine wpAnyH_take (i := 10) (v := .pointer (some ⟨p, 0, none⟩)) rfl (by kernel_rfl) (by kernel_rfl) (by kernel_rfl) (fun _ _ _ h => h) (Or.inl ⟨by rfl, fun W hSw => by (try dsimp only at hSw); go_simp⟩) (by assumption) ?_
    simp only [List.getElem_toArray, List.getElem_cons_zero, List.getElem_cons_succ, Act.put, List.setIfInBounds_toArray, List.set_cons_zero, List.set_cons_succ]
    refine wpAnyH_take (i := 11) (v := .pointer (some ⟨p, 2, none⟩)) rfl (by kernel_rfl) (by kernel_rfl) (by kernel_rfl) (fun _ _ _ h => h) (Or.inl ⟨by rfl, fun W hSw => by (try dsimp only at hSw); go_simp⟩) (by assumption) ?_
    simp only [List.getElem_toArray, List.getElem_cons_zero, List.getElem_cons_succ, Act.put, List.setIfInBounds_toArray, List.set_cons_zero, List.set_cons_succ]
    refine wpAnyH_take (i := 12) (v := .int .i64 s.t.chg) rfl (by kernel_rfl) (by kernel_rfl) (by kernel_rfl) (fun _ _ _ h => h) (Or.inl ⟨by rfl, fun W hSw => by (try dsimp only at hSw); go_simp⟩) (by assumption) ?_
    simp only [List.getElem_toArray, List.getElem_cons_zero, List.getElem_cons_succ, Act.put, List.setIfInBounds_toArray, List.set_cons_zero, List.set_cons_succ]
    refine wpAnyH_take (i := 13) (v := .int .i64 n) rfl (by kernel_rfl) (by kernel_rfl) (by kernel_rfl) (fun _ _ _ h => h) (Or.inl ⟨by rfl, fun W hSw => by (try dsimp only at hSw); go_simp⟩) (by assumption) ?_
    simp only [List.getElem_toArray, List.getElem_cons_zero, List.getElem_cons_succ, Act.put, List.setIfInBounds_toArray, List.set_cons_zero, List.set_cons_succ]
    refine wpAnyH_take (i := 14) (v := .int .i64 (wrap64 (s.t.chg + n))) rfl (by kernel_rfl) (by kernel_rfl) (by kernel_rfl) (fun _ _ _ h => h) (Or.inl ⟨by rfl, fun W hSw => by (try dsimp only at hSw); (go_simp <;> exact Go.IntWalk.i64_left _)⟩) (by assumption) ?_
    simp only [List.getElem_toArray, List.getElem_cons_zero, List.getElem_cons_succ, Act.put, List.setIfInBounds_toArray, List.set_cons_zero, List.set_cons_succ]
    refine wpAnyH_take (i := 15) (v := .agg #[.int .u32 root, .int .u64 ((s.t.ver + 1) % 18446744073709551616), .int .i64 (wrap64 (s.t.chg + n))]) rfl (by kernel_rfl) (by kernel_rfl) (by kernel_rfl) (fun _ _ _ h => h) (Or.inl ⟨by rfl, fun W hSw => by (try dsimp only at hSw); go_simp⟩) (by assumption) ?_
    simp only [List.getElem_toArray, List.getElem_cons_zero, List.getElem_cons_succ, Act.put, List.setIfInBounds_toArray, List.set_cons_zero, List.set_cons_succ]
    refine wpAnyH_take (i := 16) (v := .pointer (some ⟨p, 0, none⟩)) rfl (by kernel_rfl) (by kernel_rfl) (by kernel_rfl) (fun _ _ _ h => h) (Or.inl ⟨by rfl, fun W hSw => by (try dsimp only at hSw); go_simp⟩) (by assumption) ?_
    simp only [List.getElem_toArray, List.getElem_cons_zero, List.getElem_cons_succ, Act.put, List.setIfInBounds_toArray, List.set_cons_zero, List.set_cons_succ]
    refine wpAnyH_take (i := 17) (v := .pointer (some ⟨p, 0, none⟩)) rfl (by kernel_rfl) (by kernel_rfl) (by kernel_rfl) (fun _ _ _ h => h) (Or.inl ⟨by rfl, fun W hSw => by (try dsimp only at hSw); go_simp⟩) (by assumption) ?_
    simp only [List.getElem_toArray, List.getElem_cons_zero, List.getElem_cons_succ, Act.put, List.setIfInBounds_toArray, List.set_cons_zero, List.set_cons_succ]
    have hd := HR.out
    unfold rgC at hd
    have z0 := cell_of_row _ _ 0 _ _ (0, 0) hd
    have z1 := cell_of_row _ _ 1 _ _ (0, 0) hd
    have z2 := cell_of_row _ _ 2 _ _ (0, 0) hd
    have f0 := frozen_of_row w p 0 _ _ hd
    have f1 := frozen_of_row w p 1 _ _ hd
    have f2 := frozen_of_row w p 2 _ _ hd
    simp only [List.getElem?_toArray, List.getElem?_cons_zero, List.getElem?_cons_succ] at z0 z1 z2
    have g1 := heap_setCell_same w p 0 _ _ (.int .u32 root) hd
    simp only [List.setIfInBounds_toArray, List.set_cons_zero, List.set_cons_succ] at g1
    have g2 := heap_setCell_same _ p 1 _ _ (.int .u64 ((s.t.ver + 1) % 18446744073709551616)) g1
    simp only [List.setIfInBounds_toArray, List.set_cons_zero, List.set_cons_succ] at g2
    have g3 := heap_setCell_same _ p 2 _ _ (.int .i64 (wrap64 (s.t.chg + n))) g2
    simp only [List.setIfInBounds_toArray, List.set_cons_zero, List.set_cons_succ] at g3
    have HG : Hid _ := g3
    have hS : Sole [p] w (((w.setCell ⟨p, 0, none⟩ (.int .u32 root)).setCell ⟨p, 1, none⟩ (.int .u64 ((s.t.ver + 1) % 18446744073709551616))).setCell ⟨p, 2, none⟩ (.int .i64 (wrap64 (s.t.chg + n)))) :=
      (((Sole.setCell _ _ (by simp))).trans (Sole.setCell _ _ (by simp))).trans (Sole.setCell _ _ (by simp))
    have HS : Hid _ := hS
    clear hd g1 g2 g3 hS
    refine wpAnyH_done (by kernel_rfl) ?_ _
    refine Behind.run (by rfl) ?_
    go_simp
    go_wp2
    refine NoPanic.normal ?_
    go_wp2
    go_ret
    have hap := H.out.apart
    exact ⟨rfl, ⟨HG.out, own_keep (w' := World.drew _) H.out.own HS.out.size (fun q hq hl => HS.out.block q hl (by have := (hap q hq).1; simpa using this))⟩, HS.out.trans (Sole.drew _ _)⟩

end Go.Proofs.Ytakifnlfgaedjaa
