/- The contracts of version's ask (with Kept's closure) and of slices.Compact. -/
import Derived.Test.YtakifnlfgaedjaaVPdq
namespace Go.Proofs.Ytakifnlfgaedjaa
open Go.RowKit Go.Sort
set_option linter.unusedVariables false
set_option linter.unusedSimpArgs false
set_option maxRecDepth 4000

theorem Try.infoU : (Try.prog.info? 22).map (fun i => (i.zero, i.size, i.bytes)) = some (some (.int .u32 0), 1, 4) := by kernel_rfl
def u32C (l : List Int) : List Value := l.map (Value.int .u32)

set_option maxHeartbeats 1000000 in
theorem kept1_any {B : Nat} {w : World} {q : Nat} {a : Option Addr} {c : Nat} {L : List Int} (t : Tr) (hq : w.heap[q]? = some (.cells #[.slice a L.length c] 49 (0, 0))) (ho : w.ownsRow B 22 1 (.slice a L.length c) L.length (u32C L)) (hB : B ≤ w.heap.size) (hl : L.length ≤ 2000) :
    Calls Try.prog 32 #[.agg (trA t), .pointer (some ⟨q, 0, none⟩)] w fun e w' => e = .returned (.bool false) ∧ ∃ a' c', w'.heap[q]? = some (.cells #[.slice a' (L ++ [t.root]).length c'] 49 (0, 0)) ∧ w'.ownsRow B 22 1 (.slice a' (L ++ [t.root]).length c') (L ++ [t.root]).length (u32C (L ++ [t.root])) ∧ Sole (q :: (Value.slice a L.length c).ownBlock.toList) w w' ∧ ∀ k, (Value.slice a' (L ++ [t.root]).length c').ownBlock = some k → (Value.slice a L.length c).ownBlock = some k ∨ w.heap.size ≤ k := by
  obtain ⟨iU, hiU, hy0, hy1, hy2⟩ := info_parts Try.infoU
  obtain ⟨root, ver, chg⟩ := t
  unfold trA
  dsimp only
  have hql := (Array.getElem?_eq_some_iff.1 hq).1
  obtain ⟨w1, hw1⟩ : ∃ w1, w.alloc (.cells #[.int .u32 root, .int .u64 ver, .int .i64 chg] 59) = w1 := ⟨_, rfl⟩
  have hB1 : Below w.heap.size w w1 := by rw [← hw1]; exact (Below.refl _ w).alloc (Nat.le_refl _) _
  have hg1 : w1.heap[w.heap.size]? = some (.cells #[.int .u32 root, .int .u64 ver, .int .i64 chg] 59 (0, 0)) := by rw [← hw1]; exact heap_alloc_new w _
  have hz1 : w1.heap.size = w.heap.size + 1 := by rw [← hw1]; simp
  have a0 : w1.cell? ⟨w.heap.size, 0, none⟩ = some (.int .u32 root) := by rw [cell_of_row _ _ 0 _ _ (0, 0) hg1]; rfl
  have q1 := (hB1.block q hql).trans hq
  have c0 : w1.cell? ⟨q, 0, none⟩ = some (.slice a L.length c) := by rw [cell_of_row _ _ 0 _ _ (0, 0) q1]; rfl
  obtain ⟨w2, hw2⟩ : ∃ w2, w1.alloc (.cells #[.int .u32 root] 22) = w2 := ⟨_, rfl⟩
  have hB2 : Below w1.heap.size w1 w2 := by rw [← hw2]; exact (Below.refl _ w1).alloc (Nat.le_refl _) _
  have hg2 : w2.heap[w1.heap.size]? = some (.cells #[.int .u32 root] 22 (0, 0)) := by rw [← hw2]; exact heap_alloc_new w1 _
  have hB12 := thenB hB1 hB2
  have ho2 := own_below ho hB12
  have q2 := (hB12.block q hql).trans hq
  have HQ2 : Hid _ := q2
  have HZ1 : Hid (w1.heap.size = w.heap.size + 1) := hz1
  obtain ⟨RB, HRB⟩ : ∃ RB : List Nat, Hid (RB = (Value.slice a L.length c).ownBlock.toList) := ⟨_, rfl⟩
  have hnq : ∀ k, (Value.slice a L.length c).ownBlock = some k → k ≠ q := fun k hk e => row_apart (by decide) hq ho (by rw [hk, e])
  have HNQ : Hid _ := hnq
  clear hg1 q1 q2 hq ho hnq hz1
  have hs12 := hB12.size
  obtain ⟨v3, w3, hrun, h3o, h3g, _, h3a⟩ := run_append_own_at (P := Try.prog) w2 B 49 49 22 iU _ 1 4 Try.underlying49 hiU hy0 hy1 hy2 rfl (by decide) (.slice a L.length c) L.length (u32C L) ho2 ⟨w1.heap.size, 0, none⟩ 1 1 [.int .u32 root] rfl (rowAdd hg2) (by simp [Value.oneCell']) (by unfold maxLen; omega) (by omega) (by omega)
  obtain ⟨a3, c3, rfl⟩ := own_shape h3o
  have q3 := (h3g.block q (by omega) (fun e => HNQ.out q e.symm rfl)).trans HQ2.out
  have z3 : w3.cell? ⟨q, 0, none⟩ = some (.slice a L.length c) := by rw [cell_of_row _ _ 0 _ _ (0, 0) q3]; rfl
  have f3 := frozen_of_row w3 q 0 _ _ q3
  have q4 := heap_setCell_same w3 q 0 _ _ (.slice a3 (L.length + 1) c3) q3
  simp only [List.setIfInBounds_toArray, List.set_cons_zero, List.set_cons_succ] at q4
  have hS3 : Sole (q :: RB) w w3 := (Sole.of_below hB12 _).trans ⟨h3g.os, h3g.tape, h3g.output, h3g.size, fun k hk hn => h3g.block k hk (fun e => hn (List.mem_cons_of_mem _ (by rw [HRB.out, Option.mem_toList]; exact e.symm)))⟩
  have hS4 : Sole [q] w3 (w3.setCell ⟨q, 0, none⟩ (.slice a3 (L.length + 1) c3)) := Sole.setCell _ _ (by simp)
  have h3n : ∀ k, (Value.slice a3 (L.length + 1) c3).ownBlock = some k → k ≠ q := fun k hk e => row_apart (by decide) q3 h3o (by rw [hk, e])
  have HOUT : Hid ((w3.setCell ⟨q, 0, none⟩ (.slice a3 (L.length + 1) c3)).heap[q]? = some (.cells #[.slice a3 (L ++ [root]).length c3] 49 (0, 0)) ∧ (w3.setCell ⟨q, 0, none⟩ (.slice a3 (L.length + 1) c3)).ownsRow B 22 1 (.slice a3 (L ++ [root]).length c3) (L ++ [root]).length (u32C (L ++ [root])) ∧ Sole (q :: (Value.slice a L.length c).ownBlock.toList) w (w3.setCell ⟨q, 0, none⟩ (.slice a3 (L.length + 1) c3)) ∧ ∀ k, (Value.slice a3 (L ++ [root]).length c3).ownBlock = some k → (Value.slice a L.length c).ownBlock = some k ∨ w.heap.size ≤ k) := by
    have e : (L ++ [root]).length = L.length + 1 := by simp
    rw [e]
    refine ⟨q4, ?_, ?_, fun k hk => ?_⟩
    · have := own_keep h3o hS4.size (fun k hk hl => hS4.block k hl (by have := h3n k hk; simpa using this))
      simpa [u32C] using this
    · rw [← HRB.out]; exact hS3.trans (hS4.mono (by simp))
    · rcases h3a with e | e
      · rw [hk] at e; exact .inl e.symm
      · rw [hk] at e; cases e; right; omega
  clear q3 q4 hS3 hS4 h3n h3o h3g h3a ho2 hg2
  go_enter Try.func32, Try.ntmps32
  go_wp2_with (at_builtin; refine wpList_plain rfl (fun K hK => ?_); refine wp_app _ _ 49 rfl _ _ rfl rfl hrun ?_; refine hK _ _ ?_; clear hK)
  go_ret
  exact ⟨rfl, a3, c3, HOUT.out⟩

def rootsL (s : Rg) : List Int := s.opn.map (fun x => x.t.root) ++ [s.t.root]

set_option maxHeartbeats 4000000 in
theorem askK_any {B : Nat} {w : World} {p q : Nat} {v : Value} {s : Rg} (h : RgAt B w p v s) (hl : s.opn.length ≤ 1000) (hq : w.heap[q]? = some (.cells #[.slice none 0 0] 49 (0, 0))) : Calls Try.prog 31 #[ptrR p, .func (Fn.func 32) #[] #[.pointer (some ⟨q, 0, none⟩)]] w fun e w' => e = .returned (.tuple #[]) ∧ ∃ a c, w'.heap[q]? = some (.cells #[.slice a (rootsL s).length c] 49 (0, 0)) ∧ w'.ownsRow w.heap.size 22 1 (.slice a (rootsL s).length c) (rootsL s).length (u32C (rootsL s)) ∧ Sole [q] w w' := by
  obtain ⟨⟨root, ver, chg⟩, base, last, opn⟩ := s
  obtain ⟨a, c, rfl⟩ := own_shape h.own
  have c5 : w.cell? ⟨p, 5, none⟩ = some (.slice a opn.length c) := h.cell 5 _ rfl
  obtain ⟨hc1, hc2⟩ := own_cap h.own
  unfold maxLen at hc2
  have H : Hid (RgAt B w p (.slice a opn.length c) ⟨⟨root, ver, chg⟩, base, last, opn⟩) := h
  have HQ : Hid _ := hq
  have hpq : p ≠ q := by
    rintro rfl
    have := h.row
    rw [hq] at this
    simp [rgC] at this
  have hvq : ∀ k, (Value.slice a opn.length c).ownBlock = some k → k ∉ [q] := fun k hk => by
    have := row_apart (by decide) hq h.own
    simp only [List.mem_singleton]
    rintro rfl
    exact this hk
  have hql := (Array.getElem?_eq_some_iff.1 hq).1
  unfold ptrR rootsL
  dsimp only at *
  clear h hq
  obtain ⟨n, hn⟩ : ∃ n, n = opn.length := ⟨_, rfl⟩
  rw [← hn] at c5 hc1
  have HN : Hid (n = opn.length) := hn
  have hn1 : n ≤ 1000 := by omega
  clear hn hl
  go_enter Try.func31, Try.ntmps31
  go_wp2
  go_loopw [5, 11] (fun _ t wr => ∃ (j : Nat), j ≤ n ∧ t = .int .i64 j ∧ Hid (∃ (a2 : Option Addr) (c2 : Nat), wr.heap[q]? = some (.cells #[.slice a2 (opn.take j).length c2] 49 (0, 0)) ∧ wr.ownsRow w.heap.size 22 1 (.slice a2 (opn.take j).length c2) (opn.take j).length (u32C ((opn.take j).map (fun x => x.t.root)))) ∧ Sole [q] w wr) (fun _ t _ => n - (intOf t).toNat)
  case atStart => exact ⟨0, Nat.zero_le _, rfl, ⟨none, 0, by simpa using HQ.out, by simpa [u32C] using World.ownsRow_nil w w.heap.size 22 1⟩, Sole.refl _ _⟩
  case round =>
    obtain ⟨j, hj, rfl, HO, hS⟩ := hrel
    have HR : Hid (RgAt B wr p (.slice a opn.length c) ⟨⟨root, ver, chg⟩, base, last, opn⟩) := H.out.other hS (by simpa using hpq) hvq
    by_cases hjn : j < n
    · have hjI : (j : Int) < n := by omega
      obtain ⟨g, cap, hv, hcl, hcm, _, hgl, hcell⟩ := own_sns HR.out.own (by have := HN.out; show 0 < opn.length; omega)
      simp only [Value.slice.injEq, true_and] at hv
      obtain ⟨rfl, rfl⟩ := hv
      obtain ⟨x, hx⟩ : ∃ x, opn[j]? = some x := ⟨_, List.getElem?_eq_getElem (by have := HN.out; omega)⟩
      have HX : Hid (opn.take (j + 1) = opn.take j ++ [x]) := by unfold Hid; rw [List.take_add_one, hx]; rfl
      obtain ⟨id, ⟨xr, xv, xc⟩⟩ := x
      have d0 : wr.cell? ⟨g, j * 4, none⟩ = some (.int .i64 id) := hcell j _ hx 0 _ rfl
      have d1 : wr.cell? ⟨g, j * 4 + 1, none⟩ = some (.int .u32 xr) := hcell j _ hx 1 _ rfl
      have d2 : wr.cell? ⟨g, j * 4 + 2, none⟩ = some (.int .u64 xv) := hcell j _ hx 2 _ rfl
      have d3 : wr.cell? ⟨g, j * 4 + 3, none⟩ = some (.int .i64 xc) := hcell j _ hx 3 _ rfl
      obtain ⟨w1, hw1⟩ : ∃ w1, wr.alloc (.cells #[.int .i64 id, .int .u32 xr, .int .u64 xv, .int .i64 xc] 64) = w1 := ⟨_, rfl⟩
      have hB1 : Below wr.heap.size wr w1 := by rw [← hw1]; exact (Below.refl _ wr).alloc (Nat.le_refl _) _
      have hg1 : w1.heap[wr.heap.size]? = some (.cells #[.int .i64 id, .int .u32 xr, .int .u64 xv, .int .i64 xc] 64 (0, 0)) := by rw [← hw1]; exact heap_alloc_new wr _
      have e1 : w1.cell? ⟨wr.heap.size, 1, none⟩ = some (.int .u32 xr) := by rw [cell_of_row _ _ 1 _ _ (0, 0) hg1]; rfl
      have e2 : w1.cell? ⟨wr.heap.size, 2, none⟩ = some (.int .u64 xv) := by rw [cell_of_row _ _ 2 _ _ (0, 0) hg1]; rfl
      have e3 : w1.cell? ⟨wr.heap.size, 3, none⟩ = some (.int .i64 xc) := by rw [cell_of_row _ _ 3 _ _ (0, 0) hg1]; rfl
      obtain ⟨a2, c2, o1, o2⟩ := HO.out
      have hsr := hS.size
      have hlj : (opn.take j).length = ((opn.take j).map (fun x => x.t.root)).length := by simp
      rw [hlj] at o1 o2
      have cf := kept1_any (B := w.heap.size) ⟨xr, xv, xc⟩ ((hB1.block q (by omega)).trans o1) (own_below o2 hB1) (by have := hB1.size; omega) (by rw [← hlj, List.length_take]; omega)
      have hown := fun k hk => (World.ownsRow.lt o2 k hk).1
      have HOWN : Hid _ := hown
      have hS1 : Sole [q] w w1 := hS.trans (Sole.of_below hB1 _)
      unfold trA at cf
      dsimp only at cf
      clear hcell hx hg1 o1 o2 HO hlj hown
      go_wp2_with fail
      refine cf.mono ?_
      rintro f1 w2 ⟨rfl, a3, c3, o3, o4, o5, o6⟩
      clear cf d0 d1 d2 d3 e1 e2 e3
      have HO3 : Hid (∃ (a2 : Option Addr) (c2 : Nat), w2.heap[q]? = some (.cells #[.slice a2 (opn.take (j + 1)).length c2] 49 (0, 0)) ∧ w2.ownsRow w.heap.size 22 1 (.slice a2 (opn.take (j + 1)).length c2) (opn.take (j + 1)).length (u32C ((opn.take (j + 1)).map (fun x => x.t.root)))) := by
        refine ⟨a3, c3, ?_⟩
        rw [HX.out]
        simp only [List.length_append, List.length_map, List.length_cons, List.length_nil, List.map_append, List.map_cons, List.map_nil] at o3 o4 ⊢
        exact ⟨o3, o4⟩
      have hS2 : Sole [q] w w2 := hS1.after o5 (fun k hk => by
        rcases List.mem_cons.1 hk with rfl | hk
        · exact .inl (by simp)
        · rw [Option.mem_toList] at hk; exact .inr (HOWN.out k hk))
      clear o3 o4 o5 o6
      go_wp2
      go_roundw
      case rel => exact ⟨j + 1, by omega, by go_num, HO3, hS2⟩
      case measure => simp [intOf]; omega
    · have hjI : ¬ (j : Int) < n := by omega
      obtain ⟨a2, c2, o1, o2⟩ := HO.out
      have hT : opn.take j = opn := List.take_of_length_le (by have := HN.out; omega)
      rw [hT] at o1 o2
      have hlj : opn.length = (opn.map (fun x => x.t.root)).length := by simp
      rw [hlj] at o1 o2
      have hsr := hS.size
      have b0 : wr.cell? ⟨p, 0, none⟩ = some (.int .u32 root) := HR.out.cell 0 _ rfl
      have b1 : wr.cell? ⟨p, 1, none⟩ = some (.int .u64 ver) := HR.out.cell 1 _ rfl
      have b2 : wr.cell? ⟨p, 2, none⟩ = some (.int .i64 chg) := HR.out.cell 2 _ rfl
      have cf := kept1_any (B := w.heap.size) ⟨root, ver, chg⟩ o1 o2 hsr (by rw [← hlj]; have := HN.out; omega)
      have hown := fun k hk => (World.ownsRow.lt o2 k hk).1
      have HOWN : Hid _ := hown
      unfold trA at cf
      dsimp only at cf
      clear o1 o2 HO hlj hown hT
      go_wp2_with fail
      refine cf.mono ?_
      rintro f1 w2 ⟨rfl, a3, c3, o3, o4, o5, o6⟩
      clear cf b0 b1 b2
      have hS2 : Sole [q] w w2 := hS.after o5 (fun k hk => by
        rcases List.mem_cons.1 hk with rfl | hk
        · exact .inl (by simp)
        · rw [Option.mem_toList] at hk; exact .inr (HOWN.out k hk))
      have HF : Hid (w2.heap[q]? = some (.cells #[.slice a3 (opn.map (fun x => x.t.root) ++ [root]).length c3] 49 (0, 0)) ∧ w2.ownsRow w.heap.size 22 1 (.slice a3 (opn.map (fun x => x.t.root) ++ [root]).length c3) (opn.map (fun x => x.t.root) ++ [root]).length (u32C (opn.map (fun x => x.t.root) ++ [root]))) := ⟨o3, o4⟩
      clear o3 o4 o5 o6
      go_wp2
      go_end0
      exact ⟨rfl, a3, c3, HF.out.1, HF.out.2, hS2⟩

end Go.Proofs.Ytakifnlfgaedjaa
