/- The contract of page.DecodeNode: what is opened. -/
import Derived.Test.YthgdbjpefjjeaaaGreatQDecode2
namespace Go.Proofs.YthgdbjpefjjeaaaGreat
open Go.RowKit Go.Shelf
set_option linter.unusedVariables false
set_option linter.unusedSimpArgs false
set_option maxRecDepth 4000

set_option maxHeartbeats 2000000 in
theorem decode_good (w W0 : World) (xs : List Int) (hy : Byt xs) (ho : opE xs = 0) (hl : xs.length = 512) (hB0 : Below w.heap.size w W0) (hz0 : W0.heap.size = w.heap.size + 1) (hg0 : W0.heap[w.heap.size]? = some (.cells #[.bool false, .slice none 0 0, .slice none 0 0, .slice none 0 0] 40 (0, 0)))
    (hW0 : w.alloc (.cells #[.bool false, .slice none 0 0, .slice none 0 0, .slice none 0 0] 40) = W0) (a : Option Addr) (cap : Nat) (hr : Rd w (.slice a 512 cap) xs) (n : Nd) (hn : prdNode (bodyB xs) = n) (E : Int) (N : Nd)
    (hyes : nodeOk n = true ∧ blockL n = xs → E = 0 ∧ N = n) (hno : ¬ (nodeOk n = true ∧ blockL n = xs) → E = 11 ∧ N = nd0)
    (hco : Calls Tryz.prog 76 #[.slice a 512 cap] W0 fun e w' => ∃ u, e = .returned (.tuple #[u, .int .i64 0]) ∧ Own w' W0.heap.size u (bodyB xs) ∧ Below W0.heap.size W0 w') :
    Calls Tryz.prog 58 #[.slice a 512 cap] w fun e w' => ∃ u, e = .returned (.tuple #[u, .int .i64 E]) ∧ NdOwn w' w.heap.size u N ∧ Below w.heap.size w w' := by
  have hbl : (bodyB xs).length = 508 := by unfold bodyB; rw [List.length_take]; omega
  have hby : Byt (bodyB xs) := hy.take _
  have hok : NdOk n := by rw [← hn]; exact prdNode_ok hby
  have hsm : n.pairs.length ≤ 255 := by rw [← hn]; exact prdNode_small hby
  go_enter Tryz.func58, Tryz.ntmps58
  go_wp2_with fail
  refine hco.mono ?_
  rintro e w1 ⟨u1, rfl, ho1, hb1⟩
  obtain ⟨g1, cap1, rfl, _, _⟩ := ho1.open (by omega)
  have hno1 := nodeOf_any w1 g1 0 cap1 (bodyB xs) (by have := ho1.rd; rw [hbl] at this; exact this) hby
  rw [hn] at hno1
  rw [hbl]
  clear hco ho1
  go_wp2_with fail
  refine hno1.mono ?_
  rintro e w2 ⟨v2, rfl, ho2, hb2⟩
  obtain ⟨p2, s2, u2, rfl, k2, l2, m2⟩ := id ho2
  obtain ⟨a1, c1, rfl⟩ := row_slice k2
  obtain ⟨a2, c2, rfl⟩ := row_slice l2
  obtain ⟨a3, c3, rfl⟩ := row_slice m2
  have hat := ho2.at (by omega)
  have hBn := (Below.refl w2.heap.size w2).alloc (Nat.le_refl _) (.cells #[.bool n.leaf, .slice a1 n.pairs.length c1, .slice a2 n.keys.length c2, .slice a3 n.kids.length c3] 40)
  have hgn := heap_alloc_new w2 (.cells #[.bool n.leaf, .slice a1 n.pairs.length c1, .slice a2 n.keys.length c2, .slice a3 n.kids.length c3] 40)
  have hzn : (w2.alloc (.cells #[.bool n.leaf, .slice a1 n.pairs.length c1, .slice a2 n.keys.length c2, .slice a3 n.kids.length c3] 40)).heap.size = w2.heap.size + 1 := by simp
  have hen := encode_any _ _ n (hat.below hBn) hok
  have s1 := hb1.size
  have s2' := hb2.size
  clear k2 l2 m2 hno1 hat
  generalize hW2 : w2.alloc (.cells #[.bool n.leaf, .slice a1 n.pairs.length c1, .slice a2 n.keys.length c2, .slice a3 n.kids.length c3] 40) = W2 at *
  obtain ⟨x0, x1, x2, x3, y0, y1, y2, y3⟩ := box4 hgn
  go_wp2_with fail
  refine hen.mono ?_
  rintro e w3 ⟨u3, rfl, ho3, hb3⟩
  have s3 := hb3.size
  have hB3 : Below w.heap.size w w3 := hB0.trans ((hb1.mono (by omega)).trans ((hb2.mono (by omega)).trans ((hBn.mono (by omega)).trans (hb3.mono (by omega)))))
  have hg3 := (hb3.block w.heap.size (by omega)).trans ((hBn.block w.heap.size (by omega)).trans ((hb2.block w.heap.size (by omega)).trans ((hb1.block w.heap.size (by omega)).trans hg0)))
  have hgn3 := (hb3.block w2.heap.size (by omega)).trans hgn
  have hN3 : NdOwn w3 (w.heap.size + 1) (.agg #[.bool n.leaf, .slice a1 n.pairs.length c1, .slice a2 n.keys.length c2, .slice a3 n.kids.length c3]) n := ((ho2.below hBn).below hb3).mono (by omega)
  have hr3 := hr.below hB3
  have hr3' := ho3.rd
  obtain ⟨b0, b1, b2, b3, d0, d1, d2, d3⟩ := box4 hg3
  obtain ⟨e0, e1, e2, e3, f0, f1, f2, f3⟩ := box4 hgn3
  have hz := fin_node hg3 (NdOwn.zero w3 (w.heap.size + 1)) (by omega)
  have hf := fin_node hg3 hN3 (by omega)
  have HZ : Hid _ := hz
  have HF : Hid _ := hf
  clear hz hf hen hW2 hW0 x0 x1 x2 x3 y0 y1 y2 y3 hg0 hgn
  cases hk : nodeOk n with
  | false =>
    obtain ⟨rfl, rfl⟩ := hno (by rw [hk]; rintro ⟨h, _⟩; cases h)
    have hE : nodeE n = 50 := by unfold nodeE; rw [hk]; rfl
    rw [hE]
    clear hyes hno
    go_wp2
    exact ret_node2 rfl w.heap.size _ _ _ _ rfl _ rfl HZ.out.1 rfl ⟨_, rfl, NdOwn.mono HZ.out.2.1 (by omega), hB3.trans (HZ.out.2.2 _ (Nat.le_refl _))⟩
  | true =>
    have hE : nodeE n = 0 := by unfold nodeE; rw [hk]; rfl
    have hL : encL n = blockL n := by unfold encL; rw [hk]; rfl
    rw [hE]
    rw [hL] at hr3'
    have heq := equal_any w3 _ _ _ _ hr3' hr3 (blockL_byt hk) hy
    by_cases hq : blockL n = xs
    · obtain ⟨rfl, rfl⟩ := hyes ⟨hk, hq⟩
      rw [decide_eq_true hq] at heq
      clear hyes hno
      go_wp2_with (go_at_call 78; refine heq.mono ?_; rintro e w' ⟨rfl, rfl⟩)
      exact ret_node2 rfl w.heap.size _ _ _ _ rfl _ rfl HF.out.1 rfl ⟨_, rfl, NdOwn.mono HF.out.2.1 (by omega), hB3.trans (HF.out.2.2 _ (Nat.le_refl _))⟩
    · obtain ⟨rfl, rfl⟩ := hno (fun h => hq h.2)
      rw [decide_eq_false hq] at heq
      clear hyes hno
      go_wp2_with (go_at_call 78; refine heq.mono ?_; rintro e w' ⟨rfl, rfl⟩)
      exact ret_node2 rfl w.heap.size _ _ _ _ rfl _ rfl HZ.out.1 rfl ⟨_, rfl, NdOwn.mono HZ.out.2.1 (by omega), hB3.trans (HZ.out.2.2 _ (Nat.le_refl _))⟩

theorem decode_any (w : World) (v : Value) (xs : List Int) (hr : Rd w v xs) (hy : Byt xs) :
    Calls Tryz.prog 58 #[v] w fun e w' => ∃ u, e = .returned (.tuple #[u, .int .i64 (ndE xs)]) ∧ NdOwn w' w.heap.size u (ndN xs) ∧ Below w.heap.size w w' := by
  have hB0 : Below w.heap.size w (w.alloc (.cells #[.bool false, .slice none 0 0, .slice none 0 0, .slice none 0 0] 40)) := (Below.refl _ w).alloc (Nat.le_refl _) _
  have hco := contentOf_any _ v xs (hr.below hB0) hy
  by_cases ho : opE xs = 0
  · obtain ⟨hyes, hno⟩ := prog_node hy ho
    have hl : xs.length = 512 := by
      unfold opE at ho
      split at ho
      · assumption
      · cases ho
    obtain ⟨a, cap, rfl, hcap, hm, hnn, hne⟩ := id hr
    rw [hl] at hr hco ⊢
    refine decode_good w _ xs hy ho hl hB0 (by simp) (heap_alloc_new w _) rfl a cap hr _ rfl _ _ hyes hno (hco.mono ?_)
    rintro e w' ⟨u, rfl, h1, h2⟩
    exact ⟨u, by rw [ho], h1 ho, h2⟩
  · have hE : ndE xs = opE xs := by unfold ndE; rw [if_neg ho]
    have hN : ndN xs = nd0 := nd_zero (by rw [hE]; exact ho)
    rw [hE, hN]
    obtain ⟨a, cap, rfl, _⟩ := id hr
    exact decode_bad w _ _ _ ho hB0 (by simp) (heap_alloc_new w _) rfl a _ cap rfl (hco.mono fun e w' ⟨u, h1, _, h3⟩ => ⟨u, h1, h3⟩)

end Go.Proofs.YthgdbjpefjjeaaaGreat
