/- The contract of page.EncodeNode. -/
import Derived.Test.YthgdbjpefjjeaaaGreatQLeaf
import Derived.Test.YthgdbjpefjjeaaaGreatQCheck2
import Derived.Test.YthgdbjpefjjeaaaGreatQBytes
namespace Go.Proofs.YthgdbjpefjjeaaaGreat
open Go.RowKit Go.Shelf
set_option linter.unusedVariables false
set_option linter.unusedSimpArgs false
set_option maxRecDepth 4000

def encL (n : Nd) : List Int := if nodeOk n then blockL n else []

theorem leafBytes_any (w : World) (v : Value) (n : Nd) (h : NdAt w v n) (hok : nodeOk n = true) (hlf : n.leaf = true) :
    Calls Tryz.prog 66 #[v] w fun e w' => ∃ u, e = .returned u ∧ Own w' w.heap.size u (rawL n) ∧ Below w.heap.size w w' := by
  obtain ⟨a1, c1, a2, c2, a3, c3, rfl, hP, hS, hU, hb⟩ := h
  obtain ⟨lf, ps, ks, cs⟩ := n
  obtain ⟨⟨h1, h2⟩, h3, h4, h5⟩ := nodeOk_leaf hok hlf
  dsimp only at *
  subst hlf h4 h5
  obtain ⟨ss, hss⟩ := sub_list ps h3
  have hlen : ss.length = ps.length := by rw [← hss, List.length_map]
  refine (leafBytes_sub w a1 a2 a3 ps.length c1 c2 c3 h2 ss hlen (by rw [hss]; exact hP)).mono ?_
  rintro e w' ⟨u, rfl, ho, hB⟩
  refine ⟨u, rfl, ?_, hB⟩
  have e1 : lfR ps.length ss = rawL ⟨true, ps, [], []⟩ := by
    unfold lfR rawL
    rw [if_pos rfl]
    dsimp only
    rw [← hss, List.flatMap_map, List.length_map]
  rw [← e1]
  exact ho

set_option maxHeartbeats 2000000 in
theorem encode_any (w : World) (v : Value) (n : Nd) (h : NdAt w v n) (hk : NdOk n) :
    Calls Tryz.prog 35 #[v] w fun e w' => ∃ u, e = .returned (.tuple #[u, .int .i64 (nodeE n)]) ∧ Own w' w.heap.size u (encL n) ∧ Below w.heap.size w w' := by
  have h' := h
  obtain ⟨a1, c1, a2, c2, a3, c3, rfl, _, _, _, _⟩ := h
  have hB0 := (Below.refl w.heap.size w).alloc (Nat.le_refl _) (.cells #[.bool n.leaf, .slice a1 n.pairs.length c1, .slice a2 n.keys.length c2, .slice a3 n.kids.length c3] 40)
  have h0 := h'.below hB0
  have hck := check_any _ _ n h0
  unfold encL nodeE at *
  have hlb := fun W hW => leafBytes_any W _ n (h0.below hW)
  have hib := fun W hW ho hl => innerBytes_any W _ n (h0.below hW) ho hl hk
  have hblk := fun W v hW hy hl => blockOf_any W v (rawL n) hW hy hl
  have hrl := fun e => rawL_le (n := n) e
  have hry := fun e => rawL_byt (n := n) e
  have hbl : sealed (padL (rawL n)) = blockL n := rfl
  rw [hbl] at hblk
  generalize nodeOk n = ok at *
  generalize rawL n = R at *
  generalize blockL n = BL at *
  generalize n.leaf = lf at *
  generalize n.pairs.length = n1 at *
  generalize n.keys.length = n2 at *
  generalize n.kids.length = n3 at *
  clear h' hbl
  cases ok with
  | false =>
    clear hlb hib hblk hrl hry
    go_enter Tryz.func35, Tryz.ntmps35
    go_wp2_with (go_at_call 64; refine hck.mono ?_; rintro e w5 ⟨rfl, hb5⟩)
    go_ret2
    exact ⟨_, rfl, Own.nil _ _, hB0.trans (hb5.mono hB0.size)⟩
  | true =>
    replace hrl := hrl rfl
    replace hry := hry rfl
    generalize hW0 : w.alloc (.cells #[.bool lf, .slice a1 n1 c1, .slice a2 n2 c2, .slice a3 n3 c3] 40) = W0 at *
    have hn0 : ∀ j u, #[Value.bool lf, .slice a1 n1 c1, .slice a2 n2 c2, .slice a3 n3 c3][j]? = some u → ∀ W, Below W0.heap.size W0 W → W.cell? ⟨w.heap.size, j, none⟩ = some u := fun j u hu W hW => by
      have hg : W0.heap[w.heap.size]? = some (.cells #[.bool lf, .slice a1 n1 c1, .slice a2 n2 c2, .slice a3 n3 c3] 40 (0, 0)) := by rw [← hW0]; exact heap_alloc_new w _
      rw [cell_of_row W _ j _ _ (0, 0) ((hW.block _ (Array.getElem?_eq_some_iff.1 hg).1).trans hg)]; exact hu
    have k0 := hn0 0 _ rfl
    have k1 := hn0 1 _ rfl
    have k2 := hn0 2 _ rfl
    have k3 := hn0 3 _ rfl
    clear hn0
    have r0 := k0 W0 (Below.refl _ _)
    have r1 := k1 W0 (Below.refl _ _)
    have r2 := k2 W0 (Below.refl _ _)
    have r3 := k3 W0 (Below.refl _ _)
    cases lf with
    | true =>
      clear hib
      go_enter Tryz.func35, Tryz.ntmps35
      go_wp2_with (go_at_call 64; refine hck.mono ?_; rintro e w5 ⟨rfl, hb5⟩; have q0 := k0 _ hb5; have q1 := k1 _ hb5; have q2 := k2 _ hb5; have q3 := k3 _ hb5; have hl5 := hlb w5 hb5 rfl rfl)
      refine hl5.mono ?_
      rintro e w6 ⟨v6, rfl, ho6, hb6⟩
      go_wp2_with (go_at_call 65; refine (hblk w6 v6 ho6.rd hry hrl).mono ?_; rintro e w7 ⟨v7, rfl, ho7, hb7⟩)
      go_ret2
      have s0 := hB0.size
      have s5 := hb5.size
      have s6 := hb6.size
      exact ⟨_, rfl, ho7.mono (by omega), hB0.trans ((hb5.trans ((hb6.trans (hb7.mono s6)).mono s5)).mono s0)⟩
    | false =>
      clear hlb
      go_enter Tryz.func35, Tryz.ntmps35
      go_wp2_with (go_at_call 64; refine hck.mono ?_; rintro e w5 ⟨rfl, hb5⟩; have q0 := k0 _ hb5; have q1 := k1 _ hb5; have q2 := k2 _ hb5; have q3 := k3 _ hb5; have hl5 := hib w5 hb5 rfl rfl)
      refine hl5.mono ?_
      rintro e w6 ⟨v6, rfl, ho6, hb6⟩
      go_wp2_with (go_at_call 65; refine (hblk w6 v6 ho6.rd hry hrl).mono ?_; rintro e w7 ⟨v7, rfl, ho7, hb7⟩)
      go_ret2
      have s0 := hB0.size
      have s5 := hb5.size
      have s6 := hb6.size
      exact ⟨_, rfl, ho7.mono (by omega), hB0.trans ((hb5.trans ((hb6.trans (hb7.mono s6)).mono s5)).mono s0)⟩

end Go.Proofs.YthgdbjpefjjeaaaGreat
