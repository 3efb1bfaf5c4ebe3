/- The contracts of page.nodeOf, DecodeNode. -/
import Derived.Test.YthgdbjpefjjeaaaGreatQPairs
import Derived.Test.YthgdbjpefjjeaaaGreatQInner
import Derived.Test.YthgdbjpefjjeaaaGreatQEncode
import Derived.BigQuiet
import Derived.Deep.QuietTactic
namespace Go.Proofs.YthgdbjpefjjeaaaGreat
open Go.RowKit Go.Shelf
set_option linter.unusedVariables false
set_option linter.unusedSimpArgs false
set_option maxRecDepth 4000

/-- The node that a block's content tells the program. -/
def prdNode (xs : List Int) : Nd :=
  if xs.getD 0 0 = 76 then ⟨true, prd (xs.getD 1 0).toNat (xs.drop 2), [], []⟩
  else if xs.getD 0 0 = 75 then
    (if 2 ≤ xs.getD 1 0 ∧ xs.getD 1 0 ≤ 24 then ⟨false, [], keysL ((xs.drop 2).drop (4 * (xs.getD 1 0).toNat)) ((xs.getD 1 0).toNat - 1), kidsL (xs.drop 2) (xs.getD 1 0).toNat⟩ else nd0)
  else nd0

theorem prd_back (l : List (ByteArray × ByteArray)) (h : ∀ p ∈ l, p.1.size = 14) (ys : List Int) : prd l.length (l.flatMap pairL ++ ys) = l := by
  induction l with
  | nil => rfl
  | cons p l ih =>
    have hp := h p (by simp)
    have hl := strB_length p.1
    have hl2 := strB_length p.2
    have ih := ih fun q hq => h q (List.mem_cons_of_mem _ hq)
    have e : (p :: l).flatMap pairL ++ ys = strB p.1 ++ ((p.2.size : Int) :: (strB p.2 ++ (l.flatMap pairL ++ ys))) := by
      simp [List.flatMap_cons, pairL]
    rw [e, List.length_cons]
    unfold prd
    have d14 : (strB p.1 ++ ((p.2.size : Int) :: (strB p.2 ++ (l.flatMap pairL ++ ys)))).drop 14 = (p.2.size : Int) :: (strB p.2 ++ (l.flatMap pairL ++ ys)) := by
      rw [← hp, ← hl]; exact List.drop_left
    have t14 : (strB p.1 ++ ((p.2.size : Int) :: (strB p.2 ++ (l.flatMap pairL ++ ys)))).take 14 = strB p.1 := by
      rw [← hp, ← hl]; exact List.take_left
    have dN : (strB p.1 ++ ((p.2.size : Int) :: (strB p.2 ++ (l.flatMap pairL ++ ys)))).drop (14 + (1 + (p.2.size : Int)).toNat) = l.flatMap pairL ++ ys := by
      rw [← List.drop_drop, d14, show (1 + (p.2.size : Int)).toNat = p.2.size + 1 from by omega, List.drop_succ_cons, ← hl2]
      exact List.drop_left
    rw [if_neg (by simp [hl, hp]), d14, back_E, back_N, back_S, t14, if_pos rfl, dN, ih, strOfNums_strB]

theorem prdNode_back {n : Nd} (h : nodeOk n = true) (hk : NdOk n) : prdNode (bodyL n) = n := by
  have hlen := bodyL_length h
  obtain ⟨lf, ps, ks, cs⟩ := n
  cases lf with
  | true =>
    obtain ⟨⟨h1, h2⟩, h3, h4, h5⟩ := nodeOk_leaf h rfl
    dsimp only at h1 h2 h3 h4 h5
    subst h4 h5
    have e : bodyL ⟨true, ps, [], []⟩ = 76 :: (ps.length : Int) :: (ps.flatMap pairL ++ List.replicate (508 - (rawL ⟨true, ps, [], []⟩).length) 0) := by
      unfold bodyL padL
      conv => lhs; lhs; unfold rawL
      simp
    rw [e]
    unfold prdNode
    simp only [List.getD_cons_zero, List.getD_cons_succ, if_true, List.drop_succ_cons, List.drop_zero, Int.toNat_natCast]
    rw [prd_back ps (fun p hp => (h3 p hp).1)]
  | false =>
    obtain ⟨⟨h1, h2⟩, h3, h4, h5⟩ := nodeOk_inner h rfl
    dsimp only at h1 h2 h3 h4 h5
    subst h5
    have e : bodyL ⟨false, [], ks, cs⟩ = 75 :: (cs.length : Int) :: (cs.flatMap kidL ++ (ks.flatMap strB ++ List.replicate (508 - (rawL ⟨false, [], ks, cs⟩).length) 0)) := by
      unfold bodyL padL
      conv => lhs; lhs; unfold rawL
      simp
    rw [e] at hlen ⊢
    rw [List.length_cons, List.length_cons] at hlen
    unfold prdNode
    simp only [List.getD_cons_zero, List.getD_cons_succ, List.drop_succ_cons, List.drop_zero, Int.toNat_natCast]
    rw [if_neg (by decide), if_pos trivial, if_pos ⟨by omega, by omega⟩]
    have d : ∀ ys : List Int, (cs.flatMap kidL ++ ys).drop (4 * cs.length) = ys := by
      intro ys
      rw [← flat_kids_length cs]
      exact List.drop_left
    generalize hZ : List.replicate (508 - (rawL ⟨false, [], ks, cs⟩).length) (0 : Int) = Z at *
    rw [d, ← rdKids_eq _ _ (by omega), rdKids_back cs hk, ← rdKeys_eq _ _ ?_, show cs.length - 1 = ks.length from by omega, rdKeys_back ks (rising_size h4)]
    have : ((ks.flatMap strB).length) = 14 * ks.length := by
      have hs := rising_size h4
      clear hlen d e hZ h4 h h3 hk
      induction ks with
      | nil => rfl
      | cons k ks ih => rw [List.flatMap_cons, List.length_append, strB_length, hs k (by simp), ih (fun (q : ByteArray) hq => hs q (List.mem_cons_of_mem _ hq)), List.length_cons]; omega
    rw [List.length_append, this]
    omega

theorem prdNode_ok {xs : List Int} (h : Byt xs) : NdOk (prdNode xs) := by
  unfold prdNode
  split
  · intro k hk; cases hk
  · split
    · split
      · intro k hk
        obtain ⟨j, _, rfl⟩ := List.mem_map.1 hk
        exact valB_byt4 _ ((h.drop 2).drop _)
      · intro k hk; cases hk
    · intro k hk; cases hk

theorem prdNode_small {xs : List Int} (h : Byt xs) : (prdNode xs).pairs.length ≤ 255 := by
  have h1 := h.getD 1
  unfold prdNode
  split
  · have := prd_len (xs.getD 1 0).toNat (xs.drop 2)
    dsimp only
    omega
  · split
    · split <;> simp [nd0]
    · simp [nd0]

/-- What the program's DecodeNode tells. -/
theorem prog_node {xs : List Int} (hy : Byt xs) (ho : opE xs = 0) :
    (nodeOk (prdNode (bodyB xs)) = true ∧ blockL (prdNode (bodyB xs)) = xs → ndE xs = 0 ∧ ndN xs = prdNode (bodyB xs)) ∧
    (¬ (nodeOk (prdNode (bodyB xs)) = true ∧ blockL (prdNode (bodyB xs)) = xs) → ndE xs = 11 ∧ ndN xs = nd0) := by
  constructor
  · rintro ⟨h1, h2⟩
    have := node_back h1 (prdNode_ok (hy.take _))
    rw [h2] at this
    exact this
  · intro hn
    have hE : ndE xs ≠ 0 := by
      intro h0
      obtain ⟨h1, h2⟩ := node_forth h0
      have hk := ndN_ok hy
      have hb : bodyB xs = bodyL (ndN xs) := (congrArg bodyB h2).symm.trans (bodyB_sealed _)
      have hq : prdNode (bodyB xs) = ndN xs := by rw [hb]; exact prdNode_back h1 hk
      exact hn ⟨by rw [hq]; exact h1, by rw [hq]; exact h2⟩
    refine ⟨?_, nd_zero hE⟩
    unfold ndE at hE ⊢
    rw [if_pos ho] at hE ⊢
    split at hE
    · exact absurd rfl hE
    · rename_i h; rw [if_neg h]

theorem equal_any (w : World) (u v : Value) (xs ys : List Int) (hu : Rd w u xs) (hv : Rd w v ys) (hx : Byt xs) (hy : Byt ys) : Calls Tryz.prog 78 #[u, v] w fun e w' => e = .returned (.bool (decide (xs = ys))) ∧ w' = w := by
  have h1 := hu.conv
  have h2 := hv.conv
  rw [← beq_strOf hx hy]
  go_enter Tryz.func78, Tryz.ntmps78
  go_wp2
  go_ret
  exact ⟨rfl, rfl⟩

theorem belowN (W : World) (q B : Nat) : Below B W (W.drewN q) := ⟨rfl, rfl, rfl, Nat.le_refl _, fun _ _ => rfl⟩

theorem box4 {W : World} {B : Nat} {v0 v1 v2 v3 : Value} {t : TypeId} (h : W.heap[B]? = some (.cells #[v0, v1, v2, v3] t (0, 0))) :
    W.cell? ⟨B, 0, none⟩ = some v0 ∧ W.cell? ⟨B, 1, none⟩ = some v1 ∧ W.cell? ⟨B, 2, none⟩ = some v2 ∧ W.cell? ⟨B, 3, none⟩ = some v3 ∧ W.frozen? ⟨B, 0, none⟩ = false ∧ W.frozen? ⟨B, 1, none⟩ = false ∧ W.frozen? ⟨B, 2, none⟩ = false ∧ W.frozen? ⟨B, 3, none⟩ = false :=
  ⟨cell_of_row W _ 0 _ _ (0, 0) h, cell_of_row W _ 1 _ _ (0, 0) h, cell_of_row W _ 2 _ _ (0, 0) h, cell_of_row W _ 3 _ _ (0, 0) h, by simp [World.frozen?, h], by simp [World.frozen?, h], by simp [World.frozen?, h], by simp [World.frozen?, h]⟩

/-- A node stored into a variable. -/
theorem fin_node {W : World} {B base : Nat} {y0 y1 y2 y3 x0 x1 x2 x3 : Value} {t : TypeId} {n : Nd} (h : W.heap[B]? = some (.cells #[y0, y1, y2, y3] t (0, 0))) (hN : NdOwn W base (.agg #[x0, x1, x2, x3]) n) (hB : B < base) :
    ((((W.setCell ⟨B, 0, none⟩ x0).setCell ⟨B, 1, none⟩ x1).setCell ⟨B, 2, none⟩ x2).setCell ⟨B, 3, none⟩ x3).heap[B]? = some (.cells #[x0, x1, x2, x3] t (0, 0)) ∧
    NdOwn ((((W.setCell ⟨B, 0, none⟩ x0).setCell ⟨B, 1, none⟩ x1).setCell ⟨B, 2, none⟩ x2).setCell ⟨B, 3, none⟩ x3) base (.agg #[x0, x1, x2, x3]) n ∧
    ∀ b, b ≤ B → Below b W ((((W.setCell ⟨B, 0, none⟩ x0).setCell ⟨B, 1, none⟩ x1).setCell ⟨B, 2, none⟩ x2).setCell ⟨B, 3, none⟩ x3) := by
  refine ⟨setCell_row (setCell_row (setCell_row (setCell_row h 0 x0) 1 x1) 2 x2) 3 x3, ?_, fun b hb => ((((Below.refl b W).setCell (p := ⟨B, 0, none⟩) hb x0).setCell (p := ⟨B, 1, none⟩) hb x1).setCell (p := ⟨B, 2, none⟩) hb x2).setCell (p := ⟨B, 3, none⟩) hb x3⟩
  obtain ⟨p, q, r, e, hp, hq, hr⟩ := hN
  exact ⟨p, q, r, e, own_set (own_set (own_set (own_set hp hB 0 x0) hB 1 x1) hB 2 x2) hB 3 x3, own_set (own_set (own_set (own_set hq hB 0 x0) hB 1 x1) hB 2 x2) hB 3 x3, own_set (own_set (own_set (own_set hr hB 0 x0) hB 1 x1) hB 2 x2) hB 3 x3⟩

theorem rd_drew {W : World} {v : Value} {xs : List Int} (h : Rd W v xs) : Rd W.drew v xs := h.below (Below.refl _ W).drew

theorem leafPairs (W : World) (b off cap cnt : Nat) (xs : List Int) (hr : Rd W (.slice (some ⟨b, off, none⟩) 506 cap) xs) (hy : Byt xs) (hc : cnt ≤ 255) :
    Calls Tryz.prog 92 #[.func (.func 111) #[] #[.pointer (some ⟨W.heap.size + 1, 0, none⟩), .pointer (some ⟨W.heap.size, 0, none⟩)]] ((W.alloc (.cells #[.slice (some ⟨b, off, none⟩) 506 cap] 86)).alloc (.cells #[.int .i64 cnt] 3))
      fun e w' => ∃ v, e = .returned v ∧ w'.ownsRow W.heap.size 85 2 v (prd cnt xs).length ((prd cnt xs).flatMap kvE) ∧ Below W.heap.size W w' := by
  have hB : Below W.heap.size W ((W.alloc (.cells #[.slice (some ⟨b, off, none⟩) 506 cap] 86)).alloc (.cells #[.int .i64 cnt] 3)) := ((Below.refl _ W).alloc (Nat.le_refl _) _).alloc (by simp) _
  have b1 := (Boxed.new W 86 (.slice (some ⟨b, off, none⟩) 506 cap)).alloc (.cells #[.int .i64 cnt] 3)
  have b2 := Boxed.new (W.alloc (.cells #[.slice (some ⟨b, off, none⟩) 506 cap] 86)) 3 (.int .i64 cnt)
  rw [World.size_alloc] at b2
  refine (collect_any 111 _ (enters_of Tryz.func111 (by kernel_rfl) rfl) (prd cnt xs) cnt hc _
    (pairs_stops 2 (by decide) (W.heap.size + 1) W.heap.size b off 506 cap cnt xs _ (by simp) (by simp; omega) hc (by decide) b2.cell b1.cell (hr.below hB) hy (by decide))).mono ?_
  rintro e w' ⟨v, rfl, ho, hb⟩
  exact ⟨v, rfl, row_mono ho hB.size, hB.trans (hb.mono hB.size)⟩

set_option maxHeartbeats 4000000 in
theorem nodeOf_any (w : World) (b off cap : Nat) (xs : List Int) (hr : Rd w (.slice (some ⟨b, off, none⟩) 508 cap) xs) (hy : Byt xs) :
    Calls Tryz.prog 77 #[.slice (some ⟨b, off, none⟩) 508 cap] w fun e w' => ∃ v, e = .returned v ∧ NdOwn w' w.heap.size v (prdNode xs) ∧ Below w.heap.size w w' := by
  have hl := rd_length hr
  have hcap := hr.cap
  have hmax := hr.capMax
  unfold maxLen at hmax
  have hB0 : Below w.heap.size w (w.alloc (.cells #[.bool false, .slice none 0 0, .slice none 0 0, .slice none 0 0] 40)) := (Below.refl _ w).alloc (Nat.le_refl _) _
  have hg0 := heap_alloc_new w (.cells #[.bool false, .slice none 0 0, .slice none 0 0, .slice none 0 0] 40)
  have hz0 : (w.alloc (.cells #[.bool false, .slice none 0 0, .slice none 0 0, .slice none 0 0] 40)).heap.size = w.heap.size + 1 := by simp
  have hrW := hr.below hB0
  have hmid := hrW.mid 2 506 (by omega) (by omega)
  have hmd : (xs.drop 2).take 506 = xs.drop 2 := List.take_of_length_le (by rw [List.length_drop]; omega)
  rw [hmd] at hmid
  obtain ⟨x0, hx0⟩ : ∃ x0, xs.getD 0 0 = x0 := ⟨_, rfl⟩
  obtain ⟨x1, hx1⟩ : ∃ x1, xs.getD 1 0 = x1 := ⟨_, rfl⟩
  have b0 := hy.getD 0
  have b1 := hy.getD 1
  rw [hx0] at b0
  rw [hx1] at b1
  obtain ⟨c, hc⟩ : ∃ c : Nat, x1 = c := ⟨x1.toNat, by omega⟩
  subst hc
  have hcell : ∀ i, i < 508 → (w.alloc (.cells #[.bool false, .slice none 0 0, .slice none 0 0, .slice none 0 0] 40)).cell? ⟨b, off + i, none⟩ = some (.int .u8 (xs.getD i 0)) := fun i hi => by
    obtain ⟨a, cp, e, _, _, _, h3⟩ := hrW
    obtain ⟨b', off', e', _, hcc⟩ := h3 (by intro e; subst e; simp at hl)
    simp only [Value.slice.injEq] at e
    obtain ⟨rfl, _, _⟩ := e
    simp only [Option.some.injEq, Addr.mk.injEq] at e'
    obtain ⟨rfl, rfl, _⟩ := e'
    exact hcc i (by omega)
  have k0 := hcell 0 (by omega)
  have k1 := hcell 1 (by omega)
  rw [hx0, Nat.add_zero] at k0
  rw [hx1] at k1
  clear hcell hmd
  have hprd : prdNode xs = if x0 = 76 then ⟨true, prd c (xs.drop 2), [], []⟩ else if x0 = 75 then (if 2 ≤ (c : Int) ∧ (c : Int) ≤ 24 then ⟨false, [], keysL ((xs.drop 2).drop (4 * c)) (c - 1), kidsL (xs.drop 2) c⟩ else nd0) else nd0 := by
    unfold prdNode
    rw [hx0, hx1, Int.toNat_natCast]
  rw [hprd]
  clear hprd
  have g2 : (2 : Int) ≤ cap := by omega
  have g2' : ¬ cap = 2 := by omega
  generalize hW0 : w.alloc (.cells #[.bool false, .slice none 0 0, .slice none 0 0, .slice none 0 0] 40) = W0 at *
  have hlp : ∀ q, Calls Tryz.prog 92 #[.func (.func 111) #[] #[.pointer (some ⟨w.heap.size + 1 + 1, 0, none⟩), .pointer (some ⟨w.heap.size + 1, 0, none⟩)]] (((W0.drewN q).alloc (.cells #[.slice (some ⟨b, off + 2, none⟩) 506 (cap - 2)] 86)).alloc (.cells #[.int .i64 c] 3)) fun e w' => ∃ v, e = .returned v ∧ w'.ownsRow (w.heap.size + 1) 85 2 v (prd c (xs.drop 2)).length ((prd c (xs.drop 2)).flatMap kvE) ∧ Below (w.heap.size + 1) W0 w' := fun q => by
    have h := leafPairs (W0.drewN q) b (off + 2) (cap - 2) c (xs.drop 2) (hmid.below (belowN W0 q _)) (hy.drop 2) (by omega)
    rw [show (W0.drewN q).heap.size = w.heap.size + 1 from hz0] at h
    refine h.mono ?_
    rintro e w' ⟨v, rfl, ho, hb⟩
    exact ⟨v, rfl, ho, (belowN W0 q _).trans hb⟩
  have hin : 2 ≤ c → c ≤ 24 → ∀ q, Calls Tryz.prog 94 #[.slice (some ⟨b, off + 2, none⟩) 506 (cap - 2), .int .i64 c] (W0.drewN q) fun e w' => ∃ v, e = .returned v ∧ NdOwn w' (w.heap.size + 1) v ⟨false, [], keysL ((xs.drop 2).drop (4 * c)) (c - 1), kidsL (xs.drop 2) c⟩ ∧ Below (w.heap.size + 1) W0 w' := fun h1 h2 q => by
    have h := innerOf_yes (W0.drewN q) b (off + 2) (cap - 2) c (xs.drop 2) (hmid.below (belowN W0 q _)) (hy.drop 2) h1 h2
    rw [show (W0.drewN q).heap.size = w.heap.size + 1 from hz0] at h
    refine h.mono ?_
    rintro e w' ⟨v, rfl, ho, hb⟩
    exact ⟨v, rfl, ho, (belowN W0 q _).trans hb⟩
  have hino : ¬ (2 ≤ (c : Int) ∧ (c : Int) ≤ 24) → ∀ q, Calls Tryz.prog 94 #[.slice (some ⟨b, off + 2, none⟩) 506 (cap - 2), .int .i64 c] (W0.drewN q) fun e w' => ∃ v, e = .returned v ∧ NdOwn w' (w.heap.size + 1) v nd0 ∧ Below (w.heap.size + 1) W0 w' := fun h1 q => by
    have h := innerOf_no (W0.drewN q) (some ⟨b, off + 2, none⟩) 506 (cap - 2) (c : Int) h1
    rw [show (W0.drewN q).heap.size = w.heap.size + 1 from hz0] at h
    refine h.mono ?_
    rintro e w' ⟨v, rfl, ho, hb⟩
    exact ⟨v, rfl, ho, (belowN W0 q _).trans hb⟩
  clear hmid hrW hr
  by_cases h76 : x0 = 76
  · rw [if_pos h76]
    subst h76
    clear hin hino
    go_enter Tryz.func77, Tryz.ntmps77
    go_wp2_with fail
    go_quiet (fail)
    go_wp2_with (go_at_call 93; refine (pairsIn_any _ _ _ _ _).mono ?_; rintro e w' ⟨rfl, rfl⟩)
    refine (hlp _).mono ?_
    rintro e w5 ⟨v5, rfl, ho5, hb5⟩
    obtain ⟨a5, c5, rfl⟩ := row_slice ho5
    have hg5 := (hb5.block _ (by omega)).trans hg0
    obtain ⟨q0, q1, q2, q3, f0, f1, f2, f3⟩ := box4 hg5
    go_wp2
    have hN : NdOwn w5 (w.heap.size + 1) (.agg #[.bool true, .slice a5 (prd c (xs.drop 2)).length c5, .slice none 0 0, .slice none 0 0]) ⟨true, prd c (xs.drop 2), [], []⟩ := ⟨_, _, _, rfl, ho5, World.ownsRow_nil _ _ _ _, World.ownsRow_nil _ _ _ _⟩
    obtain ⟨r1, r2, r3⟩ := fin_node hg5 hN (by omega)
    exact ret_node rfl w.heap.size _ _ _ _ rfl r1 rfl ⟨_, rfl, r2.mono (by omega), hB0.trans ((hb5.mono (by omega)).trans (r3 _ (Nat.le_refl _)))⟩
  · rw [if_neg h76]
    clear hlp
    by_cases h75 : x0 = 75
    · rw [if_pos h75]
      subst h75
      clear h76
      by_cases hc : 2 ≤ (c : Int) ∧ (c : Int) ≤ 24
      · rw [if_pos hc]
        replace hin := hin (by omega) (by omega)
        clear hino
        generalize (⟨false, [], keysL ((xs.drop 2).drop (4 * c)) (c - 1), kidsL (xs.drop 2) c⟩ : Nd) = N at *
        go_enter Tryz.func77, Tryz.ntmps77
        go_wp2_with fail
        go_quiet (fail)
        go_wp2_with fail
        refine (hin _).mono ?_
        rintro e w5 ⟨v5, rfl, ho5, hb5⟩
        obtain ⟨p5, s5, u5, rfl, k5, l5, m5⟩ := id ho5
        obtain ⟨a1, c1, rfl⟩ := row_slice k5
        obtain ⟨a2, c2, rfl⟩ := row_slice l5
        obtain ⟨a3, c3, rfl⟩ := row_slice m5
        have hg5 := (hb5.block _ (by omega)).trans hg0
        obtain ⟨q0, q1, q2, q3, f0, f1, f2, f3⟩ := box4 hg5
        clear k5 l5 m5
        go_wp2
        obtain ⟨r1, r2, r3⟩ := fin_node hg5 ho5 (by omega)
        exact ret_node rfl w.heap.size _ _ _ _ rfl r1 rfl ⟨_, rfl, r2.mono (by omega), hB0.trans ((hb5.mono (by omega)).trans (r3 _ (Nat.le_refl _)))⟩
      · rw [if_neg hc]
        replace hino := hino hc
        clear hin
        go_enter Tryz.func77, Tryz.ntmps77
        go_wp2_with fail
        go_quiet (fail)
        go_wp2_with fail
        refine (hino _).mono ?_
        rintro e w5 ⟨v5, rfl, ho5, hb5⟩
        obtain ⟨p5, s5, u5, rfl, k5, l5, m5⟩ := id ho5
        obtain ⟨a1, c1, rfl⟩ := row_slice k5
        obtain ⟨a2, c2, rfl⟩ := row_slice l5
        obtain ⟨a3, c3, rfl⟩ := row_slice m5
        have hg5 := (hb5.block _ (by omega)).trans hg0
        obtain ⟨q0, q1, q2, q3, f0, f1, f2, f3⟩ := box4 hg5
        clear k5 l5 m5
        go_wp2
        obtain ⟨r1, r2, r3⟩ := fin_node hg5 ho5 (by omega)
        exact ret_node rfl w.heap.size _ _ _ _ rfl r1 rfl ⟨_, rfl, r2.mono (by omega), hB0.trans ((hb5.mono (by omega)).trans (r3 _ (Nat.le_refl _)))⟩
    · rw [if_neg h75]
      clear hin hino
      obtain ⟨q0, q1, q2, q3, f0, f1, f2, f3⟩ := box4 hg0
      go_enter Tryz.func77, Tryz.ntmps77
      go_wp2_with fail
      go_quiet (fail)
      go_wp2
      obtain ⟨r1, r2, r3⟩ := fin_node (W := W0.drewN _) hg0 (NdOwn.zero _ (w.heap.size + 1)) (by omega)
      exact ret_node rfl w.heap.size _ _ _ _ rfl r1 rfl ⟨_, rfl, r2.mono (by omega), hB0.trans ((belowN W0 _ _).trans (r3 _ (Nat.le_refl _)))⟩

end Go.Proofs.YthgdbjpefjjeaaaGreat
