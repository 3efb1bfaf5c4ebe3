/- Nodes and heads as bytes, and back, in plain words; no function of the program. -/
import Derived.Test.YthgdbjpefjjeaaaGreatNumMath
import Derived.Test.YthgdbjpefjjeaaaGreatSumMath
import Derived.Test.YthgdbjpefjjeaaaGreatTextMath
namespace Go.Proofs.YthgdbjpefjjeaaaGreat
open Go.RowKit
set_option linter.unusedVariables false

/-- A node, in plain words. -/
structure Nd where
  leaf : Bool
  pairs : List (ByteArray × ByteArray)
  keys : List ByteArray
  kids : List Int

def nd0 : Nd := ⟨false, [], [], []⟩

/-- Its kids are numbers of 32 bits. -/
def NdOk (n : Nd) : Prop := ∀ k ∈ n.kids, 0 ≤ k ∧ k ≤ 4294967295

def lessS (a b : ByteArray) : Bool := Op.bytesLess a.toList b.toList

/-- Keys of 14 bytes each that rise. -/
def risAt (l : List ByteArray) (i : Nat) : Bool := decide ((l.getD i ⟨#[]⟩).size = 14) && (i == 0 || lessS (l.getD (i - 1) ⟨#[]⟩) (l.getD i ⟨#[]⟩))
def risingB (l : List ByteArray) : Bool := (List.range l.length).all (risAt l)

theorem rising_no {l : List ByteArray} (i : Nat) (hi : i < l.length) (h : risAt l i = false) : risingB l = false := by
  cases hr : risingB l with
  | false => rfl
  | true => rw [List.all_eq_true.1 hr i (List.mem_range.2 hi)] at h; cases h
theorem rising_yes {l : List ByteArray} (h : ∀ i, i < l.length → risAt l i = true) : risingB l = true := List.all_eq_true.2 fun i hi => h i (List.mem_range.1 hi)

theorem rising_size {l : List ByteArray} (h : risingB l = true) : ∀ k ∈ l, k.size = 14 := by
  intro k hk
  obtain ⟨i, hi, rfl⟩ := List.getElem_of_mem hk
  have := List.all_eq_true.1 h i (List.mem_range.2 hi)
  unfold risAt at this
  rw [Bool.and_eq_true, decide_eq_true_iff, List.getD_eq_getElem?_getD, List.getElem?_eq_getElem hi] at this
  exact this.1

theorem rising_less {l : List ByteArray} (h : risingB l = true) (i : Nat) (hi : i + 1 < l.length) : lessS (l.getD i ⟨#[]⟩) (l.getD (i + 1) ⟨#[]⟩) = true := by
  have := List.all_eq_true.1 h (i + 1) (List.mem_range.2 hi)
  unfold risAt at this
  rw [Bool.and_eq_true, Bool.or_eq_true] at this
  rcases this.2 with h2 | h2
  · simp at h2
  · simpa using h2

/-- Whether a node may be. -/
def nodeOk (n : Nd) : Bool :=
  if n.leaf then decide (1 ≤ n.pairs.length) && decide (n.pairs.length ≤ 10) && n.pairs.all (fun p => decide (p.2.size ≤ 34)) && risingB (n.pairs.map (·.1)) && n.keys.isEmpty && n.kids.isEmpty
  else decide (2 ≤ n.kids.length) && decide (n.kids.length ≤ 24) && decide (n.keys.length + 1 = n.kids.length) && risingB n.keys && n.pairs.isEmpty && n.kids.all (fun k => k != 0)

theorem nodeOk_leaf {n : Nd} (h : nodeOk n = true) (hl : n.leaf = true) : (1 ≤ n.pairs.length ∧ n.pairs.length ≤ 10) ∧ (∀ p ∈ n.pairs, p.1.size = 14 ∧ p.2.size ≤ 34) ∧ n.keys = [] ∧ n.kids = [] := by
  unfold nodeOk at h
  rw [if_pos hl] at h
  simp only [Bool.and_eq_true, decide_eq_true_iff, List.isEmpty_iff, List.all_eq_true] at h
  obtain ⟨⟨⟨⟨⟨h1, h2⟩, h3⟩, h4⟩, h5⟩, h6⟩ := h
  exact ⟨⟨h1, h2⟩, fun p hp => ⟨rising_size h4 p.1 (List.mem_map_of_mem hp), h3 p hp⟩, h5, h6⟩

theorem nodeOk_inner {n : Nd} (h : nodeOk n = true) (hl : n.leaf = false) : (2 ≤ n.kids.length ∧ n.kids.length ≤ 24) ∧ n.keys.length + 1 = n.kids.length ∧ risingB n.keys = true ∧ n.pairs = [] := by
  unfold nodeOk at h
  rw [if_neg (by rw [hl]; decide)] at h
  simp only [Bool.and_eq_true, decide_eq_true_iff, List.isEmpty_iff] at h
  obtain ⟨⟨⟨⟨⟨h1, h2⟩, h3⟩, h4⟩, h5⟩, h6⟩ := h
  exact ⟨⟨h1, h2⟩, h3, h4, h5⟩

/-- A pair's bytes; a node's; with noughts behind them; its block. -/
def pairL (p : ByteArray × ByteArray) : List Int := strB p.1 ++ ((p.2.size : Int) :: strB p.2)
def kidL (k : Int) : List Int := fixB k.toNat 4
def rawL (n : Nd) : List Int := if n.leaf then 76 :: (n.pairs.length : Int) :: n.pairs.flatMap pairL else 75 :: (n.kids.length : Int) :: (n.kids.flatMap kidL ++ n.keys.flatMap strB)
def padL (xs : List Int) : List Int := xs ++ List.replicate (508 - xs.length) 0
def bodyL (n : Nd) : List Int := padL (rawL n)
def sealed (xs : List Int) : List Int := xs ++ sealB xs
def blockL (n : Nd) : List Int := sealed (bodyL n)

theorem padL_length {xs : List Int} (h : xs.length ≤ 508) : (padL xs).length = 508 := by
  unfold padL; rw [List.length_append, List.length_replicate]; omega
theorem sealed_length (xs : List Int) : (sealed xs).length = xs.length + 4 := by
  unfold sealed; rw [List.length_append, sealB_length]
theorem zeros_byt (k : Nat) : Byt (List.replicate k (0 : Int)) := fun x hx => by rw [List.eq_of_mem_replicate hx]; omega
theorem padL_byt {xs : List Int} (h : Byt xs) : Byt (padL xs) := h.append (zeros_byt _)
theorem sealed_byt {xs : List Int} (h : Byt xs) : Byt (sealed xs) := h.append (sealB_byt xs)

theorem flat_byt {α : Type} (f : α → List Int) (l : List α) (h : ∀ a ∈ l, Byt (f a)) : Byt (l.flatMap f) := by
  intro x hx
  obtain ⟨a, ha, hx⟩ := List.mem_flatMap.1 hx
  exact h a ha x hx

theorem flat_length {α : Type} (f : α → List Int) (l : List α) (c : Nat) (h : ∀ a ∈ l, (f a).length ≤ c) : (l.flatMap f).length ≤ c * l.length := by
  induction l with
  | nil => simp
  | cons a l ih =>
    have h1 := h a (by simp)
    have h2 := ih fun b hb => h b (List.mem_cons_of_mem _ hb)
    rw [List.flatMap_cons, List.length_append, List.length_cons, Nat.mul_add]
    omega

theorem pairL_length (p : ByteArray × ByteArray) : (pairL p).length = p.1.size + 1 + p.2.size := by
  unfold pairL; rw [List.length_append, List.length_cons, strB_length, strB_length]; omega
theorem kidL_length (k : Int) : (kidL k).length = 4 := fixB_length _ _

theorem rawL_le {n : Nd} (h : nodeOk n = true) : (rawL n).length ≤ 508 := by
  unfold rawL
  cases hl : n.leaf with
  | true =>
    obtain ⟨⟨h1, h2⟩, h3, _, _⟩ := nodeOk_leaf h hl
    rw [if_pos rfl, List.length_cons, List.length_cons]
    have := flat_length pairL n.pairs 49 fun p hp => by rw [pairL_length]; have := h3 p hp; omega
    omega
  | false =>
    obtain ⟨⟨h1, h2⟩, h3, h4, _⟩ := nodeOk_inner h hl
    rw [if_neg (by decide), List.length_cons, List.length_cons, List.length_append]
    have e1 := flat_length kidL n.kids 4 fun k _ => by rw [kidL_length]; omega
    have e2 := flat_length strB n.keys 14 fun k hk => by rw [strB_length, rising_size h4 k hk]; omega
    omega

theorem rawL_byt {n : Nd} (h : nodeOk n = true) : Byt (rawL n) := by
  unfold rawL
  cases hl : n.leaf with
  | true =>
    obtain ⟨⟨h1, h2⟩, h3, _, _⟩ := nodeOk_leaf h hl
    rw [if_pos rfl]
    intro x hx
    rcases List.mem_cons.1 hx with rfl | hx
    · omega
    · rcases List.mem_cons.1 hx with rfl | hx
      · omega
      · refine flat_byt pairL n.pairs (fun p hp => (strB_byt _).append fun y hy => ?_) x hx
        rcases List.mem_cons.1 hy with rfl | hy
        · have := h3 p hp; omega
        · exact strB_byt _ y hy
  | false =>
    obtain ⟨⟨h1, h2⟩, h3, h4, _⟩ := nodeOk_inner h hl
    rw [if_neg (by decide)]
    intro x hx
    rcases List.mem_cons.1 hx with rfl | hx
    · omega
    · rcases List.mem_cons.1 hx with rfl | hx
      · omega
      · exact ((flat_byt kidL n.kids fun k _ => fixB_byt _ _).append (flat_byt strB n.keys fun k _ => strB_byt _)) x hx

theorem bodyL_length {n : Nd} (h : nodeOk n = true) : (bodyL n).length = 508 := padL_length (rawL_le h)
theorem bodyL_byt {n : Nd} (h : nodeOk n = true) : Byt (bodyL n) := padL_byt (rawL_byt h)
theorem blockL_length {n : Nd} (h : nodeOk n = true) : (blockL n).length = 512 := by unfold blockL; rw [sealed_length, bodyL_length h]
theorem blockL_byt {n : Nd} (h : nodeOk n = true) : Byt (blockL n) := sealed_byt (bodyL_byt h)

/-! ### Read back, as the document's answer reads -/
def rdPairs : Nat → List Int → Option (List (ByteArray × ByteArray))
  | 0, _ => some []
  | m + 1, xs =>
    if xs.length < 15 then some []
    else if readE (xs.drop 14) = 0 then (rdPairs m (xs.drop (14 + (readN (xs.drop 14)).toNat))).map fun l => (strOfNums (xs.take 14), readS (xs.drop 14)) :: l
    else none
def rdKids : Nat → List Int → List Int
  | 0, _ => []
  | m + 1, xs => if xs.length < 4 then [] else (valB (xs.take 4) : Int) :: rdKids m (xs.drop 4)
def rdKeys : Nat → List Int → List ByteArray
  | 0, _ => []
  | m + 1, xs => if xs.length < 14 then [] else strOfNums (xs.take 14) :: rdKeys m (xs.drop 14)
def rdNode (xs : List Int) : Nd :=
  if xs.getD 0 0 = 76 then
    match rdPairs (xs.getD 1 0).toNat (xs.drop 2) with
    | none => nd0
    | some l => ⟨true, l, [], []⟩
  else ⟨false, [], rdKeys ((xs.getD 1 0).toNat - 1) (xs.drop (2 + 4 * (rdKids (xs.getD 1 0).toNat (xs.drop 2)).length)), rdKids (xs.getD 1 0).toNat (xs.drop 2)⟩

theorem rdPairs_back (l : List (ByteArray × ByteArray)) (h : ∀ p ∈ l, p.1.size = 14) (ys : List Int) : rdPairs l.length (l.flatMap pairL ++ ys) = some l := by
  induction l with
  | nil => rfl
  | cons p l ih =>
    have hp := h p (by simp)
    have hl := strB_length p.1
    have hl2 := strB_length p.2
    have ih := ih fun q hq => h q (List.mem_cons_of_mem _ hq)
    have e : (p :: l).flatMap pairL ++ ys = strB p.1 ++ ((p.2.size : Int) :: (strB p.2 ++ (l.flatMap pairL ++ ys))) := by
      simp [List.flatMap_cons, pairL]
    rw [e, List.length_cons]
    unfold rdPairs
    have d14 : (strB p.1 ++ ((p.2.size : Int) :: (strB p.2 ++ (l.flatMap pairL ++ ys)))).drop 14 = (p.2.size : Int) :: (strB p.2 ++ (l.flatMap pairL ++ ys)) := by
      rw [← hp, ← hl]; exact List.drop_left
    have t14 : (strB p.1 ++ ((p.2.size : Int) :: (strB p.2 ++ (l.flatMap pairL ++ ys)))).take 14 = strB p.1 := by
      rw [← hp, ← hl]; exact List.take_left
    have dN : (strB p.1 ++ ((p.2.size : Int) :: (strB p.2 ++ (l.flatMap pairL ++ ys)))).drop (14 + (1 + (p.2.size : Int)).toNat) = l.flatMap pairL ++ ys := by
      rw [← List.drop_drop, d14, show (1 + (p.2.size : Int)).toNat = p.2.size + 1 from by omega, List.drop_succ_cons, ← hl2]
      exact List.drop_left
    rw [if_neg (by simp [hl, hp]; omega), d14, back_E, back_N, back_S, t14, if_pos rfl, dN, ih, strOfNums_strB]
    rfl

theorem rdKids_back (l : List Int) (h : ∀ k ∈ l, 0 ≤ k ∧ k ≤ 4294967295) (ys : List Int) : rdKids l.length (l.flatMap kidL ++ ys) = l := by
  induction l with
  | nil => rfl
  | cons k l ih =>
    have hk := h k (by simp)
    have ih := ih fun q hq => h q (List.mem_cons_of_mem _ hq)
    have hl := kidL_length k
    have e : (k :: l).flatMap kidL ++ ys = kidL k ++ (l.flatMap kidL ++ ys) := by simp [List.flatMap_cons]
    rw [e, List.length_cons]
    unfold rdKids
    have d4 : (kidL k ++ (l.flatMap kidL ++ ys)).drop 4 = l.flatMap kidL ++ ys := by rw [← hl]; exact List.drop_left
    have t4 : (kidL k ++ (l.flatMap kidL ++ ys)).take 4 = kidL k := by rw [← hl]; exact List.take_left
    have hv : (valB (kidL k) : Int) = k := by unfold kidL; rw [valB_fixB _ _ (by omega)]; omega
    rw [if_neg (by simp [hl]), d4, t4, ih, hv]

theorem rdKeys_back (l : List ByteArray) (h : ∀ k ∈ l, k.size = 14) (ys : List Int) : rdKeys l.length (l.flatMap strB ++ ys) = l := by
  induction l with
  | nil => rfl
  | cons k l ih =>
    have hk := h k (by simp)
    have ih := ih fun q hq => h q (List.mem_cons_of_mem _ hq)
    have hl := strB_length k
    have e : (k :: l).flatMap strB ++ ys = strB k ++ (l.flatMap strB ++ ys) := by simp [List.flatMap_cons]
    rw [e, List.length_cons]
    unfold rdKeys
    have d : (strB k ++ (l.flatMap strB ++ ys)).drop 14 = l.flatMap strB ++ ys := by rw [← hk, ← hl]; exact List.drop_left
    have t : (strB k ++ (l.flatMap strB ++ ys)).take 14 = strB k := by rw [← hk, ← hl]; exact List.take_left
    rw [if_neg (by simp [hl, hk]), d, t, ih, strOfNums_strB]

theorem flat_kids_length (l : List Int) : (l.flatMap kidL).length = 4 * l.length := by
  induction l with
  | nil => rfl
  | cons k l ih => rw [List.flatMap_cons, List.length_append, kidL_length, ih, List.length_cons]; omega

/-- What was written is read as what it was. -/
theorem rdNode_back {n : Nd} (h : nodeOk n = true) (hk : NdOk n) : rdNode (bodyL n) = n := by
  obtain ⟨lf, ps, ks, cs⟩ := n
  cases lf with
  | true =>
    obtain ⟨⟨h1, h2⟩, h3, h4, h5⟩ := nodeOk_leaf h rfl
    dsimp only at h1 h2 h3 h4 h5
    subst h4 h5
    have e : bodyL ⟨true, ps, [], []⟩ = 76 :: (ps.length : Int) :: (ps.flatMap pairL ++ List.replicate (508 - (rawL ⟨true, ps, [], []⟩).length) 0) := by
      unfold bodyL padL
      conv => lhs; lhs; unfold rawL
      simp
    rw [e]
    unfold rdNode
    simp only [List.getD_cons_zero, List.getD_cons_succ, if_true, List.drop_succ_cons, List.drop_zero, Int.toNat_natCast]
    rw [rdPairs_back ps (fun p hp => (h3 p hp).1)]
  | false =>
    obtain ⟨⟨h1, h2⟩, h3, h4, h5⟩ := nodeOk_inner h rfl
    dsimp only at h1 h2 h3 h4 h5
    subst h5
    have e : bodyL ⟨false, [], ks, cs⟩ = 75 :: (cs.length : Int) :: (cs.flatMap kidL ++ (ks.flatMap strB ++ List.replicate (508 - (rawL ⟨false, [], ks, cs⟩).length) 0)) := by
      unfold bodyL padL
      conv => lhs; lhs; unfold rawL
      simp
    rw [e]
    unfold rdNode
    simp only [List.getD_cons_zero, List.getD_cons_succ, List.drop_succ_cons, List.drop_zero, Int.toNat_natCast]
    rw [if_neg (by decide), rdKids_back cs hk]
    have d : ∀ ys : List Int, (75 :: (cs.length : Int) :: (cs.flatMap kidL ++ ys)).drop (2 + 4 * cs.length) = ys := by
      intro ys
      rw [← List.drop_drop]
      simp only [List.drop_succ_cons, List.drop_zero]
      rw [← flat_kids_length cs]
      exact List.drop_left
    rw [d, show cs.length - 1 = ks.length from by omega, rdKeys_back ks (rising_size h4)]

/-! ### Blocks -/
/-- Why a block isn't opened; the node that a block tells; the error's number. -/
def opE (xs : List Int) : Int := if xs.length = 512 then unE xs else 10
def ndIs (xs : List Int) : Bool := nodeOk (rdNode (bodyB xs)) && decide (blockL (rdNode (bodyB xs)) = xs)
def ndE (xs : List Int) : Int := if opE xs = 0 then (if ndIs xs then 0 else 11) else opE xs
def ndN (xs : List Int) : Nd := if ndE xs = 0 then rdNode (bodyB xs) else nd0

theorem opE_sealed {xs : List Int} (h : xs.length = 508) : opE (sealed xs) = 0 := by
  unfold opE
  rw [if_pos (by rw [sealed_length, h])]
  exact unE_seal xs

theorem bodyB_sealed (xs : List Int) : bodyB (sealed xs) = xs := body_seal xs

theorem node_back {n : Nd} (h : nodeOk n = true) (hk : NdOk n) : ndE (blockL n) = 0 ∧ ndN (blockL n) = n := by
  have e1 : bodyB (blockL n) = bodyL n := bodyB_sealed _
  have e2 : rdNode (bodyB (blockL n)) = n := by rw [e1]; exact rdNode_back h hk
  have e3 : opE (blockL n) = 0 := opE_sealed (bodyL_length h)
  have e4 : ndIs (blockL n) = true := by unfold ndIs; rw [e2, h, decide_eq_true rfl]; rfl
  have e5 : ndE (blockL n) = 0 := by unfold ndE; rw [if_pos e3, e4]; rfl
  exact ⟨e5, by unfold ndN; rw [if_pos e5, e2]⟩

theorem node_forth {xs : List Int} (h : ndE xs = 0) : nodeOk (ndN xs) = true ∧ blockL (ndN xs) = xs := by
  have e : ndN xs = rdNode (bodyB xs) := by unfold ndN; rw [if_pos h]
  unfold ndE at h
  split at h
  · split at h
    · rename_i h1 h2
      unfold ndIs at h2
      rw [Bool.and_eq_true, decide_eq_true_iff] at h2
      rw [e]; exact h2
    · cases h
  · rename_i h1; exact absurd h h1

theorem nd_zero {xs : List Int} (h : ndE xs ≠ 0) : ndN xs = nd0 := by unfold ndN; rw [if_neg h]

theorem valB_byt4 (xs : List Int) (h : Byt xs) : (0 : Int) ≤ valB (xs.take 4) ∧ (valB (xs.take 4) : Int) ≤ 4294967295 := by
  have h1 := valB_lt (xs.take 4) (h.take 4)
  have h2 : (256 : Nat) ^ (xs.take 4).length ≤ 256 ^ 4 := Nat.pow_le_pow_right (by decide) (by rw [List.length_take]; omega)
  have e : (256 : Nat) ^ 4 = 4294967296 := by decide
  omega

theorem rdKids_ok (m : Nat) : ∀ xs : List Int, Byt xs → ∀ k ∈ rdKids m xs, 0 ≤ k ∧ k ≤ 4294967295 := by
  induction m with
  | zero => intro xs _ k hk; cases hk
  | succ m ih =>
    intro xs h k hk
    unfold rdKids at hk
    split at hk
    · cases hk
    · rcases List.mem_cons.1 hk with rfl | hk
      · exact valB_byt4 xs h
      · exact ih _ (h.drop 4) k hk

theorem rdNode_ok {xs : List Int} (h : Byt xs) : NdOk (rdNode xs) := by
  unfold rdNode
  split
  · split
    · intro k hk; cases hk
    · intro k hk; cases hk
  · exact rdKids_ok _ _ (h.drop 2)

theorem ndN_ok {xs : List Int} (h : Byt xs) : NdOk (ndN xs) := by
  unfold ndN
  split
  · exact rdNode_ok (h.take _)
  · intro k hk; cases hk

/-! ### Heads -/
structure Hd where
  seq : Int
  version : Int
  log : Int
  root : Int
  next : Int
  items : Int

structure HdOk (h : Hd) : Prop where
  s0 : 0 ≤ h.seq
  s1 : h.seq ≤ 18446744073709551615
  v0 : 0 ≤ h.version
  v1 : h.version ≤ 18446744073709551615
  l0 : 0 ≤ h.log
  l1 : h.log ≤ 18446744073709551615
  r0 : 0 ≤ h.root
  r1 : h.root ≤ 4294967295
  n0 : 0 ≤ h.next
  n1 : h.next ≤ 4294967295
  i0 : 0 ≤ h.items
  i1 : h.items ≤ 4294967295

def hd0 : Hd := ⟨0, 0, 0, 0, 0, 0⟩
def magicL : List Int := [97, 114, 109, 111, 105, 114, 101, 49]
def headRaw (h : Hd) : List Int := magicL ++ (fixB h.seq.toNat 8 ++ (fixB h.version.toNat 8 ++ (fixB h.log.toNat 8 ++ (fixB h.root.toNat 4 ++ (fixB h.next.toNat 4 ++ fixB h.items.toNat 4)))))
def headBody (h : Hd) : List Int := padL (headRaw h)
def headBlock (h : Hd) : List Int := sealed (headBody h)

theorem headRaw_length (h : Hd) : (headRaw h).length = 44 := by simp [headRaw, magicL, fixB_length]
theorem headRaw_byt (h : Hd) : Byt (headRaw h) := by
  have hm : Byt magicL := by intro x hx; simp only [magicL, List.mem_cons, List.not_mem_nil, or_false] at hx; omega
  exact hm.append ((fixB_byt _ _).append ((fixB_byt _ _).append ((fixB_byt _ _).append ((fixB_byt _ _).append ((fixB_byt _ _).append (fixB_byt _ _))))))
theorem headBody_length (h : Hd) : (headBody h).length = 508 := padL_length (by rw [headRaw_length]; omega)
theorem headBlock_length (h : Hd) : (headBlock h).length = 512 := by unfold headBlock; rw [sealed_length, headBody_length]
theorem headBlock_byt (h : Hd) : Byt (headBlock h) := sealed_byt (padL_byt (headRaw_byt h))

def rdHead (xs : List Int) : Hd := ⟨valB ((xs.drop 8).take 8), valB ((xs.drop 16).take 8), valB ((xs.drop 24).take 8), valB ((xs.drop 32).take 4), valB ((xs.drop 36).take 4), valB ((xs.drop 40).take 4)⟩

theorem cut_mid (A B C : List Int) (i k : Nat) (hA : A.length = i) (hB : B.length = k) : ((A ++ (B ++ C)).drop i).take k = B := by
  subst hA hB
  rw [List.drop_left, List.take_left]

theorem val_fix (n : Int) (k : Nat) (h0 : 0 ≤ n) (h1 : n.toNat < 256 ^ k) : (valB (fixB n.toNat k) : Int) = n := by
  rw [valB_fixB _ _ h1]; omega

theorem rdHead_back {h : Hd} (hk : HdOk h) : rdHead (headBody h) = h := by
  obtain ⟨s, v, l, r, n, i⟩ := h
  obtain ⟨s0, s1, v0, v1, l0, l1, r0, r1, n0, n1, i0, i1⟩ := hk
  dsimp only at s0 s1 v0 v1 l0 l1 r0 r1 n0 n1 i0 i1
  have p8 : (256 : Nat) ^ 8 = 18446744073709551616 := by decide
  have p4 : (256 : Nat) ^ 4 = 4294967296 := by decide
  have hm : magicL.length = 8 := rfl
  have fl := fixB_length
  unfold rdHead headBody padL headRaw
  dsimp only
  generalize List.replicate (508 - _) (0 : Int) = Z
  have e1 := cut_mid magicL (fixB s.toNat 8) (fixB v.toNat 8 ++ (fixB l.toNat 8 ++ (fixB r.toNat 4 ++ (fixB n.toNat 4 ++ fixB i.toNat 4))) ++ Z) 8 8 hm (fl _ _)
  have e2 := cut_mid (magicL ++ fixB s.toNat 8) (fixB v.toNat 8) (fixB l.toNat 8 ++ (fixB r.toNat 4 ++ (fixB n.toNat 4 ++ fixB i.toNat 4)) ++ Z) 16 8 (by simp [hm, fl]) (fl _ _)
  have e3 := cut_mid (magicL ++ fixB s.toNat 8 ++ fixB v.toNat 8) (fixB l.toNat 8) (fixB r.toNat 4 ++ (fixB n.toNat 4 ++ fixB i.toNat 4) ++ Z) 24 8 (by simp [hm, fl]) (fl _ _)
  have e4 := cut_mid (magicL ++ fixB s.toNat 8 ++ fixB v.toNat 8 ++ fixB l.toNat 8) (fixB r.toNat 4) (fixB n.toNat 4 ++ fixB i.toNat 4 ++ Z) 32 4 (by simp [hm, fl]) (fl _ _)
  have e5 := cut_mid (magicL ++ fixB s.toNat 8 ++ fixB v.toNat 8 ++ fixB l.toNat 8 ++ fixB r.toNat 4) (fixB n.toNat 4) (fixB i.toNat 4 ++ Z) 36 4 (by simp [hm, fl]) (fl _ _)
  have e6 := cut_mid (magicL ++ fixB s.toNat 8 ++ fixB v.toNat 8 ++ fixB l.toNat 8 ++ fixB r.toNat 4 ++ fixB n.toNat 4) (fixB i.toNat 4) Z 40 4 (by simp [hm, fl]) (fl _ _)
  simp only [List.append_assoc] at e1 e2 e3 e4 e5 e6 ⊢
  rw [e1, e2, e3, e4, e5, e6, val_fix s 8 s0 (by omega), val_fix v 8 v0 (by omega), val_fix l 8 l0 (by omega), val_fix r 4 r0 (by omega), val_fix n 4 n0 (by omega), val_fix i 4 i0 (by omega)]

def hdIs (xs : List Int) : Bool := decide (headBlock (rdHead (bodyB xs)) = xs)
def hdE (xs : List Int) : Int := if opE xs = 0 then (if hdIs xs then 0 else 11) else opE xs
def hdH (xs : List Int) : Hd := if hdE xs = 0 then rdHead (bodyB xs) else hd0

theorem head_back {h : Hd} (hk : HdOk h) : hdE (headBlock h) = 0 ∧ hdH (headBlock h) = h := by
  have e2 : rdHead (bodyB (headBlock h)) = h := by rw [show bodyB (headBlock h) = headBody h from bodyB_sealed _]; exact rdHead_back hk
  have e3 : opE (headBlock h) = 0 := opE_sealed (headBody_length h)
  have e4 : hdIs (headBlock h) = true := by unfold hdIs; rw [e2, decide_eq_true rfl]
  have e5 : hdE (headBlock h) = 0 := by unfold hdE; rw [if_pos e3, e4]; rfl
  exact ⟨e5, by unfold hdH; rw [if_pos e5, e2]⟩

theorem head_forth {xs : List Int} (h : hdE xs = 0) : headBlock (hdH xs) = xs := by
  have e : hdH xs = rdHead (bodyB xs) := by unfold hdH; rw [if_pos h]
  unfold hdE at h
  split at h
  · split at h
    · rename_i h1 h2
      unfold hdIs at h2
      rw [decide_eq_true_iff] at h2
      rw [e]; exact h2
    · cases h
  · rename_i h1; exact absurd h h1

/-- No block is both. -/
theorem not_both {xs : List Int} (h1 : ndE xs = 0) (h2 : hdE xs = 0) : False := by
  obtain ⟨ho, e1⟩ := node_forth h1
  have e2 := head_forth h2
  have a1 : (blockL (ndN xs)).getD 0 0 = 76 ∨ (blockL (ndN xs)).getD 0 0 = 75 := by
    unfold blockL sealed bodyL padL rawL
    cases hl : (ndN xs).leaf with
    | true => left; rw [if_pos rfl]; rfl
    | false => right; rw [if_neg (by decide)]; rfl
  have a2 : (headBlock (hdH xs)).getD 0 0 = 97 := rfl
  rw [e1] at a1
  rw [e2] at a2
  omega

theorem ndE_cases {xs : List Int} (h : opE xs = 0) : ndE xs = 0 ∨ ndE xs = 11 := by
  unfold ndE; rw [if_pos h]; split
  · exact .inl rfl
  · exact .inr rfl
theorem hdE_cases {xs : List Int} (h : opE xs = 0) : hdE xs = 0 ∨ hdE xs = 11 := by
  unfold hdE; rw [if_pos h]; split
  · exact .inl rfl
  · exact .inr rfl

end Go.Proofs.YthgdbjpefjjeaaaGreat
