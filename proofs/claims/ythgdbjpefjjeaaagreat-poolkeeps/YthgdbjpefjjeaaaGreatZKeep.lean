/- A map from numbers to nodes; what stands in a pool's pages. -/
import Derived.Test.YthgdbjpefjjeaaaGreatMZ2
import Derived.Maps.OwnSet
namespace Go.Proofs.YthgdbjpefjjeaaaGreat
open Go.RowKit Go.Maps
set_option linter.unusedVariables false
set_option linter.unusedSimpArgs false
set_option maxRecDepth 4000

/-- How a slice of one's own, and a node of such, read as an element of a map. -/
def sEnc : Value → Option (DataW Unit)
  | .slice none 0 0 => some (.agg [])
  | .slice (some ⟨g, 0, none⟩) n c => some (.agg [.lit (.int .i64 (g : Int)), .lit (.int .i64 (n : Int)), .lit (.int .i64 (c : Int))])
  | _ => none
def sDec : DataW Unit → Value
  | .agg [.lit (.int _ g), .lit (.int _ n), .lit (.int _ c)] => .slice (some ⟨g.toNat, 0, none⟩) n.toNat c.toNat
  | _ => .slice none 0 0
def nEnc : Value → Option (DataW Unit × List MemPlace)
  | .agg ⟨[.bool b, x, y, z]⟩ => match sEnc x, sEnc y, sEnc z with
    | some dx, some dy, some dz => some (.agg [.lit (.bool b), dx, dy, dz], [])
    | _, _, _ => none
  | _ => none
def nDec : DataW Unit → Value
  | .agg [.lit (.bool b), dx, dy, dz] => .agg #[.bool b, sDec dx, sDec dy, sDec dz]
  | _ => undef

theorem sEnc_dec {v : Value} {d : DataW Unit} (h : sEnc v = some d) : sDec d = v := by
  unfold sEnc at h
  split at h
  · cases h; rfl
  · cases h
    simp [sDec]
  · cases h

theorem nEnc_dec {v : Value} {d : DataW Unit} {ps : List MemPlace} (h : nEnc v = some (d, ps)) : nDec d = v := by
  unfold nEnc at h
  split at h
  · split at h
    · rename_i h1 h2 h3
      cases h
      simp only [nDec, sEnc_dec h1, sEnc_dec h2, sEnc_dec h3]
    · cases h
  · cases h

theorem sEnc_own {w : World} {base e k n : Nat} {v : Value} {xs : List Value} (h : w.ownsRow base e k v n xs) : ∃ d, sEnc v = some d := by
  rcases h.2 with ⟨rfl, _⟩ | ⟨g, cap, cur, rfl, _⟩
  · exact ⟨_, rfl⟩
  · exact ⟨_, rfl⟩

theorem nEnc_own {w : World} {base : Nat} {v : Value} {n : Nd} (h : NdOwn w base v n) : ∃ d, nEnc v = some (d, []) := by
  obtain ⟨p, q, r, rfl, h1, h2, h3⟩ := h
  obtain ⟨d1, e1⟩ := sEnc_own h1
  obtain ⟨d2, e2⟩ := sEnc_own h2
  obtain ⟨d3, e3⟩ := sEnc_own h3
  exact ⟨.agg [.lit (.bool n.leaf), d1, d2, d3], by simp only [nEnc, e1, e2, e3]⟩

theorem keyedU : Keyed Tryz.prog 35 := int_keyed Tryz.underlying35
theorem keyU {i : Int} (h0 : 0 ≤ i) (h1 : i ≤ 4294967295) : keyOf Tryz.prog 35 (.int .u32 i) = some (.int .u32 i) := keyOf_int_mk Tryz.underlying35 (by simp [Lit.wf, IntKind.min, IntKind.max, IntKind.bits, IntKind.signed]; omega)
theorem Tryz.infoNode : (Tryz.prog.info? 40).map (fun i => (i.zero, i.size)) = some (some (.agg #[.bool false, .slice none 0 0, .slice none 0 0, .slice none 0 0]), 4) := by kernel_rfl
theorem zeroNode (w : World) : (zeroValue 40).run Tryz.prog w = .ok (.agg #[.bool false, .slice none 0 0, .slice none 0 0, .slice none 0 0]) w := (zero_of_info Tryz.infoNode).1 w

/-- The block 'b' of the world is a map that has just the nodes that 'M' tells. -/
def NMap (w : World) (b n : Nat) (M : Int → Option Value) : Prop :=
  ∃ D : DataW Unit, w.ownsMap Tryz.prog 35 nEnc b n D ∧ (∀ i, Go.Maps.has D (.int .u32 i) = (M i).isSome) ∧ ∀ i v, M i = some v → ∃ d, nEnc v = some (d, []) ∧ ∀ z, D.atKey (.int .u32 i) z = d

theorem NMap.same {w w' : World} {b n : Nat} {M : Int → Option Value} (h : NMap w b n M) (hb : w'.heap[b]? = w.heap[b]?) : NMap w' b n M := by
  obtain ⟨D, ⟨es, clock, hbb, r⟩, r2⟩ := h
  exact ⟨D, ⟨es, clock, hb.trans hbb, r⟩, r2⟩

theorem NMap.is {w : World} {b n : Nat} {M : Int → Option Value} (h : NMap w b n M) : ∃ es clock, w.heap[b]? = some (.map es clock) := by
  obtain ⟨D, ⟨es, clock, hb, _⟩, _⟩ := h
  exact ⟨es, clock, hb⟩

theorem NMap.lt {w : World} {b n : Nat} {M : Int → Option Value} (h : NMap w b n M) : b < w.heap.size := by
  obtain ⟨es, c, hb⟩ := h.is
  exact (Array.getElem?_eq_some_iff.1 hb).1

theorem NMap.made (w : World) : NMap (w.alloc (.map #[] 0)) w.heap.size 0 (fun _ => none) :=
  ⟨.map [], World.ownsMap_made w _ _ _, fun i => rfl, fun i c h => by cases h⟩

theorem NMap.read {w : World} {b n : Nat} {M : Int → Option Value} (h : NMap w b n M) {i : Int} (h0 : 0 ≤ i) (h1 : i ≤ 4294967295) {v : Value} (hv : M i = some v) :
    (Instr.lookup 50 (.map (some b)) (.int .u32 i) false).run Tryz.prog w = .ok v w := by
  obtain ⟨D, hown, hh, hM⟩ := h
  have hz : nEnc (.agg #[.bool false, .slice none 0 0, .slice none 0 0, .slice none 0 0]) = some (DataW.agg [.lit (.bool false), .agg [], .agg [], .agg []], []) := rfl
  obtain ⟨u, ps, hrun, hu⟩ := hown.lookup keyedU Tryz.underlying50 (zeroNode w) hz (keyU h0 h1)
  obtain ⟨d, hd, hat⟩ := hM i v hv
  rw [hat] at hu
  have e1 := nEnc_dec hu
  have e2 := nEnc_dec hd
  rw [hrun, ← e1, e2]

theorem ulit_ne {i j : Int} (h : j ≠ i) : (Lit.int .u32 j : Lit) ≠ .int .u32 i := by intro e; cases e; exact h rfl

theorem NMap.write {w : World} {b n : Nat} {M : Int → Option Value} (h : NMap w b n M) (hn : n < 1000) {i : Int} (h0 : 0 ≤ i) (h1 : i ≤ 4294967295) {v : Value} {d : DataW Unit} (hv : nEnc v = some (d, [])) :
    ∃ w', (Instr.mapUpdate 50 (.map (some b)) (.int .u32 i) v).run Tryz.prog w = .ok () w' ∧ NMap w' b (n + 1) (upd M i (some v)) ∧ Sole [b] w w' := by
  obtain ⟨D, hown, hh, hM⟩ := h
  have hmap := hown.isMap
  obtain ⟨w', hrun, hown', ht⟩ := hown.store keyedU Tryz.underlying50 (by unfold maxLen; omega) (keyU h0 h1) hv
  refine ⟨w', hrun, ⟨_, hown', fun j => ?_, fun j x hj => ?_⟩, Sole.of_grown ht.grown (by simp)⟩
  · by_cases e : j = i
    · subst e; rw [upd_same, Go.Maps.has_put_same hmap (by simp [WideAt.IsKeyLit])]; rfl
    · rw [upd_other _ _ _ e, Go.Maps.has_put_other (ulit_ne e), hh j]
  · by_cases e : j = i
    · subst e
      rw [upd_same] at hj
      cases hj
      exact ⟨d, hv, fun z => Go.Maps.atKey_put_same hmap (by simp [WideAt.IsKeyLit]) _ z⟩
    · rw [upd_other _ _ _ e] at hj
      obtain ⟨d', a1, a2⟩ := hM j x hj
      exact ⟨d', a1, fun z => by rw [Go.Maps.atKey_put_other (ulit_ne e), a2]⟩

/-- A node whose rows lie in none of a pool's blocks. -/
def NdFar (w : World) (a : Ad) (v : Value) (n : Nd) : Prop :=
  ∃ p q r, v = .agg #[.bool n.leaf, p, q, r] ∧ w.ownsRow 0 85 2 p n.pairs.length (n.pairs.flatMap kvE) ∧ w.ownsRow 0 9 1 q n.keys.length (n.keys.flatMap strE) ∧ w.ownsRow 0 35 1 r n.kids.length (n.kids.flatMap u32E) ∧
    (∀ g, p.ownBlock = some g → g ∉ a.all) ∧ (∀ g, q.ownBlock = some g → g ∉ a.all) ∧ (∀ g, r.ownBlock = some g → g ∉ a.all)

theorem NdFar.own {w : World} {a : Ad} {v : Value} {n : Nd} (h : NdFar w a v n) : NdOwn w 0 v n := by
  obtain ⟨p, q, r, e, h1, h2, h3, _⟩ := h
  exact ⟨p, q, r, e, h1, h2, h3⟩

theorem NdFar.moves {w w' : World} {a a' : Ad} {v : Value} {n : Nd} (h : NdFar w a v n) (hM : Moves w w' a a') : NdFar w' a' v n := by
  obtain ⟨p, q, r, e, h1, h2, h3, g1, g2, g3⟩ := h
  exact ⟨p, q, r, e, row_sole h1 hM.sole g1, row_sole h2 hM.sole g2, row_sole h3 hM.sole g3, fun g hg => (hM.out (own_lt h1 g hg) (g1 g hg)).1, fun g hg => (hM.out (own_lt h2 g hg) (g2 g hg)).1, fun g hg => (hM.out (own_lt h3 g hg) (g3 g hg)).1⟩

theorem own_is {w : World} {base e k n : Nat} {v : Value} {xs : List Value} (h : w.ownsRow base e k v n xs) {g : Nat} (hg : v.ownBlock = some g) : ∃ cs, w.heap[g]? = some (.cells cs e (0, 0)) := by
  rcases h.2 with ⟨rfl, _⟩ | ⟨g', cap, cur, rfl, _, h3, _⟩
  · simp [Value.ownBlock] at hg
  · simp [Value.ownBlock] at hg
    subst hg
    exact ⟨cur, h3⟩

/-- A map's block is none of a row's. -/
theorem NdFar.put {w w' : World} {a : Ad} {v : Value} {n : Nd} (h : NdFar w a v n) {b m : Nat} {M : Int → Option Value} (hM : NMap w b m M) (hS : Sole [b] w w') : NdFar w' a v n := by
  obtain ⟨p, q, r, e, h1, h2, h3, g1, g2, g3⟩ := h
  obtain ⟨es, c, hb⟩ := hM.is
  have key : ∀ {e k n : Nat} {v : Value} {xs : List Value}, w.ownsRow 0 e k v n xs → ∀ g, v.ownBlock = some g → g ∉ [b] := fun ho g hg hm => by
    obtain ⟨cs, hc⟩ := own_is ho hg
    simp at hm
    subst hm
    rw [hb] at hc
    cases hc
  exact ⟨p, q, r, e, row_sole h1 hS (key h1), row_sole h2 hS (key h2), row_sole h3 hS (key h3), g1, g2, g3⟩

theorem NdFar.new {w w' : World} {a : Ad} {p : Pu} {v : Value} {n : Nd} {base : Nat} (h : NdOwn w' base v n) (hP : PuAt w a p) (hb : w.heap.size ≤ base) : NdFar w' a v n := by
  obtain ⟨x, y, z, e, h1, h2, h3⟩ := h
  have key : ∀ {e k n : Nat} {v : Value} {xs : List Value}, w'.ownsRow base e k v n xs → ∀ g, v.ownBlock = some g → g ∉ a.all := fun ho g hg hm => by
    have h1 := own_ge ho g hg
    have h2 := hP.lt g hm
    omega
  exact ⟨x, y, z, e, row_mono h1 (Nat.zero_le _), row_mono h2 (Nat.zero_le _), row_mono h3 (Nat.zero_le _), key h1, key h2, key h3⟩

/-- Rows of numbers are none of a node's. -/
theorem NdFar.sole {w w' : World} {a : Ad} {v : Value} {n : Nd} (h : NdFar w a v n) {S : List Nat} (hS : Sole S w w') (hi : ∀ q ∈ S, ∃ cs, w.heap[q]? = some (.cells cs 3 (0, 0))) : NdFar w' a v n := by
  obtain ⟨p, q, r, e, h1, h2, h3, g1, g2, g3⟩ := h
  have key : ∀ {e k n : Nat} {v : Value} {xs : List Value}, e ≠ 3 → w.ownsRow 0 e k v n xs → ∀ g, v.ownBlock = some g → g ∉ S := fun he ho g hg hm => by
    obtain ⟨cs, hc⟩ := own_is ho hg
    obtain ⟨cs', hc'⟩ := hi g hm
    rw [hc] at hc'
    simp only [Option.some.injEq, Obj.cells.injEq] at hc'
    exact he hc'.2.1
  exact ⟨p, q, r, e, row_sole h1 hS (key (by decide) h1), row_sole h2 hS (key (by decide) h2), row_sole h3 hS (key (by decide) h3), g1, g2, g3⟩

/-- What stands in the pages that are taken or wait. -/
def Keeps (w : World) (a : Ad) (p : Pu) (M : Int → Option Value) : Prop :=
  ∀ j, j < p.now.ks.length → p.now.ks.getD j 0 ≠ 1 → ∃ v n, M ((p.now.lo + j : Nat) : Int) = some v ∧ NdFar w a v n ∧ nodeOk n = true ∧ NdOk n ∧ seen p.d ((p.now.lo + j : Nat) : Int) = blockL n

theorem Keeps.moves {w w' : World} {a a' : Ad} {p : Pu} {M : Int → Option Value} (h : Keeps w a p M) (hM : Moves w w' a a') : Keeps w' a' p M := fun j hj hk => by
  obtain ⟨v, n, h1, h2, r⟩ := h j hj hk
  exact ⟨v, n, h1, h2.moves hM, r⟩

theorem Keeps.below {w w' : World} {a : Ad} {p : Pu} {M : Int → Option Value} (h : Keeps w a p M) (hb : Below w.heap.size w w') : Keeps w' a p M := h.moves (Moves.of_below hb)

/-- What turns no page into one that is taken or waits keeps it. -/
theorem Keeps.less {w : World} {a : Ad} {p p' : Pu} {M : Int → Option Value} (h : Keeps w a p M) (hd : p'.d = p.d) (hlo : p'.now.lo = p.now.lo) (hl : p'.now.ks.length = p.now.ks.length) (hk : ∀ j, j < p.now.ks.length → p'.now.ks.getD j 0 ≠ 1 → p.now.ks.getD j 0 ≠ 1) : Keeps w a p' M := fun j hj hne => by
  rw [hl] at hj
  have := h j hj (hk j hj hne)
  rw [hlo, hd]
  exact this

theorem Keeps.drop {w : World} {a : Ad} {p : Pu} {M : Int → Option Value} (h : Keeps w a p M) (i : Int) : Keeps w a (dropP p i) M :=
  h.less rfl (turnF_lo _ _ _) (turnF_len _ _ _) fun j hj hne e => hne (by
    show (turnF p.now i (if freshB p i then 1 else 3)).ks.getD j 0 = 1
    rw [turnF_get _ _ _ _ hj]
    split
    · rename_i c
      rw [c.2, kindOfN_at hj] at c
      omega
    · exact e)

theorem Keeps.settle {w : World} {a : Ad} {p : Pu} {M : Int → Option Value} (h : Keeps w a p M) : Keeps w a { p with st := p.now } M := h.less rfl rfl rfl fun j hj hne => hne

theorem Keeps.undo {w : World} {a : Ad} {p : Pu} {M : Int → Option Value} (h : Keeps w a p M) (hok : PuOk p) : Keeps w a { p with now := p.st } M :=
  h.less rfl hok.slo hok.sl fun j hj hne e => hne (by
    show p.st.ks.getD j 0 = 1
    have := hok.rel j hj
    generalize p.now.ks.getD j 0 = A at *
    generalize p.st.ks.getD j 0 = B at *
    unfold pairOk at this
    omega)

theorem Keeps.sweep {w : World} {a : Ad} {p : Pu} {M : Int → Option Value} (h : Keeps w a p M) (l : List Int) : Keeps w a (sweepP p l) M :=
  h.less rfl rfl (sweepF_len _ _) fun j hj hne e => hne (by
    rw [sweepP_now p l j hj]
    split
    · rfl
    · exact e)

theorem Keeps.write {w : World} {a : Ad} {p : Pu} {M : Int → Option Value} (h : Keeps w a p M) (hok : PuOk p) (hd : DOn p.d) {j : Nat} {n : Nd} (hj : firstR p.now.ks = some j) (hn : nodeOk n = true) (hk : NdOk n) {v : Value} (hv : NdFar w a v n) :
    Keeps w a { takeP p j with d := doneSt p.d ((p.now.lo + j : Nat) : Int) (blockL n) } (upd M ((p.now.lo + j : Nat) : Int) (some v)) := fun i hi hne => by
  have hl : (takeP p j).now.ks.length = p.now.ks.length := takeF_len _ _
  have hi' : i < p.now.ks.length := by rw [← hl]; exact hi
  show ∃ v' n', upd M ((p.now.lo + j : Nat) : Int) (some v) ((p.now.lo + i : Nat) : Int) = some v' ∧ NdFar w a v' n' ∧ nodeOk n' = true ∧ NdOk n' ∧ seen (doneSt p.d ((p.now.lo + j : Nat) : Int) (blockL n)) ((p.now.lo + i : Nat) : Int) = blockL n'
  rw [seen_done hd]
  by_cases e : i = j
  · subst e
    rw [upd_same, if_pos rfl]
    exact ⟨v, n, rfl, hv, hn, hk, rfl⟩
  · have e' : ((p.now.lo + i : Nat) : Int) ≠ ((p.now.lo + j : Nat) : Int) := by omega
    rw [upd_other _ _ _ e', if_neg e']
    have hne' : p.now.ks.getD i 0 ≠ 1 := by
      have h1 : (runF p.now 1 (some j)).ks.getD i 0 ≠ 1 := hne
      rw [takeF_get _ _ _ hi', if_neg (fun h => e h.symm)] at h1
      exact h1
    exact h i hi' hne'

/-- What Read tells of such a page. -/
theorem Keeps.read {w : World} {a : Ad} {p : Pu} {M : Int → Option Value} (h : Keeps w a p M) (hok : PuOk p) (hd : DOn p.d) {x : Nat} (hx : x ∈ blocksL p.now 2 ++ blocksL p.now 3) :
    ∃ v n, M (x : Int) = some v ∧ NdFar w a v n ∧ prdE p (x : Int) = 0 ∧ prdN p (x : Int) = n ∧ n.pairs.length ≤ 4398046511104 := by
  have hk : ¬ kindOfN p.now (x : Int) ≤ 1 := fun hc => (kind_mem hok.n x).1 hc hx
  obtain ⟨j, hj, e⟩ := kindOfN_in (s := p.now) (i := (x : Int)) (by omega)
  obtain rfl : x = p.now.lo + j := by omega
  have hk' := hk
  rw [kindOfN_at hj] at hk'
  obtain ⟨v, n, h1, h2, h3, h4, h5⟩ := h j hj (by omega)
  have hb := node_back h3 h4
  have he : prdE p ((p.now.lo + j : Nat) : Int) = 0 := by
    unfold prdE
    rw [if_neg hk, hd.on, if_neg (by simp), h5]
    exact hb.1
  refine ⟨v, n, h1, h2, he, ?_, ?_⟩
  · unfold prdN
    rw [if_pos he, h5]
    exact hb.2
  · cases hl : n.leaf with
    | true => have := (nodeOk_leaf h3 hl).1; omega
    | false => rw [(nodeOk_inner h3 hl).2.2.2]; simp

theorem Keeps.put {w w' : World} {a : Ad} {p : Pu} {M : Int → Option Value} (h : Keeps w a p M) {b m : Nat} {M0 : Int → Option Value} (hM : NMap w b m M0) (hS : Sole [b] w w') : Keeps w' a p M := fun j hj hk => by
  obtain ⟨v, n, h1, h2, r⟩ := h j hj hk
  exact ⟨v, n, h1, h2.put hM hS, r⟩

end Go.Proofs.YthgdbjpefjjeaaaGreat
