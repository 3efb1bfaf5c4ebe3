/- ZKeep, FTurnR, FRunR, FArg, KRise, KCheck, XState, XSmall, XDrop, XUndo, XSweep: in one text. -/
import Derived.Test.YthgdbjpefjjeaaaGreatMZ2
import Derived.Maps.OwnSet
import Derived.Test.YthgdbjpefjjeaaaGreatMF
import Derived.Lib.SmallJoins
import Derived.Deep.Slices
import Derived.Test.YthgdbjpefjjeaaaGreatQRise
import Derived.Test.YthgdbjpefjjeaaaGreatQSame
import Derived.Test.YthgdbjpefjjeaaaGreatQCheck2
import Derived.Test.YthgdbjpefjjeaaaGreatQInner
import Derived.StillTailTactics
import Derived.Deep.RegionHeld3
namespace Go.Proofs.YthgdbjpefjjeaaaGreat
open Go.RowKit
set_option linter.unusedVariables false
set_option linter.unusedSimpArgs false
set_option maxRecDepth 4000

open Go.RowKit Go.Maps

/-- How a slice of one's own, and a node of such, read as an element of a map. -/
def sEnc : Value → Option (DataW Unit)
  | .slice none 0 0 => some (.agg [])
  | .slice (some ⟨g, 0, none⟩) n c => some (.agg [.lit (.int .i64 (g : Int)), .lit (.int .i64 (n : Int)), .lit (.int .i64 (c : Int))])
  | _ => none
def sDec : DataW Unit → Value
  | .agg [.lit (.int _ g), .lit (.int _ n), .lit (.int _ c)] => .slice (some ⟨g.toNat, 0, none⟩) n.toNat c.toNat
  | _ => .slice none 0 0
def nEnc : Value → Option (DataW Unit × List MemPlace)
  | .agg ⟨[.bool b, x, y, z]⟩ => match sEnc x, sEnc y, sEnc z with
    | some dx, some dy, some dz => some (.agg [.lit (.bool b), dx, dy, dz], [])
    | _, _, _ => none
  | _ => none
def nDec : DataW Unit → Value
  | .agg [.lit (.bool b), dx, dy, dz] => .agg #[.bool b, sDec dx, sDec dy, sDec dz]
  | _ => undef

theorem sEnc_dec {v : Value} {d : DataW Unit} (h : sEnc v = some d) : sDec d = v := by
  unfold sEnc at h
  split at h
  · cases h; rfl
  · cases h
    simp [sDec]
  · cases h

theorem nEnc_dec {v : Value} {d : DataW Unit} {ps : List MemPlace} (h : nEnc v = some (d, ps)) : nDec d = v := by
  unfold nEnc at h
  split at h
  · split at h
    · rename_i h1 h2 h3
      cases h
      simp only [nDec, sEnc_dec h1, sEnc_dec h2, sEnc_dec h3]
    · cases h
  · cases h

theorem sEnc_own {w : World} {base e k n : Nat} {v : Value} {xs : List Value} (h : w.ownsRow base e k v n xs) : ∃ d, sEnc v = some d := by
  rcases h.2 with ⟨rfl, _⟩ | ⟨g, cap, cur, rfl, _⟩
  · exact ⟨_, rfl⟩
  · exact ⟨_, rfl⟩

theorem nEnc_own {w : World} {base : Nat} {v : Value} {n : Nd} (h : NdOwn w base v n) : ∃ d, nEnc v = some (d, []) := by
  obtain ⟨p, q, r, rfl, h1, h2, h3⟩ := h
  obtain ⟨d1, e1⟩ := sEnc_own h1
  obtain ⟨d2, e2⟩ := sEnc_own h2
  obtain ⟨d3, e3⟩ := sEnc_own h3
  exact ⟨.agg [.lit (.bool n.leaf), d1, d2, d3], by simp only [nEnc, e1, e2, e3]⟩

theorem keyedU : Keyed Tryz.prog 35 := int_keyed Tryz.underlying35
theorem keyU {i : Int} (h0 : 0 ≤ i) (h1 : i ≤ 4294967295) : keyOf Tryz.prog 35 (.int .u32 i) = some (.int .u32 i) := keyOf_int_mk Tryz.underlying35 (by simp [Lit.wf, IntKind.min, IntKind.max, IntKind.bits, IntKind.signed]; omega)
theorem Tryz.infoNode : (Tryz.prog.info? 40).map (fun i => (i.zero, i.size)) = some (some (.agg #[.bool false, .slice none 0 0, .slice none 0 0, .slice none 0 0]), 4) := by kernel_rfl
theorem zeroNode (w : World) : (zeroValue 40).run Tryz.prog w = .ok (.agg #[.bool false, .slice none 0 0, .slice none 0 0, .slice none 0 0]) w := (zero_of_info Tryz.infoNode).1 w

/-- The block 'b' of the world is a map that has just the nodes that 'M' tells. -/
def NMap (w : World) (b n : Nat) (M : Int → Option Value) : Prop :=
  ∃ D : DataW Unit, w.ownsMap Tryz.prog 35 nEnc b n D ∧ (∀ i, Go.Maps.has D (.int .u32 i) = (M i).isSome) ∧ ∀ i v, M i = some v → ∃ d, nEnc v = some (d, []) ∧ ∀ z, D.atKey (.int .u32 i) z = d

theorem NMap.same {w w' : World} {b n : Nat} {M : Int → Option Value} (h : NMap w b n M) (hb : w'.heap[b]? = w.heap[b]?) : NMap w' b n M := by
  obtain ⟨D, ⟨es, clock, hbb, r⟩, r2⟩ := h
  exact ⟨D, ⟨es, clock, hb.trans hbb, r⟩, r2⟩

theorem NMap.is {w : World} {b n : Nat} {M : Int → Option Value} (h : NMap w b n M) : ∃ es clock, w.heap[b]? = some (.map es clock) := by
  obtain ⟨D, ⟨es, clock, hb, _⟩, _⟩ := h
  exact ⟨es, clock, hb⟩

theorem NMap.lt {w : World} {b n : Nat} {M : Int → Option Value} (h : NMap w b n M) : b < w.heap.size := by
  obtain ⟨es, c, hb⟩ := h.is
  exact (Array.getElem?_eq_some_iff.1 hb).1

theorem NMap.made (w : World) : NMap (w.alloc (.map #[] 0)) w.heap.size 0 (fun _ => none) :=
  ⟨.map [], World.ownsMap_made w _ _ _, fun i => rfl, fun i c h => by cases h⟩

theorem NMap.read {w : World} {b n : Nat} {M : Int → Option Value} (h : NMap w b n M) {i : Int} (h0 : 0 ≤ i) (h1 : i ≤ 4294967295) {v : Value} (hv : M i = some v) :
    (Instr.lookup 50 (.map (some b)) (.int .u32 i) false).run Tryz.prog w = .ok v w := by
  obtain ⟨D, hown, hh, hM⟩ := h
  have hz : nEnc (.agg #[.bool false, .slice none 0 0, .slice none 0 0, .slice none 0 0]) = some (DataW.agg [.lit (.bool false), .agg [], .agg [], .agg []], []) := rfl
  obtain ⟨u, ps, hrun, hu⟩ := hown.lookup keyedU Tryz.underlying50 (zeroNode w) hz (keyU h0 h1)
  obtain ⟨d, hd, hat⟩ := hM i v hv
  rw [hat] at hu
  have e1 := nEnc_dec hu
  have e2 := nEnc_dec hd
  rw [hrun, ← e1, e2]

theorem ulit_ne {i j : Int} (h : j ≠ i) : (Lit.int .u32 j : Lit) ≠ .int .u32 i := by intro e; cases e; exact h rfl

theorem NMap.write {w : World} {b n : Nat} {M : Int → Option Value} (h : NMap w b n M) (hn : n < 1000) {i : Int} (h0 : 0 ≤ i) (h1 : i ≤ 4294967295) {v : Value} {d : DataW Unit} (hv : nEnc v = some (d, [])) :
    ∃ w', (Instr.mapUpdate 50 (.map (some b)) (.int .u32 i) v).run Tryz.prog w = .ok () w' ∧ NMap w' b (n + 1) (upd M i (some v)) ∧ Sole [b] w w' := by
  obtain ⟨D, hown, hh, hM⟩ := h
  have hmap := hown.isMap
  obtain ⟨w', hrun, hown', ht⟩ := hown.store keyedU Tryz.underlying50 (by unfold maxLen; omega) (keyU h0 h1) hv
  refine ⟨w', hrun, ⟨_, hown', fun j => ?_, fun j x hj => ?_⟩, Sole.of_grown ht.grown (by simp)⟩
  · by_cases e : j = i
    · subst e; rw [upd_same, Go.Maps.has_put_same hmap (by simp [WideAt.IsKeyLit])]; rfl
    · rw [upd_other _ _ _ e, Go.Maps.has_put_other (ulit_ne e), hh j]
  · by_cases e : j = i
    · subst e
      rw [upd_same] at hj
      cases hj
      exact ⟨d, hv, fun z => Go.Maps.atKey_put_same hmap (by simp [WideAt.IsKeyLit]) _ z⟩
    · rw [upd_other _ _ _ e] at hj
      obtain ⟨d', a1, a2⟩ := hM j x hj
      exact ⟨d', a1, fun z => by rw [Go.Maps.atKey_put_other (ulit_ne e), a2]⟩

/-- A node whose rows lie in none of a pool's blocks. -/
def NdFar (w : World) (a : Ad) (v : Value) (n : Nd) : Prop :=
  ∃ p q r, v = .agg #[.bool n.leaf, p, q, r] ∧ w.ownsRow 0 85 2 p n.pairs.length (n.pairs.flatMap kvE) ∧ w.ownsRow 0 9 1 q n.keys.length (n.keys.flatMap strE) ∧ w.ownsRow 0 35 1 r n.kids.length (n.kids.flatMap u32E) ∧
    (∀ g, p.ownBlock = some g → g ∉ a.all) ∧ (∀ g, q.ownBlock = some g → g ∉ a.all) ∧ (∀ g, r.ownBlock = some g → g ∉ a.all)

theorem NdFar.own {w : World} {a : Ad} {v : Value} {n : Nd} (h : NdFar w a v n) : NdOwn w 0 v n := by
  obtain ⟨p, q, r, e, h1, h2, h3, _⟩ := h
  exact ⟨p, q, r, e, h1, h2, h3⟩

theorem NdFar.moves {w w' : World} {a a' : Ad} {v : Value} {n : Nd} (h : NdFar w a v n) (hM : Moves w w' a a') : NdFar w' a' v n := by
  obtain ⟨p, q, r, e, h1, h2, h3, g1, g2, g3⟩ := h
  exact ⟨p, q, r, e, row_sole h1 hM.sole g1, row_sole h2 hM.sole g2, row_sole h3 hM.sole g3, fun g hg => (hM.out (own_lt h1 g hg) (g1 g hg)).1, fun g hg => (hM.out (own_lt h2 g hg) (g2 g hg)).1, fun g hg => (hM.out (own_lt h3 g hg) (g3 g hg)).1⟩

theorem own_is {w : World} {base e k n : Nat} {v : Value} {xs : List Value} (h : w.ownsRow base e k v n xs) {g : Nat} (hg : v.ownBlock = some g) : ∃ cs, w.heap[g]? = some (.cells cs e (0, 0)) := by
  rcases h.2 with ⟨rfl, _⟩ | ⟨g', cap, cur, rfl, _, h3, _⟩
  · simp [Value.ownBlock] at hg
  · simp [Value.ownBlock] at hg
    subst hg
    exact ⟨cur, h3⟩

/-- A map's block is none of a row's. -/
theorem NdFar.put {w w' : World} {a : Ad} {v : Value} {n : Nd} (h : NdFar w a v n) {b m : Nat} {M : Int → Option Value} (hM : NMap w b m M) (hS : Sole [b] w w') : NdFar w' a v n := by
  obtain ⟨p, q, r, e, h1, h2, h3, g1, g2, g3⟩ := h
  obtain ⟨es, c, hb⟩ := hM.is
  have key : ∀ {e k n : Nat} {v : Value} {xs : List Value}, w.ownsRow 0 e k v n xs → ∀ g, v.ownBlock = some g → g ∉ [b] := fun ho g hg hm => by
    obtain ⟨cs, hc⟩ := own_is ho hg
    simp at hm
    subst hm
    rw [hb] at hc
    cases hc
  exact ⟨p, q, r, e, row_sole h1 hS (key h1), row_sole h2 hS (key h2), row_sole h3 hS (key h3), g1, g2, g3⟩

theorem NdFar.new {w w' : World} {a : Ad} {p : Pu} {v : Value} {n : Nd} {base : Nat} (h : NdOwn w' base v n) (hP : PuAt w a p) (hb : w.heap.size ≤ base) : NdFar w' a v n := by
  obtain ⟨x, y, z, e, h1, h2, h3⟩ := h
  have key : ∀ {e k n : Nat} {v : Value} {xs : List Value}, w'.ownsRow base e k v n xs → ∀ g, v.ownBlock = some g → g ∉ a.all := fun ho g hg hm => by
    have h1 := own_ge ho g hg
    have h2 := hP.lt g hm
    omega
  exact ⟨x, y, z, e, row_mono h1 (Nat.zero_le _), row_mono h2 (Nat.zero_le _), row_mono h3 (Nat.zero_le _), key h1, key h2, key h3⟩

/-- Rows of numbers are none of a node's. -/
theorem NdFar.sole {w w' : World} {a : Ad} {v : Value} {n : Nd} (h : NdFar w a v n) {S : List Nat} (hS : Sole S w w') (hi : ∀ q ∈ S, ∃ cs, w.heap[q]? = some (.cells cs 3 (0, 0))) : NdFar w' a v n := by
  obtain ⟨p, q, r, e, h1, h2, h3, g1, g2, g3⟩ := h
  have key : ∀ {e k n : Nat} {v : Value} {xs : List Value}, e ≠ 3 → w.ownsRow 0 e k v n xs → ∀ g, v.ownBlock = some g → g ∉ S := fun he ho g hg hm => by
    obtain ⟨cs, hc⟩ := own_is ho hg
    obtain ⟨cs', hc'⟩ := hi g hm
    rw [hc] at hc'
    simp only [Option.some.injEq, Obj.cells.injEq] at hc'
    exact he hc'.2.1
  exact ⟨p, q, r, e, row_sole h1 hS (key (by decide) h1), row_sole h2 hS (key (by decide) h2), row_sole h3 hS (key (by decide) h3), g1, g2, g3⟩

/-- What stands in the pages that are taken or wait. -/
def Keeps (w : World) (a : Ad) (p : Pu) (M : Int → Option Value) : Prop :=
  ∀ j, j < p.now.ks.length → p.now.ks.getD j 0 ≠ 1 → ∃ v n, M ((p.now.lo + j : Nat) : Int) = some v ∧ NdFar w a v n ∧ nodeOk n = true ∧ NdOk n ∧ seen p.d ((p.now.lo + j : Nat) : Int) = blockL n

theorem Keeps.moves {w w' : World} {a a' : Ad} {p : Pu} {M : Int → Option Value} (h : Keeps w a p M) (hM : Moves w w' a a') : Keeps w' a' p M := fun j hj hk => by
  obtain ⟨v, n, h1, h2, r⟩ := h j hj hk
  exact ⟨v, n, h1, h2.moves hM, r⟩

theorem Keeps.below {w w' : World} {a : Ad} {p : Pu} {M : Int → Option Value} (h : Keeps w a p M) (hb : Below w.heap.size w w') : Keeps w' a p M := h.moves (Moves.of_below hb)

/-- What turns no page into one that is taken or waits keeps it. -/
theorem Keeps.less {w : World} {a : Ad} {p p' : Pu} {M : Int → Option Value} (h : Keeps w a p M) (hd : p'.d = p.d) (hlo : p'.now.lo = p.now.lo) (hl : p'.now.ks.length = p.now.ks.length) (hk : ∀ j, j < p.now.ks.length → p'.now.ks.getD j 0 ≠ 1 → p.now.ks.getD j 0 ≠ 1) : Keeps w a p' M := fun j hj hne => by
  rw [hl] at hj
  have := h j hj (hk j hj hne)
  rw [hlo, hd]
  exact this

theorem Keeps.drop {w : World} {a : Ad} {p : Pu} {M : Int → Option Value} (h : Keeps w a p M) (i : Int) : Keeps w a (dropP p i) M :=
  h.less rfl (turnF_lo _ _ _) (turnF_len _ _ _) fun j hj hne e => hne (by
    show (turnF p.now i (if freshB p i then 1 else 3)).ks.getD j 0 = 1
    rw [turnF_get _ _ _ _ hj]
    split
    · rename_i c
      rw [c.2, kindOfN_at hj] at c
      omega
    · exact e)

theorem Keeps.settle {w : World} {a : Ad} {p : Pu} {M : Int → Option Value} (h : Keeps w a p M) : Keeps w a { p with st := p.now } M := h.less rfl rfl rfl fun j hj hne => hne

theorem Keeps.undo {w : World} {a : Ad} {p : Pu} {M : Int → Option Value} (h : Keeps w a p M) (hok : PuOk p) : Keeps w a { p with now := p.st } M :=
  h.less rfl hok.slo hok.sl fun j hj hne e => hne (by
    show p.st.ks.getD j 0 = 1
    have := hok.rel j hj
    generalize p.now.ks.getD j 0 = A at *
    generalize p.st.ks.getD j 0 = B at *
    unfold pairOk at this
    omega)

theorem Keeps.sweep {w : World} {a : Ad} {p : Pu} {M : Int → Option Value} (h : Keeps w a p M) (l : List Int) : Keeps w a (sweepP p l) M :=
  h.less rfl rfl (sweepF_len _ _) fun j hj hne e => hne (by
    rw [sweepP_now p l j hj]
    split
    · rfl
    · exact e)

theorem Keeps.write {w : World} {a : Ad} {p : Pu} {M : Int → Option Value} (h : Keeps w a p M) (hok : PuOk p) (hd : DOn p.d) {j : Nat} {n : Nd} (hj : firstR p.now.ks = some j) (hn : nodeOk n = true) (hk : NdOk n) {v : Value} (hv : NdFar w a v n) :
    Keeps w a { takeP p j with d := doneSt p.d ((p.now.lo + j : Nat) : Int) (blockL n) } (upd M ((p.now.lo + j : Nat) : Int) (some v)) := fun i hi hne => by
  have hl : (takeP p j).now.ks.length = p.now.ks.length := takeF_len _ _
  have hi' : i < p.now.ks.length := by rw [← hl]; exact hi
  show ∃ v' n', upd M ((p.now.lo + j : Nat) : Int) (some v) ((p.now.lo + i : Nat) : Int) = some v' ∧ NdFar w a v' n' ∧ nodeOk n' = true ∧ NdOk n' ∧ seen (doneSt p.d ((p.now.lo + j : Nat) : Int) (blockL n)) ((p.now.lo + i : Nat) : Int) = blockL n'
  rw [seen_done hd]
  by_cases e : i = j
  · subst e
    rw [upd_same, if_pos rfl]
    exact ⟨v, n, rfl, hv, hn, hk, rfl⟩
  · have e' : ((p.now.lo + i : Nat) : Int) ≠ ((p.now.lo + j : Nat) : Int) := by omega
    rw [upd_other _ _ _ e', if_neg e']
    have hne' : p.now.ks.getD i 0 ≠ 1 := by
      have h1 : (runF p.now 1 (some j)).ks.getD i 0 ≠ 1 := hne
      rw [takeF_get _ _ _ hi', if_neg (fun h => e h.symm)] at h1
      exact h1
    exact h i hi' hne'

/-- What Read tells of such a page. -/
theorem Keeps.read {w : World} {a : Ad} {p : Pu} {M : Int → Option Value} (h : Keeps w a p M) (hok : PuOk p) (hd : DOn p.d) {x : Nat} (hx : x ∈ blocksL p.now 2 ++ blocksL p.now 3) :
    ∃ v n, M (x : Int) = some v ∧ NdFar w a v n ∧ prdE p (x : Int) = 0 ∧ prdN p (x : Int) = n ∧ n.pairs.length ≤ 4398046511104 := by
  have hk : ¬ kindOfN p.now (x : Int) ≤ 1 := fun hc => (kind_mem hok.n x).1 hc hx
  obtain ⟨j, hj, e⟩ := kindOfN_in (s := p.now) (i := (x : Int)) (by omega)
  obtain rfl : x = p.now.lo + j := by omega
  have hk' := hk
  rw [kindOfN_at hj] at hk'
  obtain ⟨v, n, h1, h2, h3, h4, h5⟩ := h j hj (by omega)
  have hb := node_back h3 h4
  have he : prdE p ((p.now.lo + j : Nat) : Int) = 0 := by
    unfold prdE
    rw [if_neg hk, hd.on, if_neg (by simp), h5]
    exact hb.1
  refine ⟨v, n, h1, h2, he, ?_, ?_⟩
  · unfold prdN
    rw [if_pos he, h5]
    exact hb.2
  · cases hl : n.leaf with
    | true => have := (nodeOk_leaf h3 hl).1; omega
    | false => rw [(nodeOk_inner h3 hl).2.2.2]; simp

theorem Keeps.put {w w' : World} {a : Ad} {p : Pu} {M : Int → Option Value} (h : Keeps w a p M) {b m : Nat} {M0 : Int → Option Value} (hM : NMap w b m M0) (hS : Sole [b] w w') : Keeps w' a p M := fun j hj hk => by
  obtain ⟨v, n, h1, h2, r⟩ := h j hj hk
  exact ⟨v, n, h1, h2.put hM hS, r⟩

set_option maxHeartbeats 2000000 in
theorem ris_any {w : World} {p h : Nat} {s : Fr} (H : RAt w p h s) (hk : FrOk s) (i : Int) (hi : i ≤ 9223372036854775807) (k : Nat) (hk1 : 1 ≤ k) : Calls Tryz.prog 44 #[ptr p, .int .i64 i, .int .i64 ((k : Int) - 1)] w fun e w' => e = .returned (.bool (decide (kindOfN s i = k))) ∧ Below w.heap.size w w' := by
  obtain ⟨cap, c0, c1, h1, h2, hp, hh, hne, hc⟩ := FrAt.opened H
  have hm := hk.most
  unfold ptr kindOfN
  by_cases d : s.lo ≤ i ∧ i < s.lo + s.ks.length
  · rw [if_pos d]
    obtain ⟨j, hj⟩ : ∃ j : Nat, i = s.lo + j := ⟨(i - s.lo).toNat, by omega⟩
    have hjl : j < s.ks.length := by omega
    have hg : s.ks[j]? = some (s.ks.getD (i - s.lo).toNat 0) := by
      rw [show (i - s.lo).toNat = j from by omega, List.getElem?_eq_getElem hjl, List.getD_eq_getElem?_getD, List.getElem?_eq_getElem hjl]; rfl
    have hcj := (hc j _ hg).1
    generalize s.ks.getD (i - s.lo).toNat 0 = K at *
    clear hc hg H hk d
    subst hj
    generalize s.ks.length = n at *
    generalize s.lo = lo at *
    have hwj : IntKind.wrap .i64 ((lo : Int) + j - lo) = (j : Int) := by simp [IntKind.wrap, IntKind.bits, IntKind.signed]; omega
    have hjI : (j : Int) < n := by omega
    have hge : (lo : Int) ≤ (lo : Int) + j := by omega
    by_cases hK : K = k
    · have hK' : (((K : Int) - 1) == (k : Int) - 1) = true := by rw [hK]; exact beq_self_eq_true _
      rw [decide_eq_true hK]
      clear hK
      go_enter Tryz.func44, Tryz.ntmps44
      go_wp2_with fail
      go_quiet (fail)
      go_wp2
      go_ret
      exact ⟨rfl, belowQ _ _ _⟩
    · have hK' : (((K : Int) - 1) == (k : Int) - 1) = false := by simp; omega
      rw [decide_eq_false hK]
      clear hK
      go_enter Tryz.func44, Tryz.ntmps44
      go_wp2_with fail
      go_quiet (fail)
      go_wp2
      go_ret
      exact ⟨rfl, belowQ _ _ _⟩
  · rw [if_neg d, decide_eq_false (show ¬ (0 : Nat) = k by omega)]
    clear hc H hk
    generalize s.ks.length = n at *
    generalize s.lo = lo at *
    by_cases d1 : (lo : Int) ≤ i
    · have d2 : decide (i - lo < (n : Int)) = false := decide_eq_false (by omega)
      have d3 : decide ((lo : Int) ≤ i) = true := decide_eq_true d1
      have hwj : IntKind.wrap .i64 (i - lo) = i - lo := by simp [IntKind.wrap, IntKind.bits, IntKind.signed]; omega
      clear d
      go_enter Tryz.func44, Tryz.ntmps44
      go_wp2_with fail
      go_quiet (fail)
      go_wp2
      go_ret
      exact ⟨rfl, belowQ _ _ _⟩
    · have d3 : decide ((lo : Int) ≤ i) = false := decide_eq_false d1
      clear d d1
      go_enter Tryz.func44, Tryz.ntmps44
      go_wp2_with fail
      go_quiet (fail)
      go_wp2
      go_ret
      exact ⟨rfl, belowQ _ _ _⟩

set_option maxHeartbeats 2000000 in
theorem rturn_any {w : World} {p h : Nat} {s : Fr} (H : RAt w p h s) (hk : FrOk s) (i : Int) (hi : i ≤ 9223372036854775807) (to : Nat) (ht1 : 1 ≤ to) (hto : to ≤ 3) :
    Calls Tryz.prog 45 #[ptr p, .int .i64 i, .int .i64 ((to : Int) - 1)] w fun e w' => e = .returned (.int .i64 (turnE s i)) ∧ RAt w' p h (turnF s i to) ∧ Sole [h] w w' := by
  have hl := ris_any H hk i hi 2 (by omega)
  unfold ptr at *
  unfold turnE turnF
  by_cases d : kindOfN s i = 2
  · rw [if_pos d, if_pos d]
    rw [decide_eq_true d] at hl
    have hin : s.lo ≤ i ∧ i < s.lo + s.ks.length := by
      unfold kindOfN at d
      split at d
      · assumption
      · cases d
    obtain ⟨j, hj⟩ : ∃ j : Nat, i = s.lo + j := ⟨(i - s.lo).toNat, by omega⟩
    have hjl : j < s.ks.length := by omega
    rw [show (i - s.lo).toNat = j from by omega]
    have hm := hk.most
    have hg : ∃ k, s.ks[j]? = some k := ⟨_, List.getElem?_eq_getElem hjl⟩
    obtain ⟨k, hg⟩ := hg
    subst hj
    clear hk hin d
    obtain ⟨lo, ks⟩ := s
    dsimp only at *
    go_enter Tryz.func45, Tryz.ntmps45
    go_wp2_with fail
    refine hl.mono ?_
    clear hl
    rintro e w1 ⟨rfl, hb1⟩
    have H1 : RAt w1 p h ⟨lo, ks⟩ := FrAt.below H hb1
    obtain ⟨cap, c0, c1, h1, h2, hp, hh, hne, hc⟩ := FrAt.opened H1
    dsimp only at *
    obtain ⟨hcj, hfj⟩ := hc j k hg
    have HP : Hid (RAt (w1.setCell ⟨h, j, none⟩ (.int .i64 ((to : Int) - 1))) p h ⟨lo, ks.set j to⟩) := FrAt.put H1 j to
    have q0 : ∀ W, Sole [h] w1 W → W.cell? ⟨p, 0, none⟩ = some (.int .i64 lo) := fun W hW => (World.cell?_of_block (a := ⟨p, 0, none⟩) (hW.block p hp (by simpa using hne))).trans c0
    have q1 : ∀ W, Sole [h] w1 W → W.cell? ⟨p, 1, none⟩ = some (.slice (some ⟨h, 0, none⟩) ks.length cap) := fun W hW => (World.cell?_of_block (a := ⟨p, 1, none⟩) (hW.block p hp (by simpa using hne))).trans c1
    clear hc hg H H1 c0 c1
    generalize ks.length = n at *
    have hwj : IntKind.wrap .i64 ((lo : Int) + j - lo) = (j : Int) := by simp [IntKind.wrap, IntKind.bits, IntKind.signed]; omega
    have hjI : (j : Int) < n := by omega
    go_wp2_with fail
    refine wp_region_noPanic ?_
    refine wp_region_held_drew (S := fun W => Sole [h] w1 W) (by kernel_rfl) (Sole.drew _ _) (fun hHeld => ?_)
    refine wpAnyH_take (i := 0) (v := .pointer (some ⟨p, 0, none⟩)) rfl (by kernel_rfl) (by kernel_rfl) (by kernel_rfl) (fun _ _ _ h => h) (Or.inl ⟨by rfl, fun W hSw => by (try dsimp only at hSw); go_simp⟩) (by assumption) ?_
    simp only [List.getElem_toArray, List.getElem_cons_zero, List.getElem_cons_succ, Act.put, List.setIfInBounds_toArray, List.set_cons_zero, List.set_cons_succ]
    refine wpAnyH_take (i := 1) (v := .pointer (some ⟨p, 0, none⟩)) rfl (by kernel_rfl) (by kernel_rfl) (by kernel_rfl) (fun _ _ _ h => h) (Or.inl ⟨by rfl, fun W hSw => by (try dsimp only at hSw); go_simp⟩) (by assumption) ?_
    simp only [List.getElem_toArray, List.getElem_cons_zero, List.getElem_cons_succ, Act.put, List.setIfInBounds_toArray, List.set_cons_zero, List.set_cons_succ]
    refine wpAnyH_take (i := 2) (v := .pointer (some ⟨p, 1, none⟩)) rfl (by kernel_rfl) (by kernel_rfl) (by kernel_rfl) (fun _ _ _ h => h) (Or.inl ⟨by rfl, fun W hSw => by (try dsimp only at hSw); go_simp⟩) (by assumption) ?_
    simp only [List.getElem_toArray, List.getElem_cons_zero, List.getElem_cons_succ, Act.put, List.setIfInBounds_toArray, List.set_cons_zero, List.set_cons_succ]
    refine wpAnyH_take (i := 3) (v := .slice (some ⟨h, 0, none⟩) n cap) rfl (by kernel_rfl) (by kernel_rfl) (by kernel_rfl) (fun _ _ _ h => h) (Or.inl ⟨by rfl, fun W hSw => by (try dsimp only at hSw); go_simp⟩) (by assumption) ?_
    simp only [List.getElem_toArray, List.getElem_cons_zero, List.getElem_cons_succ, Act.put, List.setIfInBounds_toArray, List.set_cons_zero, List.set_cons_succ]
    refine wpAnyH_take (i := 4) (v := .int .i64 (lo + j)) rfl (by kernel_rfl) (by kernel_rfl) (by kernel_rfl) (fun _ _ _ h => h) (Or.inl ⟨by rfl, fun W hSw => by (try dsimp only at hSw); go_simp⟩) (by assumption) ?_
    simp only [List.getElem_toArray, List.getElem_cons_zero, List.getElem_cons_succ, Act.put, List.setIfInBounds_toArray, List.set_cons_zero, List.set_cons_succ]
    refine wpAnyH_take (i := 5) (v := .pointer (some ⟨p, 0, none⟩)) rfl (by kernel_rfl) (by kernel_rfl) (by kernel_rfl) (fun _ _ _ h => h) (Or.inl ⟨by rfl, fun W hSw => by (try dsimp only at hSw); go_simp⟩) (by assumption) ?_
    simp only [List.getElem_toArray, List.getElem_cons_zero, List.getElem_cons_succ, Act.put, List.setIfInBounds_toArray, List.set_cons_zero, List.set_cons_succ]
    refine wpAnyH_take (i := 6) (v := .pointer (some ⟨p, 0, none⟩)) rfl (by kernel_rfl) (by kernel_rfl) (by kernel_rfl) (fun _ _ _ h => h) (Or.inl ⟨by rfl, fun W hSw => by (try dsimp only at hSw); go_simp⟩) (by assumption) ?_
    simp only [List.getElem_toArray, List.getElem_cons_zero, List.getElem_cons_succ, Act.put, List.setIfInBounds_toArray, List.set_cons_zero, List.set_cons_succ]
    refine wpAnyH_take (i := 7) (v := .pointer (some ⟨p, 0, none⟩)) rfl (by kernel_rfl) (by kernel_rfl) (by kernel_rfl) (fun _ _ _ h => h) (Or.inl ⟨by rfl, fun W hSw => by (try dsimp only at hSw); go_simp⟩) (by assumption) ?_
    simp only [List.getElem_toArray, List.getElem_cons_zero, List.getElem_cons_succ, Act.put, List.setIfInBounds_toArray, List.set_cons_zero, List.set_cons_succ]
    refine wpAnyH_take (i := 8) (v := .int .i64 lo) rfl (by kernel_rfl) (by kernel_rfl) (by kernel_rfl) (fun _ _ _ h => h) (Or.inl ⟨by rfl, fun W hSw => by (try dsimp only at hSw); go_simp⟩) (by assumption) ?_
    simp only [List.getElem_toArray, List.getElem_cons_zero, List.getElem_cons_succ, Act.put, List.setIfInBounds_toArray, List.set_cons_zero, List.set_cons_succ]
    refine wpAnyH_take (i := 9) (v := .int .i64 j) rfl (by kernel_rfl) (by kernel_rfl) (by kernel_rfl) (fun _ _ _ h => h) (Or.inl ⟨by rfl, fun W hSw => by (try dsimp only at hSw); (go_simp <;> rw [hwj])⟩) (by assumption) ?_
    simp only [List.getElem_toArray, List.getElem_cons_zero, List.getElem_cons_succ, Act.put, List.setIfInBounds_toArray, List.set_cons_zero, List.set_cons_succ]
    refine wpAnyH_take (i := 10) (v := .int .i64 ((to : Int) - 1)) rfl (by kernel_rfl) (by kernel_rfl) (by kernel_rfl) (fun _ _ _ h => h) (Or.inl ⟨by rfl, fun W hSw => by (try dsimp only at hSw); go_simp⟩) (by assumption) ?_
    simp only [List.getElem_toArray, List.getElem_cons_zero, List.getElem_cons_succ, Act.put, List.setIfInBounds_toArray, List.set_cons_zero, List.set_cons_succ]
    refine wpAnyH_take (i := 11) (v := .pointer (some ⟨h, j, none⟩)) rfl (by kernel_rfl) (by kernel_rfl) (by kernel_rfl) (fun _ _ _ h => h) (Or.inl ⟨by rfl, fun W hSw => by (try dsimp only at hSw); go_simp⟩) (by assumption) ?_
    simp only [List.getElem_toArray, List.getElem_cons_zero, List.getElem_cons_succ, Act.put, List.setIfInBounds_toArray, List.set_cons_zero, List.set_cons_succ]
    refine wpAnyH_ready (rs := [12]) (by kernel_rfl) (by simp) ?_
    refine AllReadyH.cons rfl (fun K hK => ?_) AllReadyH.nil
    go_simp
    go_wp2
    have hS2 : Sole [h] w1 (w1.drew.setCell ⟨h, j, none⟩ (.int .i64 ((to : Int) - 1))) := (Sole.drew w1 [h]).trans (Sole.setCell _ _ (by simp))
    refine hK.out _ _ hS2 (fun hHeld2 => ?_)
    clear hK K
    refine wpAnyH_done (by kernel_rfl) ?_ _
    refine NoPanic.normal ?_
    clear q0 q1
    go_wp2
    go_ret
    exact ⟨rfl, FrAt.below HP.out (Below.refl _ _).drew, (Sole.of_below hb1 [h]).trans hS2⟩
  · rw [if_neg d, if_neg d]
    rw [decide_eq_false d] at hl
    go_enter Tryz.func45, Tryz.ntmps45
    go_wp2_with fail
    refine hl.mono ?_
    rintro e w1 ⟨rfl, hb1⟩
    go_wp2
    go_ret
    exact ⟨rfl, FrAt.below H hb1, Sole.of_below hb1 [h]⟩

theorem rtakeRun_arg {w : World} {p : Nat} (n : Int) (hn : n < 1) : Calls Tryz.prog 40 #[ptr p, .int .i64 n] w fun e w' => e = .returned (.tuple #[.int .i64 0, .int .i64 1]) ∧ w' = w := by
  unfold ptr
  go_enter Tryz.func40, Tryz.ntmps40
  go_wp2
  go_ret2
  exact ⟨rfl, rfl⟩

/-- All from i up to k are free. -/
def freeB (ks : List Nat) (i k : Nat) : Bool := decide (∀ m, m < k → i ≤ m → ks.getD m 0 = 1)

theorem freeB_next {ks : List Nat} {i k : Nat} (h : i ≤ k) : freeB ks i (k + 1) = (freeB ks i k && decide (ks.getD k 0 = 1)) := by
  unfold freeB
  by_cases h1 : ∀ m, m < k → i ≤ m → ks.getD m 0 = 1
  · rw [decide_eq_true h1, Bool.true_and]
    refine decide_eq_decide.2 ⟨fun q => q k (by omega) h, fun q m hm hi => ?_⟩
    rcases Nat.lt_or_ge m k with r | r
    · exact h1 m r hi
    · rw [show m = k from by omega]; exact q
  · rw [decide_eq_false h1, Bool.false_and]
    exact decide_eq_false (fun q => h1 (fun m hm hi => q m (by omega) hi))

theorem freeB_run {ks : List Nat} {i N : Nat} : freeB ks i (i + N) = true ↔ RunAt ks N i := by
  unfold freeB
  rw [decide_eq_true_iff]
  constructor
  · intro h j hj
    exact h (i + j) (by omega) (by omega)
  · intro h m hm hi
    have := h (m - i) (by omega)
    rw [show i + (m - i) = m from by omega] at this
    exact this

set_option maxHeartbeats 4000000 in
theorem rtakeRun_ok {w : World} {p h : Nat} {s : Fr} (H : RAt w p h s) (hk : FrOk s) (N : Nat) (hN : 1 ≤ N) (hN2 : N ≤ 9223372036854775807) :
    Calls Tryz.prog 40 #[ptr p, .int .i64 N] w fun e w' => ∃ r, e = .returned (.tuple #[.int .i64 (runV s r), .int .i64 (runE r)]) ∧ IsFirst s.ks N r ∧ RAt w' p h (runF s N r) ∧ Sole [h] w w' := by
  have hm := hk.most
  have hNI : ¬ (N : Int) < 1 := by omega
  obtain ⟨cap, c0, c1, h1, h2, hp, hh, hne, hc⟩ := FrAt.opened H
  have HH : Hid (RAt w p h s) := H
  have hc' : ∀ j, j < s.ks.length → w.cell? ⟨h, j, none⟩ = some (.int .i64 ((s.ks.getD j 0 : Nat) - 1 : Int)) := fun j hj => (hc j _ (by rw [List.getElem?_eq_getElem hj, List.getD_eq_getElem?_getD, List.getElem?_eq_getElem hj]; rfl)).1
  have hrun : ∀ i, RunAt s.ks N i → i + N ≤ s.ks.length := fun i h => run_in h hN
  unfold ptr at *
  clear H hk hc
  obtain ⟨lo, ks⟩ := s
  dsimp only at *
  generalize hn : ks.length = n at *
  go_enter Tryz.func40, Tryz.ntmps40
  go_wp2
  go_loop [6] (fun t => ∃ i : Nat, i ≤ n + 1 ∧ t = .int .i64 i ∧ Hid (∀ i', i' < i → ¬ RunAt ks N i')) (fun t => n + 2 - (Go.RowKit.intOf t).toNat)
  case atStart => exact ⟨0, Nat.zero_le _, rfl, fun i' h => by omega⟩
  case round =>
    obtain ⟨i, hi, rfl, HN⟩ := hrel
    by_cases hlt : i + N ≤ n
    · have hltI : (N : Int) ≤ (n : Int) - i := by omega
      have hiN : (i : Int) ≤ 1024 := by omega
      go_wp2
      go_loop [7, 8] (fun f t => ∃ k : Nat, i ≤ k ∧ k ≤ i + N ∧ t = .int .i64 k ∧ f = .bool (freeB ks i k)) (fun _ t => i + N - (Go.RowKit.intOf t).toNat)
      case atStart => exact ⟨i, Nat.le_refl _, by omega, rfl, by rw [show freeB ks i i = true from decide_eq_true (fun m h1 h2 => by omega)]⟩
      case round =>
        obtain ⟨k, hik, hkN, rfl, rfl⟩ := hrel
        by_cases hkl : k < i + N
        · have hkI : (k : Int) < (i : Int) + N := by omega
          have hkn : k < n := by omega
          have xk := hc' k hkn
          have hnx := freeB_next (ks := ks) hik
          generalize hfb : freeB ks i k = B at *
          generalize hK : ks.getD k 0 = K at *
          clear hc' hrun hfb hK
          cases B with
          | false =>
            have HX : Hid (freeB ks i (k + 1) = false) := hnx
            clear hnx xk
            go_wp2
            go_round
            case rel => exact ⟨k + 1, by omega, by omega, by go_num, by rw [HX.out]⟩
            case measure => simp [Go.RowKit.intOf]; omega
          | true =>
            by_cases hk1 : K = 1
            · have HX : Hid (freeB ks i (k + 1) = true) := by unfold Hid; rw [hnx, decide_eq_true hk1]; rfl
              have hkI1 : (K : Int) - 1 = 0 := by omega
              clear hnx hk1
              go_wp2
              go_round
              case rel => exact ⟨k + 1, by omega, by omega, by go_num, by rw [HX.out]⟩
              case measure => simp [Go.RowKit.intOf]; omega
            · have HX : Hid (freeB ks i (k + 1) = false) := by unfold Hid; rw [hnx, decide_eq_false hk1]; rfl
              have hkI1 : ¬ (K : Int) - 1 = 0 := by omega
              have hkI2 : ((K : Int) - 1 == 0) = false := beq_eq_false_iff_ne.2 hkI1
              clear hnx hk1
              go_wp2
              go_round
              case rel => exact ⟨k + 1, by omega, by omega, by go_num, by rw [HX.out]⟩
              case measure => simp [Go.RowKit.intOf]; omega
        · obtain rfl : k = i + N := by omega
          have hkI : ¬ ((i + N : Nat) : Int) < (i : Int) + N := by omega
          have hfr := freeB_run (ks := ks) (i := i) (N := N)
          generalize hfb : freeB ks i (i + N) = B at *
          clear hfb
          cases B with
          | false =>
            have HX : Hid (∀ i', i' < i + 1 → ¬ RunAt ks N i') := fun i' hi' hr => by
              rcases Nat.lt_or_ge i' i with q | q
              · exact HN.out i' q hr
              · have : i' = i := by omega
                subst this
                cases hfr.2 hr
            clear hfr HN hc' hrun
            go_wp2
            go_round
            case rel => exact ⟨i + 1, by omega, by go_num, HX⟩
            case measure => simp [Go.RowKit.intOf]; omega
          | true =>
            have HF : Hid (IsFirst ks N (some i)) := ⟨hfr.1 rfl, HN.out⟩
            clear hfr HN hc' hrun
            go_wp2
            go_loopw [9] (fun t wr => ∃ j : Nat, j ≤ N ∧ t = .int .i64 ((i + j : Nat) : Int) ∧ Hid (RAt wr p h ⟨lo, setRun ks i j⟩) ∧ Sole [h] w wr) (fun t _ => i + N - (Go.RowKit.intOf t).toNat)
            case atStart => exact ⟨0, Nat.zero_le _, rfl, HH, Sole.refl _ _⟩
            case round =>
              clear hkI
              obtain ⟨j, hj, rfl, HP, HS⟩ := hrel
              obtain ⟨cp, d0, d1, e1, e2, _, _, _, dc⟩ := FrAt.opened HP.out
              have hsl := setRun_len ks i j
              dsimp only at d0 d1 e1 dc
              rw [hsl, hn] at d1 e1
              by_cases hjl : j < N
              · have hjI : ((i + j : Nat) : Int) < (i : Int) + N := by omega
                have hij : i + j < (setRun ks i j).length := by omega
                obtain ⟨hcj, hfj⟩ := dc (i + j) _ (List.getElem?_eq_getElem hij)
                have HP' : Hid (RAt (wr.setCell ⟨h, i + j, none⟩ (.int .i64 1)) p h ⟨lo, setRun ks i (j + 1)⟩) := FrAt.put HP.out (i + j) 2
                have hijn : ((i + j : Nat) : Int) < n := by omega
                generalize (setRun ks i j)[i + j] = K at *
                generalize hq : i + j = q at *
                clear dc hsl hij HP
                go_wp2_with fail
                go_roundw
                case rel => exact ⟨j + 1, by omega, by rw [show i + (j + 1) = q + 1 from by omega]; go_num, HP', HS.trans (Sole.setCell _ _ (by simp))⟩
                case measure => simp [Go.RowKit.intOf]; omega
              · obtain rfl : j = N := by omega
                have hjI : ¬ ((i + j : Nat) : Int) < (i : Int) + j := by omega
                generalize hq : i + j = q at *
                clear dc
                go_wp2
                go_ret2
                exact ⟨some i, rfl, HF.out, HP.out, HS⟩
    · have hltI : ¬ (N : Int) ≤ (n : Int) - i := by omega
      have HF : Hid (IsFirst ks N none) := fun i' hr => by
        have h3 := hrun i' hr
        exact HN.out i' (by omega) hr
      clear hc' hrun HN
      go_wp2
      go_ret2
      exact ⟨none, rfl, HF.out, HH.out, Sole.refl _ _⟩

set_option maxHeartbeats 4000000 in
theorem rsweep_any {w : World} {p h : Nat} {s : Fr} (H : RAt w p h s) (hk : FrOk s) (v : Value) (l : List Int) (hr : ∀ W, Sole [h] w W → RdI W v l) :
    Calls Tryz.prog 52 #[ptr p, v] w fun e w' => e = .returned (.int .i64 (swept s l)) ∧ RAt w' p h (sweepF s l) ∧ Sole [h] w w' := by
  have hm := hk.most
  obtain ⟨cap, c0, c1, h1, h2, hp, hh, hne, hc⟩ := FrAt.opened H
  have hsl := sweepK_len s l
  have hsg := sweepK_ge s l
  have hsn := sweepN_le s l
  have hk1 : ∀ j, s.ks.getD j 0 = 3 ∧ ¬ ((s.lo + j : Nat) : Int) ∈ l → sweepK s l (j + 1) = (sweepK s l j).set j 1 ∧ sweepN s l (j + 1) = sweepN s l j + 1 := fun j hq => ⟨by conv => lhs; unfold sweepK; rw [if_pos hq], by conv => lhs; unfold sweepN; rw [if_pos hq]⟩
  have hk2 : ∀ j, ¬ (s.ks.getD j 0 = 3 ∧ ¬ ((s.lo + j : Nat) : Int) ∈ l) → sweepK s l (j + 1) = sweepK s l j ∧ sweepN s l (j + 1) = sweepN s l j := fun j hq => ⟨by conv => lhs; unfold sweepK; rw [if_neg hq], by conv => lhs; unfold sweepN; rw [if_neg hq]⟩
  have hk0 : sweepK s l 0 = s.ks ∧ sweepN s l 0 = 0 := ⟨rfl, rfl⟩
  obtain ⟨lo, ks⟩ := s
  unfold ptr sweepF swept at *
  generalize sweepK ⟨lo, ks⟩ l = SK at *
  generalize sweepN ⟨lo, ks⟩ l = SN at *
  dsimp only at *
  obtain ⟨a2, cp2, hv, hl2, hm2, _⟩ := hr w (Sole.refl _ _)
  unfold maxLen at hm2
  have H1 : RAt w p h ⟨lo, SK 0⟩ := by rw [hk0.1]; exact H
  have hget : ∀ j, j < ks.length → ks[j]? = some (ks.getD j 0) := fun j hj => by rw [List.getElem?_eq_getElem hj, List.getD_eq_getElem?_getD, List.getElem?_eq_getElem hj]; rfl
  subst hv
  clear H hk hc
  generalize hn : ks.length = n at *
  go_enter Tryz.func52, Tryz.ntmps52
  go_wp2
  go_loopw [5, 16] (fun x t wr => ∃ j : Nat, j ≤ n ∧ t = .int .i64 j ∧ x = .int .i64 (SN j) ∧ Hid (RAt wr p h ⟨lo, SK j⟩) ∧ Sole [h] w wr) (fun _ t _ => n - (Go.RowKit.intOf t).toNat)
  case atStart => exact ⟨0, Nat.zero_le _, rfl, by rw [hk0.2]; rfl, H1, Sole.refl _ _⟩
  case round =>
    clear H1
    obtain ⟨j, hj, rfl, rfl, HP, HS⟩ := hrel
    obtain ⟨wA, hA⟩ : ∃ wA, wA = wr := ⟨_, rfl⟩
    subst hA
    by_cases hlt : j < n
    · have hltI : (j : Int) < n := by omega
      obtain ⟨cp, d0, d1, e1, e2, _, _, _, dc⟩ := FrAt.opened HP.out
      dsimp only at d0 d1 e1 dc
      have hsl' := hsl j
      rw [hsl'] at d1 e1
      obtain ⟨hcj, hfj⟩ := dc j (ks.getD j 0) (by rw [hsg j j (Nat.le_refl _)]; exact hget j hlt)
      have HP1 : Hid (RAt (wA.setCell ⟨h, j, none⟩ (.int .i64 0)) p h ⟨lo, (SK j).set j 1⟩) := FrAt.put HP.out j 1
      have q1 := hk1 j
      have q2 := hk2 j
      have q3 := hsn j
      obtain ⟨_, _, hv, _, _, hcc⟩ := hr wA HS
      simp only [Value.slice.injEq] at hv
      obtain ⟨rfl, _, rfl⟩ := hv
      have hlJ : ∀ i, i < l.length → l[i]? = some (l.getD i 0) := fun i hi => by rw [List.getElem?_eq_getElem hi, List.getD_eq_getElem?_getD, List.getElem?_eq_getElem hi]; rfl
      obtain ⟨y, hy⟩ : ∃ y : Int, y = (lo : Int) + j := ⟨_, rfl⟩
      have hyb : y ≤ 2048 := by omega
      have hym : ((lo + j : Nat) : Int) = y := by omega
      rw [hym] at q1 q2
      clear hget hsl hsg hk1 hk2 hr dc hsl'
      generalize ks.getD j 0 = K at *
      go_wp2_with fail
      go_loop [8, 23] (fun kp t => ∃ i : Nat, i ≤ l.length ∧ t = .int .i64 i ∧ kp = .bool (decide (y ∈ l.take i))) (fun _ t => l.length - (Go.RowKit.intOf t).toNat)
      case atStart => exact ⟨0, Nat.zero_le _, rfl, by simp⟩
      case round =>
        obtain ⟨i, hi, rfl, rfl⟩ := hrel
        by_cases hil : i < l.length
        · have hiI : (i : Int) < l.length := by omega
          obtain ⟨g2, o2, rfl, hg2, hc2⟩ := hcc (by omega)
          have xi := hc2 i _ (hlJ i hil)
          have hT : Hid (decide (y ∈ l.take (i + 1)) = (decide (y ∈ l.take i) || decide (l.getD i 0 = y))) := by
            unfold Hid
            rw [takeI_next (hlJ i hil)]
            by_cases q : y ∈ l.take i
            · simp [q]
            · simp only [List.mem_append, q, false_or, List.mem_singleton, decide_false, Bool.false_or]
              exact decide_eq_decide.2 ⟨Eq.symm, Eq.symm⟩
          clear hc2 hcc hlJ q1 q2
          generalize l.getD i 0 = x at *
          generalize hD : decide (y ∈ l.take i) = D at *
          clear hD
          cases D with
          | true =>
            go_wp2
            go_round
            case rel => exact ⟨i + 1, by omega, by go_num, by rw [hT.out]; rfl⟩
            case measure => simp [Go.RowKit.intOf]; omega
          | false =>
            by_cases hxy : x = y
            · have hxy' : x = (lo : Int) + j := by omega
              have HX : Hid (decide (y ∈ l.take (i + 1)) = true) := by unfold Hid; rw [hT.out, decide_eq_true hxy]; rfl
              clear hxy hT hy hym
              go_wp2
              go_round
              case rel => exact ⟨i + 1, by omega, by go_num, by rw [HX.out]⟩
              case measure => simp [Go.RowKit.intOf]; omega
            · have hxy' : ¬ x = (lo : Int) + j := by omega
              have hxy2 : (x == (lo : Int) + j) = false := beq_eq_false_iff_ne.2 hxy'
              have HX : Hid (decide (y ∈ l.take (i + 1)) = false) := by unfold Hid; rw [hT.out, decide_eq_false hxy]; rfl
              clear hxy hT hy hym
              go_wp2
              go_round
              case rel => exact ⟨i + 1, by omega, by go_num, by rw [HX.out]⟩
              case measure => simp [Go.RowKit.intOf]; omega
        · obtain rfl : i = l.length := by omega
          have hiI : ¬ (l.length : Int) < l.length := by omega
          rw [List.take_length]
          clear hcc hlJ
          by_cases h3 : K = 3
          · have h3I : (K : Int) - 1 = 2 := by omega
            by_cases hin : y ∈ l
            · rw [decide_eq_true hin]
              obtain ⟨r1, r2⟩ := q2 (fun hq => hq.2 hin)
              have R1 : Hid (SK (j + 1) = SK j) := r1
              have R2 : Hid (SN (j + 1) = SN j) := r2
              have h3b : ((K : Int) - 1 == 2) = true := beq_iff_eq.2 h3I
              clear q1 q2 r1 r2 hin h3 HP1
              go_wp2_with fail
              go_roundw
              case rel => exact ⟨j + 1, by omega, by go_num, by rw [R2.out], by rw [R1.out]; exact HP, HS⟩
              case measure => simp [Go.RowKit.intOf]; omega
            · rw [decide_eq_false hin]
              obtain ⟨r1, r2⟩ := q1 ⟨h3, hin⟩
              have R1 : Hid (SK (j + 1) = (SK j).set j 1) := r1
              have R2 : Hid (SN (j + 1) = SN j + 1) := r2
              generalize SN j = C at *
              have h3b : ((K : Int) - 1 == 2) = true := beq_iff_eq.2 h3I
              clear q1 q2 r1 r2 hin h3
              go_wp2_with fail
              go_roundw
              case rel => exact ⟨j + 1, by omega, by go_num, by rw [R2.out]; go_num, by rw [R1.out]; exact HP1, HS.trans (Sole.setCell _ _ (by simp))⟩
              case measure => simp [Go.RowKit.intOf]; omega
          · have h3I : ¬ (K : Int) - 1 = 2 := by omega
            obtain ⟨r1, r2⟩ := q2 (fun hq => h3 hq.1)
            have R1 : Hid (SK (j + 1) = SK j) := r1
            have R2 : Hid (SN (j + 1) = SN j) := r2
            generalize decide (y ∈ l) = D at *
            have h3b : ((K : Int) - 1 == 2) = false := beq_eq_false_iff_ne.2 h3I
            clear q1 q2 r1 r2 h3 HP1
            go_wp2_with fail
            go_roundw
            case rel => exact ⟨j + 1, by omega, by go_num, by rw [R2.out], by rw [R1.out]; exact HP, HS⟩
            case measure => simp [Go.RowKit.intOf]; omega
    · obtain rfl : j = n := by omega
      have hltI : ¬ (j : Int) < j := by omega
      clear hget hsl hsg hk1 hk2 hsn hr
      go_wp2
      go_ret
      exact ⟨rfl, HP.out, HS⟩

/-- Numbers of 64 bits. -/
def IntsOk (l : List Int) : Prop := ∀ x ∈ l, -9223372036854775808 ≤ x ∧ x ≤ 9223372036854775807

set_option maxRecDepth 100000 in
theorem ints_of {H : Type} {enc : TypeId × Value → H} {W : World} {base : Nat} {held : Bool} {fuel : Nat} {v : Value} {x : DataW H × List MemPlace}
    (h : DataW.trod enc Tryz.prog W base (fun _ => true) held fuel 22 [v] = some x) : ∃ l, IntsOk l ∧ RdI W v l := by
  rcases Deep.open_slice1 Tryz.underlying22 (by kernel_rfl) h with ⟨hcs, _⟩ | ⟨a', len, c, m, n, V, D, Pl, hcs, hb, hl, hm, hmm, _, hx⟩
  · simp at hcs
    subst hcs
    exact ⟨[], (fun x hx => by cases hx), ⟨none, 0, rfl, Nat.le_refl _, by simp, fun h => by simp at h⟩⟩
  · simp at hcs
    subst hcs
    have each : ∀ i, i < len → ∃ z : Int, (-9223372036854775808 ≤ z ∧ z ≤ 9223372036854775807) ∧ W.cell? (a'.add i) = some (.int .i64 z) := fun i hi => by
      obtain ⟨q, t⟩ := hx i (by rw [hmm]; simp; omega)
      obtain ⟨z, e, _, wz⟩ := DataW.trod_int Tryz.underlying3 t
      simp only [List.cons.injEq, and_true] at e
      exact ⟨z, bounds_i64 wz, by rw [q, e]⟩
    have hin : Inhabited Int := ⟨0⟩
    obtain ⟨f, hf⟩ := Deep.choose_lt each
    have hlen : ((List.range len).map f).length = len := by simp
    refine ⟨(List.range len).map f, fun x hx => ?_, some a', c, by rw [hlen], by rw [hlen]; exact hl, hm, fun hp => ?_⟩
    · obtain ⟨i, hi, rfl⟩ := List.mem_map.1 hx
      exact (hf i (List.mem_range.1 hi)).1
    · rw [hlen] at hp
      obtain ⟨b, off, spot⟩ := a'
      have q0 := (hf 0 hp).2
      have hspot : spot = none := by simpa [Addr.add] using World.cell?_spot q0
      subst hspot
      have hadd : ∀ j, (⟨b, off, none⟩ : Addr).add j = ⟨b, off + j, none⟩ := fun j => by unfold Addr.add; split <;> simp_all
      rw [hadd] at q0
      refine ⟨b, off, rfl, World.block_lt_of_cell? _ _ q0, fun i x hi => ?_⟩
      rw [List.getElem?_map] at hi
      rcases Nat.lt_or_ge i len with hlt | hge
      · rw [List.getElem?_range hlt] at hi
        simp only [Option.map_some, Option.some.injEq] at hi
        subst hi
        have := (hf i hlt).2
        rw [hadd] at this
        exact this
      · rw [List.getElem?_eq_none (by simpa using hge)] at hi
        cases hi

theorem lastS_take {l : List ByteArray} {k : Nat} {p : ByteArray} (h : l[k]? = some p) : lastS (l.take (k + 1)) = p := by
  rw [take_next h]; exact lastS_snoc _ _

set_option maxHeartbeats 2000000 in
theorem krising_any (w : World) (a : Option Addr) (n cap : Nat) (l : List ByteArray) (h : RdS w (.slice a n cap) l) :
    Calls Tryz.prog 73 #[.slice a n cap] w fun e w' => e = .returned (.bool (risingB l)) ∧ w' = w := by
  obtain ⟨hl, hnc, hm, hI⟩ := h.open
  unfold maxLen at hm
  clear h
  go_enter Tryz.func73, Tryz.ntmps73
  go_wp2
  go_loop [3, 4, 7] (fun i s t => ∃ k : Nat, k ≤ n ∧ t = .int .i64 k ∧ Hid (risingB (l.take k) = true)) (fun _ _ t => n - (intOf t).toNat)
  case atStart => exact ⟨0, Nat.zero_le _, rfl, rfl⟩
  case round =>
    obtain ⟨k, hk, rfl, hr⟩ := hrel
    by_cases hlt : k < n
    · obtain ⟨b, off, rfl, hb, hcs⟩ := hI (by omega)
      obtain ⟨s, hs⟩ := at_some hl hlt
      have hcx := hcs k s hs
      have hsn := ris_snoc (l.take k) s hr.out
      rw [← take_next hs] at hsn
      have hltI : (k : Int) < n := by omega
      by_cases h14 : s.size = 14
      · have h14I : (s.size : Int) = 14 := by omega
        by_cases hz : k = 0
        · have hyes : Hid (risingB (l.take (k + 1)) = true) := by
            unfold Hid
            rw [hsn]; subst hz; simp [h14, lastS, less_empty h14]
          have hz' : ¬ (0 : Int) < k := by omega
          clear hsn hcs hI hz
          go_wp2
          go_round
          case rel => exact ⟨k + 1, by omega, by go_num, hyes⟩
          case measure => simp [intOf]; omega
        · have hz' : (0 : Int) < k := by omega
          obtain ⟨D, rfl⟩ : ∃ D, k = D + 1 := ⟨k - 1, by omega⟩
          obtain ⟨p, hp⟩ := at_some hl (show D < n by omega)
          have hcp := hcs D p hp
          rw [lastS_take hp] at hsn
          have hm1 : (((D + 1 : Nat) : Int) - 1) = (D : Int) := by omega
          clear hcs hI hz
          rcases le_three s p with ⟨q1, hu⟩ | ⟨he, q1, hu⟩ | ⟨q1, q2, hu⟩
          · have q3 : Op.bytesLess p.toList s.toList = false := by unfold upTo lessS at hu; simpa using hu
            have hno : Hid (risingB l = false) := ris_take_no l (D + 1 + 1) (by rw [hsn]; unfold lessS; rw [q3]; simp)
            clear hsn hu
            go_wp2
            go_ret
            exact ⟨by rw [hno.out]; rfl, rfl⟩
          · have hno : Hid (risingB l = false) := ris_take_no l (D + 1 + 1) (by rw [hsn]; unfold upTo at hu; simp at hu; rw [hu]; simp)
            clear hsn hu
            subst he
            go_wp2
            go_ret
            exact ⟨by rw [hno.out]; rfl, rfl⟩
          · have q3 : Op.bytesLess p.toList s.toList = true := by unfold upTo lessS at hu; simpa using hu
            have q4 : (p.toList == s.toList) = false := by
              cases hx : (p.toList == s.toList) with
              | false => rfl
              | true => rw [eq_of_beq hx] at q2; simp at q2
            have hyes : Hid (risingB (l.take (D + 1 + 1)) = true) := by
              unfold Hid
              rw [hsn]; unfold lessS; rw [q3]; simp [h14]
            clear hsn hu
            go_wp2
            go_round
            case rel => exact ⟨D + 1 + 1, by omega, by go_num, hyes⟩
            case measure => simp [intOf]; omega
      · have h14I : ¬ (s.size : Int) = 14 := by omega
        have hno : Hid (risingB l = false) := ris_take_no l (k + 1) (by rw [hsn]; simp [h14])
        clear hsn hcs hI
        go_wp2
        go_ret
        exact ⟨by rw [hno.out]; rfl, rfl⟩
    · obtain rfl : k = n := by omega
      have hyes : Hid (risingB l = true) := by have := hr.out; rwa [List.take_of_length_le (by omega)] at this
      have hltI : ¬ (k : Int) < k := by omega
      go_wp2
      go_ret
      exact ⟨by rw [hyes.out]; rfl, rfl⟩

def smallB (ps : List (ByteArray × ByteArray)) : Bool := ps.all (fun p => decide (p.2.size ≤ 34))
def noZeroB (cs : List Int) : Bool := cs.all (fun k => k != 0)

theorem nodeE_leaf (ps : List (ByteArray × ByteArray)) (ks : List ByteArray) (cs : List Int) : nodeOk ⟨true, ps, ks, cs⟩ = (smallB ps && decide (1 ≤ ps.length) && decide (ps.length ≤ 10) && risingB (ps.map (·.1)) && decide (ks.length = 0) && decide (cs.length = 0)) := by
  unfold nodeOk smallB
  have e1 : ks.isEmpty = decide (ks.length = 0) := by cases ks <;> simp
  have e2 : cs.isEmpty = decide (cs.length = 0) := by cases cs <;> simp
  dsimp only
  rw [if_pos rfl, e1, e2]
  generalize ps.all _ = a
  generalize decide (1 ≤ ps.length) = b
  generalize decide (ps.length ≤ 10) = c
  cases a <;> cases b <;> cases c <;> rfl

theorem nodeE_inner (ps : List (ByteArray × ByteArray)) (ks : List ByteArray) (cs : List Int) : nodeOk ⟨false, ps, ks, cs⟩ = (decide (2 ≤ cs.length) && decide (cs.length ≤ 24) && decide (ks.length + 1 = cs.length) && risingB ks && decide (ps.length = 0) && noZeroB cs) := by
  unfold nodeOk noZeroB
  have e1 : ps.isEmpty = decide (ps.length = 0) := by cases ps <;> simp
  dsimp only
  rw [if_neg (by decide), e1]

theorem smallB_next {l : List (ByteArray × ByteArray)} {k : Nat} {x : ByteArray × ByteArray} (h : l[k]? = some x) : smallB (l.take (k + 1)) = (smallB (l.take k) && decide (x.2.size ≤ 34)) := by
  unfold smallB; rw [take_next h, List.all_append]; simp

theorem noZeroB_next {l : List Int} {k : Nat} {x : Int} (h : l[k]? = some x) : noZeroB (l.take (k + 1)) = (noZeroB (l.take k) && (x != 0)) := by
  unfold noZeroB; rw [take_next h, List.all_append]; simp

theorem map_next {l : List (ByteArray × ByteArray)} {k : Nat} {x : ByteArray × ByteArray} (h : l[k]? = some x) : ((l.take (k + 1)).map (·.1)).flatMap strE = ((l.take k).map (·.1)).flatMap strE ++ [.string x.1] := by
  rw [take_next h, List.map_append, List.flatMap_append]; rfl

set_option maxHeartbeats 8000000 in
theorem kcheck_inner (w : World) (a1 a2 a3 : Option Addr) (c1 c2 c3 : Nat) (ps : List (ByteArray × ByteArray)) (ks : List ByteArray) (cs : List Int) (hS : RdS w (.slice a2 ks.length c2) ks) (hU : RdU w (.slice a3 cs.length c3) cs) :
    Calls Tryz.prog 39 #[.agg #[.bool false, .slice a1 ps.length c1, .slice a2 ks.length c2, .slice a3 cs.length c3]] w fun e w' => e = .returned (.int .i64 (nodeE ⟨false, ps, ks, cs⟩)) ∧ Below w.heap.size w w' := by
  have hok := nodeE_inner ps ks cs
  have hB0 := (Below.refl w.heap.size w).alloc (Nat.le_refl _) (.cells #[.bool false, .slice a1 ps.length c1, .slice a2 ks.length c2, .slice a3 cs.length c3] 40)
  have hg := heap_alloc_new w (.cells #[.bool false, .slice a1 ps.length c1, .slice a2 ks.length c2, .slice a3 cs.length c3] 40)
  have hri := krising_any _ a2 _ c2 ks (RdE.below hS hB0)
  obtain ⟨lu, uc, um, uI⟩ := RdU.open (RdE.below hU hB0)
  obtain ⟨ls, sc, sm, _⟩ := RdS.open (RdE.below hS hB0)
  unfold maxLen at um sm
  clear hS hU
  generalize hn1 : ps.length = n1 at *
  generalize hn2 : ks.length = n2 at *
  generalize hn3 : cs.length = n3 at *
  replace lu := hn3
  clear hn1 hn2 hn3 ls
  generalize hW0 : w.alloc (.cells #[.bool false, .slice a1 n1 c1, .slice a2 n2 c2, .slice a3 n3 c3] 40) = W0 at *
  obtain ⟨X0, X1, X2, X3, _⟩ := box4' hg
  clear hg
  generalize risingB ks = R at *
  go_enter Tryz.func39, Tryz.ntmps39
  by_cases d1 : 2 ≤ n3
  · have i1 : (2 : Int) ≤ n3 := by omega
    by_cases d2 : n3 ≤ 24
    · have i2 : (n3 : Int) ≤ 24 := by omega
      by_cases d3 : n2 + 1 = n3
      · have i3 : (n2 : Int) = (n3 : Int) - 1 := by omega
        cases R with
        | true =>
          by_cases d5 : n1 = 0
          · subst d5
            replace hok : Hid (nodeOk ⟨false, ps, ks, cs⟩ = (true && noZeroB cs)) := by unfold Hid; rw [hok]; simp [d1, d2, d3]
            go_wp2_with fail
            refine hri.mono ?_
            clear hri
            rintro e w1 ⟨rfl, rfl⟩
            go_wp2
            go_loop [3, 8, 94] (fun g x t => ∃ k : Nat, k ≤ n3 ∧ t = .int .i64 k ∧ g = .bool (true && noZeroB (cs.take k))) (fun _ _ t => n3 - (intOf t).toNat)
            case atStart => exact ⟨0, Nat.zero_le _, rfl, rfl⟩
            case round =>
              obtain ⟨k, hk, rfl, rfl⟩ := hrel
              by_cases hlt : k < n3
              · obtain ⟨b, off, rfl, hb, hcs⟩ := uI (by omega)
                obtain ⟨x, hx⟩ := at_some lu hlt
                have hcx := hcs k x hx
                have hnx := noZeroB_next hx
                have hltI : (k : Int) < n3 := by omega
                clear hcs uI
                by_cases hx0 : x = 0
                · have HN : Hid ((true && noZeroB (cs.take (k + 1))) = false) := by unfold Hid; rw [hnx]; simp [hx0]
                  subst hx0
                  clear hnx
                  cases hq : (true && noZeroB (cs.take k)) <;>
                  · go_wp2
                    go_round
                    case rel => exact ⟨k + 1, by omega, by go_num, by rw [HN.out]⟩
                    case measure => simp [intOf]; omega
                · have HN : Hid ((true && noZeroB (cs.take (k + 1))) = (true && noZeroB (cs.take k))) := by unfold Hid; rw [hnx]; simp [hx0]
                  have hx0' : (x != 0) = true := by simp [hx0]
                  clear hnx
                  cases hq : (true && noZeroB (cs.take k)) <;>
                  · rw [hq] at HN
                    go_wp2
                    go_round
                    case rel => exact ⟨k + 1, by omega, by go_num, by rw [HN.out]; try simp [hx0]⟩
                    case measure => simp [intOf]; omega
              · obtain rfl : k = n3 := by omega
                have hltI : ¬ (k : Int) < k := by omega
                have hfin : Hid (nodeE ⟨false, ps, ks, cs⟩ = if (true && noZeroB (cs.take k)) then 0 else 50) := by
                  unfold Hid nodeE
                  rw [List.take_of_length_le (by omega), hok.out]
                cases hq : (true && noZeroB (cs.take k)) <;>
                · rw [hq] at hfin
                  go_wp2
                  go_ret
                  exact ⟨by rw [hfin.out]; rfl, hB0⟩
          · have i5 : ((n1 : Int) == 0) = false := by simp [d5]
            replace hok : Hid (nodeOk ⟨false, ps, ks, cs⟩ = (false && noZeroB cs)) := by unfold Hid; rw [hok]; simp [d5]
            go_wp2_with fail
            refine hri.mono ?_
            clear hri
            rintro e w1 ⟨rfl, rfl⟩
            go_wp2
            go_loop [3, 8, 94] (fun g x t => ∃ k : Nat, k ≤ n3 ∧ t = .int .i64 k ∧ g = .bool (false && noZeroB (cs.take k))) (fun _ _ t => n3 - (intOf t).toNat)
            case atStart => exact ⟨0, Nat.zero_le _, rfl, rfl⟩
            case round =>
              obtain ⟨k, hk, rfl, rfl⟩ := hrel
              by_cases hlt : k < n3
              · obtain ⟨b, off, rfl, hb, hcs⟩ := uI (by omega)
                obtain ⟨x, hx⟩ := at_some lu hlt
                have hcx := hcs k x hx
                have hnx := noZeroB_next hx
                have hltI : (k : Int) < n3 := by omega
                clear hcs uI
                by_cases hx0 : x = 0
                · have HN : Hid ((false && noZeroB (cs.take (k + 1))) = false) := by unfold Hid; rw [hnx]; simp [hx0]
                  subst hx0
                  clear hnx
                  cases hq : (false && noZeroB (cs.take k)) <;>
                  · go_wp2
                    go_round
                    case rel => exact ⟨k + 1, by omega, by go_num, by rw [HN.out]⟩
                    case measure => simp [intOf]; omega
                · have HN : Hid ((false && noZeroB (cs.take (k + 1))) = (false && noZeroB (cs.take k))) := by unfold Hid; rw [hnx]; simp [hx0]
                  have hx0' : (x != 0) = true := by simp [hx0]
                  clear hnx
                  cases hq : (false && noZeroB (cs.take k)) <;>
                  · rw [hq] at HN
                    go_wp2
                    go_round
                    case rel => exact ⟨k + 1, by omega, by go_num, by rw [HN.out]; try simp [hx0]⟩
                    case measure => simp [intOf]; omega
              · obtain rfl : k = n3 := by omega
                have hltI : ¬ (k : Int) < k := by omega
                have hfin : Hid (nodeE ⟨false, ps, ks, cs⟩ = if (false && noZeroB (cs.take k)) then 0 else 50) := by
                  unfold Hid nodeE
                  rw [List.take_of_length_le (by omega), hok.out]
                cases hq : (false && noZeroB (cs.take k)) <;>
                · rw [hq] at hfin
                  go_wp2
                  go_ret
                  exact ⟨by rw [hfin.out]; rfl, hB0⟩
        | false =>
          replace hok : Hid (nodeOk ⟨false, ps, ks, cs⟩ = (false && noZeroB cs)) := by unfold Hid; rw [hok]; simp
          go_wp2_with fail
          refine hri.mono ?_
          clear hri
          rintro e w1 ⟨rfl, rfl⟩
          go_wp2
          go_loop [3, 8, 94] (fun g x t => ∃ k : Nat, k ≤ n3 ∧ t = .int .i64 k ∧ g = .bool (false && noZeroB (cs.take k))) (fun _ _ t => n3 - (intOf t).toNat)
          case atStart => exact ⟨0, Nat.zero_le _, rfl, rfl⟩
          case round =>
            obtain ⟨k, hk, rfl, rfl⟩ := hrel
            by_cases hlt : k < n3
            · obtain ⟨b, off, rfl, hb, hcs⟩ := uI (by omega)
              obtain ⟨x, hx⟩ := at_some lu hlt
              have hcx := hcs k x hx
              have hnx := noZeroB_next hx
              have hltI : (k : Int) < n3 := by omega
              clear hcs uI
              by_cases hx0 : x = 0
              · have HN : Hid ((false && noZeroB (cs.take (k + 1))) = false) := by unfold Hid; rw [hnx]; simp [hx0]
                subst hx0
                clear hnx
                cases hq : (false && noZeroB (cs.take k)) <;>
                · go_wp2
                  go_round
                  case rel => exact ⟨k + 1, by omega, by go_num, by rw [HN.out]⟩
                  case measure => simp [intOf]; omega
              · have HN : Hid ((false && noZeroB (cs.take (k + 1))) = (false && noZeroB (cs.take k))) := by unfold Hid; rw [hnx]; simp [hx0]
                have hx0' : (x != 0) = true := by simp [hx0]
                clear hnx
                cases hq : (false && noZeroB (cs.take k)) <;>
                · rw [hq] at HN
                  go_wp2
                  go_round
                  case rel => exact ⟨k + 1, by omega, by go_num, by rw [HN.out]; try simp [hx0]⟩
                  case measure => simp [intOf]; omega
            · obtain rfl : k = n3 := by omega
              have hltI : ¬ (k : Int) < k := by omega
              have hfin : Hid (nodeE ⟨false, ps, ks, cs⟩ = if (false && noZeroB (cs.take k)) then 0 else 50) := by
                unfold Hid nodeE
                rw [List.take_of_length_le (by omega), hok.out]
              cases hq : (false && noZeroB (cs.take k)) <;>
              · rw [hq] at hfin
                go_wp2
                go_ret
                exact ⟨by rw [hfin.out]; rfl, hB0⟩
      · have i3 : ¬ (n2 : Int) = (n3 : Int) - 1 := by omega
        replace hok : Hid (nodeOk ⟨false, ps, ks, cs⟩ = (false && noZeroB cs)) := by unfold Hid; rw [hok]; simp [d3]
        clear hri
        go_wp2
        go_loop [3, 8, 94] (fun g x t => ∃ k : Nat, k ≤ n3 ∧ t = .int .i64 k ∧ g = .bool (false && noZeroB (cs.take k))) (fun _ _ t => n3 - (intOf t).toNat)
        case atStart => exact ⟨0, Nat.zero_le _, rfl, rfl⟩
        case round =>
          obtain ⟨k, hk, rfl, rfl⟩ := hrel
          by_cases hlt : k < n3
          · obtain ⟨b, off, rfl, hb, hcs⟩ := uI (by omega)
            obtain ⟨x, hx⟩ := at_some lu hlt
            have hcx := hcs k x hx
            have hnx := noZeroB_next hx
            have hltI : (k : Int) < n3 := by omega
            clear hcs uI
            by_cases hx0 : x = 0
            · have HN : Hid ((false && noZeroB (cs.take (k + 1))) = false) := by unfold Hid; rw [hnx]; simp [hx0]
              subst hx0
              clear hnx
              cases hq : (false && noZeroB (cs.take k)) <;>
              · go_wp2
                go_round
                case rel => exact ⟨k + 1, by omega, by go_num, by rw [HN.out]⟩
                case measure => simp [intOf]; omega
            · have HN : Hid ((false && noZeroB (cs.take (k + 1))) = (false && noZeroB (cs.take k))) := by unfold Hid; rw [hnx]; simp [hx0]
              have hx0' : (x != 0) = true := by simp [hx0]
              clear hnx
              cases hq : (false && noZeroB (cs.take k)) <;>
              · rw [hq] at HN
                go_wp2
                go_round
                case rel => exact ⟨k + 1, by omega, by go_num, by rw [HN.out]; try simp [hx0]⟩
                case measure => simp [intOf]; omega
          · obtain rfl : k = n3 := by omega
            have hltI : ¬ (k : Int) < k := by omega
            have hfin : Hid (nodeE ⟨false, ps, ks, cs⟩ = if (false && noZeroB (cs.take k)) then 0 else 50) := by
              unfold Hid nodeE
              rw [List.take_of_length_le (by omega), hok.out]
            cases hq : (false && noZeroB (cs.take k)) <;>
            · rw [hq] at hfin
              go_wp2
              go_ret
              exact ⟨by rw [hfin.out]; rfl, hB0⟩
    · have i2 : ¬ (n3 : Int) ≤ 24 := by omega
      replace hok : Hid (nodeOk ⟨false, ps, ks, cs⟩ = (false && noZeroB cs)) := by unfold Hid; rw [hok]; simp [d2]
      clear hri
      go_wp2
      go_loop [3, 8, 94] (fun g x t => ∃ k : Nat, k ≤ n3 ∧ t = .int .i64 k ∧ g = .bool (false && noZeroB (cs.take k))) (fun _ _ t => n3 - (intOf t).toNat)
      case atStart => exact ⟨0, Nat.zero_le _, rfl, rfl⟩
      case round =>
        obtain ⟨k, hk, rfl, rfl⟩ := hrel
        by_cases hlt : k < n3
        · obtain ⟨b, off, rfl, hb, hcs⟩ := uI (by omega)
          obtain ⟨x, hx⟩ := at_some lu hlt
          have hcx := hcs k x hx
          have hnx := noZeroB_next hx
          have hltI : (k : Int) < n3 := by omega
          clear hcs uI
          by_cases hx0 : x = 0
          · have HN : Hid ((false && noZeroB (cs.take (k + 1))) = false) := by unfold Hid; rw [hnx]; simp [hx0]
            subst hx0
            clear hnx
            cases hq : (false && noZeroB (cs.take k)) <;>
            · go_wp2
              go_round
              case rel => exact ⟨k + 1, by omega, by go_num, by rw [HN.out]⟩
              case measure => simp [intOf]; omega
          · have HN : Hid ((false && noZeroB (cs.take (k + 1))) = (false && noZeroB (cs.take k))) := by unfold Hid; rw [hnx]; simp [hx0]
            have hx0' : (x != 0) = true := by simp [hx0]
            clear hnx
            cases hq : (false && noZeroB (cs.take k)) <;>
            · rw [hq] at HN
              go_wp2
              go_round
              case rel => exact ⟨k + 1, by omega, by go_num, by rw [HN.out]; try simp [hx0]⟩
              case measure => simp [intOf]; omega
        · obtain rfl : k = n3 := by omega
          have hltI : ¬ (k : Int) < k := by omega
          have hfin : Hid (nodeE ⟨false, ps, ks, cs⟩ = if (false && noZeroB (cs.take k)) then 0 else 50) := by
            unfold Hid nodeE
            rw [List.take_of_length_le (by omega), hok.out]
          cases hq : (false && noZeroB (cs.take k)) <;>
          · rw [hq] at hfin
            go_wp2
            go_ret
            exact ⟨by rw [hfin.out]; rfl, hB0⟩
  · have i1 : ¬ (2 : Int) ≤ n3 := by omega
    replace hok : Hid (nodeOk ⟨false, ps, ks, cs⟩ = (false && noZeroB cs)) := by unfold Hid; rw [hok]; simp [d1]
    clear hri
    go_wp2
    go_loop [3, 8, 94] (fun g x t => ∃ k : Nat, k ≤ n3 ∧ t = .int .i64 k ∧ g = .bool (false && noZeroB (cs.take k))) (fun _ _ t => n3 - (intOf t).toNat)
    case atStart => exact ⟨0, Nat.zero_le _, rfl, rfl⟩
    case round =>
      obtain ⟨k, hk, rfl, rfl⟩ := hrel
      by_cases hlt : k < n3
      · obtain ⟨b, off, rfl, hb, hcs⟩ := uI (by omega)
        obtain ⟨x, hx⟩ := at_some lu hlt
        have hcx := hcs k x hx
        have hnx := noZeroB_next hx
        have hltI : (k : Int) < n3 := by omega
        clear hcs uI
        by_cases hx0 : x = 0
        · have HN : Hid ((false && noZeroB (cs.take (k + 1))) = false) := by unfold Hid; rw [hnx]; simp [hx0]
          subst hx0
          clear hnx
          cases hq : (false && noZeroB (cs.take k)) <;>
          · go_wp2
            go_round
            case rel => exact ⟨k + 1, by omega, by go_num, by rw [HN.out]⟩
            case measure => simp [intOf]; omega
        · have HN : Hid ((false && noZeroB (cs.take (k + 1))) = (false && noZeroB (cs.take k))) := by unfold Hid; rw [hnx]; simp [hx0]
          have hx0' : (x != 0) = true := by simp [hx0]
          clear hnx
          cases hq : (false && noZeroB (cs.take k)) <;>
          · rw [hq] at HN
            go_wp2
            go_round
            case rel => exact ⟨k + 1, by omega, by go_num, by rw [HN.out]; try simp [hx0]⟩
            case measure => simp [intOf]; omega
      · obtain rfl : k = n3 := by omega
        have hltI : ¬ (k : Int) < k := by omega
        have hfin : Hid (nodeE ⟨false, ps, ks, cs⟩ = if (false && noZeroB (cs.take k)) then 0 else 50) := by
          unfold Hid nodeE
          rw [List.take_of_length_le (by omega), hok.out]
        cases hq : (false && noZeroB (cs.take k)) <;>
        · rw [hq] at hfin
          go_wp2
          go_ret
          exact ⟨by rw [hfin.out]; rfl, hB0⟩

set_option maxHeartbeats 8000000 in
theorem kcheck_leaf (w : World) (a1 a2 a3 : Option Addr) (c1 c2 c3 : Nat) (ps : List (ByteArray × ByteArray)) (ks : List ByteArray) (cs : List Int) (hP : RdP w (.slice a1 ps.length c1) ps) (hbig : ps.length ≤ 4398046511104) (hl2 : ks.length ≤ maxLen) (hl3 : cs.length ≤ maxLen) :
    Calls Tryz.prog 39 #[.agg #[.bool true, .slice a1 ps.length c1, .slice a2 ks.length c2, .slice a3 cs.length c3]] w fun e w' => e = .returned (.int .i64 (nodeE ⟨true, ps, ks, cs⟩)) ∧ Below w.heap.size w w' := by
  have hok := nodeE_leaf ps ks cs
  obtain ⟨iS, hsi, hs0, hs1, hs2⟩ := info_parts Tryz.infoS
  have hB0 := (Below.refl w.heap.size w).alloc (Nat.le_refl _) (.cells #[.bool true, .slice a1 ps.length c1, .slice a2 ks.length c2, .slice a3 cs.length c3] 40)
  have hg := heap_alloc_new w (.cells #[.bool true, .slice a1 ps.length c1, .slice a2 ks.length c2, .slice a3 cs.length c3] 40)
  obtain ⟨lp, pc, pm, pI⟩ := RdP.open (RdE.below hP hB0)
  unfold maxLen at pm hl2 hl3
  clear hP
  have hri : ∀ W a c, World.ownsRow W (w.heap.size + 1) 9 1 (.slice a ps.length c) (ps.map (·.1)).length ((ps.map (·.1)).flatMap strE) → Calls Tryz.prog 73 #[.slice a ps.length c] W fun e w' => e = .returned (.bool (risingB (ps.map (·.1)))) ∧ w' = W := fun W a c ho => by
    have := krising_any W a ps.length c (ps.map (·.1)) (rdE_own (enc := strE) (fun _ => rfl) ho)
    exact this
  rw [List.length_map] at hri
  generalize risingB (ps.map (·.1)) = R at *
  have hpl : ps.length = ps.length := rfl
  generalize hn1 : ps.length = n1 at *
  replace hpl := hn1
  generalize hn2 : ks.length = n2 at *
  generalize hn3 : cs.length = n3 at *
  clear hn1 hn2 hn3
  generalize hW0 : w.alloc (.cells #[.bool true, .slice a1 n1 c1, .slice a2 n2 c2, .slice a3 n3 c3] 40) = W0 at *
  obtain ⟨X0, X1, X2, X3, _⟩ := box4' hg
  have z0 : W0.heap.size = w.heap.size + 1 := by rw [← hW0]; simp
  have zlt : w.heap.size < W0.heap.size := by omega
  clear hg
  go_enter Tryz.func39, Tryz.ntmps39
  go_wp2
  clear hW0
  go_loopw [3, 4, 6, 14] (fun g v x t wr => ∃ (k : Nat) (a : Option Addr) (c : Nat), k ≤ n1 ∧ t = .int .i64 k ∧ g = .bool (smallB (ps.take k)) ∧ v = .slice a k c ∧ World.ownsRow wr (w.heap.size + 1) 9 1 (.slice a k c) k (((ps.take k).map (·.1)).flatMap strE) ∧ Below W0.heap.size W0 wr) (fun _ _ _ t _ => n1 - (intOf t).toNat)
  case atStart => exact ⟨0, none, 0, Nat.zero_le _, rfl, rfl, rfl, World.ownsRow_nil _ _ _ _, Below.refl _ _⟩
  case round =>
    obtain ⟨k, a, c, hk, rfl, rfl, rfl, hown, HB⟩ := hrel
    obtain ⟨wA, hA⟩ : ∃ wA, wA = wr := ⟨_, rfl⟩
    subst hA
    have hsz := HB.size
    have Y1 := (HB.cell (p := ⟨w.heap.size, 1, none⟩) zlt).trans X1
    have Y2 := (HB.cell (p := ⟨w.heap.size, 2, none⟩) zlt).trans X2
    have Y3 := (HB.cell (p := ⟨w.heap.size, 3, none⟩) zlt).trans X3
    by_cases hlt : k < n1
    · clear hri Y1 Y2 Y3
      obtain ⟨b, off, rfl, hb, hcs⟩ := pI (by omega)
      obtain ⟨x, hx⟩ := at_some hpl hlt
      obtain ⟨hcx, hcy⟩ := hcs k x hx
      have hcx' := (HB.cell (p := ⟨_, _, none⟩) hb).trans hcx
      have hcy' := (HB.cell (p := ⟨_, _, none⟩) hb).trans hcy
      have hsm := smallB_next hx
      have hmp := map_next hx
      obtain ⟨s, t⟩ := x
      dsimp only at hsm hmp hcx' hcy'
      have hltI : (k : Int) < n1 := by omega
      clear hcs pI hcx hcy
      generalize smallB (ps.take k) = G at *
      generalize ((ps.take k).map (·.1)).flatMap strE = L at *
      obtain ⟨W2, hW2⟩ : ∃ W2, (wA.alloc (.cells #[.string s, .string t] 85)).alloc (.cells #[.string s] 9) = W2 := ⟨_, rfl⟩
      have hb2 : Below wA.heap.size wA W2 := by rw [← hW2]; exact ((Below.refl _ wA).alloc (Nat.le_refl _) _).alloc (by simp) _
      have hz2 : W2.heap.size = wA.heap.size + 2 := by rw [← hW2]; simp
      have hnew : W2.heap[wA.heap.size + 1]? = some (.cells #[.string s] 9 (0, 0)) := by rw [← hW2]; exact heap_alloc2_new wA _ _
      have hold : W2.heap[wA.heap.size]? = some (.cells #[.string s, .string t] 85 (0, 0)) := by rw [← hW2]; exact heap_alloc2_old wA _ _
      have hown2 := row_below hown hb2
      go_wp2_with (at_builtin; refine wpList_append_own W2 rfl _ _ 38 rfl (w.heap.size + 1) 9 iS (.string ⟨#[]⟩) 1 16 Tryz.underlying38 hsi hs0 hs1 hs2 rfl (by decide) _ k L rfl hown2 ⟨wA.heap.size + 1, 0, none⟩ 1 1 [.string s] rfl rfl (new_one hnew) (by simp [Value.oneCell']) ?d1 ?d2 ?d3 ?_)
      case d1 => unfold maxLen; omega
      case d2 => omega
      case d3 => omega
      intro v3 w3 ho3 hg3 _
      have hb3 : Below (w.heap.size + 1) W2 w3 := (Below.refl _ W2).grown hg3 (by omega) (fun q hq => (World.ownsRow.lt hown2 q hq).1)
      have hb23 : Below W0.heap.size W0 w3 := HB.trans ((hb2.mono hsz).trans (by rw [z0]; exact hb3))
      have hk3 : ∀ j u, #[Value.string s, .string t][j]? = some u → w3.cell? ⟨wA.heap.size, j, none⟩ = some u := fun j u hu => by
        have hne : some wA.heap.size ≠ (Value.slice a k c).ownBlock := fun e => by
          have := (World.ownsRow.lt hown wA.heap.size e.symm).2
          omega
        rw [World.cell?_of_block (hg3.block _ (by show wA.heap.size < W2.heap.size; omega) hne), cell_of_row _ _ j _ _ (0, 0) hold]
        exact hu
      have P1 := hk3 1 _ rfl
      obtain ⟨a3', c3', rfl⟩ := row_slice ho3
      rw [← hmp] at ho3
      clear hk3 hnew hold hown hown2 hg3 hmp hW2
      by_cases h34 : t.size ≤ 34
      · have h34I : (t.size : Int) ≤ 34 := by omega
        have HS : Hid (smallB (ps.take (k + 1)) = G) := by unfold Hid; rw [hsm]; simp [h34]
        clear hsm
        cases G <;>
        · go_wp2_with fail
          go_roundw
          case rel => exact ⟨k + 1, a3', c3', by omega, by go_num, by rw [HS.out], rfl, ho3, hb23⟩
          case measure => simp [intOf]; omega
      · have h34I : ¬ (t.size : Int) ≤ 34 := by omega
        have HS : Hid (smallB (ps.take (k + 1)) = false) := by unfold Hid; rw [hsm]; simp [h34]
        clear hsm
        cases G <;>
        · go_wp2_with fail
          go_roundw
          case rel => exact ⟨k + 1, a3', c3', by omega, by go_num, by rw [HS.out], rfl, ho3, hb23⟩
          case measure => simp [intOf]; omega
    · obtain rfl : k = n1 := by omega
      have hltI : ¬ (k : Int) < k := by omega
      rw [List.take_of_length_le (by omega)] at hown ⊢
      have hri1 := hri wA a c hown
      have hBw := hB0.trans (HB.mono hB0.size)
      clear hri hown HB pI hpl
      generalize smallB ps = G at *
      cases G with
      | false =>
        replace hok : Hid (nodeE ⟨true, ps, ks, cs⟩ = 50) := by unfold Hid nodeE; rw [hok]; simp
        clear hri1
        go_wp2
        go_ret
        exact ⟨by rw [hok.out]; rfl, hBw⟩
      | true =>
        by_cases d1 : 1 ≤ k
        · have i1 : (1 : Int) ≤ k := by omega
          by_cases d2 : k ≤ 10
          · have i2 : (k : Int) ≤ 10 := by omega
            cases R with
            | false =>
              replace hok : Hid (nodeE ⟨true, ps, ks, cs⟩ = 50) := by unfold Hid nodeE; rw [hok]; simp
              go_wp2_with fail
              refine hri1.mono ?_
              clear hri1
              rintro e w1 ⟨rfl, rfl⟩
              go_wp2
              go_ret
              exact ⟨by rw [hok.out]; rfl, hBw⟩
            | true =>
              by_cases d3 : n2 = 0
              · have i3 : (n2 : Int) = 0 := by omega
                by_cases d4 : n3 = 0
                · have i4 : (n3 : Int) = 0 := by omega
                  replace hok : Hid (nodeE ⟨true, ps, ks, cs⟩ = 0) := by unfold Hid nodeE; rw [hok]; simp [d1, d2, d3, d4]
                  subst d3 d4
                  go_wp2_with fail
                  refine hri1.mono ?_
                  clear hri1
                  rintro e w1 ⟨rfl, rfl⟩
                  go_wp2
                  go_ret
                  exact ⟨by rw [hok.out]; rfl, hBw⟩
                · have i4 : ((n3 : Int) == 0) = false := by simp [d4]
                  replace hok : Hid (nodeE ⟨true, ps, ks, cs⟩ = 50) := by unfold Hid nodeE; rw [hok]; simp [d4]
                  subst d3
                  go_wp2_with fail
                  refine hri1.mono ?_
                  clear hri1
                  rintro e w1 ⟨rfl, rfl⟩
                  go_wp2
                  go_ret
                  exact ⟨by rw [hok.out]; rfl, hBw⟩
              · have i3 : ¬ (n2 : Int) = 0 := by omega
                replace hok : Hid (nodeE ⟨true, ps, ks, cs⟩ = 50) := by unfold Hid nodeE; rw [hok]; simp [d3]
                go_wp2_with fail
                refine hri1.mono ?_
                clear hri1
                rintro e w1 ⟨rfl, rfl⟩
                go_wp2
                go_ret
                exact ⟨by rw [hok.out]; rfl, hBw⟩
          · have i2 : ¬ (k : Int) ≤ 10 := by omega
            replace hok : Hid (nodeE ⟨true, ps, ks, cs⟩ = 50) := by unfold Hid nodeE; rw [hok]; simp [d2]
            clear hri1
            go_wp2
            go_ret
            exact ⟨by rw [hok.out]; rfl, hBw⟩
        · have i1 : ¬ (1 : Int) ≤ k := by omega
          replace hok : Hid (nodeE ⟨true, ps, ks, cs⟩ = 50) := by unfold Hid nodeE; rw [hok]; simp [d1]
          clear hri1
          go_wp2
          go_ret
          exact ⟨by rw [hok.out]; rfl, hBw⟩

theorem kcheck_any (w : World) (v : Value) (n : Nd) (h : NdAt w v n) (hbig : n.pairs.length ≤ 4398046511104) : Calls Tryz.prog 39 #[v] w fun e w' => e = .returned (.int .i64 (nodeE n)) ∧ Below w.heap.size w w' := by
  obtain ⟨a1, c1, a2, c2, a3, c3, rfl, hP, hS, hU, _⟩ := h
  obtain ⟨lf, ps, ks, cs⟩ := n
  dsimp only at *
  cases lf with
  | true =>
    obtain ⟨_, s1, s2, _⟩ := hS.open
    obtain ⟨_, u1, u2, _⟩ := hU.open
    exact kcheck_leaf w a1 a2 a3 c1 c2 c3 ps ks cs hP hbig (Nat.le_trans s1 s2) (Nat.le_trans u1 u2)
  | false => exact kcheck_inner w a1 a2 a3 c1 c2 c3 ps ks cs hS hU

/-- A node as it lies in the document's list. -/
structure En where
  n : Nd
  p : Value
  q : Value
  r : Value

def En.cells (e : En) : List Value := [.bool e.n.leaf, e.p, e.q, e.r]
def En.val (e : En) : Value := .agg #[.bool e.n.leaf, e.p, e.q, e.r]
def en0 : En := ⟨nd0, .slice none 0 0, .slice none 0 0, .slice none 0 0⟩

/-- The document's pool: its map, its nodes, which are fresh, which wait since the last Settle. -/
structure Rx where
  now : Fr
  es : List En
  fr : List Bool
  lt : List Bool

structure Xd where
  x : Nat
  m : Nat
  hm : Nat
  g : Nat
  f : Nat
  l : Nat

def Xd.all (a : Xd) : List Nat := [a.x, a.m, a.hm, a.g, a.f, a.l]

structure RxOk (s : Rx) : Prop where
  k : FrOk s.now
  e : s.es.length = s.now.lo + s.now.ks.length
  f : s.fr.length = s.now.lo + s.now.ks.length
  l : s.lt.length = s.now.lo + s.now.ks.length

def NRow (w : World) (g : Nat) (es : List En) : Prop := ∃ cur : Array Value, w.heap[g]? = some (.cells cur 40 (0, 0)) ∧ ∀ i e j u, es[i]? = some e → (En.cells e)[j]? = some u → cur[i * 4 + j]? = some u

def BRow (w : World) (g : Nat) (bs : List Bool) : Prop := w.heap[g]? = some (.cells (bs.map Value.bool).toArray 4 (0, 0))

structure XAt (w : World) (a : Xd) (s : Rx) : Prop where
  row : w.heap[a.x]? = some (.cells #[ptr a.m, .slice (some ⟨a.g, 0, none⟩) s.es.length s.es.length, .slice (some ⟨a.f, 0, none⟩) s.fr.length s.fr.length, .slice (some ⟨a.l, 0, none⟩) s.lt.length s.lt.length] 82 (0, 0))
  map : RAt w a.m a.hm s.now
  nr : NRow w a.g s.es
  fr : BRow w a.f s.fr
  lt : BRow w a.l s.lt
  ne : a.f ≠ a.l
  own : ∀ e ∈ s.es, NdOwn w 0 e.val e.n
  ok : RxOk s

/-- A block that no node's row is. -/
def Other (w : World) (k : Nat) : Prop := ∀ cs e fr, w.heap[k]? = some (.cells cs e fr) → e ≠ 85 ∧ e ≠ 9 ∧ e ≠ 35

theorem NdOwn.sole {w w' : World} {base : Nat} {v : Value} {n : Nd} (h : NdOwn w base v n) {S : List Nat} (hS : Sole S w w') (hk : ∀ k ∈ S, Other w k) : NdOwn w' base v n := by
  obtain ⟨p, q, r, e, h1, h2, h3⟩ := h
  refine ⟨p, q, r, e, row_sole h1 hS fun g hg hm => ?_, row_sole h2 hS fun g hg hm => ?_, row_sole h3 hS fun g hg hm => ?_⟩
  · obtain ⟨cs, hc⟩ := own_is h1 hg
    exact (hk g hm _ _ _ hc).1 rfl
  · obtain ⟨cs, hc⟩ := own_is h2 hg
    exact (hk g hm _ _ _ hc).2.1 rfl
  · obtain ⟨cs, hc⟩ := own_is h3 hg
    exact (hk g hm _ _ _ hc).2.2 rfl

theorem other_cells {w : World} {k : Nat} {cs : Array Value} {e : TypeId} {fr : Nat × Nat} (h : w.heap[k]? = some (.cells cs e fr)) (he : e ≠ 85 ∧ e ≠ 9 ∧ e ≠ 35) : Other w k := fun cs' e' fr' h' => by
  rw [h] at h'
  simp only [Option.some.injEq, Obj.cells.injEq] at h'
  rw [← h'.2.1]
  exact he

theorem other_map {w : World} {k : Nat} {es : Array MapEntry} {c : Nat} (h : w.heap[k]? = some (.map es c)) : Other w k := fun cs' e' fr' h' => by
  rw [h] at h'
  cases h'

theorem XAt.blocks {w : World} {a : Xd} {s : Rx} (h : XAt w a s) : ∀ k ∈ a.all, k < w.heap.size ∧ Other w k := by
  obtain ⟨c, u, m1, m2, _⟩ := h.map.body
  obtain ⟨cur, g1, _⟩ := h.nr
  have hf := h.fr
  have hl := h.lt
  unfold BRow at hf hl
  intro k hk
  simp only [Xd.all, List.mem_cons, List.not_mem_nil, or_false] at hk
  rcases hk with rfl | rfl | rfl | rfl | rfl | rfl
  · exact ⟨(Array.getElem?_eq_some_iff.1 h.row).1, other_cells h.row (by decide)⟩
  · exact ⟨(Array.getElem?_eq_some_iff.1 m1).1, other_cells m1 (by decide)⟩
  · exact ⟨(Array.getElem?_eq_some_iff.1 m2).1, other_cells m2 (by decide)⟩
  · exact ⟨(Array.getElem?_eq_some_iff.1 g1).1, other_cells g1 (by decide)⟩
  · exact ⟨(Array.getElem?_eq_some_iff.1 hf).1, other_cells hf (by decide)⟩
  · exact ⟨(Array.getElem?_eq_some_iff.1 hl).1, other_cells hl (by decide)⟩

theorem PuAt.blocks {w : World} {a : Ad} {p : Pu} (h : PuAt w a p) : ∀ k ∈ a.all, Other w k := by
  obtain ⟨M, hM, _⟩ := h.disk.safe
  obtain ⟨e1, k1, hbs⟩ := hM.is
  obtain ⟨e2, k2, hbp⟩ := h.disk.pend.is
  obtain ⟨c1, u1, n1, n2, _⟩ := h.now.body
  obtain ⟨c2, u2, s1, s2, _⟩ := h.st.body
  intro k hk
  simp only [Ad.all, List.mem_cons, List.not_mem_nil, or_false] at hk
  rcases hk with rfl | rfl | rfl | rfl | rfl | rfl | rfl | rfl
  · exact other_cells h.row (by decide)
  · exact other_cells h.disk.row (by decide)
  · exact other_map hbs
  · exact other_map hbp
  · exact other_cells n1 (by decide)
  · exact other_cells n2 (by decide)
  · exact other_cells s1 (by decide)
  · exact other_cells s2 (by decide)

theorem XAt.other {w w' : World} {a : Xd} {s : Rx} (h : XAt w a s) {S : List Nat} (hS : Sole S w w') (hn : ∀ k ∈ a.all, k ∉ S) (ho : ∀ k ∈ S, Other w k) : XAt w' a s := by
  have hb := h.blocks
  have keep : ∀ k ∈ a.all, w'.heap[k]? = w.heap[k]? := fun k hk => hS.block k (hb k hk).1 (hn k hk)
  obtain ⟨cur, g1, g2⟩ := h.nr
  exact ⟨(keep a.x (by simp [Xd.all])).trans h.row, h.map.other hS (hn _ (by simp [Xd.all])) (hn _ (by simp [Xd.all])), ⟨cur, (keep a.g (by simp [Xd.all])).trans g1, g2⟩, (keep a.f (by simp [Xd.all])).trans h.fr, (keep a.l (by simp [Xd.all])).trans h.lt, h.ne, fun e he => (h.own e he).sole hS ho, h.ok⟩

theorem XAt.below {w w' : World} {a : Xd} {s : Rx} (h : XAt w a s) (hb : Below w.heap.size w w') : XAt w' a s := h.other (Sole.of_below hb []) (fun _ _ => by simp) (fun _ h => by cases h)

theorem XAt.c0 {w : World} {a : Xd} {s : Rx} (h : XAt w a s) : w.cell? ⟨a.x, 0, none⟩ = some (ptr a.m) := cell_of_row w _ 0 _ _ (0, 0) h.row
theorem XAt.c1 {w : World} {a : Xd} {s : Rx} (h : XAt w a s) : w.cell? ⟨a.x, 1, none⟩ = some (.slice (some ⟨a.g, 0, none⟩) s.es.length s.es.length) := cell_of_row w _ 1 _ _ (0, 0) h.row
theorem XAt.c2 {w : World} {a : Xd} {s : Rx} (h : XAt w a s) : w.cell? ⟨a.x, 2, none⟩ = some (.slice (some ⟨a.f, 0, none⟩) s.fr.length s.fr.length) := cell_of_row w _ 2 _ _ (0, 0) h.row
theorem XAt.c3 {w : World} {a : Xd} {s : Rx} (h : XAt w a s) : w.cell? ⟨a.x, 3, none⟩ = some (.slice (some ⟨a.l, 0, none⟩) s.lt.length s.lt.length) := cell_of_row w _ 3 _ _ (0, 0) h.row

/-- None of its blocks is another one of them. -/
theorem XAt.apart {w : World} {a : Xd} {s : Rx} (h : XAt w a s) : a.x ≠ a.m ∧ a.x ≠ a.hm ∧ a.x ≠ a.g ∧ a.x ≠ a.f ∧ a.x ≠ a.l ∧ a.m ≠ a.hm ∧ a.m ≠ a.g ∧ a.m ≠ a.f ∧ a.m ≠ a.l ∧ a.hm ≠ a.g ∧ a.hm ≠ a.f ∧ a.hm ≠ a.l ∧ a.g ≠ a.f ∧ a.g ≠ a.l := by
  obtain ⟨c, u, m1, m2, _, _, m3, _⟩ := h.map.body
  obtain ⟨cur, g1, _⟩ := h.nr
  have hf := h.fr
  have hl := h.lt
  unfold BRow at hf hl
  have hx := h.row
  exact ⟨kinds_ne hx m1 (by simp), kinds_ne hx m2 (by simp), kinds_ne hx g1 (by simp), kinds_ne hx hf (by simp), kinds_ne hx hl (by simp), m3, kinds_ne m1 g1 (by simp), kinds_ne m1 hf (by simp), kinds_ne m1 hl (by simp), kinds_ne m2 g1 (by simp), kinds_ne m2 hf (by simp), kinds_ne m2 hl (by simp), kinds_ne g1 hf (by simp), kinds_ne g1 hl (by simp)⟩

/-- One of the fresh, of the late, the map written anew. -/
theorem XAt.putF {w : World} {a : Xd} {s : Rx} (h : XAt w a s) (i : Nat) (b : Bool) : XAt (w.setCell ⟨a.f, i, none⟩ (.bool b)) a { s with fr := s.fr.set i b } := by
  have hx := h.apart
  have hS : Sole [a.f] w (w.setCell ⟨a.f, i, none⟩ (.bool b)) := Sole.setCell _ _ (by simp)
  have ho : ∀ k ∈ [a.f], Other w k := fun k hk => by simp at hk; subst hk; exact (h.blocks _ (by simp [Xd.all])).2
  have hlt := fun k hk => (h.blocks k hk).1
  obtain ⟨cur, g1, g2⟩ := h.nr
  refine ⟨?_, h.map.other hS (by simp [hx]) (by simp [hx]), ⟨cur, (hS.block a.g (hlt _ (by simp [Xd.all])) (by simp [hx])).trans g1, g2⟩, bools_set h.fr b, (hS.block a.l (hlt _ (by simp [Xd.all])) (by simp [Ne.symm h.ne])).trans h.lt, h.ne, fun e he => (h.own e he).sole hS ho, ⟨h.ok.k, h.ok.e, by simpa using h.ok.f, h.ok.l⟩⟩
  have := (hS.block a.x (hlt _ (by simp [Xd.all])) (by simp [hx])).trans h.row
  simpa using this

theorem XAt.putL {w : World} {a : Xd} {s : Rx} (h : XAt w a s) (i : Nat) (b : Bool) : XAt (w.setCell ⟨a.l, i, none⟩ (.bool b)) a { s with lt := s.lt.set i b } := by
  have hx := h.apart
  have hS : Sole [a.l] w (w.setCell ⟨a.l, i, none⟩ (.bool b)) := Sole.setCell _ _ (by simp)
  have ho : ∀ k ∈ [a.l], Other w k := fun k hk => by simp at hk; subst hk; exact (h.blocks _ (by simp [Xd.all])).2
  have hlt := fun k hk => (h.blocks k hk).1
  obtain ⟨cur, g1, g2⟩ := h.nr
  refine ⟨?_, h.map.other hS (by simp [hx]) (by simp [hx]), ⟨cur, (hS.block a.g (hlt _ (by simp [Xd.all])) (by simp [hx])).trans g1, g2⟩, (hS.block a.f (hlt _ (by simp [Xd.all])) (by simp [h.ne])).trans h.fr, bools_set h.lt b, h.ne, fun e he => (h.own e he).sole hS ho, ⟨h.ok.k, h.ok.e, h.ok.f, by simpa using h.ok.l⟩⟩
  have := (hS.block a.x (hlt _ (by simp [Xd.all])) (by simp [hx])).trans h.row
  simpa using this

theorem XAt.putM {w w' : World} {a : Xd} {s : Rx} (h : XAt w a s) {f : Fr} (hm : RAt w' a.m a.hm f) (hS : Sole [a.hm] w w') (hk : FrOk f) (hlo : f.lo = s.now.lo) (hl : f.ks.length = s.now.ks.length) : XAt w' a { s with now := f } := by
  have hx := h.apart
  have ho : ∀ k ∈ [a.hm], Other w k := fun k hk => by simp at hk; subst hk; exact (h.blocks _ (by simp [Xd.all])).2
  have hlt := fun k hk => (h.blocks k hk).1
  obtain ⟨cur, g1, g2⟩ := h.nr
  exact ⟨(hS.block a.x (hlt _ (by simp [Xd.all])) (by simp [hx])).trans h.row, hm, ⟨cur, (hS.block a.g (hlt _ (by simp [Xd.all])) (by simp [Ne.symm hx.2.2.2.2.2.2.2.2.2.1])).trans g1, g2⟩, (hS.block a.f (hlt _ (by simp [Xd.all])) (by simp [Ne.symm hx.2.2.2.2.2.2.2.2.2.2.1])).trans h.fr, (hS.block a.l (hlt _ (by simp [Xd.all])) (by simp [Ne.symm hx.2.2.2.2.2.2.2.2.2.2.2.1])).trans h.lt, h.ne, fun e he => (h.own e he).sole hS ho,
    ⟨hk, by rw [hlo, hl]; exact h.ok.e, by rw [hlo, hl]; exact h.ok.f, by rw [hlo, hl]; exact h.ok.l⟩⟩

theorem xis {w : World} {a : Xd} {s : Rx} (h : XAt w a s) (i : Int) (hi : i ≤ 9223372036854775807) (k : Nat) (hk : 1 ≤ k) (c : Int) (hc : c = (k : Int) - 1) : Calls Tryz.prog 44 #[.pointer (some ⟨a.m, 0, none⟩), .int .i64 i, .int .i64 c] w fun e w' => e = .returned (.bool (decide (kindOfN s.now i = k))) ∧ Below w.heap.size w w' := by
  subst hc
  exact ris_any h.map h.ok.k i hi k hk

set_option maxHeartbeats 1000000 in
theorem has_any {w : World} {a : Xd} {s : Rx} (h : XAt w a s) (i : Int) (h0 : 0 ≤ i) (h1 : i ≤ 4294967295) : Calls Tryz.prog 54 #[ptr a.x, .int .u32 i] w fun e w' => e = .returned (.bool (decide (2 ≤ kindOfN s.now i))) ∧ Below w.heap.size w w' := by
  have k2 := xis h i (by omega) 2 (by omega) 1 rfl
  have k3 := fun W (hW : Below w.heap.size w W) => xis (h.below hW) i (by omega) 3 (by omega) 2 rfl
  have c0 := h.c0
  have c0' := fun W (hW : Below w.heap.size w W) => (h.below hW).c0
  have hm := kindOfN_most h.ok.k i
  unfold ptr at *
  clear h
  by_cases e2 : kindOfN s.now i = 2
  · rw [e2] at k2 ⊢
    rw [show decide (2 = 2) = true from rfl] at k2
    rw [show decide (2 ≤ 2) = true from rfl]
    clear k3
    go_enter Tryz.func54, Tryz.ntmps54
    go_wp2_with fail
    refine k2.mono ?_
    rintro e w1 ⟨rfl, hb1⟩
    go_wp2
    go_ret
    exact ⟨rfl, hb1⟩
  · have d3 : decide (kindOfN s.now i = 3) = decide (2 ≤ kindOfN s.now i) := by
      by_cases c : kindOfN s.now i = 3
      · rw [c]; rfl
      · rw [decide_eq_false c, decide_eq_false (by omega)]
    rw [decide_eq_false e2] at k2
    rw [d3] at k3
    generalize decide (2 ≤ kindOfN s.now i) = R at *
    go_enter Tryz.func54, Tryz.ntmps54
    go_wp2_with fail
    refine k2.mono ?_
    rintro e w1 ⟨rfl, hb1⟩
    have kk := k3 w1 hb1
    have cc := c0' w1 hb1
    clear k2 k3 c0 c0'
    go_wp2_with fail
    refine kk.mono ?_
    rintro e w2 ⟨rfl, hb2⟩
    clear kk cc
    go_wp2
    go_ret
    exact ⟨rfl, hb1.trans (hb2.mono hb1.size)⟩

def offB (l : List Bool) (j : Nat) : List Bool := List.replicate j false ++ l.drop j

theorem offB_len (l : List Bool) (j : Nat) (h : j ≤ l.length) : (offB l j).length = l.length := by simp [offB]; omega
theorem offB_next (l : List Bool) (j : Nat) (h : j < l.length) : (offB l j).set j false = offB l (j + 1) := by
  unfold offB
  rw [List.set_append_right _ _ (by simp), List.length_replicate, Nat.sub_self, List.replicate_succ', List.append_assoc]
  congr 1
  cases hd : l.drop j with
  | nil => rw [List.drop_eq_nil_iff] at hd; omega
  | cons x t =>
    have : l.drop (j + 1) = t := by
      have := congrArg List.tail hd
      rwa [List.tail_drop] at this
    rw [this]
    rfl
theorem offB_all (l : List Bool) : offB l l.length = List.replicate l.length false := by simp [offB]

def setX (s : Rx) (j : Nat) : Rx := { s with fr := offB s.fr j, lt := offB s.lt j }
def settleX (s : Rx) : Rx := { s with fr := List.replicate s.fr.length false, lt := List.replicate s.lt.length false }

set_option maxHeartbeats 2000000 in
theorem xsettle_any {w : World} {a : Xd} {s : Rx} (h : XAt w a s) : Calls Tryz.prog 18 #[ptr a.x] w fun e w' => e = .returned (.tuple #[]) ∧ XAt w' a (settleX s) ∧ Sole [a.f, a.l] w w' := by
  have hfl : s.fr.length = s.lt.length := by rw [h.ok.f, h.ok.l]
  have hmost := h.ok.k.most
  have hn := h.ok.f
  have c2 := h.c2
  have h0 : XAt w a (setX s 0) := h
  have HE : Hid (setX s s.fr.length = settleX s) := by
    show setX s s.fr.length = settleX s
    unfold setX settleX
    rw [offB_all]
    congr 1
    rw [hfl, offB_all]
  unfold ptr at *
  generalize hN : s.fr.length = n at *
  clear h
  go_enter Tryz.func18, Tryz.ntmps18
  go_wp2
  go_loopw [2, 8] (fun _ t wr => ∃ j : Nat, j ≤ n ∧ t = .int .i64 j ∧ Hid (XAt wr a (setX s j)) ∧ Sole [a.f, a.l] w wr) (fun _ t _ => n - (Go.RowKit.intOf t).toNat)
  case atStart => exact ⟨0, Nat.zero_le _, rfl, h0, Sole.refl _ _⟩
  case round =>
    obtain ⟨j, hj, rfl, HX, HS⟩ := hrel
    clear h0 c2
    by_cases hlt : j < n
    · have hltI : (j : Int) < n := by omega
      have hX := HX.out
      have d2 := hX.c2
      have l1 : (setX s j).fr.length = n := (offB_len _ _ (by omega)).trans hN
      have l2 : (setX s j).lt.length = n := (offB_len _ _ (by omega)).trans hfl.symm
      rw [l1] at d2
      obtain ⟨x1, x2⟩ := bools_at hX.fr (j := j) (by rw [l1]; exact hlt)
      have hX1 := hX.putF j false
      have d3 := hX1.c3
      have l3 : ({ setX s j with fr := (setX s j).fr.set j false } : Rx).lt.length = n := l2
      rw [l3] at d3
      obtain ⟨x3, x4⟩ := bools_at hX1.lt (j := j) (by rw [l3]; exact hlt)
      have hX2 := hX1.putL j false
      have hE : ({ setX s j with fr := (setX s j).fr.set j false, lt := (setX s j).lt.set j false } : Rx) = setX s (j + 1) := by
        unfold setX
        rw [offB_next _ _ (by omega), offB_next _ _ (by omega)]
      have HX2 : Hid (XAt ((wr.setCell ⟨a.f, j, none⟩ (.bool false)).setCell ⟨a.l, j, none⟩ (.bool false)) a (setX s (j + 1))) := by
        rw [← hE]
        exact hX2
      have hSS : Sole [a.f, a.l] w ((wr.setCell ⟨a.f, j, none⟩ (.bool false)).setCell ⟨a.l, j, none⟩ (.bool false)) := (HS.trans (Sole.setCell _ _ (by simp))).trans (Sole.setCell _ _ (by simp))
      unfold ptr at *
      generalize (setX s j).fr.getD j false = B1 at *
      generalize (({ setX s j with fr := (setX s j).fr.set j false } : Rx).lt).getD j false = B2 at *
      clear hX hX1 hX2 HX hE l1 l2 l3
      go_wp2_with fail
      go_roundw
      case rel => exact ⟨j + 1, by omega, by go_num, HX2, hSS⟩
      case measure => simp [Go.RowKit.intOf]; omega
    · obtain rfl : j = n := by omega
      have hltI : ¬ (j : Int) < j := by omega
      go_wp2_with fail
      go_end0
      exact ⟨rfl, by rw [← HE.out]; exact HX.out, HS⟩

theorem xturn {w : World} {a : Xd} {s : Rx} (h : XAt w a s) (i : Int) (hi : i ≤ 9223372036854775807) (to : Nat) (h1 : 1 ≤ to) (h3 : to ≤ 3) (c : Int) (hc : c = (to : Int) - 1) : Calls Tryz.prog 45 #[.pointer (some ⟨a.m, 0, none⟩), .int .i64 i, .int .i64 c] w fun e w' => e = .returned (.int .i64 (turnE s.now i)) ∧ XAt w' a { s with now := turnF s.now i to } ∧ Sole [a.hm] w w' := by
  subst hc
  refine (rturn_any h.map h.ok.k i hi to h1 h3).mono ?_
  rintro e w' ⟨rfl, h1', h2⟩
  exact ⟨rfl, h.putM h1' h2 (turn_ok h.ok.k i to ⟨h1, h3⟩) (turnF_lo _ _ _) (turnF_len _ _ _), h2⟩

/-- What Drop leaves. -/
def dropX (s : Rx) (i : Nat) : Rx :=
  if kindOfN s.now (i : Int) = 2 then
    (if s.fr.getD i false then { s with fr := s.fr.set i false, now := turnF s.now (i : Int) 1 } else { s with lt := s.lt.set i true, now := turnF s.now (i : Int) 3 })
  else s

set_option maxHeartbeats 2000000 in
theorem xdrop_any {w : World} {a : Xd} {s : Rx} (h : XAt w a s) (i : Nat) (hi1 : i ≤ 4294967295) :
    Calls Tryz.prog 16 #[ptr a.x, .int .u32 (i : Int)] w fun e w' => e = .returned (.int .i64 (turnE s.now (i : Int))) ∧ XAt w' a (dropX s i) ∧ Sole [a.hm, a.f, a.l] w w' := by
  have k2 := xis h (i : Int) (by omega) 2 (by omega) 1 rfl
  have c0 := h.c0
  unfold dropX turnE
  by_cases e2 : kindOfN s.now (i : Int) = 2
  · rw [if_pos e2, if_pos e2]
    rw [decide_eq_true e2] at k2
    have hlt : i < s.now.lo + s.now.ks.length := by
      obtain ⟨j, hj, e⟩ := kindOfN_in (s := s.now) (i := (i : Int)) (by rw [e2]; omega)
      omega
    have hlf : i < s.fr.length := by rw [h.ok.f]; exact hlt
    have hll : i < s.lt.length := by rw [h.ok.l]; exact hlt
    have hmost := h.ok.k.most
    have nf := h.ok.f
    have nl := h.ok.l
    cases hb : s.fr.getD i false with
    | true =>
      rw [if_pos rfl]
      have kT := fun W (hW : Below w.heap.size w W) => xturn ((h.below hW).putF i false) (i : Int) (by omega) 1 (by omega) (by omega) 0 rfl
      have hc2 := fun W (hW : Below w.heap.size w W) => (h.below hW).c2
      have hb1 := fun W (hW : Below w.heap.size w W) => bools_at (h.below hW).fr (j := i) hlf
      have hc0 := fun W (hW : Below w.heap.size w W) => ((h.below hW).putF i false).c0
      have hte : turnE s.now (i : Int) = 0 := by unfold turnE; rw [if_pos e2]
      rw [hb] at hb1
      dsimp only at kT
      rw [hte] at kT
      generalize s.fr.length = n at *
      unfold ptr at *
      clear h
      go_enter Tryz.func16, Tryz.ntmps16
      go_wp2_with fail
      refine k2.mono ?_
      clear k2 c0
      rintro e w1 ⟨rfl, hw1⟩
      have x2 := hc2 w1 hw1
      obtain ⟨x3, x4⟩ := hb1 w1 hw1
      have x0 := hc0 w1 hw1
      have kT1 := kT w1 hw1
      have hiI : ((i : Nat) : Int) < n := by omega
      clear kT hc2 hb1 hc0
      go_wp2_with fail
      refine kT1.mono ?_
      clear kT1
      rintro e w2 ⟨rfl, hX, hS⟩
      have hSS : Sole [a.hm, a.f, a.l] w w2 := ((Sole.of_below hw1 _).trans (Sole.setCell w1 (.bool false) (a := ⟨a.f, i, none⟩) (by simp))).trans (hS.mono (by simp))
      go_wp2
      go_ret
      exact ⟨rfl, hX, hSS⟩
    | false =>
      rw [if_neg (by simp)]
      have kT := fun W (hW : Below w.heap.size w W) => xturn ((h.below hW).putL i true) (i : Int) (by omega) 3 (by omega) (by omega) 2 rfl
      have hc2 := fun W (hW : Below w.heap.size w W) => (h.below hW).c2
      have hc3 := fun W (hW : Below w.heap.size w W) => (h.below hW).c3
      have hb1 := fun W (hW : Below w.heap.size w W) => bools_at (h.below hW).fr (j := i) hlf
      have hb2 := fun W (hW : Below w.heap.size w W) => bools_at (h.below hW).lt (j := i) hll
      have hc0 := fun W (hW : Below w.heap.size w W) => ((h.below hW).putL i true).c0
      have hte : turnE s.now (i : Int) = 0 := by unfold turnE; rw [if_pos e2]
      rw [hb] at hb1
      dsimp only at kT
      rw [hte] at kT
      generalize s.lt.getD i false = LB at *
      generalize s.fr.length = n at *
      generalize s.lt.length = m at *
      unfold ptr at *
      clear h
      go_enter Tryz.func16, Tryz.ntmps16
      go_wp2_with fail
      refine k2.mono ?_
      clear k2 c0
      rintro e w1 ⟨rfl, hw1⟩
      have x2 := hc2 w1 hw1
      have x5 := hc3 w1 hw1
      obtain ⟨x3, x4⟩ := hb1 w1 hw1
      obtain ⟨x6, x7⟩ := hb2 w1 hw1
      have x0 := hc0 w1 hw1
      have kT1 := kT w1 hw1
      have hiI : ((i : Nat) : Int) < n := by omega
      have hiJ : ((i : Nat) : Int) < m := by omega
      clear kT hc2 hb1 hc0 hc3 hb2
      go_wp2_with fail
      refine kT1.mono ?_
      clear kT1
      rintro e w2 ⟨rfl, hX, hS⟩
      have hSS : Sole [a.hm, a.f, a.l] w w2 := ((Sole.of_below hw1 _).trans (Sole.setCell w1 (.bool true) (a := ⟨a.l, i, none⟩) (by simp))).trans (hS.mono (by simp))
      go_wp2
      go_ret
      exact ⟨rfl, hX, hSS⟩
  · rw [if_neg e2, if_neg e2]
    rw [decide_eq_false e2] at k2
    have HX := fun W (hW : Below w.heap.size w W) => h.below hW
    unfold ptr at *
    clear h
    go_enter Tryz.func16, Tryz.ntmps16
    go_wp2_with fail
    refine k2.mono ?_
    clear k2 c0
    rintro e w1 ⟨rfl, hw1⟩
    have hX1 := HX w1 hw1
    clear HX
    go_wp2
    go_ret
    exact ⟨rfl, hX1, Sole.of_below hw1 _⟩

def undoK (lo : Nat) (fr lt : List Bool) (ks : List Nat) : Nat → List Nat
  | 0 => ks
  | j + 1 => if lt.getD j false then (if fr.getD j false then (undoK lo fr lt ks j).set (j - lo) 1 else undoK lo fr lt ks j).set (j - lo) 2 else if fr.getD j false then (undoK lo fr lt ks j).set (j - lo) 1 else undoK lo fr lt ks j

theorem undoK_len (lo : Nat) (fr lt : List Bool) (ks : List Nat) : ∀ j, (undoK lo fr lt ks j).length = ks.length
  | 0 => rfl
  | j + 1 => by
    unfold undoK
    split
    · rw [List.length_set]
      split
      · rw [List.length_set]; exact undoK_len lo fr lt ks j
      · exact undoK_len lo fr lt ks j
    · split
      · rw [List.length_set]; exact undoK_len lo fr lt ks j
      · exact undoK_len lo fr lt ks j

theorem undoK_ok {lo : Nat} {ks : List Nat} (h : FrOk ⟨lo, ks⟩) (fr lt : List Bool) : ∀ j, FrOk ⟨lo, undoK lo fr lt ks j⟩
  | 0 => h
  | j + 1 => by
    have ih := undoK_ok h fr lt j
    unfold undoK
    split
    · split
      · exact set_ok (set_ok ih _ 1 (by omega)) _ 2 (by omega)
      · exact set_ok ih _ 2 (by omega)
    · split
      · exact set_ok ih _ 1 (by omega)
      · exact ih

def undoJ (s : Rx) (j : Nat) : Rx := { s with now := ⟨s.now.lo, undoK s.now.lo s.fr s.lt s.now.ks j⟩ }
def undoX (s : Rx) : Rx := settleX (undoJ s s.fr.length)

/-- One of the map's kinds written anew. -/
theorem XAt.putK {w : World} {a : Xd} {s : Rx} (h : XAt w a s) (t v : Nat) (c : Int) (hc : c = (v : Int) - 1) (hv : 1 ≤ v ∧ v ≤ 3) : XAt (w.setCell ⟨a.hm, t, none⟩ (.int .i64 c)) a { s with now := ⟨s.now.lo, s.now.ks.set t v⟩ } := by
  subst hc
  exact h.putM (FrAt.put h.map t v) (Sole.setCell _ _ (by simp)) (set_ok (lo := s.now.lo) h.ok.k t v hv) rfl (by simp)

set_option maxHeartbeats 8000000 in
theorem xundo_any {w : World} {a : Xd} {s : Rx} (h : XAt w a s) (hf : ∀ i, s.fr.getD i false = true → s.now.lo ≤ i) (hl : ∀ i, s.lt.getD i false = true → s.now.lo ≤ i) :
    Calls Tryz.prog 20 #[ptr a.x] w fun e w' => e = .returned (.tuple #[]) ∧ XAt w' a (undoX s) ∧ Sole [a.hm, a.f, a.l] w w' := by
  have hfl : s.fr.length = s.lt.length := by rw [h.ok.f, h.ok.l]
  have hmost := h.ok.k.most
  have hn := h.ok.f
  have c2 := h.c2
  have h0 : XAt w a (undoJ s 0) := h
  have hkl := undoK_len s.now.lo s.fr s.lt s.now.ks
  have hap := h.apart
  unfold ptr at *
  generalize hN : s.fr.length = n at *
  have HU : Hid (undoX s = settleX (undoJ s n)) := by
    show undoX s = settleX (undoJ s n)
    unfold undoX
    rw [hN]
  have HFL : Hid (n = s.lt.length) := hfl
  have HHN : Hid (n = s.now.lo + s.now.ks.length) := hn
  have hn1024 : n ≤ 1024 := by omega
  have hfl0 : ∀ i, i < n → i < s.lt.length := fun i hi => by omega
  clear h hfl hn
  go_enter Tryz.func20, Tryz.ntmps20
  go_wp2
  go_loopw [2, 8] (fun _ t wr => ∃ j : Nat, j ≤ n ∧ t = .int .i64 j ∧ Hid (XAt wr a (undoJ s j)) ∧ Sole [a.hm, a.f, a.l] w wr) (fun _ t _ => n - (Go.RowKit.intOf t).toNat)
  case atStart => exact ⟨0, Nat.zero_le _, rfl, h0, Sole.refl _ _⟩
  case round =>
    obtain ⟨j, hj, rfl, HX, HS⟩ := hrel
    clear h0 c2
    by_cases hlt : j < n
    · have hltI : (j : Int) < n := by omega
      have hX := HX.out
      have d2 := hX.c2
      have l1 : (undoJ s j).fr.length = n := hN
      have l2 : (undoJ s j).lt.length = n := HFL.out.symm
      rw [l1] at d2
      obtain ⟨x1, _⟩ := bools_at hX.fr (j := j) (by rw [l1]; exact hlt)
      have hfj := hf j
      have hlj := hl j
      have hkj := hkl j
      have HNX : Hid (undoJ s (j + 1) = { s with now := ⟨s.now.lo, undoK s.now.lo s.fr s.lt s.now.ks (j + 1)⟩ }) := rfl
      have HKN : Hid (undoK s.now.lo s.fr s.lt s.now.ks (j + 1) = if s.lt.getD j false then (if s.fr.getD j false then (undoK s.now.lo s.fr s.lt s.now.ks j).set (j - s.now.lo) 1 else undoK s.now.lo s.fr s.lt s.now.ks j).set (j - s.now.lo) 2 else if s.fr.getD j false then (undoK s.now.lo s.fr s.lt s.now.ks j).set (j - s.now.lo) 1 else undoK s.now.lo s.fr s.lt s.now.ks j) := rfl
      change wr.cell? ⟨a.f, j, none⟩ = some (.bool (s.fr.getD j false)) at x1
      have hLT : ∀ W s', XAt W a s' → s'.lt = s.lt → W.cell? ⟨a.x, 3, none⟩ = some (.slice (some ⟨a.l, 0, none⟩) n n) ∧ W.cell? ⟨a.l, j, none⟩ = some (.bool (s.lt.getD j false)) := fun W s' hx e => by
        have e3 := hx.c3
        rw [e, ← HFL.out] at e3
        refine ⟨e3, ?_⟩
        have := (bools_at hx.lt (j := j) (by rw [e]; exact hfl0 j hlt)).1
        rw [e] at this
        exact this
      cases hb1 : s.fr.getD j false with
      | false =>
        obtain ⟨z3, z4⟩ := hLT wr _ hX rfl
        rw [hb1] at x1 HKN
        simp only [Bool.false_eq_true, if_false] at HKN
        cases hb2 : s.lt.getD j false with
        | false =>
          rw [hb2] at z4 HKN
          simp only [Bool.false_eq_true, if_false] at HKN
          have XE := hX
          have HXN : Hid (XAt wr a (undoJ s (j + 1))) := by
            show XAt wr a (undoJ s (j + 1))
            rw [HNX.out, HKN.out]
            exact XE
          have hSN : Sole [a.hm, a.f, a.l] w wr := HS
          clear XE hLT hX HX
          go_wp2_with fail
          go_roundw
          case rel => exact ⟨j + 1, by omega, by go_num, HXN, hSN⟩
          case measure => simp [Go.RowKit.intOf]; omega
        | true =>
          rw [hb2] at z4 HKN
          simp only [if_true] at HKN
          have hlo := hlj hb2
          obtain ⟨t, ht⟩ : ∃ t, j = s.now.lo + t := ⟨j - s.now.lo, by omega⟩
          have htl : t < s.now.ks.length := by have := HHN.out; omega
          have hjt : j - s.now.lo = t := by omega
          have hwj : IntKind.wrap .i64 ((j : Int) - (s.now.lo : Int)) = (t : Int) := by simp [IntKind.wrap, IntKind.bits, IntKind.signed]; omega
          have htI : (t : Int) < (s.now.ks.length : Int) := by omega
          rw [hjt] at HKN
          clear ht hjt
          obtain ⟨cap1, m01, m11, mk1, mm1, _, _, mne1, mc1⟩ := FrAt.opened hX.map
          try dsimp only at m11 mk1 mc1
          have hln1 := (show (undoJ s j).now.ks.length = s.now.ks.length from hkj)
          rw [hln1] at m11 mk1
          obtain ⟨mcj1, mfj1⟩ := mc1 t _ (List.getElem?_eq_getElem (by rw [hln1]; exact htl))
          have qx1 : ∀ W, Sole [a.hm] wr W → W.cell? ⟨a.x, 0, none⟩ = some (.pointer (some ⟨a.m, 0, none⟩)) := fun W hW => (World.cell?_of_block (a := ⟨a.x, 0, none⟩) (hW.block a.x (hX.blocks _ (by simp [Xd.all])).1 (by simp [hap]))).trans hX.c0
          have q01 : ∀ W, Sole [a.hm] wr W → W.cell? ⟨a.m, 0, none⟩ = some (.int .i64 s.now.lo) := fun W hW => (World.cell?_of_block (a := ⟨a.m, 0, none⟩) (hW.block a.m (hX.blocks _ (by simp [Xd.all])).1 (by simp [hap]))).trans m01
          have q11 : ∀ W, Sole [a.hm] wr W → W.cell? ⟨a.m, 1, none⟩ = some (.slice (some ⟨a.hm, 0, none⟩) s.now.ks.length cap1) := fun W hW => (World.cell?_of_block (a := ⟨a.m, 1, none⟩) (hW.block a.m (hX.blocks _ (by simp [Xd.all])).1 (by simp [hap]))).trans m11
          clear mc1 m01 m11
          generalize hgK1 : (_ : List Nat)[t] = KK1 at mcj1
          go_wp2_with fail
          refine wp_region_noPanic ?_
          refine wp_region_held_drew (S := fun W => Sole [a.hm] wr W) (by kernel_rfl) (Sole.drew _ _) (fun hHeld => ?_)
          refine wpAnyH_take (i := 0) (v := .pointer (some ⟨a.x, 0, none⟩)) rfl (by kernel_rfl) (by kernel_rfl) (by kernel_rfl) (fun _ _ _ h => h) (Or.inl ⟨by rfl, fun W hSw => by (try dsimp only at hSw); go_simp⟩) (by assumption) ?_
          simp only [List.getElem_toArray, List.getElem_cons_zero, List.getElem_cons_succ, Act.put, List.setIfInBounds_toArray, List.set_cons_zero, List.set_cons_succ]
          refine wpAnyH_take (i := 1) (v := .pointer (some ⟨a.x, 0, none⟩)) rfl (by kernel_rfl) (by kernel_rfl) (by kernel_rfl) (fun _ _ _ h => h) (Or.inl ⟨by rfl, fun W hSw => by (try dsimp only at hSw); go_simp⟩) (by assumption) ?_
          simp only [List.getElem_toArray, List.getElem_cons_zero, List.getElem_cons_succ, Act.put, List.setIfInBounds_toArray, List.set_cons_zero, List.set_cons_succ]
          refine wpAnyH_take (i := 2) (v := .pointer (some ⟨a.x, 0, none⟩)) rfl (by kernel_rfl) (by kernel_rfl) (by kernel_rfl) (fun _ _ _ h => h) (Or.inl ⟨by rfl, fun W hSw => by (try dsimp only at hSw); go_simp⟩) (by assumption) ?_
          simp only [List.getElem_toArray, List.getElem_cons_zero, List.getElem_cons_succ, Act.put, List.setIfInBounds_toArray, List.set_cons_zero, List.set_cons_succ]
          refine wpAnyH_take (i := 3) (v := .pointer (some ⟨a.m, 0, none⟩)) rfl (by kernel_rfl) (by kernel_rfl) (by kernel_rfl) (fun _ _ _ h => h) (Or.inl ⟨by rfl, fun W hSw => by (try dsimp only at hSw); go_simp⟩) (by assumption) ?_
          simp only [List.getElem_toArray, List.getElem_cons_zero, List.getElem_cons_succ, Act.put, List.setIfInBounds_toArray, List.set_cons_zero, List.set_cons_succ]
          refine wpAnyH_take (i := 4) (v := .pointer (some ⟨a.m, 0, none⟩)) rfl (by kernel_rfl) (by kernel_rfl) (by kernel_rfl) (fun _ _ _ h => h) (Or.inl ⟨by rfl, fun W hSw => by (try dsimp only at hSw); go_simp⟩) (by assumption) ?_
          simp only [List.getElem_toArray, List.getElem_cons_zero, List.getElem_cons_succ, Act.put, List.setIfInBounds_toArray, List.set_cons_zero, List.set_cons_succ]
          refine wpAnyH_take (i := 5) (v := .pointer (some ⟨a.m, 1, none⟩)) rfl (by kernel_rfl) (by kernel_rfl) (by kernel_rfl) (fun _ _ _ h => h) (Or.inl ⟨by rfl, fun W hSw => by (try dsimp only at hSw); go_simp⟩) (by assumption) ?_
          simp only [List.getElem_toArray, List.getElem_cons_zero, List.getElem_cons_succ, Act.put, List.setIfInBounds_toArray, List.set_cons_zero, List.set_cons_succ]
          refine wpAnyH_take (i := 6) (v := .slice (some ⟨a.hm, 0, none⟩) s.now.ks.length cap1) rfl (by kernel_rfl) (by kernel_rfl) (by kernel_rfl) (fun _ _ _ h => h) (Or.inl ⟨by rfl, fun W hSw => by (try dsimp only at hSw); go_simp⟩) (by assumption) ?_
          simp only [List.getElem_toArray, List.getElem_cons_zero, List.getElem_cons_succ, Act.put, List.setIfInBounds_toArray, List.set_cons_zero, List.set_cons_succ]
          refine wpAnyH_take (i := 7) (v := .int .i64 j) rfl (by kernel_rfl) (by kernel_rfl) (by kernel_rfl) (fun _ _ _ h => h) (Or.inl ⟨by rfl, fun W hSw => by (try dsimp only at hSw); go_simp⟩) (by assumption) ?_
          simp only [List.getElem_toArray, List.getElem_cons_zero, List.getElem_cons_succ, Act.put, List.setIfInBounds_toArray, List.set_cons_zero, List.set_cons_succ]
          refine wpAnyH_take (i := 8) (v := .pointer (some ⟨a.x, 0, none⟩)) rfl (by kernel_rfl) (by kernel_rfl) (by kernel_rfl) (fun _ _ _ h => h) (Or.inl ⟨by rfl, fun W hSw => by (try dsimp only at hSw); go_simp⟩) (by assumption) ?_
          simp only [List.getElem_toArray, List.getElem_cons_zero, List.getElem_cons_succ, Act.put, List.setIfInBounds_toArray, List.set_cons_zero, List.set_cons_succ]
          refine wpAnyH_take (i := 9) (v := .pointer (some ⟨a.x, 0, none⟩)) rfl (by kernel_rfl) (by kernel_rfl) (by kernel_rfl) (fun _ _ _ h => h) (Or.inl ⟨by rfl, fun W hSw => by (try dsimp only at hSw); go_simp⟩) (by assumption) ?_
          simp only [List.getElem_toArray, List.getElem_cons_zero, List.getElem_cons_succ, Act.put, List.setIfInBounds_toArray, List.set_cons_zero, List.set_cons_succ]
          refine wpAnyH_take (i := 10) (v := .pointer (some ⟨a.x, 0, none⟩)) rfl (by kernel_rfl) (by kernel_rfl) (by kernel_rfl) (fun _ _ _ h => h) (Or.inl ⟨by rfl, fun W hSw => by (try dsimp only at hSw); go_simp⟩) (by assumption) ?_
          simp only [List.getElem_toArray, List.getElem_cons_zero, List.getElem_cons_succ, Act.put, List.setIfInBounds_toArray, List.set_cons_zero, List.set_cons_succ]
          refine wpAnyH_take (i := 11) (v := .pointer (some ⟨a.m, 0, none⟩)) rfl (by kernel_rfl) (by kernel_rfl) (by kernel_rfl) (fun _ _ _ h => h) (Or.inl ⟨by rfl, fun W hSw => by (try dsimp only at hSw); go_simp⟩) (by assumption) ?_
          simp only [List.getElem_toArray, List.getElem_cons_zero, List.getElem_cons_succ, Act.put, List.setIfInBounds_toArray, List.set_cons_zero, List.set_cons_succ]
          refine wpAnyH_take (i := 12) (v := .pointer (some ⟨a.m, 0, none⟩)) rfl (by kernel_rfl) (by kernel_rfl) (by kernel_rfl) (fun _ _ _ h => h) (Or.inl ⟨by rfl, fun W hSw => by (try dsimp only at hSw); go_simp⟩) (by assumption) ?_
          simp only [List.getElem_toArray, List.getElem_cons_zero, List.getElem_cons_succ, Act.put, List.setIfInBounds_toArray, List.set_cons_zero, List.set_cons_succ]
          refine wpAnyH_take (i := 13) (v := .pointer (some ⟨a.m, 0, none⟩)) rfl (by kernel_rfl) (by kernel_rfl) (by kernel_rfl) (fun _ _ _ h => h) (Or.inl ⟨by rfl, fun W hSw => by (try dsimp only at hSw); go_simp⟩) (by assumption) ?_
          simp only [List.getElem_toArray, List.getElem_cons_zero, List.getElem_cons_succ, Act.put, List.setIfInBounds_toArray, List.set_cons_zero, List.set_cons_succ]
          refine wpAnyH_take (i := 14) (v := .int .i64 s.now.lo) rfl (by kernel_rfl) (by kernel_rfl) (by kernel_rfl) (fun _ _ _ h => h) (Or.inl ⟨by rfl, fun W hSw => by (try dsimp only at hSw); go_simp⟩) (by assumption) ?_
          simp only [List.getElem_toArray, List.getElem_cons_zero, List.getElem_cons_succ, Act.put, List.setIfInBounds_toArray, List.set_cons_zero, List.set_cons_succ]
          refine wpAnyH_take (i := 15) (v := .int .i64 t) rfl (by kernel_rfl) (by kernel_rfl) (by kernel_rfl) (fun _ _ _ h => h) (Or.inl ⟨by rfl, fun W hSw => by (try dsimp only at hSw); (go_simp <;> rw [hwj])⟩) (by assumption) ?_
          simp only [List.getElem_toArray, List.getElem_cons_zero, List.getElem_cons_succ, Act.put, List.setIfInBounds_toArray, List.set_cons_zero, List.set_cons_succ]
          refine wpAnyH_take (i := 16) (v := .pointer (some ⟨a.hm, t, none⟩)) rfl (by kernel_rfl) (by kernel_rfl) (by kernel_rfl) (fun _ _ _ h => h) (Or.inl ⟨by rfl, fun W hSw => by (try dsimp only at hSw); go_simp⟩) (by assumption) ?_
          simp only [List.getElem_toArray, List.getElem_cons_zero, List.getElem_cons_succ, Act.put, List.setIfInBounds_toArray, List.set_cons_zero, List.set_cons_succ]
          refine wpAnyH_ready (rs := [17]) (by kernel_rfl) (by simp) ?_
          refine AllReadyH.cons rfl (fun K hK => ?_) AllReadyH.nil
          go_simp
          go_wp2
          have hS1 : Sole [a.hm] wr (wr.setCell ⟨a.hm, t, none⟩ (.int .i64 1)).drew := (Sole.setCell wr _ (by simp)).trans (Sole.drew _ _)
          have HSS1 : Hid _ := hS1
          refine hK.out _ _ hS1 (fun hHeld2 => ?_)
          clear hK K
          refine wpAnyH_done (by kernel_rfl) ?_ _
          refine NoPanic.normal ?_
          clear qx1 q01 q11 mcj1 mfj1
          have XE : XAt (wr.setCell ⟨a.hm, t, none⟩ (.int .i64 1)).drew a _ := (hX.putK t 2 1 rfl (by omega)).below (Below.refl _ _).drew
          have HXN : Hid (XAt (wr.setCell ⟨a.hm, t, none⟩ (.int .i64 1)).drew a (undoJ s (j + 1))) := by
            show XAt (wr.setCell ⟨a.hm, t, none⟩ (.int .i64 1)).drew a (undoJ s (j + 1))
            rw [HNX.out, HKN.out]
            exact XE
          have hSN : Sole [a.hm, a.f, a.l] w (wr.setCell ⟨a.hm, t, none⟩ (.int .i64 1)).drew := HS.trans (HSS1.out.mono (by simp))
          clear XE hLT hX HX
          go_wp2_with fail
          go_roundw
          case rel => exact ⟨j + 1, by omega, by go_num, HXN, hSN⟩
          case measure => simp [Go.RowKit.intOf]; omega
      | true =>
        rw [hb1] at x1 HKN
        simp only [if_true] at HKN
        have hlo := hfj hb1
        obtain ⟨t, ht⟩ : ∃ t, j = s.now.lo + t := ⟨j - s.now.lo, by omega⟩
        have htl : t < s.now.ks.length := by have := HHN.out; omega
        have hjt : j - s.now.lo = t := by omega
        have hwj : IntKind.wrap .i64 ((j : Int) - (s.now.lo : Int)) = (t : Int) := by simp [IntKind.wrap, IntKind.bits, IntKind.signed]; omega
        have htI : (t : Int) < (s.now.ks.length : Int) := by omega
        rw [hjt] at HKN
        clear ht hjt
        obtain ⟨cap1, m01, m11, mk1, mm1, _, _, mne1, mc1⟩ := FrAt.opened hX.map
        try dsimp only at m11 mk1 mc1
        have hln1 := (show (undoJ s j).now.ks.length = s.now.ks.length from hkj)
        rw [hln1] at m11 mk1
        obtain ⟨mcj1, mfj1⟩ := mc1 t _ (List.getElem?_eq_getElem (by rw [hln1]; exact htl))
        have qx1 : ∀ W, Sole [a.hm] wr W → W.cell? ⟨a.x, 0, none⟩ = some (.pointer (some ⟨a.m, 0, none⟩)) := fun W hW => (World.cell?_of_block (a := ⟨a.x, 0, none⟩) (hW.block a.x (hX.blocks _ (by simp [Xd.all])).1 (by simp [hap]))).trans hX.c0
        have q01 : ∀ W, Sole [a.hm] wr W → W.cell? ⟨a.m, 0, none⟩ = some (.int .i64 s.now.lo) := fun W hW => (World.cell?_of_block (a := ⟨a.m, 0, none⟩) (hW.block a.m (hX.blocks _ (by simp [Xd.all])).1 (by simp [hap]))).trans m01
        have q11 : ∀ W, Sole [a.hm] wr W → W.cell? ⟨a.m, 1, none⟩ = some (.slice (some ⟨a.hm, 0, none⟩) s.now.ks.length cap1) := fun W hW => (World.cell?_of_block (a := ⟨a.m, 1, none⟩) (hW.block a.m (hX.blocks _ (by simp [Xd.all])).1 (by simp [hap]))).trans m11
        clear mc1 m01 m11
        generalize hgK1 : (_ : List Nat)[t] = KK1 at mcj1
        go_wp2_with fail
        refine wp_region_noPanic ?_
        refine wp_region_held_drew (S := fun W => Sole [a.hm] wr W) (by kernel_rfl) (Sole.drew _ _) (fun hHeld => ?_)
        refine wpAnyH_take (i := 0) (v := .pointer (some ⟨a.x, 0, none⟩)) rfl (by kernel_rfl) (by kernel_rfl) (by kernel_rfl) (fun _ _ _ h => h) (Or.inl ⟨by rfl, fun W hSw => by (try dsimp only at hSw); go_simp⟩) (by assumption) ?_
        simp only [List.getElem_toArray, List.getElem_cons_zero, List.getElem_cons_succ, Act.put, List.setIfInBounds_toArray, List.set_cons_zero, List.set_cons_succ]
        refine wpAnyH_take (i := 1) (v := .pointer (some ⟨a.x, 0, none⟩)) rfl (by kernel_rfl) (by kernel_rfl) (by kernel_rfl) (fun _ _ _ h => h) (Or.inl ⟨by rfl, fun W hSw => by (try dsimp only at hSw); go_simp⟩) (by assumption) ?_
        simp only [List.getElem_toArray, List.getElem_cons_zero, List.getElem_cons_succ, Act.put, List.setIfInBounds_toArray, List.set_cons_zero, List.set_cons_succ]
        refine wpAnyH_take (i := 2) (v := .pointer (some ⟨a.x, 0, none⟩)) rfl (by kernel_rfl) (by kernel_rfl) (by kernel_rfl) (fun _ _ _ h => h) (Or.inl ⟨by rfl, fun W hSw => by (try dsimp only at hSw); go_simp⟩) (by assumption) ?_
        simp only [List.getElem_toArray, List.getElem_cons_zero, List.getElem_cons_succ, Act.put, List.setIfInBounds_toArray, List.set_cons_zero, List.set_cons_succ]
        refine wpAnyH_take (i := 3) (v := .pointer (some ⟨a.m, 0, none⟩)) rfl (by kernel_rfl) (by kernel_rfl) (by kernel_rfl) (fun _ _ _ h => h) (Or.inl ⟨by rfl, fun W hSw => by (try dsimp only at hSw); go_simp⟩) (by assumption) ?_
        simp only [List.getElem_toArray, List.getElem_cons_zero, List.getElem_cons_succ, Act.put, List.setIfInBounds_toArray, List.set_cons_zero, List.set_cons_succ]
        refine wpAnyH_take (i := 4) (v := .pointer (some ⟨a.m, 0, none⟩)) rfl (by kernel_rfl) (by kernel_rfl) (by kernel_rfl) (fun _ _ _ h => h) (Or.inl ⟨by rfl, fun W hSw => by (try dsimp only at hSw); go_simp⟩) (by assumption) ?_
        simp only [List.getElem_toArray, List.getElem_cons_zero, List.getElem_cons_succ, Act.put, List.setIfInBounds_toArray, List.set_cons_zero, List.set_cons_succ]
        refine wpAnyH_take (i := 5) (v := .pointer (some ⟨a.m, 1, none⟩)) rfl (by kernel_rfl) (by kernel_rfl) (by kernel_rfl) (fun _ _ _ h => h) (Or.inl ⟨by rfl, fun W hSw => by (try dsimp only at hSw); go_simp⟩) (by assumption) ?_
        simp only [List.getElem_toArray, List.getElem_cons_zero, List.getElem_cons_succ, Act.put, List.setIfInBounds_toArray, List.set_cons_zero, List.set_cons_succ]
        refine wpAnyH_take (i := 6) (v := .slice (some ⟨a.hm, 0, none⟩) s.now.ks.length cap1) rfl (by kernel_rfl) (by kernel_rfl) (by kernel_rfl) (fun _ _ _ h => h) (Or.inl ⟨by rfl, fun W hSw => by (try dsimp only at hSw); go_simp⟩) (by assumption) ?_
        simp only [List.getElem_toArray, List.getElem_cons_zero, List.getElem_cons_succ, Act.put, List.setIfInBounds_toArray, List.set_cons_zero, List.set_cons_succ]
        refine wpAnyH_take (i := 7) (v := .int .i64 j) rfl (by kernel_rfl) (by kernel_rfl) (by kernel_rfl) (fun _ _ _ h => h) (Or.inl ⟨by rfl, fun W hSw => by (try dsimp only at hSw); go_simp⟩) (by assumption) ?_
        simp only [List.getElem_toArray, List.getElem_cons_zero, List.getElem_cons_succ, Act.put, List.setIfInBounds_toArray, List.set_cons_zero, List.set_cons_succ]
        refine wpAnyH_take (i := 8) (v := .pointer (some ⟨a.x, 0, none⟩)) rfl (by kernel_rfl) (by kernel_rfl) (by kernel_rfl) (fun _ _ _ h => h) (Or.inl ⟨by rfl, fun W hSw => by (try dsimp only at hSw); go_simp⟩) (by assumption) ?_
        simp only [List.getElem_toArray, List.getElem_cons_zero, List.getElem_cons_succ, Act.put, List.setIfInBounds_toArray, List.set_cons_zero, List.set_cons_succ]
        refine wpAnyH_take (i := 9) (v := .pointer (some ⟨a.x, 0, none⟩)) rfl (by kernel_rfl) (by kernel_rfl) (by kernel_rfl) (fun _ _ _ h => h) (Or.inl ⟨by rfl, fun W hSw => by (try dsimp only at hSw); go_simp⟩) (by assumption) ?_
        simp only [List.getElem_toArray, List.getElem_cons_zero, List.getElem_cons_succ, Act.put, List.setIfInBounds_toArray, List.set_cons_zero, List.set_cons_succ]
        refine wpAnyH_take (i := 10) (v := .pointer (some ⟨a.x, 0, none⟩)) rfl (by kernel_rfl) (by kernel_rfl) (by kernel_rfl) (fun _ _ _ h => h) (Or.inl ⟨by rfl, fun W hSw => by (try dsimp only at hSw); go_simp⟩) (by assumption) ?_
        simp only [List.getElem_toArray, List.getElem_cons_zero, List.getElem_cons_succ, Act.put, List.setIfInBounds_toArray, List.set_cons_zero, List.set_cons_succ]
        refine wpAnyH_take (i := 11) (v := .pointer (some ⟨a.m, 0, none⟩)) rfl (by kernel_rfl) (by kernel_rfl) (by kernel_rfl) (fun _ _ _ h => h) (Or.inl ⟨by rfl, fun W hSw => by (try dsimp only at hSw); go_simp⟩) (by assumption) ?_
        simp only [List.getElem_toArray, List.getElem_cons_zero, List.getElem_cons_succ, Act.put, List.setIfInBounds_toArray, List.set_cons_zero, List.set_cons_succ]
        refine wpAnyH_take (i := 12) (v := .pointer (some ⟨a.m, 0, none⟩)) rfl (by kernel_rfl) (by kernel_rfl) (by kernel_rfl) (fun _ _ _ h => h) (Or.inl ⟨by rfl, fun W hSw => by (try dsimp only at hSw); go_simp⟩) (by assumption) ?_
        simp only [List.getElem_toArray, List.getElem_cons_zero, List.getElem_cons_succ, Act.put, List.setIfInBounds_toArray, List.set_cons_zero, List.set_cons_succ]
        refine wpAnyH_take (i := 13) (v := .pointer (some ⟨a.m, 0, none⟩)) rfl (by kernel_rfl) (by kernel_rfl) (by kernel_rfl) (fun _ _ _ h => h) (Or.inl ⟨by rfl, fun W hSw => by (try dsimp only at hSw); go_simp⟩) (by assumption) ?_
        simp only [List.getElem_toArray, List.getElem_cons_zero, List.getElem_cons_succ, Act.put, List.setIfInBounds_toArray, List.set_cons_zero, List.set_cons_succ]
        refine wpAnyH_take (i := 14) (v := .int .i64 s.now.lo) rfl (by kernel_rfl) (by kernel_rfl) (by kernel_rfl) (fun _ _ _ h => h) (Or.inl ⟨by rfl, fun W hSw => by (try dsimp only at hSw); go_simp⟩) (by assumption) ?_
        simp only [List.getElem_toArray, List.getElem_cons_zero, List.getElem_cons_succ, Act.put, List.setIfInBounds_toArray, List.set_cons_zero, List.set_cons_succ]
        refine wpAnyH_take (i := 15) (v := .int .i64 t) rfl (by kernel_rfl) (by kernel_rfl) (by kernel_rfl) (fun _ _ _ h => h) (Or.inl ⟨by rfl, fun W hSw => by (try dsimp only at hSw); (go_simp <;> rw [hwj])⟩) (by assumption) ?_
        simp only [List.getElem_toArray, List.getElem_cons_zero, List.getElem_cons_succ, Act.put, List.setIfInBounds_toArray, List.set_cons_zero, List.set_cons_succ]
        refine wpAnyH_take (i := 16) (v := .pointer (some ⟨a.hm, t, none⟩)) rfl (by kernel_rfl) (by kernel_rfl) (by kernel_rfl) (fun _ _ _ h => h) (Or.inl ⟨by rfl, fun W hSw => by (try dsimp only at hSw); go_simp⟩) (by assumption) ?_
        simp only [List.getElem_toArray, List.getElem_cons_zero, List.getElem_cons_succ, Act.put, List.setIfInBounds_toArray, List.set_cons_zero, List.set_cons_succ]
        refine wpAnyH_ready (rs := [17]) (by kernel_rfl) (by simp) ?_
        refine AllReadyH.cons rfl (fun K hK => ?_) AllReadyH.nil
        go_simp
        go_wp2
        have hS1 : Sole [a.hm] wr (wr.setCell ⟨a.hm, t, none⟩ (.int .i64 0)).drew := (Sole.setCell wr _ (by simp)).trans (Sole.drew _ _)
        have HSS1 : Hid _ := hS1
        refine hK.out _ _ hS1 (fun hHeld2 => ?_)
        clear hK K
        refine wpAnyH_done (by kernel_rfl) ?_ _
        refine NoPanic.normal ?_
        clear qx1 q01 q11 mcj1 mfj1
        have XF : XAt (wr.setCell ⟨a.hm, t, none⟩ (.int .i64 0)).drew a _ := (hX.putK t 1 0 rfl (by omega)).below (Below.refl _ _).drew
        obtain ⟨z3, z4⟩ := hLT _ _ XF rfl
        have hkl2 : ((undoJ s j).now.ks.set t 1).length = s.now.ks.length := by rw [List.length_set]; exact hkj
        generalize hW1 : (wr.setCell ⟨a.hm, t, none⟩ (.int .i64 0)).drew = W1 at *
        cases hb2 : s.lt.getD j false with
        | false =>
          rw [hb2] at z4 HKN
          simp only [Bool.false_eq_true, if_false] at HKN
          have XE := XF
          clear XF
          have HXN : Hid (XAt W1 a (undoJ s (j + 1))) := by
            show XAt W1 a (undoJ s (j + 1))
            rw [HNX.out, HKN.out]
            exact XE
          have hSN : Sole [a.hm, a.f, a.l] w W1 := HS.trans (HSS1.out.mono (by simp))
          clear XE hLT hX HX
          go_wp2_with fail
          go_roundw
          case rel => exact ⟨j + 1, by omega, by go_num, HXN, hSN⟩
          case measure => simp [Go.RowKit.intOf]; omega
        | true =>
          rw [hb2] at z4 HKN
          simp only [if_true] at HKN
          obtain ⟨cap2, m02, m12, mk2, mm2, _, _, mne2, mc2⟩ := FrAt.opened XF.map
          try dsimp only at m12 mk2 mc2
          have hln2 := hkl2
          rw [hln2] at m12 mk2
          obtain ⟨mcj2, mfj2⟩ := mc2 t _ (List.getElem?_eq_getElem (by rw [hln2]; exact htl))
          have qx2 : ∀ W, Sole [a.hm] W1 W → W.cell? ⟨a.x, 0, none⟩ = some (.pointer (some ⟨a.m, 0, none⟩)) := fun W hW => (World.cell?_of_block (a := ⟨a.x, 0, none⟩) (hW.block a.x (XF.blocks _ (by simp [Xd.all])).1 (by simp [hap]))).trans XF.c0
          have q02 : ∀ W, Sole [a.hm] W1 W → W.cell? ⟨a.m, 0, none⟩ = some (.int .i64 s.now.lo) := fun W hW => (World.cell?_of_block (a := ⟨a.m, 0, none⟩) (hW.block a.m (XF.blocks _ (by simp [Xd.all])).1 (by simp [hap]))).trans m02
          have q12 : ∀ W, Sole [a.hm] W1 W → W.cell? ⟨a.m, 1, none⟩ = some (.slice (some ⟨a.hm, 0, none⟩) s.now.ks.length cap2) := fun W hW => (World.cell?_of_block (a := ⟨a.m, 1, none⟩) (hW.block a.m (XF.blocks _ (by simp [Xd.all])).1 (by simp [hap]))).trans m12
          clear mc2 m02 m12
          generalize hgK2 : (_ : List Nat)[t] = KK2 at mcj2
          go_wp2_with fail
          refine wp_region_noPanic ?_
          refine wp_region_held_drew (S := fun W => Sole [a.hm] W1 W) (by kernel_rfl) (Sole.drew _ _) (fun hHeld => ?_)
          refine wpAnyH_take (i := 0) (v := .pointer (some ⟨a.x, 0, none⟩)) rfl (by kernel_rfl) (by kernel_rfl) (by kernel_rfl) (fun _ _ _ h => h) (Or.inl ⟨by rfl, fun W hSw => by (try dsimp only at hSw); go_simp⟩) (by assumption) ?_
          simp only [List.getElem_toArray, List.getElem_cons_zero, List.getElem_cons_succ, Act.put, List.setIfInBounds_toArray, List.set_cons_zero, List.set_cons_succ]
          refine wpAnyH_take (i := 1) (v := .pointer (some ⟨a.x, 0, none⟩)) rfl (by kernel_rfl) (by kernel_rfl) (by kernel_rfl) (fun _ _ _ h => h) (Or.inl ⟨by rfl, fun W hSw => by (try dsimp only at hSw); go_simp⟩) (by assumption) ?_
          simp only [List.getElem_toArray, List.getElem_cons_zero, List.getElem_cons_succ, Act.put, List.setIfInBounds_toArray, List.set_cons_zero, List.set_cons_succ]
          refine wpAnyH_take (i := 2) (v := .pointer (some ⟨a.x, 0, none⟩)) rfl (by kernel_rfl) (by kernel_rfl) (by kernel_rfl) (fun _ _ _ h => h) (Or.inl ⟨by rfl, fun W hSw => by (try dsimp only at hSw); go_simp⟩) (by assumption) ?_
          simp only [List.getElem_toArray, List.getElem_cons_zero, List.getElem_cons_succ, Act.put, List.setIfInBounds_toArray, List.set_cons_zero, List.set_cons_succ]
          refine wpAnyH_take (i := 3) (v := .pointer (some ⟨a.m, 0, none⟩)) rfl (by kernel_rfl) (by kernel_rfl) (by kernel_rfl) (fun _ _ _ h => h) (Or.inl ⟨by rfl, fun W hSw => by (try dsimp only at hSw); go_simp⟩) (by assumption) ?_
          simp only [List.getElem_toArray, List.getElem_cons_zero, List.getElem_cons_succ, Act.put, List.setIfInBounds_toArray, List.set_cons_zero, List.set_cons_succ]
          refine wpAnyH_take (i := 4) (v := .pointer (some ⟨a.m, 0, none⟩)) rfl (by kernel_rfl) (by kernel_rfl) (by kernel_rfl) (fun _ _ _ h => h) (Or.inl ⟨by rfl, fun W hSw => by (try dsimp only at hSw); go_simp⟩) (by assumption) ?_
          simp only [List.getElem_toArray, List.getElem_cons_zero, List.getElem_cons_succ, Act.put, List.setIfInBounds_toArray, List.set_cons_zero, List.set_cons_succ]
          refine wpAnyH_take (i := 5) (v := .pointer (some ⟨a.m, 1, none⟩)) rfl (by kernel_rfl) (by kernel_rfl) (by kernel_rfl) (fun _ _ _ h => h) (Or.inl ⟨by rfl, fun W hSw => by (try dsimp only at hSw); go_simp⟩) (by assumption) ?_
          simp only [List.getElem_toArray, List.getElem_cons_zero, List.getElem_cons_succ, Act.put, List.setIfInBounds_toArray, List.set_cons_zero, List.set_cons_succ]
          refine wpAnyH_take (i := 6) (v := .slice (some ⟨a.hm, 0, none⟩) s.now.ks.length cap2) rfl (by kernel_rfl) (by kernel_rfl) (by kernel_rfl) (fun _ _ _ h => h) (Or.inl ⟨by rfl, fun W hSw => by (try dsimp only at hSw); go_simp⟩) (by assumption) ?_
          simp only [List.getElem_toArray, List.getElem_cons_zero, List.getElem_cons_succ, Act.put, List.setIfInBounds_toArray, List.set_cons_zero, List.set_cons_succ]
          refine wpAnyH_take (i := 7) (v := .int .i64 j) rfl (by kernel_rfl) (by kernel_rfl) (by kernel_rfl) (fun _ _ _ h => h) (Or.inl ⟨by rfl, fun W hSw => by (try dsimp only at hSw); go_simp⟩) (by assumption) ?_
          simp only [List.getElem_toArray, List.getElem_cons_zero, List.getElem_cons_succ, Act.put, List.setIfInBounds_toArray, List.set_cons_zero, List.set_cons_succ]
          refine wpAnyH_take (i := 8) (v := .pointer (some ⟨a.x, 0, none⟩)) rfl (by kernel_rfl) (by kernel_rfl) (by kernel_rfl) (fun _ _ _ h => h) (Or.inl ⟨by rfl, fun W hSw => by (try dsimp only at hSw); go_simp⟩) (by assumption) ?_
          simp only [List.getElem_toArray, List.getElem_cons_zero, List.getElem_cons_succ, Act.put, List.setIfInBounds_toArray, List.set_cons_zero, List.set_cons_succ]
          refine wpAnyH_take (i := 9) (v := .pointer (some ⟨a.x, 0, none⟩)) rfl (by kernel_rfl) (by kernel_rfl) (by kernel_rfl) (fun _ _ _ h => h) (Or.inl ⟨by rfl, fun W hSw => by (try dsimp only at hSw); go_simp⟩) (by assumption) ?_
          simp only [List.getElem_toArray, List.getElem_cons_zero, List.getElem_cons_succ, Act.put, List.setIfInBounds_toArray, List.set_cons_zero, List.set_cons_succ]
          refine wpAnyH_take (i := 10) (v := .pointer (some ⟨a.x, 0, none⟩)) rfl (by kernel_rfl) (by kernel_rfl) (by kernel_rfl) (fun _ _ _ h => h) (Or.inl ⟨by rfl, fun W hSw => by (try dsimp only at hSw); go_simp⟩) (by assumption) ?_
          simp only [List.getElem_toArray, List.getElem_cons_zero, List.getElem_cons_succ, Act.put, List.setIfInBounds_toArray, List.set_cons_zero, List.set_cons_succ]
          refine wpAnyH_take (i := 11) (v := .pointer (some ⟨a.m, 0, none⟩)) rfl (by kernel_rfl) (by kernel_rfl) (by kernel_rfl) (fun _ _ _ h => h) (Or.inl ⟨by rfl, fun W hSw => by (try dsimp only at hSw); go_simp⟩) (by assumption) ?_
          simp only [List.getElem_toArray, List.getElem_cons_zero, List.getElem_cons_succ, Act.put, List.setIfInBounds_toArray, List.set_cons_zero, List.set_cons_succ]
          refine wpAnyH_take (i := 12) (v := .pointer (some ⟨a.m, 0, none⟩)) rfl (by kernel_rfl) (by kernel_rfl) (by kernel_rfl) (fun _ _ _ h => h) (Or.inl ⟨by rfl, fun W hSw => by (try dsimp only at hSw); go_simp⟩) (by assumption) ?_
          simp only [List.getElem_toArray, List.getElem_cons_zero, List.getElem_cons_succ, Act.put, List.setIfInBounds_toArray, List.set_cons_zero, List.set_cons_succ]
          refine wpAnyH_take (i := 13) (v := .pointer (some ⟨a.m, 0, none⟩)) rfl (by kernel_rfl) (by kernel_rfl) (by kernel_rfl) (fun _ _ _ h => h) (Or.inl ⟨by rfl, fun W hSw => by (try dsimp only at hSw); go_simp⟩) (by assumption) ?_
          simp only [List.getElem_toArray, List.getElem_cons_zero, List.getElem_cons_succ, Act.put, List.setIfInBounds_toArray, List.set_cons_zero, List.set_cons_succ]
          refine wpAnyH_take (i := 14) (v := .int .i64 s.now.lo) rfl (by kernel_rfl) (by kernel_rfl) (by kernel_rfl) (fun _ _ _ h => h) (Or.inl ⟨by rfl, fun W hSw => by (try dsimp only at hSw); go_simp⟩) (by assumption) ?_
          simp only [List.getElem_toArray, List.getElem_cons_zero, List.getElem_cons_succ, Act.put, List.setIfInBounds_toArray, List.set_cons_zero, List.set_cons_succ]
          refine wpAnyH_take (i := 15) (v := .int .i64 t) rfl (by kernel_rfl) (by kernel_rfl) (by kernel_rfl) (fun _ _ _ h => h) (Or.inl ⟨by rfl, fun W hSw => by (try dsimp only at hSw); (go_simp <;> rw [hwj])⟩) (by assumption) ?_
          simp only [List.getElem_toArray, List.getElem_cons_zero, List.getElem_cons_succ, Act.put, List.setIfInBounds_toArray, List.set_cons_zero, List.set_cons_succ]
          refine wpAnyH_take (i := 16) (v := .pointer (some ⟨a.hm, t, none⟩)) rfl (by kernel_rfl) (by kernel_rfl) (by kernel_rfl) (fun _ _ _ h => h) (Or.inl ⟨by rfl, fun W hSw => by (try dsimp only at hSw); go_simp⟩) (by assumption) ?_
          simp only [List.getElem_toArray, List.getElem_cons_zero, List.getElem_cons_succ, Act.put, List.setIfInBounds_toArray, List.set_cons_zero, List.set_cons_succ]
          refine wpAnyH_ready (rs := [17]) (by kernel_rfl) (by simp) ?_
          refine AllReadyH.cons rfl (fun K hK => ?_) AllReadyH.nil
          go_simp
          go_wp2
          have hS2 : Sole [a.hm] W1 (W1.setCell ⟨a.hm, t, none⟩ (.int .i64 1)).drew := (Sole.setCell W1 _ (by simp)).trans (Sole.drew _ _)
          have HSS2 : Hid _ := hS2
          refine hK.out _ _ hS2 (fun hHeld2 => ?_)
          clear hK K
          refine wpAnyH_done (by kernel_rfl) ?_ _
          refine NoPanic.normal ?_
          clear qx2 q02 q12 mcj2 mfj2
          have XE : XAt (W1.setCell ⟨a.hm, t, none⟩ (.int .i64 1)).drew a _ := (XF.putK t 2 1 rfl (by omega)).below (Below.refl _ _).drew
          clear XF
          have HXN : Hid (XAt (W1.setCell ⟨a.hm, t, none⟩ (.int .i64 1)).drew a (undoJ s (j + 1))) := by
            show XAt (W1.setCell ⟨a.hm, t, none⟩ (.int .i64 1)).drew a (undoJ s (j + 1))
            rw [HNX.out, HKN.out]
            exact XE
          have hSN : Sole [a.hm, a.f, a.l] w (W1.setCell ⟨a.hm, t, none⟩ (.int .i64 1)).drew := (HS.trans (HSS1.out.mono (by simp))).trans (HSS2.out.mono (by simp))
          clear XE hLT hX HX
          go_wp2_with fail
          go_roundw
          case rel => exact ⟨j + 1, by omega, by go_num, HXN, hSN⟩
          case measure => simp [Go.RowKit.intOf]; omega
    · obtain rfl : j = n := by omega
      have hltI : ¬ (j : Int) < j := by omega
      have kS := xsettle_any HX.out
      unfold ptr at kS
      go_wp2_with fail
      refine kS.mono ?_
      rintro e w2 ⟨rfl, hX2, hS2⟩
      go_wp2_with fail
      go_end0
      exact ⟨rfl, by rw [HU.out]; exact hX2, HS.trans (hS2.mono (by simp))⟩

def wipeL (f : Fr) (lt : List Bool) : Nat → List Bool
  | 0 => lt
  | j + 1 => if lt.getD j false && !decide (kindOfN f (j : Int) = 3) then (wipeL f lt j).set j false else wipeL f lt j

theorem wipeL_len (f : Fr) (lt : List Bool) : ∀ j, (wipeL f lt j).length = lt.length
  | 0 => rfl
  | j + 1 => by
    unfold wipeL
    split
    · rw [List.length_set]; exact wipeL_len f lt j
    · exact wipeL_len f lt j

theorem wipeL_get (f : Fr) (lt : List Bool) : ∀ j i, j ≤ i → (wipeL f lt j).getD i false = lt.getD i false
  | 0, i, _ => rfl
  | j + 1, i, h => by
    have ih := wipeL_get f lt j i (by omega)
    unfold wipeL
    split
    · rw [List.getD_eq_getElem?_getD, List.getElem?_set, if_neg (by omega), ← List.getD_eq_getElem?_getD]
      exact ih
    · exact ih

theorem wipeL_done (f : Fr) (lt : List Bool) : ∀ j i, i < j → i < lt.length → (wipeL f lt j).getD i false = (lt.getD i false && decide (kindOfN f (i : Int) = 3))
  | 0, i, h, _ => by omega
  | j + 1, i, h, hl => by
    by_cases e : i = j
    · subst e
      have h0 := wipeL_get f lt i i (Nat.le_refl _)
      unfold wipeL
      split
      · rename_i c
        rw [List.getD_eq_getElem?_getD, List.getElem?_set, if_pos rfl, if_pos (by rw [wipeL_len]; exact hl)]
        simp only [Bool.and_eq_true, Bool.not_eq_true', decide_eq_false_iff_not] at c
        simp [c.2]
      · rename_i c
        rw [h0]
        cases hb : lt.getD i false with
        | false => rfl
        | true =>
          rw [hb] at c
          simp only [Bool.true_and, Bool.not_eq_true', decide_eq_false_iff_not, Decidable.not_not] at c
          simp [c]
    · have ih := wipeL_done f lt j i (by omega) hl
      unfold wipeL
      split
      · rw [List.getD_eq_getElem?_getD, List.getElem?_set, if_neg (fun h => e h.symm), ← List.getD_eq_getElem?_getD]
        exact ih
      · exact ih

def sweepX (s : Rx) (l : List Int) : Rx := { s with now := sweepF s.now l, lt := wipeL (sweepF s.now l) s.lt s.lt.length }
def sweepJ (s : Rx) (l : List Int) (j : Nat) : Rx := { s with now := sweepF s.now l, lt := wipeL (sweepF s.now l) s.lt j }

theorem natC_next {l : List Nat} {j x : Nat} (h : l[j]? = some x) : natC (l.take (j + 1)) = natC (l.take j) ++ [.int .i64 (x : Int)] := by
  unfold natC
  rw [take_next h, List.map_append]
  rfl

set_option maxHeartbeats 4000000 in
theorem xsweep_any {w : World} {a : Xd} {s : Rx} (h : XAt w a s) (va : Option Addr) (n vc : Nat) (lN : List Nat) (hr : RdU w (.slice va n vc) (intsOf lN)) (hl : lN.length = n) (hn : n ≤ 1000) (hu : ∀ k ∈ lN, k ≤ 4294967295) :
    Calls Tryz.prog 22 #[ptr a.x, .slice va n vc] w fun e w' => e = .returned (.int .i64 (swept s.now (intsOf lN))) ∧ XAt w' a (sweepX s (intsOf lN)) ∧ Sole [a.hm, a.l] w w' := by
  obtain ⟨iI, hii, hi0, hi1, hi2⟩ := info_partsI
  obtain ⟨_, hcap, hmax, hrd⟩ := RdU.open hr
  unfold maxLen at hmax
  have HH : Hid (XAt w a s) := h
  have hap := h.apart
  have hhm := (h.blocks a.hm (by simp [Xd.all])).1
  have hat : ∀ j (b : Nat), lN[j]? = some b → (intsOf lN)[j]? = some (b : Int) := fun j b hb => by unfold intsOf; rw [List.getElem?_map, hb]; rfl
  clear h hr
  unfold ptr
  go_enter Tryz.func22, Tryz.ntmps22
  go_wp2
  go_loopw [5, 12] (fun v t wr => ∃ (j : Nat) (b : Option Addr) (c : Nat), j ≤ n ∧ t = .int .i64 j ∧ v = .slice b j c ∧ Hid (wr.ownsRow w.heap.size 3 1 (.slice b j c) j (natC (lN.take j))) ∧ Below w.heap.size w wr) (fun _ t _ => n - (Go.RowKit.intOf t).toNat)
  case atStart => exact ⟨0, none, 0, Nat.zero_le _, rfl, rfl, World.ownsRow_nil _ _ _ _, Below.refl _ _⟩
  case round =>
    obtain ⟨j, b, c, hj, rfl, rfl, HOWN, HB⟩ := hrel
    obtain ⟨wA, hA⟩ : ∃ wA, wA = wr := ⟨_, rfl⟩
    subst hA
    have hsz := HB.size
    by_cases hlt : j < n
    · have hltI : (j : Int) < n := by omega
      obtain ⟨x, hx⟩ := at_some hl hlt
      obtain ⟨rb, off, rfl, rlt, rcell⟩ := hrd (by omega)
      have xj := (HB.cell (p := ⟨rb, off + j, none⟩) rlt).trans (rcell j _ (hat j x hx))
      have hxu := hu x (List.mem_of_getElem? hx)
      have hnx := natC_next hx
      obtain ⟨W2, hW2⟩ : ∃ W2, wA.alloc (.cells #[.int .i64 (x : Int)] 3) = W2 := ⟨_, rfl⟩
      have hb2 : Below wA.heap.size wA W2 := by rw [← hW2]; exact (Below.refl _ wA).alloc (Nat.le_refl _) _
      have hz2 : W2.heap.size = wA.heap.size + 1 := by rw [← hW2]; simp
      have hnew : W2.heap[wA.heap.size]? = some (.cells #[.int .i64 (x : Int)] 3 (0, 0)) := by rw [← hW2]; exact heap_alloc_new wA _
      have hown2 := rowI_below HOWN.out hb2
      clear rcell hrd hat HOWN
      go_wp2_with (at_builtin; refine wpList_append_own W2 rfl _ _ 22 rfl w.heap.size 3 iI (.int .i64 0) 1 8 Tryz.underlying22 hii hi0 hi1 hi2 rfl (by decide) _ j (natC (lN.take j)) rfl hown2 ⟨wA.heap.size, 0, none⟩ 1 1 [.int .i64 (x : Int)] rfl rfl (oneI hnew) (by simp [Value.oneCell']) (by unfold maxLen; omega) (by omega) (by omega) ?_; intro v3 w3 hown3 hg4 _; obtain ⟨b3, c3, rfl⟩ := rowI_slice hown3)
      have hb3 : Below w.heap.size w w3 := HB.trans ((hb2.mono hsz).trans ((Below.refl w.heap.size W2).grown hg4 (by omega) (fun q hq => (World.ownsRow.lt hown2 q hq).1)))
      have HO3 : Hid (w3.ownsRow w.heap.size 3 1 (.slice b3 (j + 1) c3) (j + 1) (natC (lN.take (j + 1)))) := by
        rw [hnx]
        exact hown3
      clear hown3 hown2 hg4 hnew hb2
      go_roundw
      case rel => exact ⟨j + 1, b3, c3, by omega, by go_num, by rfl, HO3, hb3⟩
      case measure => simp [Go.RowKit.intOf]; omega
    · obtain rfl : j = n := by omega
      have hltI : ¬ (j : Int) < j := by omega
      have hown := HOWN.out
      rw [List.take_of_length_le (by omega)] at hown
      have hX1 := HH.out.below HB
      have kS := rsweep_any hX1.map hX1.ok.k (.slice b j c) (intsOf lN) (fun W hW => by
        rw [← hl] at hown
        have := rdI_own (u := .slice b lN.length c) hown hhm hW
        rw [hl] at this
        exact this)
      have c0 := hX1.c0
      have hf1 := hX1.ok.l
      have hmost := hX1.ok.k.most
      have hPM := fun w' (g1 : RAt w' a.m a.hm (sweepF s.now (intsOf lN))) (g2 : Sole [a.hm] wA w') => hX1.putM g1 g2 (sweep_ok hX1.ok.k _) rfl (sweepF_len _ _)
      have HFN : Hid (sweepX s (intsOf lN) = sweepJ s (intsOf lN) s.lt.length) := rfl
      have hwl := wipeL_len (sweepF s.now (intsOf lN)) s.lt
      have hwg := wipeL_get (sweepF s.now (intsOf lN)) s.lt
      have HWN : Hid (∀ i, wipeL (sweepF s.now (intsOf lN)) s.lt (i + 1) = if s.lt.getD i false && !decide (kindOfN (sweepF s.now (intsOf lN)) (i : Int) = 3) then (wipeL (sweepF s.now (intsOf lN)) s.lt i).set i false else wipeL (sweepF s.now (intsOf lN)) s.lt i) := fun i => rfl
      unfold ptr at kS c0
      clear hrd hat HOWN hown
      go_wp2_with fail
      refine kS.mono ?_
      clear kS c0
      rintro e w2 ⟨rfl, g1, g2⟩
      have hX2 : XAt w2 a (sweepJ s (intsOf lN) 0) := hPM w2 g1 g2
      clear hPM g1
      have hSA : Sole [a.hm, a.l] w w2 := (Sole.of_below HB _).trans (g2.mono (by simp))
      have c3 := hX2.c3
      have hl3 : (sweepJ s (intsOf lN) 0).lt.length = s.lt.length := rfl
      rw [hl3] at c3
      generalize hSW : (swept s.now (intsOf lN) : Int) = SW
      have HSW : Hid ((swept s.now (intsOf lN) : Int) = SW) := hSW
      clear hSW g2
      generalize hM : s.lt.length = m at *
      go_wp2_with fail
      go_loopw [9, 33] (fun _ t wr => ∃ i : Nat, i ≤ m ∧ t = .int .i64 i ∧ Hid (XAt wr a (sweepJ s (intsOf lN) i)) ∧ Sole [a.hm, a.l] w wr) (fun _ t _ => m - (Go.RowKit.intOf t).toNat)
      case atStart => exact ⟨0, Nat.zero_le _, rfl, hX2, hSA⟩
      case round =>
        obtain ⟨i, hi, rfl, HX, HS⟩ := hrel
        clear hX2 hSA c3
        by_cases hlt2 : i < m
        · have hltI2 : (i : Int) < m := by omega
          have hX := HX.out
          have d3 := hX.c3
          have d0 := hX.c0
          have l3 : (sweepJ s (intsOf lN) i).lt.length = m := hwl i
          rw [l3] at d3
          obtain ⟨x1, x2⟩ := bools_at hX.lt (j := i) (by rw [l3]; exact hlt2)
          have e1 : (sweepJ s (intsOf lN) i).lt.getD i false = s.lt.getD i false := hwg i i (Nat.le_refl _)
          rw [e1] at x1
          have hwn := HWN.out i
          have kI := xis hX (i : Int) (by omega) 3 (by omega) 2 rfl
          have hPL := fun (W : World) (hW : Below wr.heap.size wr W) => (hX.below hW).putL i false
          have hXW := fun (W : World) (hW : Below wr.heap.size wr W) => hX.below hW
          have hd3 := fun (W : World) (hW : Below wr.heap.size wr W) => (hX.below hW).c3
          have hxl := fun (W : World) (hW : Below wr.heap.size wr W) => bools_at (hX.below hW).lt (j := i) (by rw [l3]; exact hlt2)
          rw [l3] at hd3
          change Calls _ _ _ _ (fun e w' => e = .returned (.bool (decide (kindOfN (sweepF s.now (intsOf lN)) (i : Int) = 3))) ∧ Below wr.heap.size wr w') at kI
          unfold ptr at d0
          clear HX hX
          cases hb : s.lt.getD i false with
          | false =>
            rw [hb] at x1 hwn
            simp only [Bool.false_and, Bool.false_eq_true, if_false] at hwn
            have HXN : Hid (XAt wr a (sweepJ s (intsOf lN) (i + 1))) := by
              show XAt wr a { s with now := sweepF s.now (intsOf lN), lt := wipeL (sweepF s.now (intsOf lN)) s.lt (i + 1) }
              rw [hwn]
              exact hXW wr (Below.refl _ _)
            clear hPL hXW hd3 hxl kI
            go_wp2_with fail
            go_roundw
            case rel => exact ⟨i + 1, by omega, by go_num, HXN, HS⟩
            case measure => simp [Go.RowKit.intOf]; omega
          | true =>
            rw [hb] at x1 hwn
            simp only [Bool.true_and] at hwn
            cases hk : decide (kindOfN (sweepF s.now (intsOf lN)) (i : Int) = 3) with
            | true =>
              rw [hk] at hwn kI
              simp only [Bool.not_true, Bool.false_eq_true, if_false] at hwn
              have HXN : Hid (∀ W, Below wr.heap.size wr W → XAt W a (sweepJ s (intsOf lN) (i + 1))) := fun W hW => by
                show XAt W a { s with now := sweepF s.now (intsOf lN), lt := wipeL (sweepF s.now (intsOf lN)) s.lt (i + 1) }
                rw [hwn]
                exact hXW W hW
              clear hPL hXW hd3 hxl
              go_wp2_with fail
              refine kI.mono ?_
              rintro e w3 ⟨rfl, hb3⟩
              clear kI
              have HX3 : Hid _ := HXN.out w3 hb3
              have hS3 := HS.trans (Sole.of_below hb3 _)
              go_wp2_with fail
              go_roundw
              case rel => exact ⟨i + 1, by omega, by go_num, HX3, hS3⟩
              case measure => simp [Go.RowKit.intOf]; omega
            | false =>
              rw [hk] at hwn kI
              simp only [Bool.not_false, if_true] at hwn
              have HXN : Hid (∀ W, Below wr.heap.size wr W → XAt (W.setCell ⟨a.l, i, none⟩ (.bool false)) a (sweepJ s (intsOf lN) (i + 1))) := fun W hW => by
                show XAt _ a { s with now := sweepF s.now (intsOf lN), lt := wipeL (sweepF s.now (intsOf lN)) s.lt (i + 1) }
                rw [hwn]
                exact hPL W hW
              clear hPL hXW
              go_wp2_with fail
              refine kI.mono ?_
              rintro e w3 ⟨rfl, hb3⟩
              clear kI
              have HX3 : Hid _ := HXN.out w3 hb3
              have f3 := hd3 w3 hb3
              obtain ⟨x3, x4⟩ := hxl w3 hb3
              have hS3 : Sole [a.hm, a.l] w (w3.setCell ⟨a.l, i, none⟩ (.bool false)) := (HS.trans (Sole.of_below hb3 _)).trans (Sole.setCell _ _ (by simp))
              generalize (sweepJ s (intsOf lN) i).lt.getD i false = BB at *
              clear hd3 hxl
              go_wp2_with fail
              go_roundw
              case rel => exact ⟨i + 1, by omega, by go_num, HX3, hS3⟩
              case measure => simp [Go.RowKit.intOf]; omega
        · obtain rfl : i = m := by omega
          have hltI2 : ¬ (i : Int) < i := by omega
          obtain rfl := HSW.out
          go_wp2
          go_ret
          exact ⟨rfl, by rw [HFN.out]; exact HX.out, HS⟩

end Go.Proofs.YthgdbjpefjjeaaaGreat
