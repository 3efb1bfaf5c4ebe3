/- The contracts of slices.Delete of one snapshot, version's Close, Snapshot. -/
import Derived.Test.YtakifnlfgaedjaaVFind
import Derived.Deep.RegionLaw
import Derived.ArgAppend
import Derived.Deep.DeepAppendRoom
namespace Go.Proofs.Ytakifnlfgaedjaa
open Go.RowKit
set_option linter.unusedVariables false
set_option linter.unusedSimpArgs false
set_option maxRecDepth 4000

/-- 'clear(s)', s a part of a row, its elements of some cells each. -/
theorem run_clear_row (P : Program) (w : World) (t e ty : TypeId) (z : Value) (ht : P.underlying t = some (.slice e)) (hv : ∀ w, (zeroValue e).run P w = .ok z w) (g o n c : Nat) (cur : Array Value) (hn : 0 < n) (h1 : ∀ u ∈ (Builtin.zeroCells z.cells n).toList, u.oneCell' = true)
    (hg : w.heap[g]? = some (.cells cur e (0, 0))) (hfit : o + (Builtin.zeroCells z.cells n).toList.length ≤ cur.size) :
    (Builtin.clear_ #[t] ty #[.slice (some ⟨g, o, none⟩) n c]).run P w = .ok (.tuple #[]) (w.setRow g (cur.toList.take o ++ (Builtin.zeroCells z.cells n).toList ++ cur.toList.drop (o + (Builtin.zeroCells z.cells n).toList.length)).toArray) := by
  have hst := run_storeCells_at P g o e (Builtin.zeroCells z.cells n).toList 0 cur w hg (by simpa using hfit) h1
  simp only [Nat.add_zero] at hst
  obtain ⟨m, rfl⟩ : ∃ m, n = m + 1 := ⟨n - 1, by omega⟩
  simp [Builtin.clear_, run_underlying ht, hv]
  simp at hst
  rw [hst]
  rfl

/-- Both ways to say that a row's cells were stored are the same. -/
theorem setCells_row (P : Program) (w : World) (g o : Nat) (e : TypeId) (vs : List Value) (cur : Array Value) (hg : w.heap[g]? = some (.cells cur e (0, 0))) (hfit : o + vs.length ≤ cur.size) (h1 : ∀ u ∈ vs, u.oneCell' = true) :
    w.setCells g o vs = w.setRow g (cur.toList.take o ++ vs ++ cur.toList.drop (o + vs.length)).toArray := by
  have a1 := run_storeCells_at P g o e vs 0 cur w hg (by simpa using hfit) h1
  have a2 := run_storeCells_cells (P := P) g o vs 0 w (fun j hj => by rw [cell_of_row _ _ _ _ _ (0, 0) hg, Array.getElem?_eq_getElem (by omega)]; rfl) (fun j hj => frozen_of_row w g _ _ _ hg) h1
  rw [a1] at a2
  simp only [Nat.add_zero, Result.ok.injEq, true_and] at a2
  exact a2.symm

set_option maxHeartbeats 4000000 in
set_option maxRecDepth 100000 in
theorem del_any (w : World) (g i j d c : Nat) (hj : j = i + 1) (cur : Array Value) (hg : w.heap[g]? = some (.cells cur 64 (0, 0))) (hcs : cur.size = c * 4) (hn : d + j ≤ c) (hcm : c ≤ maxLen) (h1 : ∀ u ∈ cur.toList.take ((d + j) * 4), u.oneCell' = true) :
    Calls Try.prog 26 #[.slice (some ⟨g, 0, none⟩) (d + j) c, .int .i64 i, .int .i64 j] w fun e w' => e = .returned (.slice (some ⟨g, 0, none⟩) (i + d) c) ∧ ∃ cs, w'.heap[g]? = some (.cells cs 64 (0, 0)) ∧ cs.size = c * 4 ∧ cs.toList.take ((i + d) * 4) = cur.toList.take (i * 4) ++ (cur.toList.take ((d + j) * 4)).drop (j * 4) ∧ Sole [g] w w' := by
  unfold maxLen at hcm
  obtain ⟨iE, hiE, hz0, hz1, hz2⟩ := info_parts Try.infoSn
  obtain ⟨news, hnews⟩ : ∃ news, news = (cur.toList.take ((d + j) * 4)).drop (j * 4) := ⟨_, rfl⟩
  rw [← hnews]
  have hlen : news.length = d * 4 := by rw [hnews]; simp [hcs]; omega
  have hone : ∀ u ∈ news, u.oneCell' = true := fun u hu => h1 u (by rw [hnews] at hu; exact List.mem_of_mem_drop hu)
  have hget : ∀ t u, news[t]? = some u → cur[j * 4 + t]? = some u := by
    intro t u hu
    have ht := (List.getElem?_eq_some_iff.1 hu).1
    rw [hnews, List.getElem?_drop, List.getElem?_take, if_pos (by omega), Array.getElem?_toList] at hu
    exact hu
  have hgd : w.drew.heap[g]? = some (.cells cur 64 (0, 0)) := hg
  obtain ⟨A, hA, hsrc⟩ : ∃ A : Addr, (if c = j then some (⟨g, 0, none⟩ : Addr) else some ⟨g, j * 4, none⟩) = some A ∧ Hid (∀ t u, news[t]? = some u → w.drew.cell? (A.add t) = some u) := by
    by_cases h : c = j
    · refine ⟨⟨g, 0, none⟩, by simp [h], fun t u hu => ?_⟩
      have h0 : news.length = 0 := by rw [hlen]; omega
      rw [List.length_eq_zero_iff.1 h0] at hu
      simp at hu
    · refine ⟨⟨g, j * 4, none⟩, by simp [h], fun t u hu => ?_⟩
      rw [Addr.add_lit, cell_of_row _ _ _ _ _ (0, 0) hgd]
      exact hget t u hu
  have s1 : Hid (news.length = d * 4) := hlen
  have s2 : Hid (∀ u ∈ news, u.oneCell' = true) := hone
  have s3 : Hid (∀ t, t < news.length → (w.drew.cell? ⟨g, 0 + i * 4 + t, none⟩).isSome = true ∧ w.drew.frozen? ⟨g, 0 + i * 4 + t, none⟩ = false) := by
    intro t ht
    refine ⟨?_, frozen_of_row _ g _ _ _ hgd⟩
    rw [cell_of_row _ _ _ _ _ (0, 0) hgd, Array.getElem?_eq_getElem (by omega)]
    rfl
  obtain ⟨W1, hW1⟩ : ∃ W1, W1 = w.drew.setCells g (0 + i * 4) news := ⟨_, rfl⟩
  have hW1' : W1 = w.drew.setRow g (cur.toList.take (i * 4) ++ news ++ cur.toList.drop (i * 4 + d * 4)).toArray := by
    rw [hW1, setCells_row Try.prog w.drew g (0 + i * 4) _ news cur hgd (by omega) hone, hlen, Nat.zero_add]
  obtain ⟨cu1, hcu1⟩ : ∃ cu1, (cur.toList.take (i * 4) ++ news ++ cur.toList.drop (i * 4 + d * 4)).toArray = cu1 := ⟨_, rfl⟩
  have hti : (cur.toList.take (i * 4)).length = i * 4 := by simp [hcs]; omega
  have hcz1 : cu1.size = c * 4 := by rw [← hcu1]; simp only [List.size_toArray, List.length_append, List.length_drop, Array.length_toList, hlen, hti, hcs]; omega
  have hct1 : cu1.toList.take ((i + d) * 4) = cur.toList.take (i * 4) ++ news := by
    rw [← hcu1]
    show (cur.toList.take (i * 4) ++ news ++ cur.toList.drop (i * 4 + d * 4)).take ((i + d) * 4) = _
    rw [List.take_append_of_le_length (by rw [List.length_append, hti, hlen]; omega), List.take_of_length_le (by rw [List.length_append, hti, hlen]; omega)]
  rw [hcu1] at hW1'
  have hg1 : W1.heap[g]? = some (.cells cu1 64 (0, 0)) := by rw [hW1']; exact setRow_heap w.drew g cur _ _ _ hgd
  have hS1 : Sole [g] w W1 := by rw [hW1']; exact ⟨rfl, rfl, rfl, by simp, fun k _ hk => setRow_other w.drew g k _ (fun e => hk (by simp [e]))⟩
  have hzv : ∀ w, (zeroValue 64).run Try.prog w = .ok (Value.agg #[.int .i64 0, .int .u32 0, .int .u64 0, .int .i64 0]) w := by intro w; simp [zeroValue, typeInfo, hiE, hz0]
  have hzc : (Builtin.zeroCells (Value.agg #[.int .i64 0, .int .u32 0, .int .u64 0, .int .i64 0]).cells 1).toList = [.int .i64 0, .int .u32 0, .int .u64 0, .int .i64 0] := by kernel_rfl
  have hzo : ∀ u ∈ (Builtin.zeroCells (Value.agg #[.int .i64 0, .int .u32 0, .int .u64 0, .int .i64 0]).cells 1).toList, u.oneCell' = true := by
    rw [hzc]; intro u hu; simp at hu; rcases hu with rfl | rfl | rfl | rfl <;> rfl
  obtain ⟨W2, hW2⟩ : ∃ W2, W1.setRow g (cu1.toList.take ((i + d) * 4) ++ (Builtin.zeroCells (Value.agg #[.int .i64 0, .int .u32 0, .int .u64 0, .int .i64 0]).cells 1).toList ++ cu1.toList.drop ((i + d) * 4 + (Builtin.zeroCells (Value.agg #[.int .i64 0, .int .u32 0, .int .u64 0, .int .i64 0]).cells 1).toList.length)).toArray = W2 := ⟨_, rfl⟩
  have hcl : ∀ ty, (Builtin.clear_ #[60] ty #[.slice (some ⟨g, (i + d) * 4, none⟩) 1 (c - (i + d))]).run Try.prog W1 = .ok (.tuple #[]) W2 := fun ty => by
    rw [run_clear_row Try.prog W1 _ _ ty _ Try.underlying60 hzv g ((i + d) * 4) 1 (c - (i + d)) cu1 (by omega) hzo hg1 (by rw [hzc, hcz1]; simp; omega), hW2]
  have hg2 : ∃ cs, W2.heap[g]? = some (.cells cs 64 (0, 0)) ∧ cs.size = c * 4 ∧ cs.toList.take ((i + d) * 4) = cur.toList.take (i * 4) ++ news := by
    refine ⟨_, by rw [← hW2]; exact setRow_heap W1 g cu1 _ _ _ hg1, ?_, ?_⟩
    · simp only [List.size_toArray, List.length_append, List.length_take, List.length_drop, Array.length_toList, hzc, hcz1, List.length_cons, List.length_nil]; omega
    · rw [hct1]
      show (cur.toList.take (i * 4) ++ news ++ _ ++ _).take ((i + d) * 4) = _
      rw [List.append_assoc, List.take_append_of_le_length (by rw [List.length_append, hti, hlen]; omega), List.take_of_length_le (by rw [List.length_append, hti, hlen]; omega)]
  have hS2 : Sole [g] w W2 := by rw [← hW2]; exact hS1.trans ⟨rfl, rfl, rfl, by simp, fun k _ hk => setRow_other W1 g k _ (fun e => hk (by simp [e]))⟩
  have HW : Hid (W1 = w.drew.setCells g (0 + i * 4) news) := hW1
  have HG2 : Hid _ := hg2
  have HS2 : Hid _ := hS2
  have hjc : j ≤ c := by omega
  have hic : i ≤ c := by omega
  have hicI : (i : Int) ≤ (c : Int) := by omega
  have hijI : (i : Int) ≤ (j : Int) := by omega
  have hjI : (j : Int) ≤ (d : Int) + (j : Int) := by omega
  have hmc : (d : Int) + (j : Int) ≤ (c : Int) := by omega
  have hmd : (i : Int) + (d : Int) ≤ (d : Int) + (j : Int) := by omega
  have hne : ¬ ((i : Int) = (j : Int)) := by omega
  have hcm' : ¬ c = i + d := by omega
  have hcut : d + j - (i + d) = 1 := by omega
  have hcut2 : j - i = 1 := by omega
  have HJ : Hid (j = i + 1) := hj
  clear hj
  clear hW1 hW1' hg1 hg2 hS1 hS2 hnews hlen hget hone hgd hg h1 hcu1 hcz1 hct1 hzc hzo hzv hW2 hcs hti
  go_enter Try.func26, Try.ntmps26
  go_wp2_with fail
  go_region_law (refine step_append_room rfl (.tmp 22) (.tmp 25) 60 rfl 64 iE 4 Try.underlying60 hiE hz1 g 0 i c (by simp [Act.eval, Act.put]) A d (c - j) news (by simp [Act.eval, Act.put]) s1.out hsrc.out s2.out (by omega) s3.out ?_; rw [← HW.out])
  go_wp2_with fail
  go_ret
  obtain ⟨cs, k1, k2, k3⟩ := HG2.out
  exact ⟨by simp, cs, k1, k2, k3, HS2.out⟩

theorem take_flat4 : ∀ (K : List Sn) (j : Nat), j ≤ K.length → (K.flatMap snC).take (j * 4) = (K.take j).flatMap snC
  | K, 0, _ => by simp
  | [], j + 1, h => by simp at h
  | x :: K, j + 1, h => by
    rw [List.flatMap_cons, List.take_succ_cons, List.flatMap_cons, show (j + 1) * 4 = (snC x).length + j * 4 by show (j + 1) * 4 = 4 + j * 4; omega, List.take_append]
    rw [List.take_of_length_le (Nat.le_add_right _ _), Nat.add_sub_cancel_left, take_flat4 K j (by simpa using h)]
theorem drop_flat4 : ∀ (K : List Sn) (j : Nat), j ≤ K.length → (K.flatMap snC).drop (j * 4) = (K.drop j).flatMap snC
  | K, 0, _ => by simp
  | [], j + 1, h => by simp at h
  | x :: K, j + 1, h => by
    rw [List.flatMap_cons, show (j + 1) * 4 = (snC x).length + j * 4 by show (j + 1) * 4 = 4 + j * 4; omega, List.drop_append, List.drop_succ_cons]
    simp [drop_flat4 K j (by simpa using h)]
theorem len_flat4 (K : List Sn) : (K.flatMap snC).length = K.length * 4 := by
  induction K with
  | nil => rfl
  | cons x K ih => rw [List.flatMap_cons, List.length_append, ih]; show 4 + K.length * 4 = (K.length + 1) * 4; omega

set_option maxHeartbeats 1000000 in
theorem del_own {B : Nat} {w : World} {a : Option Addr} {c : Nat} {K : List Sn} (h : w.ownsRow B 64 4 (.slice a K.length c) K.length (K.flatMap snC)) (k : Nat) (hk : k < K.length) :
    Calls Try.prog 26 #[.slice a K.length c, .int .i64 k, .int .i64 ((k : Int) + 1)] w fun e w' => e = .returned (.slice a (K.length - 1) c) ∧ w'.ownsRow B 64 4 (.slice a (K.length - 1) c) (K.eraseIdx k).length ((K.eraseIdx k).flatMap snC) ∧ Sole (Value.slice a K.length c).ownBlock.toList w w' := by
  obtain ⟨hx, ⟨e, hn⟩ | ⟨g, cap, cur, e, hb, hg, h5, h6, h7, h8⟩⟩ := id h
  · omega
  · simp only [Value.slice.injEq, true_and] at e
    obtain ⟨rfl, rfl⟩ := e
    obtain ⟨d, hd⟩ : ∃ d, K.length = d + (k + 1) := ⟨K.length - k - 1, by omega⟩
    have hel : (K.eraseIdx k).length = k + d := by rw [List.length_eraseIdx_of_lt hk]; omega
    have cd := del_any w g k (k + 1) d c rfl cur hg h7 (by omega) h6 (fun u hu => by
      rw [← hd, h8] at hu
      obtain ⟨x, _, hx⟩ := List.mem_flatMap.1 hu
      simp [snC] at hx
      rcases hx with rfl | rfl | rfl | rfl <;> rfl)
    rw [← hd, h8, show (((k + 1 : Nat) : Nat) : Int) = (k : Int) + 1 from by omega] at cd
    rw [show K.length - 1 = k + d from by omega]
    refine cd.mono ?_
    rintro e w' ⟨rfl, cs, k1, k2, k3, k4⟩
    have ht : cur.toList.take (k * 4) = (K.take k).flatMap snC := by
      have := congrArg (List.take (k * 4)) h8
      rw [List.take_take, Nat.min_eq_left (by omega), take_flat4 K k (by omega)] at this
      exact this
    have hE : cur.toList.take (k * 4) ++ (K.flatMap snC).drop ((k + 1) * 4) = (K.eraseIdx k).flatMap snC := by
      rw [ht, drop_flat4 K (k + 1) (by omega), ← List.flatMap_append, ← List.eraseIdx_eq_take_drop_succ]
    rw [hE] at k3
    refine ⟨rfl, ⟨by rw [len_flat4], .inr ⟨g, c, cs, by rw [hel], hb, k1, by omega, h6, k2, by rw [hel]; exact k3⟩⟩, k4⟩

def hasR (s : Rg) (id : Int) : Bool := s.opn.any (fun x => decide ((x.id : Int) = id))
/-- Behind Close. -/
def closeR (s : Rg) (id : Int) : Rg := ⟨s.t, s.base, s.last, s.opn.filter (fun x => !decide ((x.id : Int) = id))⟩
def closeE (s : Rg) (id : Int) : Int := if hasR s id then 0 else 4

theorem erase_filter : ∀ (K : List Sn) (k : Nat) (x : Sn), K.Pairwise (fun a b => a.id < b.id) → K[k]? = some x → K.eraseIdx k = K.filter (fun y => !decide ((y.id : Int) = x.id))
  | [], k, x, _, h => by simp at h
  | y :: K, 0, x, hr, h => by
    simp only [List.getElem?_cons_zero, Option.some.injEq] at h
    subst h
    obtain ⟨h1, _⟩ := List.pairwise_cons.1 hr
    rw [List.eraseIdx_cons_zero, List.filter_cons_of_neg (by simp), List.filter_eq_self.2 (fun a ha => by have := h1 a ha; simp; omega)]
  | y :: K, k + 1, x, hr, h => by
    obtain ⟨h1, h2⟩ := List.pairwise_cons.1 hr
    have h : K[k]? = some x := by simpa using h
    have := h1 x (List.mem_of_getElem? h)
    rw [List.eraseIdx_cons_succ, List.filter_cons_of_pos (by simp; omega), erase_filter K k x h2 h]

theorem close_ok {s : Rg} (h : RgOk s) (id : Int) : RgOk (closeR s id) :=
  ⟨h.rise.filter _, fun x hx => h.ids x ((List.mem_filter.1 hx).1), h.most⟩
theorem hasR_yes {s : Rg} {id : Int} {k : Nat} {x : Sn} (h : s.opn[k]? = some x) (e : (x.id : Int) = id) : hasR s id = true := by
  unfold hasR; rw [List.any_eq_true]; exact ⟨x, List.mem_of_getElem? h, by simp [e]⟩
theorem hasR_no {s : Rg} {id : Int} (h : ∀ x ∈ s.opn, ¬ (x.id : Int) = id) : hasR s id = false := by
  unfold hasR; rw [List.any_eq_false]; exact fun x hx => by simp [h x hx]

set_option maxHeartbeats 2000000 in
theorem close_any {B : Nat} {w : World} {p : Nat} {v : Value} {s : Rg} (h : RgAt B w p v s) (hk : RgOk s) (id : Int) : Calls Try.prog 12 #[ptrR p, .int .i64 id] w fun e w' => e = .returned (.int .i64 (closeE s id)) ∧ RgMoves B w w' p v (closeR s id) := by
  have cf := find_any h hk id
  have H : Hid (RgAt B w p v s) := h
  have HK : Hid (RgOk s) := hk
  obtain ⟨a, c, rfl⟩ := own_shape h.own
  have hap := h.apart
  unfold ptrR at *
  clear h hk
  go_enter Try.func12, Try.ntmps12
  go_wp2_with fail
  refine cf.mono ?_
  rintro e1 w1 ⟨hf, hb⟩
  clear cf
  have H1 : Hid (RgAt B w1 p (.slice a s.opn.length c) s) := H.out.below hb
  rcases hf with ⟨k, x, h1, h2, rfl⟩ | ⟨h1, k, rfl⟩
  · have hkl := (List.getElem?_eq_some_iff.1 h1).1
    have HE : Hid (closeE s id = 0) := by unfold Hid closeE; rw [hasR_yes h1 h2]; rfl
    have HR : Hid (s.opn.eraseIdx k = (closeR s id).opn) := by
      have := erase_filter s.opn k x HK.out.rise h1
      rw [h2] at this
      exact this
    have c5 : w1.cell? ⟨p, 5, none⟩ = some (.slice a s.opn.length c) := H1.out.cell 5 _ rfl
    have cd := del_own H1.out.own k hkl
    have hlm := HK.out.len
    have hmm := HK.out.most
    have hkI : ¬ ((k : Int) + 1 < -9223372036854775808) := by omega
    clear h1 h2
    go_wp2_with fail
    refine cd.mono ?_
    rintro e2 w2 ⟨rfl, ho, hS⟩
    clear cd c5
    have hnp : p ∉ (Value.slice a s.opn.length c).ownBlock.toList := by rw [Option.mem_toList]; intro e; exact (hap p e).1 rfl
    have hrow := (hS.block p H1.out.lt hnp).trans H1.out.row
    unfold rgC at hrow
    have z5 : w2.cell? ⟨p, 5, none⟩ = some (.slice a s.opn.length c) := by rw [cell_of_row _ _ 5 _ _ (0, 0) hrow]; rfl
    have f5 := frozen_of_row w2 p 5 _ _ hrow
    have g5 := heap_setCell_same w2 p 5 _ _ (.slice a (s.opn.length - 1) c) hrow
    simp only [List.setIfInBounds_toArray, List.set_cons_zero, List.set_cons_succ] at g5
    have HG : Hid _ := g5
    have HO : Hid _ := ho
    clear hrow g5 ho
    go_wp2
    go_ret
    have hS2 : Sole [p] w2 (w2.setCell ⟨p, 5, none⟩ (.slice a (s.opn.length - 1) c)) := Sole.setCell _ _ (by simp)
    have ho := HO.out
    rw [HR.out] at ho
    refine ⟨by rw [HE.out]; rfl, ⟨.slice a (s.opn.length - 1) c, ⟨HG.out, own_keep ho hS2.size (fun q hq hl => hS2.block q hl ?_)⟩, fun q hq => .inl (by rw [own_same a _ (s.opn.length - 1) c]; exact hq)⟩, ?_⟩
    · rw [own_same a _ s.opn.length c] at hq
      have := (hap q hq).1
      simpa using this
    · exact (((Sole.of_below hb _).trans (hS.mono (fun q hq => List.mem_cons_of_mem _ hq))).trans (hS2.mono (by simp)))
  · have HE : Hid (closeE s id = 4) := by unfold Hid closeE; rw [hasR_no h1]; rfl
    have HR : Hid (closeR s id = s) := by
      unfold Hid closeR
      rw [List.filter_eq_self.2 (fun x hx => by simp [h1 x hx])]
    clear h1
    go_wp2
    go_ret
    exact ⟨by rw [HE.out]; rfl, ⟨_, by rw [HR.out]; exact H1.out, fun q hq => .inl hq⟩, Sole.of_below hb _⟩

/-- What a snapshot sees. -/
def seesR (s : Rg) (id : Int) : Option Tr := (s.opn.find? (fun x => decide ((x.id : Int) = id))).map (·.t)
def snapV (o : Option Tr) : Value := match o with
  | some t => .tuple #[.int .u32 t.root, .int .u64 t.ver, .int .i64 0]
  | none => .tuple #[.int .u32 0, .int .u64 0, .int .i64 4]

theorem sees_yes {s : Rg} (hr : s.opn.Pairwise (fun a b => a.id < b.id)) {id : Int} {k : Nat} {x : Sn} (h : s.opn[k]? = some x) (e : (x.id : Int) = id) : seesR s id = some x.t := by
  unfold seesR
  generalize s.opn = K at *
  induction K generalizing k with
  | nil => simp at h
  | cons y K ih =>
    obtain ⟨h1, h2⟩ := List.pairwise_cons.1 hr
    cases k with
    | zero =>
      simp only [List.getElem?_cons_zero, Option.some.injEq] at h
      subst h
      simp [List.find?_cons, e]
    | succ k =>
      have h : K[k]? = some x := by simpa using h
      have := h1 x (List.mem_of_getElem? h)
      rw [List.find?_cons_of_neg (by simp; omega)]
      exact ih h2 h
theorem sees_no {s : Rg} {id : Int} (h : ∀ x ∈ s.opn, ¬ (x.id : Int) = id) : seesR s id = none := by
  unfold seesR
  rw [List.find?_eq_none.2 (fun x hx => by simp [h x hx])]
  rfl

set_option maxHeartbeats 2000000 in
theorem snapshot_any {B : Nat} {w : World} {p : Nat} {v : Value} {s : Rg} (h : RgAt B w p v s) (hk : RgOk s) (id : Int) : Calls Try.prog 22 #[ptrR p, .int .i64 id] w fun e w' => e = .returned (snapV (seesR s id)) ∧ Below w.heap.size w w' := by
  have cf := find_any h hk id
  have H : Hid (RgAt B w p v s) := h
  have HK : Hid (RgOk s) := hk
  obtain ⟨a, c, rfl⟩ := own_shape h.own
  unfold ptrR at *
  clear h hk
  go_enter Try.func22, Try.ntmps22
  go_wp2_with fail
  refine cf.mono ?_
  rintro e1 w1 ⟨hf, hb⟩
  clear cf
  have H1 : Hid (RgAt B w1 p (.slice a s.opn.length c) s) := H.out.below hb
  rcases hf with ⟨k, x, h1, h2, rfl⟩ | ⟨h1, k, rfl⟩
  · have hkl := (List.getElem?_eq_some_iff.1 h1).1
    have HE : Hid (seesR s id = some x.t) := sees_yes HK.out.rise h1 h2
    have c5 : w1.cell? ⟨p, 5, none⟩ = some (.slice a s.opn.length c) := H1.out.cell 5 _ rfl
    obtain ⟨g, cap, hv, hcl, hcm, _, hgl, hcell⟩ := own_sns H1.out.own (by omega)
    simp only [Value.slice.injEq, true_and] at hv
    obtain ⟨rfl, rfl⟩ := hv
    unfold maxLen at hcm
    obtain ⟨xi, ⟨xr, xv, xc⟩⟩ := x
    have d1 : w1.cell? ⟨g, k * 4 + 1, none⟩ = some (.int .u32 xr) := hcell k _ h1 1 _ rfl
    have d2 : w1.cell? ⟨g, k * 4 + 2, none⟩ = some (.int .u64 xv) := hcell k _ h1 2 _ rfl
    have d3 : w1.cell? ⟨g, k * 4 + 3, none⟩ = some (.int .i64 xc) := hcell k _ h1 3 _ rfl
    have hkI : (k : Int) < s.opn.length := by omega
    clear h1 h2 hcell
    go_wp2_with fail
    go_quiet (fail)
    go_wp2
    go_returns
    rw [HE.out]
    exact ⟨by simp [snapV], (hb.alloc hb.size _).trans (belowQ _ _ _)⟩
  · have HE : Hid (seesR s id = none) := sees_no h1
    clear h1
    go_wp2
    go_returns
    rw [HE.out]
    exact ⟨by simp [snapV], hb⟩

end Go.Proofs.Ytakifnlfgaedjaa
