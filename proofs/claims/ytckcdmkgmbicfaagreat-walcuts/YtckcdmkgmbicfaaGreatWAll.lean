/- The records that a statement keeps itself; a disk's Arm, On and Cut beneath a log. -/
import Derived.Test.YtckcdmkgmbicfaaGreatMW11
import Derived.Test.YtckcdmkgmbicfaaGreatMW12
import Derived.Maps.AppendAt
namespace Go.Proofs.YtckcdmkgmbicfaaGreat
open Go.RowKit
set_option linter.unusedVariables false
set_option linter.unusedSimpArgs false
set_option maxRecDepth 4000

theorem arm_v {B : Nat} {X : List Nat} {w : World} {q p : Nat} {f : Int} {N : Nat} {arm : Bool} {nx dn : Nat} {rs : List Rc} (h : LogV B X w q p f N arm nx dn rs) (n : Int) (h0 : 0 ≤ n) (h1 : n ≤ 9223372036854775807) (mask : ByteArray) (hmask : mask.size ≤ maxLen) :
    Calls Tryz.prog 19 #[ptr p, .int .i64 n, .string mask] w fun e w' => e = .returned (.tuple #[]) ∧ KeepX B X w w' ∧ LogV B X w' q p f N true nx dn rs := by
  obtain ⟨s, l, T, K, New, G, D, hi, h2, rfl, rfl, rfl⟩ := h
  obtain ⟨bs, bp, tv, fv, h4, h5, h6, h7, h8⟩ := hi.at_
  refine (disk_Arm h5 n (by omega) h1 mask hmask).mono ?_
  rintro e w' ⟨rfl, hd, hS, _⟩
  have ea : armSt s n mask = { s with armed := true, left := n, mask := mask } := by unfold armSt; rw [hi.on.on]; simp [h0]
  rw [ea] at hd
  have hS3 : Sole [p, bs, bp] w w' := hS.mono (fun k hk => by simp only [List.mem_singleton] at hk; rw [hk]; simp)
  obtain ⟨t1, t2⟩ := LogIn.turn h4 hi.lq hi.lp h6 h7 h8 hi.xs (h4.disk h5 hS3) hd (fun k hk => .inl hk) (fun k hk => .inl hk) (hS3.mono (fun k hk => List.mem_append_left _ hk))
  exact ⟨rfl, t2, _, l, T, K, New, G, D, ⟨t1, hi.lq, hi.lp, Nat.le_trans hi.sz t2.size, fun k hk => Nat.lt_of_lt_of_le (hi.xs k hk) t2.size, ⟨hi.on.on, hi.on.f0, hi.on.fn⟩, hi.run, hi.hD, hi.n4, hi.n1⟩, rfl, rfl, rfl, rfl⟩

theorem on_v {B : Nat} {X : List Nat} {w : World} {q p : Nat} {f : Int} {N : Nat} {arm : Bool} {nx dn : Nat} {rs : List Rc} (h : LogV B X w q p f N arm nx dn rs) : Calls Tryz.prog 21 #[ptr p] w fun e w' => e = .returned (.bool true) ∧ w' = w := by
  obtain ⟨s, l, T, K, New, G, D, hi, _⟩ := h
  obtain ⟨bs, bp, tv, fv, h4, h5, _⟩ := hi.at_
  have := disk_On h5
  rw [hi.on.on] at this
  exact this
theorem on_left {B : Nat} {X : List Nat} {w : World} {p : Nat} {f : Int} {N : Nat} {off arm : Bool} {M fr nx : Nat} {rs : List Rc} (h : LeftV B X w p f N off arm M fr nx rs) : Calls Tryz.prog 21 #[ptr p] w fun e w' => e = .returned (.bool (!off)) ∧ w' = w := by
  obtain ⟨bs, bp, s, U, G, D, hd, hp, h1, h2, hX, hz, hxs, hoff, hr⟩ := h
  have := disk_On hd
  rw [hoff] at this
  exact this
theorem cut_left_v {B : Nat} {X : List Nat} {w : World} {p : Nat} {f : Int} {N : Nat} {arm : Bool} {M fr nx : Nat} {rs : List Rc} (h : LeftV B X w p f N true arm M fr nx rs) (mask : ByteArray) : Calls Tryz.prog 10 #[ptr p, .string mask] w fun e w' => e = .returned (.tuple #[]) ∧ w' = w := by
  obtain ⟨bs, bp, s, U, G, D, hd, hp, h1, h2, hX, hz, hxs, hoff, hr⟩ := h
  exact disk_Cut_off hd mask hoff
theorem LeftV.below {B : Nat} {X : List Nat} {w w' : World} {p : Nat} {f : Int} {N : Nat} {off arm : Bool} {M fr nx : Nat} {rs : List Rc} (h : LeftV B X w p f N off arm M fr nx rs) (hb : Below w.heap.size w w') (X' : List Nat) (hX' : ∀ k ∈ X', (k ∈ X ∨ w.heap.size ≤ k) ∧ k < w'.heap.size) : LeftV B X' w' p f N off arm M fr nx rs := by
  obtain ⟨bs, bp, s, U, G, D, hd, hp, h1, h2, hX, hz, hxs, hr⟩ := h
  have hlt := hd.lt
  have hsz := hb.size
  refine ⟨bs, bp, s, U, G, D, hd.below hb, hp, h1, h2, fun k hk hx => ?_, by omega, fun k hk => (hX' k hk).2, hr⟩
  rcases (hX' k hx).1 with e | e
  · exact hX k hk e
  · simp only [List.mem_cons, List.mem_nil_iff, or_false] at hk
    rcases hk with rfl | rfl | rfl <;> omega

/-- A row of records that is the statement's own; their texts lie in the blocks of BG. -/
structure AllAt (base : Nat) (w : World) (v : Value) (BG : List Nat) (rs : List Rc) (gs : List Value) : Prop where
  len : gs.length = rs.length
  own : w.ownsRow base 62 2 v rs.length ((rs.zip gs).flatMap fun p => [.int .u64 p.1.num, p.2])
  each : ∀ (i : Nat) (r : Rc) (g : Value), rs[i]? = some r → gs[i]? = some g → RdT BG w g r.grp
  dis : ∀ k ∈ BG, v.ownBlock ≠ some k
  lt : ∀ k ∈ BG, k < w.heap.size

theorem AllAt.nil (base : Nat) (w : World) : AllAt base w (.slice none 0 0) [] [] [] := ⟨rfl, World.ownsRow_nil _ _ _ _, (fun i r g h => by cases h), (fun k hk => by cases hk), fun k hk => by cases hk⟩
theorem AllAt.keep {base : Nat} {w w' : World} {v : Value} {BG : List Nat} {rs : List Rc} {gs : List Value} (h : AllAt base w v BG rs gs) (hs : w.heap.size ≤ w'.heap.size) (hb : ∀ k, k ∈ BG ∨ v.ownBlock = some k → k < w.heap.size → w'.heap[k]? = w.heap[k]?) : AllAt base w' v BG rs gs :=
  ⟨h.len, own_keep h.own hs (fun q hq hl => hb q (.inr hq) hl), fun i r g hr hg => (h.each i r g hr hg).keep hs (fun k hk hl => hb k (.inl hk) hl), h.dis, fun k hk => Nat.lt_of_lt_of_le (h.lt k hk) hs⟩

/-- More texts. -/
theorem AllAt.more {base : Nat} {w : World} {v : Value} {BG : List Nat} {rs : List Rc} {gs : List Value} (h : AllAt base w v BG rs gs) (BG' : List Nat) (hd : ∀ k ∈ BG', v.ownBlock ≠ some k) (hl : ∀ k ∈ BG', k < w.heap.size) : AllAt base w v (BG ++ BG') rs gs :=
  ⟨h.len, h.own, fun i r g hr hg => (h.each i r g hr hg).mono (fun k hk => List.mem_append_left _ hk), fun k hk => by rcases List.mem_append.1 hk with e | e; exact h.dis k e; exact hd k e, fun k hk => by rcases List.mem_append.1 hk with e | e; exact h.lt k e; exact hl k e⟩

theorem flatA : ∀ (rs : List Rc) (gs : List Value) (i : Nat) (r : Rc) (g : Value), rs[i]? = some r → gs[i]? = some g → ((rs.zip gs).flatMap fun p => [Value.int .u64 p.1.num, p.2])[i * 2]? = some (.int .u64 r.num) ∧ ((rs.zip gs).flatMap fun p => [Value.int .u64 p.1.num, p.2])[i * 2 + 1]? = some g
  | [], _, i, r, g, h, _ => by simp at h
  | x :: rs, [], i, r, g, _, h => by simp at h
  | x :: rs, y :: gs, 0, r, g, h, h' => by
    simp at h h'
    subst h h'
    exact ⟨rfl, rfl⟩
  | x :: rs, y :: gs, i + 1, r, g, h, h' => by
    have ih := flatA rs gs i r g (by simpa using h) (by simpa using h')
    rw [List.zip_cons_cons, List.flatMap_cons]
    have e1 : (i + 1) * 2 = (i * 2) + 1 + 1 := by omega
    have e2 : (i + 1) * 2 + 1 = (i * 2 + 1) + 1 + 1 := by omega
    rw [e2, e1]
    exact ih
theorem AllAt.rdR {base : Nat} {w : World} {v : Value} {BG : List Nat} {rs : List Rc} {gs : List Value} (h : AllAt base w v BG rs gs) : RdR (ownB v ++ BG) w v rs := by
  obtain ⟨hx, ⟨e, hn⟩ | ⟨g, cap, cur, e, hb, hgc, h5, h6, h7, h8⟩⟩ := id h.own
  · obtain rfl : rs = [] := List.eq_nil_of_length_eq_zero hn
    rw [e]
    exact ⟨none, 0, rfl, Nat.le_refl _, Nat.zero_le _, fun _ => rfl, fun h => by cases h⟩
  · refine ⟨some ⟨g, 0, none⟩, cap, e, h5, h6, (by intro z; cases z), fun hp => ⟨g, 0, rfl, (Array.getElem?_eq_some_iff.1 hgc).1, List.mem_append_left _ (by rw [e]; simp [ownB, Value.ownBlock]), fun i r hr => ?_⟩⟩
    have hi := (List.getElem?_eq_some_iff.1 hr).1
    have hig : i < gs.length := by rw [h.len]; exact hi
    have hg : gs[i]? = some gs[i] := List.getElem?_eq_getElem hig
    obtain ⟨f1, f2⟩ := flatA rs gs i r _ hr hg
    rw [← h8, List.getElem?_take_of_lt (by omega)] at f1 f2
    rw [Nat.zero_add]
    refine ⟨by rw [cell_of_row _ _ _ _ _ (0, 0) hgc, ← Array.getElem?_toList]; exact f1, _, by rw [cell_of_row _ _ _ _ _ (0, 0) hgc, ← Array.getElem?_toList]; exact f2, (h.each i r _ hr hg).mono (fun k hk => List.mem_append_right _ hk)⟩

theorem wpList_append_all {w : World} {ops : Array Oper} {rest : List Oper} {o : Oper} {a : Act} {Q : Exit → Act → World → Prop} (hgd : o.guard = none) (s x : Operand)
    (ho : o.op = .call { callee := .builtin .append, args := #[s, x], argTypes := #[39, 39] })
    (base : Nat) (v : Value) (BG : List Nat) (rs : List Rc) (gs : List Value) (hs : a.eval s = v) (hA : AllAt base w v BG rs gs) (g num : Nat) (gv : Value) (grp : List ByteArray) (hx : a.eval x = .slice (some ⟨g, 0, none⟩) 1 1) (hg : w.heap[g]? = some (.cells #[.int .u64 num, gv] 62 (0, 0))) (hgv : RdT BG w gv grp) (hlen : rs.length ≤ 1000) (hbase : base ≤ w.heap.size)
    (h : ∀ v' w', AllAt base w' v' BG (rs ++ [⟨num, grp⟩]) (gs ++ [gv]) → w.grownBy w' v.ownBlock → (∀ k, v'.ownBlock = some k → v.ownBlock = some k ∨ w.heap.size ≤ k) → wpList Tryz.prog ops Q rest (a.put o.dst v') w') : wpList Tryz.prog ops Q (o :: rest) a w := by
  obtain ⟨iI, hii, hi0, hi1, hi2⟩ := info_partsR
  obtain ⟨ga, gc, hgs, _⟩ := id hgv
  refine wpList_append_own_at w hgd s x 39 ho base 62 iI _ 2 32 Tryz.underlying39 hii hi0 hi1 hi2 rfl (by decide) v rs.length _ hs hA.own ⟨g, 0, none⟩ 1 1 [.int .u64 num, gv] hx rfl ?_ ?_ ?_ ?_ hbase ?_
  · intro j u hj
    have hadd : (⟨g, 0, none⟩ : Addr).add j = ⟨g, j, none⟩ := by unfold Addr.add; split <;> simp_all
    rw [hadd, cell_of_row _ _ _ _ _ (0, 0) hg, ← Array.getElem?_toList]
    exact hj
  · intro u hu
    simp at hu
    rcases hu with rfl | rfl
    · rfl
    · rw [hgs]; rfl
  · unfold maxLen; omega
  · omega
  · intro v' w' ho' hgr _ hown'
    have hkeep : ∀ k ∈ BG, w'.heap[k]? = w.heap[k]? := fun k hk => hgr.block k (hA.lt k hk) (fun e => hA.dis k hk e.symm)
    refine h v' w' ⟨by rw [List.length_append, List.length_append, hA.len]; rfl, ?_, fun i r g2 hr hg2 => ?_, fun k hk e => ?_, fun k hk => Nat.lt_of_lt_of_le (hA.lt k hk) hgr.size⟩ hgr (fun k hk => ?_)
    · rw [List.length_append, List.zip_append hA.len.symm, List.flatMap_append]
      exact ho'
    · by_cases hi : i < rs.length
      · rw [List.getElem?_append_left hi] at hr
        rw [List.getElem?_append_left (by rw [hA.len]; exact hi)] at hg2
        exact (hA.each i r g2 hr hg2).keep hgr.size (fun k hk _ => hkeep k hk)
      · have hi2 := (List.getElem?_eq_some_iff.1 hr).1
        rw [List.length_append] at hi2
        have e : i = rs.length := by simp at hi2; omega
        subst e
        rw [List.getElem?_append_right (Nat.le_refl _), Nat.sub_self] at hr
        rw [List.getElem?_append_right (by rw [hA.len]; exact Nat.le_refl _), hA.len, Nat.sub_self] at hg2
        simp at hr hg2
        subst hr hg2
        exact hgv.keep hgr.size (fun k hk _ => hkeep k hk)
    · rcases hown' with z | z
      · rw [z] at e; exact hA.dis k hk e
      · rw [z] at e; simp only [Option.some.injEq] at e; have := hA.lt k hk; omega
    · rcases hown' with z | z
      · left; rw [← z]; exact hk
      · right; rw [z] at hk; simp only [Option.some.injEq] at hk; omega

/-- The blocks that are held beside a log for such a row. -/
def xaL (B : Nat) (v : Value) (BG : List Nat) : List Nat := ownB v ++ BG.filter fun k => decide (B ≤ k)
theorem mem_ownB {v : Value} {k : Nat} : k ∈ ownB v ↔ v.ownBlock = some k := by
  unfold ownB
  cases v.ownBlock <;> simp [eq_comm]
theorem xaL_mem {B : Nat} {v : Value} {BG : List Nat} {k : Nat} : k ∈ xaL B v BG ↔ v.ownBlock = some k ∨ (k ∈ BG ∧ B ≤ k) := by
  unfold xaL
  rw [List.mem_append, mem_ownB, List.mem_filter]
  simp
theorem AllAt.keepX {B : Nat} {w w' : World} {v : Value} {BG : List Nat} {rs : List Rc} {gs : List Value} (h : AllAt B w v BG rs gs) (hk : KeepX B (xaL B v BG) w w') : AllAt B w' v BG rs gs :=
  h.keep hk.size (fun k hkk hl => hk.block k hl (by
    rcases hkk with e | e
    · by_cases hb : k < B
      · exact .inl hb
      · exact .inr (xaL_mem.2 (.inr ⟨e, by omega⟩))
    · exact .inr (xaL_mem.2 (.inl e))))
theorem AllAt.below {B : Nat} {w w' : World} {v : Value} {BG : List Nat} {rs : List Rc} {gs : List Value} (h : AllAt B w v BG rs gs) (hb : Below w.heap.size w w') : AllAt B w' v BG rs gs := h.keep hb.size (fun k _ hl => hb.block k hl)
theorem AllAt.typed {B : Nat} {w : World} {v : Value} {BG : List Nat} {rs : List Rc} {gs : List Value} (h : AllAt B w v BG rs gs) : ∀ k ∈ v.ownBlock.toList, ∃ cs t fr, w.heap[k]? = some (.cells cs t fr) ∧ t ≠ 69 ∧ t ≠ 77 ∧ t ≠ 94 ∧ t ≠ 84 ∧ t ≠ 3 := fun k hk => by
  rw [Option.mem_toList] at hk
  obtain ⟨_, ⟨e, _⟩ | ⟨g, c, cur, e, _, hg, _⟩⟩ := h.own
  · rw [e] at hk; cases hk
  · rw [e] at hk
    simp only [Value.ownBlock, Option.some.injEq] at hk
    subst hk
    exact ⟨cur, _, _, hg, by decide, by decide, by decide, by decide, by decide⟩
theorem AllAt.ownlt {B : Nat} {w : World} {v : Value} {BG : List Nat} {rs : List Rc} {gs : List Value} (h : AllAt B w v BG rs gs) : ∀ k, v.ownBlock = some k → B ≤ k ∧ k < w.heap.size := fun k hk => World.ownsRow.lt h.own k hk

theorem LeftV.grow {B : Nat} {X : List Nat} {w w' : World} {p : Nat} {f : Int} {N : Nat} {off arm : Bool} {M fr nx : Nat} {rs : List Rc} (h : LeftV B X w p f N off arm M fr nx rs) {S : List Nat} (hS : Sole S w w') (hk : ∀ k ∈ S, ∃ cs t fr, w.heap[k]? = some (.cells cs t fr) ∧ t ≠ 69) (X' : List Nat) (hX' : ∀ k ∈ X', (k ∈ X ∨ w.heap.size ≤ k) ∧ k < w'.heap.size) : LeftV B X' w' p f N off arm M fr nx rs := by
  obtain ⟨bs, bp, s, U, G, D, hd, hp, h1, h2, hX, hz, hxs, hr⟩ := h
  have hdS : ∀ k ∈ [p, bs, bp], k ∉ S := fun k hkk hm => by
    obtain ⟨cs, t, fr, hc, t1⟩ := hk k hm
    exact not_disk hd hc t1 hkk
  have hsz := hS.size
  have hlt := hd.lt
  refine ⟨bs, bp, s, U, G, D, hd.other hS (hdS p (by simp)) (hdS bs (by simp)) (hdS bp (by simp)), hp, h1, h2, fun k hk hx => ?_, by omega, fun k hk => (hX' k hk).2, hr⟩
  rcases (hX' k hx).1 with e | e
  · exact hX k hk e
  · simp only [List.mem_cons, List.mem_nil_iff, or_false] at hk
    rcases hk with rfl | rfl | rfl <;> omega

end Go.Proofs.YtckcdmkgmbicfaaGreat
