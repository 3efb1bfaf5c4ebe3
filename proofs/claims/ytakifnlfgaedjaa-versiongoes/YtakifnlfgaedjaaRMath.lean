/- What both registries have in common, and that every call keeps it. -/
import Derived.Test.YtakifnlfgaedjaaROpen
import Derived.Test.YtakifnlfgaedjaaRNext
import Derived.Test.YtakifnlfgaedjaaRClose
import Derived.Test.YtakifnlfgaedjaaRRead
import Derived.Test.YtakifnlfgaedjaaRKept
namespace Go.Proofs.Ytakifnlfgaedjaa
open Go.RowKit
set_option linter.unusedVariables false
set_option linter.unusedSimpArgs false
set_option maxRecDepth 4000

def sfOf (y : Sn) : Sf := ⟨y.id, y.t.root, y.t.ver⟩
def offN (first v : Int) : Nat := (offI first v).toNat

/-- A version stands at its place in the row of what each one changed. -/
def StandsAt (x : Rf) (ver chg : Int) : Prop := 0 ≤ ver ∧ ver < 18446744073709551616 ∧ offN x.first ver ≤ x.pl.length ∧ chg = (x.pl.take (offN x.first ver)).sum

structure Both (k : Nat) (s : Rg) (x : Rf) : Prop where
  ok : RgOk s
  last : s.last ≤ k
  most : k ≤ 150
  root : x.root = s.t.root
  ver : x.ver = s.t.ver
  f0 : 0 ≤ x.first
  f1 : x.first < 18446744073709551616
  pll : x.pl.length ≤ k
  plv : ∀ v ∈ x.pl, 0 ≤ v ∧ v < 100000
  trunk : StandsAt x s.t.ver s.t.chg
  off : offN x.first s.t.ver = x.pl.length
  len : x.l.length = s.last
  ids : ∀ (i : Nat) (y : Sf), x.l[i]? = some y → y.id = 0 ∨ y.id = i + 1
  opn : openL x.l = s.opn.map sfOf
  stand : ∀ y ∈ s.opn, StandsAt x y.t.ver y.t.chg
  rise : s.opn.Pairwise (fun a b => offN x.first a.t.ver ≤ offN x.first b.t.ver)
  base : StandsAt x x.base s.base

theorem both_new (root ver : Int) (h0 : 0 ≤ ver) (h1 : ver < 18446744073709551616) : Both 0 (newR root ver) (newX root ver) := by
  have e : offN ver ver = 0 := by unfold offN offI; simp
  have hs : StandsAt (newX root ver) ver 0 := ⟨h0, h1, by show offN ver ver ≤ 0; omega, by simp [newX]⟩
  exact ⟨new_ok _ _, Nat.le_refl _, by decide, rfl, rfl, h0, h1, Nat.le_refl _, (fun v hv => by cases hv), hs, e, rfl, (fun i y h => by simp [newX] at h), rfl, (fun y hy => by cases hy), List.Pairwise.nil, hs⟩

theorem both_mono {k : Nat} {s : Rg} {x : Rf} (h : Both k s x) (hk : k + 1 ≤ 150) : Both (k + 1) s x :=
  ⟨h.ok, Nat.le_succ_of_le h.last, hk, h.root, h.ver, h.f0, h.f1, Nat.le_succ_of_le h.pll, h.plv, h.trunk, h.off, h.len, h.ids, h.opn, h.stand, h.rise, h.base⟩

theorem both_open {k : Nat} {s : Rg} {x : Rf} (h : Both k s x) (hk : k + 1 ≤ 150) : Both (k + 1) (openR s) (openX x) := by
  have hl := h.last
  refine ⟨open_ok h.ok (by omega), by show s.last + 1 ≤ k + 1; omega, hk, h.root, h.ver, h.f0, h.f1, Nat.le_succ_of_le h.pll, h.plv, h.trunk, h.off, ?_, ?_, ?_, ?_, ?_, h.base⟩
  · show (x.l ++ [_]).length = s.last + 1
    rw [List.length_append, h.len]; rfl
  · intro i y hy
    have hy : (x.l ++ [(⟨x.l.length + 1, x.root, x.ver⟩ : Sf)])[i]? = some y := hy
    rcases Nat.lt_trichotomy i x.l.length with hi | hi | hi
    · rw [List.getElem?_append_left hi] at hy; exact h.ids i y hy
    · subst hi
      rw [List.getElem?_append_right (Nat.le_refl _), Nat.sub_self] at hy
      cases hy
      exact .inr rfl
    · rw [List.getElem?_eq_none (by rw [List.length_append]; simp; omega)] at hy; cases hy
  · show openL (x.l ++ [(⟨x.l.length + 1, x.root, x.ver⟩ : Sf)]) = (s.opn ++ [(⟨s.last + 1, s.t⟩ : Sn)]).map sfOf
    have ho := h.opn
    unfold openL at ho ⊢
    rw [List.filter_append, List.map_append, ho]
    simp [sfOf, h.len, h.root, h.ver]
  · intro y hy
    rcases List.mem_append.1 hy with hy | hy
    · exact h.stand y hy
    · simp only [List.mem_singleton] at hy; subst hy; exact h.trunk
  · show (s.opn ++ [(⟨s.last + 1, s.t⟩ : Sn)]).Pairwise (fun a b => offN x.first a.t.ver ≤ offN x.first b.t.ver)
    rw [List.pairwise_append]
    refine ⟨h.rise, List.pairwise_singleton _ _, fun a ha b hb => ?_⟩
    simp only [List.mem_singleton] at hb
    subst hb
    have := (h.stand a ha).2.2.1
    have := h.off
    show offN x.first a.t.ver ≤ offN x.first s.t.ver
    omega

theorem sum_take_le (l : List Int) (h : ∀ v ∈ l, 0 ≤ v ∧ v < 100000) (n : Nat) : 0 ≤ (l.take n).sum ∧ (l.take n).sum ≤ 100000 * l.length := by
  have h1 := sum_low (l.take n) (fun v hv => h v (List.mem_of_mem_take hv))
  have h2 : (l.take n).length ≤ l.length := by rw [List.length_take]; omega
  omega

theorem stands_next {x : Rf} {ver chg root n : Int} {V : Int} (h : StandsAt x ver chg) : StandsAt ⟨root, V, x.first, x.base, x.pl ++ [n], x.l⟩ ver chg := by
  obtain ⟨h1, h2, h3, h4⟩ := h
  refine ⟨h1, h2, by show offN x.first ver ≤ (x.pl ++ [n]).length; rw [List.length_append]; omega, ?_⟩
  show chg = ((x.pl ++ [n]).take (offN x.first ver)).sum
  rw [List.take_append_of_le_length h3]
  exact h4

theorem both_next {k : Nat} {s : Rg} {x : Rf} (h : Both k s x) (hk : k + 1 ≤ 150) (root f : Int) : Both (k + 1) (nextR s root (plN f)) (nextX x root (plN f)) := by
  unfold nextR nextX
  by_cases hn : plN f < 0
  · rw [if_pos hn, if_pos hn]; exact both_mono h hk
  rw [if_neg hn, if_neg hn]
  have hp : 0 ≤ plN f ∧ plN f < 100000 := by
    unfold plN at hn ⊢
    by_cases e : f < 0
    · rw [if_pos e] at hn; omega
    · rw [if_neg e]; omega
  obtain ⟨N, hN⟩ : ∃ N, plN f = N := ⟨_, rfl⟩
  rw [hN] at hp ⊢
  clear hn hN
  obtain ⟨t1, t2, t3, t4⟩ := h.trunk
  have hoff := h.off
  have hpll := h.pll
  have hf0 := h.f0
  have hf1 := h.f1
  have hv : offN x.first ((s.t.ver + 1) % 18446744073709551616) = x.pl.length + 1 := by
    unfold offN offI at hoff ⊢
    omega
  have hc : s.t.chg = x.pl.sum := by rw [t4, hoff, List.take_length]
  have hb := sum_low x.pl h.plv
  have hw : wrap64 (s.t.chg + N) = (x.pl ++ [N]).sum := by
    rw [hc, List.sum_append]
    simp only [List.sum_cons, List.sum_nil, Int.add_zero]
    unfold wrap64
    omega
  refine ⟨⟨h.ok.rise, h.ok.ids, h.ok.most⟩, Nat.le_succ_of_le h.last, hk, rfl, by show _ = _; rw [h.ver], h.f0, h.f1, ?_, ?_, ?_, ?_, h.len, h.ids, h.opn, fun y hy => stands_next (h.stand y hy), h.rise, stands_next h.base⟩
  · show (x.pl ++ [N]).length ≤ k + 1
    rw [List.length_append]; simp; omega
  · intro v hv
    rcases List.mem_append.1 hv with hv | hv
    · exact h.plv v hv
    · simp only [List.mem_singleton] at hv; subst hv; exact hp
  · refine ⟨by show 0 ≤ _ % _; omega, by show _ % _ < _; omega, ?_, ?_⟩
    · show offN x.first ((s.t.ver + 1) % 18446744073709551616) ≤ (x.pl ++ [N]).length
      rw [hv, List.length_append]; simp
    · show wrap64 (s.t.chg + N) = ((x.pl ++ [N]).take (offN x.first ((s.t.ver + 1) % 18446744073709551616))).sum
      rw [hv, hw, List.take_of_length_le (by rw [List.length_append]; simp)]
  · show offN x.first ((s.t.ver + 1) % 18446744073709551616) = (x.pl ++ [N]).length
    rw [hv, List.length_append]; rfl

theorem openL_set : ∀ (l : List Sf) (i : Nat) (y : Sf) (z : Nat), l[i]? = some y → (∀ (k : Nat) (u : Sf), l[k]? = some u → u.id = 0 ∨ u.id = z + k + 1) → y.id ≠ 0 → openL (l.set i ⟨0, y.root, y.ver⟩) = (openL l).filter (fun u => !decide (u.id = y.id))
  | [], i, y, z, h, _, _ => by simp at h
  | u :: l, 0, y, z, h, hi, h0 => by
    simp only [List.getElem?_cons_zero, Option.some.injEq] at h
    subst h
    have hu := hi 0 u rfl
    have hr : (openL l).filter (fun v => !decide (v.id = u.id)) = openL l := by
      refine List.filter_eq_self.2 (fun v hv => ?_)
      unfold openL at hv
      obtain ⟨hv1, hv2⟩ := List.mem_filter.1 hv
      obtain ⟨k, hk⟩ := List.mem_iff_getElem?.1 hv1
      have := hi (k + 1) v (by simpa using hk)
      have hv0 : ¬ v.id = 0 := by simpa using hv2
      have : ¬ v.id = u.id := by omega
      simp [this]
    show openL (⟨0, u.root, u.ver⟩ :: l) = (openL (u :: l)).filter _
    have e1 : openL (⟨0, u.root, u.ver⟩ :: l) = openL l := by unfold openL; simp
    have e2 : openL (u :: l) = u :: openL l := by unfold openL; simp [h0]
    rw [e1, e2, List.filter_cons_of_neg (by simp), hr]
  | u :: l, i + 1, y, z, h, hi, h0 => by
    have h' : l[i]? = some y := by simpa using h
    have ih := openL_set l i y (z + 1) h' (fun k v hk => by have := hi (k + 1) v (by simpa using hk); omega) h0
    have hu := hi 0 u rfl
    have hy := hi (i + 1) y h
    rw [List.set_cons_succ]
    unfold openL at ih ⊢
    by_cases hz : u.id = 0
    · rw [List.filter_cons_of_neg (by simp [hz]), List.filter_cons_of_neg (by simp [hz])]; exact ih
    · rw [List.filter_cons_of_pos (by simp [hz]), List.filter_cons_of_pos (by simp [hz]), List.filter_cons_of_pos (by simp; omega), ih]

theorem mem_open {s : Rg} {x : Rf} {k : Nat} (h : Both k s x) (y : Sf) : (y ∈ x.l ∧ y.id ≠ 0) ↔ ∃ z ∈ s.opn, sfOf z = y := by
  have ho := h.opn
  have : y ∈ openL x.l ↔ y ∈ s.opn.map sfOf := by rw [ho]
  unfold openL at this
  rw [List.mem_filter, List.mem_map] at this
  simpa using this

theorem has_open {s : Rg} {x : Rf} {k : Nat} (h : Both k s x) (id : Int) : hasR s id = true ↔ ∃ y ∈ x.l, (y.id : Int) = id ∧ id ≠ 0 := by
  unfold hasR
  rw [List.any_eq_true]
  constructor
  · rintro ⟨z, hz, hd⟩
    have hd : (z.id : Int) = id := by simpa using hd
    have h1 := h.ok.ids z hz
    obtain ⟨ym, y0⟩ := (mem_open h (sfOf z)).2 ⟨z, hz, rfl⟩
    exact ⟨sfOf z, ym, hd, by omega⟩
  · rintro ⟨y, hy, hd, h0⟩
    obtain ⟨z, hz, e⟩ := (mem_open h y).1 ⟨hy, by omega⟩
    refine ⟨z, hz, ?_⟩
    have : z.id = y.id := by rw [← e]; rfl
    simp [this, hd]

theorem both_close_yes {k : Nat} {s : Rg} {x : Rf} (h : Both k s x) (hk : k + 1 ≤ 150) {id : Int} {i : Nat} {y : Sf} (hy : x.l[i]? = some y) (hd : (y.id : Int) = id) (h0 : id ≠ 0) : Both (k + 1) (closeR s id) ⟨x.root, x.ver, x.first, x.base, x.pl, x.l.set i ⟨0, y.root, y.ver⟩⟩ := by
  refine ⟨close_ok h.ok id, Nat.le_succ_of_le h.last, hk, h.root, h.ver, h.f0, h.f1, Nat.le_succ_of_le h.pll, h.plv, h.trunk, h.off, ?_, ?_, ?_, ?_, ?_, h.base⟩
  · show (x.l.set i _).length = s.last
    rw [List.length_set]; exact h.len
  · intro j u hu
    have hu : (x.l.set i ⟨0, y.root, y.ver⟩)[j]? = some u := hu
    rw [List.getElem?_set] at hu
    split at hu
    · split at hu
      · cases hu; exact .inl rfl
      · cases hu
    · exact h.ids j u hu
  · show openL (x.l.set i ⟨0, y.root, y.ver⟩) = (s.opn.filter (fun u => !decide ((u.id : Int) = id))).map sfOf
    rw [openL_set x.l i y 0 hy (fun k u hk => by have := h.ids k u hk; omega) (by omega), h.opn, List.filter_map]
    congr 1
    refine List.filter_congr (fun u _ => ?_)
    show (!decide (u.id = y.id)) = _
    have : (u.id = y.id) ↔ ((u.id : Int) = id) := by omega
    simp [this]
  · intro u hu
    exact h.stand u (List.mem_filter.1 hu).1
  · exact h.rise.filter _

theorem both_close_no {k : Nat} {s : Rg} {x : Rf} (h : Both k s x) (hk : k + 1 ≤ 150) {id : Int} (hn : hasR s id = false) : Both (k + 1) (closeR s id) x := by
  have : closeR s id = s := by
    unfold closeR
    have : s.opn.filter (fun u => !decide ((u.id : Int) = id)) = s.opn := by
      refine List.filter_eq_self.2 (fun v hv => ?_)
      unfold hasR at hn
      rw [List.any_eq_false] at hn
      have := hn v hv
      simpa using this
    rw [this]
  rw [this]
  exact both_mono h hk

theorem foldl_min (first : Int) : ∀ (l : List Sf) (b : Int), hzL first b l = ((openL l).map (fun y => offI first y.ver)).foldl min b
  | [], b => rfl
  | y :: l, b => by
    unfold hzL
    rw [List.foldl_cons]
    by_cases e : y.id = 0
    · rw [if_pos e]
      have : openL (y :: l) = openL l := by unfold openL; simp [e]
      rw [this]
      exact foldl_min first l b
    · rw [if_neg e]
      have : openL (y :: l) = y :: openL l := by unfold openL; simp [e]
      rw [this, List.map_cons, List.foldl_cons]
      exact foldl_min first l _
theorem foldl_least : ∀ (l : List Int) (b : Int), (∀ v ∈ l, b ≤ v) → l.foldl min b = b
  | [], b, _ => rfl
  | v :: l, b, h => by
    rw [List.foldl_cons, Int.min_eq_left (h v List.mem_cons_self)]
    exact foldl_least l b (fun u hu => h u (List.mem_cons_of_mem _ hu))

theorem offI_nn (first v : Int) : 0 ≤ offI first v := by unfold offI; omega
theorem off_back {first v : Int} (h0 : 0 ≤ v) (h1 : v < 18446744073709551616) : (first + offI first v) % 18446744073709551616 = v := by unfold offI; omega

theorem hz_eq {k : Nat} {s : Rg} {x : Rf} (h : Both k s x) : hzX x = (eldT s).ver := by
  unfold hzX
  rw [foldl_min, h.opn, h.ver]
  have hoff := h.off
  have nn := offI_nn x.first s.t.ver
  unfold eldT
  cases ho : s.opn with
  | nil => exact off_back h.trunk.1 h.trunk.2.1
  | cons y K =>
    have hr := h.rise
    have hs := h.stand
    rw [ho] at hr hs
    have hy := hs y List.mem_cons_self
    have ny := offI_nn x.first y.t.ver
    rw [List.map_cons, List.map_cons, List.foldl_cons]
    have e : min (offI x.first s.t.ver) (offI x.first (sfOf y).ver) = offI x.first y.t.ver := by
      have := hy.2.2.1
      have : (sfOf y).ver = y.t.ver := rfl
      rw [this]
      unfold offN at *
      omega
    rw [e, foldl_least]
    · exact off_back hy.1 hy.2.1
    · intro v hv
      simp only [List.mem_map] at hv
      obtain ⟨u, ⟨z, hz, rfl⟩, rfl⟩ := hv
      have := (List.pairwise_cons.1 hr).1 z hz
      have : (sfOf z).ver = z.t.ver := rfl
      rw [this]
      have := offI_nn x.first z.t.ver
      unfold offN at *
      omega

theorem win_eq {k : Nat} {s : Rg} {x : Rf} (h : Both k s x) : winX x = winR s := by
  unfold winX winR
  obtain ⟨_, _, t3, t4⟩ := h.trunk
  obtain ⟨_, _, b3, b4⟩ := h.base
  have hc : s.t.chg = x.pl.sum := by rw [t4, h.off, List.take_length]
  rw [hc, b4]
  have e : x.pl.sum = (x.pl.take (offN x.first x.base)).sum + (x.pl.drop (offN x.first x.base)).sum := by rw [← List.sum_append, List.take_append_drop]
  have hb := sum_low x.pl h.plv
  have hb2 := sum_take_le x.pl h.plv (offN x.first x.base)
  have hb3 := sum_low (x.pl.drop (offN x.first x.base)) (fun v hv => h.plv v (List.mem_of_mem_drop hv))
  have hp := h.pll
  have hm := h.most
  show (x.pl.drop (offN x.first x.base)).sum = _
  unfold wrap64
  omega

theorem both_settle {k : Nat} {s : Rg} {x : Rf} (h : Both k s x) (hk : k + 1 ≤ 150) : Both (k + 1) (settleR s) ⟨x.root, x.ver, x.first, (eldT s).ver, x.pl, x.l⟩ := by
  have hs : StandsAt x (eldT s).ver (eldT s).chg := by
    unfold eldT
    cases ho : s.opn with
    | nil => exact h.trunk
    | cons y K => exact h.stand y (by rw [ho]; exact List.mem_cons_self)
  exact ⟨settle_ok h.ok, Nat.le_succ_of_le h.last, hk, h.root, h.ver, h.f0, h.f1, Nat.le_succ_of_le h.pll, h.plv, h.trunk, h.off, h.len, h.ids, h.opn, h.stand, h.rise, hs⟩

theorem kept_eq {k : Nat} {s : Rg} {x : Rf} (h : Both k s x) {l m : List Int} (h1 : KeptOf s l) (h2 : KeptX x.root x.l m) : m = l := by
  refine rising_eq m l h2.rise h1.rise (fun v => ?_)
  rw [h1.mem v, h2.mem v]
  unfold allL
  rw [h.opn, h.root, List.mem_cons, List.mem_map]
  constructor
  · rintro (e | ⟨y, hy, e⟩)
    · exact .inl e
    · obtain ⟨z, hz, rfl⟩ := List.mem_map.1 hy
      exact .inr ⟨z, hz, e⟩
  · rintro (e | ⟨z, hz, e⟩)
    · exact .inl e
    · exact .inr ⟨sfOf z, List.mem_map.2 ⟨z, hz, rfl⟩, e⟩

theorem snap_eq {k : Nat} {s : Rg} {x : Rf} (h : Both k s x) {id : Int} {e : Ending} (he : SnapOut x.l id e) : e = .returned (snapV (seesR s id)) := by
  rcases he with ⟨y, hy, hd, h0, rfl⟩ | ⟨hn, rfl⟩
  · obtain ⟨z, hz, e⟩ := (mem_open h y).1 ⟨hy, by omega⟩
    obtain ⟨i, hi⟩ := List.mem_iff_getElem?.1 hz
    have e1 : z.id = y.id := by rw [← e]; rfl
    rw [sees_yes h.ok.rise hi (id := id) (by omega)]
    subst e
    rfl
  · have : seesR s id = none := by
      unfold seesR
      rw [List.find?_eq_none.2 (fun z hz => ?_)]
      · rfl
      · obtain ⟨ym, y0⟩ := (mem_open h (sfOf z)).2 ⟨z, hz, rfl⟩
        have h1 := h.ok.ids z hz
        simp only [decide_eq_true_eq]
        intro hd
        have := hn (sfOf z) ym hd
        omega
    rw [this]
    rfl

end Go.Proofs.Ytakifnlfgaedjaa
