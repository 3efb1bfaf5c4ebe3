/- Mathematics of pdqsort: what its loop keeps. -/
import Derived.Test.YtakifnlfgaedjaaVPart
namespace Go.Proofs.Ytakifnlfgaedjaa
open Go.RowKit Go.Sort
set_option linter.unusedVariables false
set_option linter.unusedSimpArgs false
set_option maxRecDepth 4000

theorem lt_no {x y : Int} : ltInt x y = false ↔ y ≤ x := by unfold ltInt; simp
theorem lt_yes {x y : Int} : ltInt x y = true ↔ x < y := by unfold ltInt; simp

/-- What pdqsort's loop keeps: where what lies between a' and b' is sorted, all is. -/
structure Inv (a b a' b' : Nat) (d dk : Array Int) : Prop where
  perm : PermIn a b d dk
  sz : dk.size = d.size
  blw : Go.Sort.Below ltInt a' b' dk
  lo : a ≤ a'
  mid : a' ≤ b'
  hi : b' ≤ b
  clo : ∀ d'', PermIn a' b' dk d'' → SortedIn ltInt a' b' d'' → SortedIn ltInt a b d''

theorem Inv.start {a b : Nat} {d : Array Int} (hab : a ≤ b) (h : Go.Sort.Below ltInt a b d) : Inv a b a b d d :=
  ⟨permIn_refl _ _ _, rfl, h, Nat.le_refl _, hab, Nat.le_refl _, fun _ _ h => h⟩
theorem Inv.turn {a b a' b' : Nat} {d dk d2 : Array Int} (h : Inv a b a' b' d dk) (hb : b ≤ d.size) (hp : PermIn a' b' dk d2) : Inv a b a' b' d d2 := by
  have hh := h.hi
  have hm := h.mid
  refine ⟨permIn_trans _ _ _ _ _ h.perm (permIn_mono _ _ _ _ _ _ h.lo h.hi (by rw [h.sz]; exact hb) hp), hp.1.trans h.sz, ?_, h.lo, h.mid, h.hi, fun d'' h1 h2 => h.clo d'' (permIn_trans _ _ _ _ _ hp h1) h2⟩
  exact Go.Sort.Below.permA permIn_all (by rw [h.sz]; omega) h.blw hp
theorem Inv.done {a b a' b' : Nat} {d dk d2 : Array Int} (h : Inv a b a' b' d dk) (hb : b ≤ d.size) (hp : PermIn a' b' dk d2) (hs : SortedIn ltInt a' b' d2) : PermIn a b d d2 ∧ SortedIn ltInt a b d2 :=
  ⟨(h.turn hb hp).perm, h.clo _ hp hs⟩

theorem Inv.equal {a b a' b' m pv : Nat} {d dk d2 : Array Int} (h : Inv a b a' b' d dk) (hb : b ≤ d.size) (h0 : 0 < a') (hl : ltInt dk[a' - 1]! dk[pv]! = false) (hp : PartedE a' b' m dk[pv]! dk d2) : Inv a b m b' d d2 := by
  have hh := h.hi
  have hml := hp.lo
  have hmh := hp.hi
  have t := h.turn hb hp.perm
  have hge : ∀ i, a' ≤ i → i < b' → dk[pv]! ≤ d2[i]! := by
    refine permIn_all dk d2 a' b' (fun x => dk[pv]! ≤ x) (by rw [h.sz]; omega) hp.perm (fun i h1 h2 => ?_)
    rcases h.blw with e | e
    · omega
    · have := lt_no.1 (e i h1 h2)
      have := lt_no.1 hl
      omega
  refine ⟨t.perm, t.sz, ?_, by have := h.lo; omega, hmh, h.hi, fun d'' h1 h2 => ?_⟩
  · right
    intro i q1 q2
    rw [lt_no]
    have := hp.left (m - 1) (by omega) (by omega)
    have := hp.right i q1 q2
    omega
  · have hgt : ∀ i, m ≤ i → i < b' → dk[pv]! < d''[i]! := permIn_all d2 d'' m b' (fun x => dk[pv]! < x) (by rw [t.sz]; omega) h1 hp.right
    refine h.clo d'' (permIn_trans _ _ _ _ _ hp.perm (permIn_mono _ _ _ _ _ _ (by omega) (Nat.le_refl _) (by rw [t.sz]; omega) h1)) (fun i j q1 q2 q3 => ?_)
    rw [lt_no]
    have le : ∀ i, a' ≤ i → i < m → d''[i]! = d2[i]! := fun i _ q => h1.2.1 i (.inl q)
    by_cases c1 : j < m
    · rw [le i q1 (by omega), le j (by omega) c1]
      have := hp.left i q1 (by omega)
      have := hge j (by omega) q3
      omega
    · by_cases c2 : i < m
      · rw [le i q1 c2]
        have := hp.left i q1 c2
        have := hgt j (by omega) q3
        omega
      · exact lt_no.1 (h2 i j (by omega) q2 q3)

theorem Parted.below_left {a b a' b' m : Nat} {d dk d2 : Array Int} (h : Inv a b a' b' d dk) (hb : b ≤ d.size) (hp : Parted a' b' m dk d2) : Go.Sort.Below ltInt a' m d2 := by
  have := hp.hi
  rcases (h.turn hb hp.perm).blw with e | e
  · exact .inl e
  · exact .inr (fun i h1 h2 => e i h1 (by omega))
theorem Parted.below_right {a' b' m : Nat} {dk d2 : Array Int} (hp : Parted a' b' m dk d2) : Go.Sort.Below ltInt (m + 1) b' d2 := by
  right
  intro i h1 h2
  rw [lt_no, Nat.add_sub_cancel]
  exact hp.right i (by omega) h2

theorem Inv.left {a b a' b' m : Nat} {d dk d2 d3 : Array Int} (h : Inv a b a' b' d dk) (hb : b ≤ d.size) (hp : Parted a' b' m dk d2) (h3 : PermIn a' m d2 d3) (hs : SortedIn ltInt a' m d3) : Inv a b (m + 1) b' d d3 := by
  have hh := h.hi
  have hml := hp.lo
  have hmh := hp.hi
  have t2 := h.turn hb hp.perm
  have h3' : PermIn a' b' d2 d3 := permIn_mono _ _ _ _ _ _ (Nat.le_refl _) (by omega) (by rw [t2.sz]; omega) h3
  have t3 := t2.turn hb h3'
  have eR : ∀ i, m ≤ i → d3[i]! = d2[i]! := fun i q => h3.2.1 i (.inr q)
  have lL : ∀ i, a' ≤ i → i < m → d3[i]! < d2[m]! := permIn_all d2 d3 a' m (fun x => x < d2[m]!) (by rw [t2.sz]; omega) h3 hp.left
  refine ⟨t3.perm, t3.sz, ?_, by have := h.lo; omega, by omega, h.hi, fun d'' q1 q2 => ?_⟩
  · right
    intro i p1 p2
    rw [lt_no, Nat.add_sub_cancel, eR m (Nat.le_refl _), eR i (by omega)]
    exact hp.right i (by omega) p2
  · have lR : ∀ i, m + 1 ≤ i → i < b' → d2[m]! ≤ d''[i]! := permIn_all d3 d'' (m + 1) b' (fun x => d2[m]! ≤ x) (by rw [t3.sz]; omega) q1 (fun i p1 p2 => by rw [eR i (by omega)]; exact hp.right i (by omega) p2)
    have e1 : ∀ i, i < m + 1 → d''[i]! = d3[i]! := fun i q => q1.2.1 i (.inl q)
    refine t3.clo d'' (permIn_mono _ _ _ _ _ _ (by omega) (Nat.le_refl _) (by rw [t3.sz]; omega) q1) (fun i j p1 p2 p3 => ?_)
    rw [lt_no]
    by_cases c1 : j < m
    · rw [e1 i (by omega), e1 j (by omega)]
      exact lt_no.1 (hs i j p1 p2 c1)
    · by_cases c2 : m < i
      · exact lt_no.1 (q2 i j (by omega) p2 p3)
      · have hi : d''[i]! ≤ d2[m]! := by
          by_cases c3 : i = m
          · rw [c3, e1 m (by omega), eR m (Nat.le_refl _)]; exact Int.le_refl _
          · rw [e1 i (by omega)]; have := lL i p1 (by omega); omega
        have hj : d2[m]! ≤ d''[j]! := by
          by_cases c3 : j = m
          · rw [c3, e1 m (by omega), eR m (Nat.le_refl _)]; exact Int.le_refl _
          · exact lR j (by omega) p3
        omega

theorem Inv.right {a b a' b' m : Nat} {d dk d2 d3 : Array Int} (h : Inv a b a' b' d dk) (hb : b ≤ d.size) (hp : Parted a' b' m dk d2) (h3 : PermIn (m + 1) b' d2 d3) (hs : SortedIn ltInt (m + 1) b' d3) : Inv a b a' m d d3 := by
  have hh := h.hi
  have hml := hp.lo
  have hmh := hp.hi
  have t2 := h.turn hb hp.perm
  have h3' : PermIn a' b' d2 d3 := permIn_mono _ _ _ _ _ _ (by omega) (Nat.le_refl _) (by rw [t2.sz]; omega) h3
  have t3 := t2.turn hb h3'
  have eL : ∀ i, i < m + 1 → d3[i]! = d2[i]! := fun i q => h3.2.1 i (.inl q)
  have lR : ∀ i, m + 1 ≤ i → i < b' → d2[m]! ≤ d3[i]! := permIn_all d2 d3 (m + 1) b' (fun x => d2[m]! ≤ x) (by rw [t2.sz]; omega) h3 (fun i p1 p2 => hp.right i (by omega) p2)
  refine ⟨t3.perm, t3.sz, ?_, h.lo, hml, by omega, fun d'' q1 q2 => ?_⟩
  · rcases t3.blw with e | e
    · exact .inl e
    · exact .inr (fun i p1 p2 => e i p1 (by omega))
  · have lL : ∀ i, a' ≤ i → i < m → d''[i]! < d2[m]! := permIn_all d3 d'' a' m (fun x => x < d2[m]!) (by rw [t3.sz]; omega) q1 (fun i p1 p2 => by rw [eL i (by omega)]; exact hp.left i p1 p2)
    have e1 : ∀ i, m ≤ i → d''[i]! = d3[i]! := fun i q => q1.2.1 i (.inr q)
    refine t3.clo d'' (permIn_mono _ _ _ _ _ _ (Nat.le_refl _) (by omega) (by rw [t3.sz]; omega) q1) (fun i j p1 p2 p3 => ?_)
    rw [lt_no]
    by_cases c1 : j < m
    · exact lt_no.1 (q2 i j p1 p2 c1)
    · by_cases c2 : m < i
      · rw [e1 i (by omega), e1 j (by omega)]
        exact lt_no.1 (hs i j (by omega) p2 p3)
      · have hi : d''[i]! ≤ d2[m]! := by
          by_cases c3 : i = m
          · rw [c3, e1 m (Nat.le_refl _), eL m (by omega)]; exact Int.le_refl _
          · have := lL i p1 (by omega); omega
        have hj : d2[m]! ≤ d''[j]! := by
          rw [e1 j (by omega)]
          by_cases c3 : j = m
          · rw [c3, eL m (by omega)]; exact Int.le_refl _
          · exact lR j (by omega) p3
        omega

end Go.Proofs.Ytakifnlfgaedjaa
