/- The maps of the stage's theorem: what was seen, at which version; which roots are kept. -/
import Derived.Test.YtakifnlfgaedjaaVOps
import Derived.Maps.RangeWalk
import Derived.Maps.OwnOps
import Derived.Maps.OwnSet
namespace Go.Proofs.Ytakifnlfgaedjaa
open Go.RowKit Go.Maps
set_option linter.unusedVariables false
set_option linter.unusedSimpArgs false
set_option maxRecDepth 4000

theorem lawI : Keyed Try.prog 3 := int_keyed Try.underlying3
theorem lawU : Keyed Try.prog 22 := int_keyed Try.underlying22
theorem zeroU (w : World) : (zeroValue 22).run Try.prog w = .ok (.int .u32 0) w := by kernel_rfl
theorem zeroV (w : World) : (zeroValue 23).run Try.prog w = .ok (.int .u64 0) w := by kernel_rfl
theorem zeroBo (w : World) : (zeroValue 4).run Try.prog w = .ok (.bool false) w := by kernel_rfl

def ilit (i : Int) : Lit := .int .i64 i
def ulit (i : Int) : Lit := .int .u32 i
theorem ilit_ne {i j : Int} (h : i ≠ j) : ilit i ≠ ilit j := fun e => by unfold ilit at e; simp at e; exact h e
theorem ulit_ne {i j : Int} (h : i ≠ j) : ulit i ≠ ulit j := fun e => by unfold ulit at e; simp at e; exact h e
theorem key_i {i : Int} (h0 : -9223372036854775808 ≤ i) (h1 : i ≤ 9223372036854775807) : keyOf Try.prog 3 (.int .i64 i) = some (ilit i) := keyOf_int_mk Try.underlying3 (WalkArith.wf_i64 ⟨h0, h1⟩)
theorem wf_u32 {i : Int} (h0 : 0 ≤ i) (h1 : i ≤ 4294967295) : (Lit.int .u32 i).wf = true := WalkArith.wf_u32 ⟨h0, h1⟩
theorem wf_u64 {i : Int} (h0 : 0 ≤ i) (h1 : i ≤ 18446744073709551615) : (Lit.int .u64 i).wf = true := WalkArith.wf_u64 ⟨h0, h1⟩
theorem key_u {i : Int} (h0 : 0 ≤ i) (h1 : i ≤ 4294967295) : keyOf Try.prog 22 (.int .u32 i) = some (ulit i) := keyOf_int_mk Try.underlying22 (wf_u32 h0 h1)

theorem mp_keep {w w' : World} {k : TypeId} {R : Value → Option (DataW Unit × List MemPlace)} {b n : Nat} {D : DataW Unit} (h : w.ownsMap Try.prog k R b n D) (hb : w'.heap[b]? = w.heap[b]?) : w'.ownsMap Try.prog k R b n D := by
  obtain ⟨es, clock, h1, h2, h3, h4⟩ := h
  exact ⟨es, clock, hb.trans h1, h2, h3, h4⟩
theorem mp_mono {w : World} {k : TypeId} {R : Value → Option (DataW Unit × List MemPlace)} {b n m : Nat} {D : DataW Unit} (h : w.ownsMap Try.prog k R b n D) (hm : n ≤ m) : w.ownsMap Try.prog k R b m D := by
  obtain ⟨es, clock, h1, h2, h3, h4⟩ := h
  exact ⟨es, clock, h1, h2, Nat.le_trans h3 hm, h4⟩
theorem mp_keepO {w w' : World} {k : TypeId} {R : Value → Option (DataW Unit × List MemPlace)} {b n : Nat} {D : DataW Unit} (h : w.ownsMap Try.prog k R b n D) (hk : KeepO w w') : w'.ownsMap Try.prog k R b n D := by
  obtain ⟨es, clock, h1, h2, h3, h4⟩ := h
  exact ⟨es, clock, hk b _ h1 (fun cs fr => ⟨by simp, by simp⟩), h2, h3, h4⟩

/-- What was seen by snapshots that are open. -/
def SeenAt (w : World) (b k : Nat) (s : Rg) : Prop :=
  ∃ D : DataW Unit, w.ownsMap Try.prog 3 (plainElem Try.prog 22) b k D ∧ (∀ kl, Maps.has D kl = true → ∃ x ∈ s.opn, kl = ilit x.id) ∧ (∀ x ∈ s.opn, Maps.has D (ilit x.id) = true ∧ ∀ z, D.atKey (ilit x.id) z = .lit (.int .u32 x.t.root))
/-- .. and at which version. -/
def VersAt (w : World) (b k : Nat) (s : Rg) : Prop :=
  ∃ D : DataW Unit, w.ownsMap Try.prog 3 (plainElem Try.prog 23) b k D ∧ (∀ x ∈ s.opn, ∀ z, D.atKey (ilit x.id) z = .lit (.int .u64 x.t.ver))
/-- The roots that are kept, so far. -/
def RootsAt (w : World) (b k : Nat) (L : List Int) : Prop :=
  ∃ D : DataW Unit, w.ownsMap Try.prog 22 (plainElem Try.prog 4) b k D ∧ ∀ v ∈ L, ∀ z, D.atKey (ulit v) z = .lit (.bool true)

theorem SeenAt.keep {w w' : World} {b k : Nat} {s : Rg} (h : SeenAt w b k s) (hb : w'.heap[b]? = w.heap[b]?) : SeenAt w' b k s := by
  obtain ⟨D, h1, h2⟩ := h; exact ⟨D, mp_keep h1 hb, h2⟩
theorem VersAt.keep {w w' : World} {b k : Nat} {s : Rg} (h : VersAt w b k s) (hb : w'.heap[b]? = w.heap[b]?) : VersAt w' b k s := by
  obtain ⟨D, h1, h2⟩ := h; exact ⟨D, mp_keep h1 hb, h2⟩
theorem RootsAt.keep {w w' : World} {b k : Nat} {L : List Int} (h : RootsAt w b k L) (hb : w'.heap[b]? = w.heap[b]?) : RootsAt w' b k L := by
  obtain ⟨D, h1, h2⟩ := h; exact ⟨D, mp_keep h1 hb, h2⟩
theorem SeenAt.keepO {w w' : World} {b k : Nat} {s : Rg} (h : SeenAt w b k s) (hk : KeepO w w') : SeenAt w' b k s := by
  obtain ⟨D, h1, h2⟩ := h; exact ⟨D, mp_keepO h1 hk, h2⟩
theorem VersAt.keepO {w w' : World} {b k : Nat} {s : Rg} (h : VersAt w b k s) (hk : KeepO w w') : VersAt w' b k s := by
  obtain ⟨D, h1, h2⟩ := h; exact ⟨D, mp_keepO h1 hk, h2⟩
theorem SeenAt.lt {w : World} {b k : Nat} {s : Rg} (h : SeenAt w b k s) : b < w.heap.size := by
  obtain ⟨D, ⟨es, clock, h1, _⟩, _⟩ := h; exact (Array.getElem?_eq_some_iff.1 h1).1
theorem VersAt.lt {w : World} {b k : Nat} {s : Rg} (h : VersAt w b k s) : b < w.heap.size := by
  obtain ⟨D, ⟨es, clock, h1, _⟩, _⟩ := h; exact (Array.getElem?_eq_some_iff.1 h1).1
theorem RootsAt.lt {w : World} {b k : Nat} {L : List Int} (h : RootsAt w b k L) : b < w.heap.size := by
  obtain ⟨D, ⟨es, clock, h1, _⟩, _⟩ := h; exact (Array.getElem?_eq_some_iff.1 h1).1

theorem SeenAt.has {w : World} {b k : Nat} {s : Rg} {D : DataW Unit} (h2 : ∀ kl, Maps.has D kl = true → ∃ x ∈ s.opn, kl = ilit x.id) (h3 : ∀ x ∈ s.opn, Maps.has D (ilit x.id) = true) (i : Int) : Maps.has D (ilit i) = hasR s i := by
  cases hh : hasR s i with
  | true =>
    unfold hasR at hh
    obtain ⟨x, hx, e⟩ := List.any_eq_true.1 hh
    have e : (x.id : Int) = i := by simpa using e
    rw [← e]
    exact h3 x hx
  | false =>
    cases hq : Maps.has D (ilit i) with
    | false => rfl
    | true =>
      obtain ⟨x, hx, e⟩ := h2 _ hq
      unfold ilit at e
      simp only [Lit.int.injEq, true_and] at e
      rw [hasR, List.any_eq_false] at hh
      exact absurd e.symm (by simpa using hh x hx)

theorem seen_look {w : World} {b k : Nat} {s : Rg} (h : SeenAt w b k s) {i : Int} (h0 : -9223372036854775808 ≤ i) (h1 : i ≤ 9223372036854775807) : ∃ c, (Instr.lookup 45 (.map (some b)) (.int .i64 i) true).run Try.prog w = .ok (.tuple #[.int .u32 c, .bool (hasR s i)]) w := by
  obtain ⟨D, ho, h2, h3⟩ := h
  obtain ⟨v, ps, hrun, hv⟩ := ho.look_ok lawI Try.underlying45 (zeroU w) (plainElem_int Try.underlying22 (by decide)) (key_i h0 h1)
  obtain ⟨c, rfl, _⟩ := plainElem_int_inv Try.underlying22 hv
  refine ⟨c, ?_⟩
  rw [hrun, SeenAt.has (w := w) (b := b) (k := k) h2 (fun x hx => (h3 x hx).1) i]

theorem seen_put {w : World} {b k : Nat} {s : Rg} (h : SeenAt w b k s) (hk : RgOk s) (hk2 : k < 1000) (hr : 0 ≤ s.t.root ∧ s.t.root ≤ 4294967295) : ∃ w', (Instr.mapUpdate 45 (.map (some b)) (.int .i64 ((s.last : Int) + 1)) (.int .u32 s.t.root)).run Try.prog w = .ok () w' ∧ SeenAt w' b (k + 1) (openR s) ∧ w.grownBy w' (some b) := by
  obtain ⟨D, ho, h2, h3⟩ := h
  have hm := hk.most
  obtain ⟨w', hrun, ho', hg⟩ := ho.update lawI Try.underlying45 (by unfold maxLen; omega) (key_i (i := (s.last : Int) + 1) (by omega) (by omega)) (plainElem_int Try.underlying22 (wf_u32 hr.1 hr.2))
  have hmap := (ho.tidy lawI).isMap
  have hne : ∀ x ∈ s.opn, (x.id : Int) ≠ (s.last : Int) + 1 := fun x hx => by have := hk.ids x hx; omega
  refine ⟨w', hrun, ⟨_, ho', fun kl hkl => ?_, fun x hx => ?_⟩, hg⟩
  · by_cases e : kl = ilit ((s.last : Int) + 1)
    · exact ⟨⟨s.last + 1, s.t⟩, List.mem_append_right _ (by simp), by rw [e]; simp⟩
    · rw [has_put_other e] at hkl
      obtain ⟨x, hx, e⟩ := h2 kl hkl
      exact ⟨x, List.mem_append_left _ hx, e⟩
  · have hx : x ∈ s.opn ++ [(⟨s.last + 1, s.t⟩ : Sn)] := hx
    rcases List.mem_append.1 hx with hx | hx
    · have e := ilit_ne (hne x hx)
      rw [has_put_other e]
      exact ⟨(h3 x hx).1, fun z => by rw [atKey_put_other e]; exact (h3 x hx).2 z⟩
    · simp only [List.mem_singleton] at hx
      subst hx
      have e : ilit (((s.last + 1 : Nat) : Nat) : Int) = ilit ((s.last : Int) + 1) := by simp
      dsimp only
      rw [e]
      exact ⟨has_put_same hmap (by simp [WideAt.IsKeyLit, ilit]) _, fun z => atKey_put_same hmap (by simp [WideAt.IsKeyLit, ilit, ulit]) _ z⟩

theorem vers_put {w : World} {b k : Nat} {s : Rg} (h : VersAt w b k s) (hk : RgOk s) (hk2 : k < 1000) (hr : 0 ≤ s.t.ver ∧ s.t.ver ≤ 1000) : ∃ w', (Instr.mapUpdate 46 (.map (some b)) (.int .i64 ((s.last : Int) + 1)) (.int .u64 s.t.ver)).run Try.prog w = .ok () w' ∧ VersAt w' b (k + 1) (openR s) ∧ w.grownBy w' (some b) := by
  obtain ⟨D, ho, h3⟩ := h
  have hm := hk.most
  obtain ⟨w', hrun, ho', hg⟩ := ho.update lawI Try.underlying46 (by unfold maxLen; omega) (key_i (i := (s.last : Int) + 1) (by omega) (by omega)) (plainElem_int Try.underlying23 (wf_u64 hr.1 (by omega)))
  have hmap := (ho.tidy lawI).isMap
  have hne : ∀ x ∈ s.opn, (x.id : Int) ≠ (s.last : Int) + 1 := fun x hx => by have := hk.ids x hx; omega
  refine ⟨w', hrun, ⟨_, ho', fun x hx z => ?_⟩, hg⟩
  have hx : x ∈ s.opn ++ [(⟨s.last + 1, s.t⟩ : Sn)] := hx
  rcases List.mem_append.1 hx with hx | hx
  · rw [atKey_put_other (ilit_ne (hne x hx))]; exact h3 x hx z
  · simp only [List.mem_singleton] at hx
    subst hx
    have e : ilit (((s.last + 1 : Nat) : Nat) : Int) = ilit ((s.last : Int) + 1) := by simp
    dsimp only
    rw [e]
    exact atKey_put_same hmap (by simp [WideAt.IsKeyLit, ilit, ulit]) _ z

theorem seen_del {w w' : World} {b k : Nat} {s : Rg} {D : DataW Unit} (i : Int) (h2 : ∀ kl, Maps.has D kl = true → ∃ x ∈ s.opn, kl = ilit x.id) (h3 : ∀ x ∈ s.opn, Maps.has D (ilit x.id) = true ∧ ∀ z, D.atKey (ilit x.id) z = .lit (.int .u32 x.t.root)) (ho : w'.ownsMap Try.prog 3 (plainElem Try.prog 22) b k (D.del (ilit i))) : SeenAt w' b k (closeR s i) := by
  refine ⟨_, ho, fun kl hkl => ?_, fun x hx => ?_⟩
  · by_cases e : kl = ilit i
    · rw [e, has_del_same] at hkl; cases hkl
    · rw [has_del_other e] at hkl
      obtain ⟨x, hx, e2⟩ := h2 kl hkl
      refine ⟨x, List.mem_filter.2 ⟨hx, ?_⟩, e2⟩
      have : ¬ (x.id : Int) = i := fun q => e (by rw [e2, q])
      simp [this]
  · obtain ⟨hx, hq⟩ := List.mem_filter.1 hx
    have hq : (x.id : Int) ≠ i := by simpa using hq
    rw [has_del_other (ilit_ne hq)]
    exact ⟨(h3 x hx).1, fun z => by rw [atKey_del_other (ilit_ne hq)]; exact (h3 x hx).2 z⟩

theorem vers_look {w : World} {b k : Nat} {s : Rg} (h : VersAt w b k s) (hk : RgOk s) {x : Sn} (hx : x ∈ s.opn) : (Instr.lookup 46 (.map (some b)) (.int .i64 x.id) false).run Try.prog w = .ok (.int .u64 x.t.ver) w := by
  obtain ⟨D, ho, h3⟩ := h
  have := hk.ids x hx
  have := hk.most
  obtain ⟨c, hrun, hat, _⟩ := ho.lookup_int lawI Try.underlying46 Try.underlying23 (zeroV w) (key_i (i := (x.id : Int)) (by omega) (by omega))
  rw [h3 x hx] at hat
  simp only [DataW.lit.injEq, Lit.int.injEq, true_and] at hat
  rw [hrun, hat]

theorem roots_look {w : World} {b k : Nat} {L : List Int} (h : RootsAt w b k L) {v : Int} (hv : v ∈ L) (h0 : 0 ≤ v) (h1 : v ≤ 4294967295) : (Instr.lookup 48 (.map (some b)) (.int .u32 v) false).run Try.prog w = .ok (.bool true) w := by
  obtain ⟨D, ho, h3⟩ := h
  obtain ⟨u, ps, hrun, hu⟩ := ho.lookup lawU Try.underlying48 (zeroBo w) (plainElem_bool Try.underlying4 false) (key_u h0 h1)
  rw [h3 v hv] at hu
  have : u = .bool true := by
    unfold plainElem at hu
    rw [Try.underlying4] at hu
    cases u <;> simp at hu
    rw [hu.1]
  rw [hrun, this]

theorem roots_put {w : World} {b k : Nat} {L : List Int} (h : RootsAt w b k L) (hk2 : k < 100000) {v : Int} (h0 : 0 ≤ v) (h1 : v ≤ 4294967295) : ∃ w', (Instr.mapUpdate 48 (.map (some b)) (.int .u32 v) (.bool true)).run Try.prog w = .ok () w' ∧ RootsAt w' b (k + 1) (L ++ [v]) ∧ w.grownBy w' (some b) := by
  obtain ⟨D, ho, h3⟩ := h
  obtain ⟨w', hrun, ho', hg⟩ := ho.update lawU Try.underlying48 (by unfold maxLen; omega) (key_u h0 h1) (plainElem_bool Try.underlying4 true)
  have hmap := (ho.tidy lawU).isMap
  refine ⟨w', hrun, ⟨_, ho', fun u hu z => ?_⟩, hg⟩
  by_cases e : u = v
  · subst e; exact atKey_put_same hmap (by simp [WideAt.IsKeyLit, ilit, ulit]) _ z
  · rw [atKey_put_other (ulit_ne e)]
    rcases List.mem_append.1 hu with q | q
    · exact h3 u q z
    · simp only [List.mem_singleton] at q; exact absurd q e

theorem sole_grown {w w' : World} {M : Nat} (h : w.grownBy w' (some M)) : Sole [M] w w' :=
  ⟨h.os, h.tape, h.output, h.size, fun k hk hn => h.block k hk (fun e => hn (by simp only [Option.some.injEq] at e; simp [e]))⟩

/-- What is known of a registry behind k calls. -/
structure KOk (k : Nat) (s : Rg) : Prop where
  ok : RgOk s
  most : s.last ≤ k
  v0 : 0 ≤ s.t.ver ∧ s.t.ver ≤ k
  rt : 0 ≤ s.t.root ∧ s.t.root ≤ 4294967295
  each : ∀ x ∈ s.opn, (0 ≤ x.t.root ∧ x.t.root ≤ 4294967295) ∧ 0 ≤ x.t.ver ∧ x.t.ver ≤ s.t.ver
  ord : s.opn.Pairwise (fun a b => a.t.ver ≤ b.t.ver)

theorem k_mono {k : Nat} {s : Rg} (h : KOk k s) : KOk (k + 1) s := ⟨h.ok, by have := h.most; omega, ⟨h.v0.1, by have := h.v0; omega⟩, h.rt, h.each, h.ord⟩
theorem k_open {k : Nat} {s : Rg} (h : KOk k s) (hk : k ≤ 150) : KOk (k + 1) (openR s) := by
  refine ⟨open_ok h.ok (by have := h.most; omega), by show s.last + 1 ≤ k + 1; have := h.most; omega, ⟨h.v0.1, by show s.t.ver ≤ _; have := h.v0; omega⟩, h.rt, fun x hx => ?_, ?_⟩
  · have hx : x ∈ s.opn ++ [(⟨s.last + 1, s.t⟩ : Sn)] := hx
    rcases List.mem_append.1 hx with hx | hx
    · exact h.each x hx
    · simp only [List.mem_singleton] at hx
      subst hx
      exact ⟨h.rt, h.v0.1, Int.le_refl _⟩
  · show (s.opn ++ [(⟨s.last + 1, s.t⟩ : Sn)]).Pairwise (fun a b => a.t.ver ≤ b.t.ver)
    rw [List.pairwise_append]
    refine ⟨h.ord, List.pairwise_singleton _ _, fun x hx y hy => ?_⟩
    simp only [List.mem_singleton] at hy
    subst hy
    exact (h.each x hx).2.2
theorem k_close {k : Nat} {s : Rg} (h : KOk k s) (i : Int) : KOk (k + 1) (closeR s i) :=
  ⟨close_ok h.ok i, by show s.last ≤ k + 1; have := h.most; omega, ⟨h.v0.1, by show s.t.ver ≤ _; have := h.v0; omega⟩, h.rt, fun x hx => h.each x (List.mem_filter.1 hx).1, h.ord.filter _⟩
theorem k_settle {k : Nat} {s : Rg} (h : KOk k s) : KOk (k + 1) (settleR s) :=
  ⟨settle_ok h.ok, by show s.last ≤ k + 1; have := h.most; omega, ⟨h.v0.1, by show s.t.ver ≤ _; have := h.v0; omega⟩, h.rt, h.each, h.ord⟩
theorem k_next {k : Nat} {s : Rg} (h : KOk k s) (hk : k ≤ 150) (root n : Int) (hr : 0 ≤ root ∧ root ≤ 4294967295) : KOk (k + 1) (nextR s root n) := by
  have hv := h.v0
  unfold nextR
  split
  · exact k_mono h
  · have e1 : (s.t.ver + 1) % 18446744073709551616 = s.t.ver + 1 := by omega
    rw [e1]
    refine ⟨⟨h.ok.rise, h.ok.ids, h.ok.most⟩, by show s.last ≤ k + 1; have := h.most; omega, ⟨by show 0 ≤ s.t.ver + 1; omega, by show s.t.ver + 1 ≤ _; omega⟩, hr, fun x hx => ?_, h.ord⟩
    have := h.each x hx
    exact ⟨this.1, this.2.1, by show x.t.ver ≤ s.t.ver + 1; omega⟩
theorem KOk.least {k : Nat} {s : Rg} (h : KOk k s) (l : Int) (h1 : l ≤ s.t.ver) (h2 : ∀ x ∈ s.opn, l ≤ x.t.ver) (h3 : l = s.t.ver ∨ ∃ x ∈ s.opn, l = x.t.ver) : (eldT s).ver = l := by
  unfold eldT
  cases hl : s.opn with
  | nil =>
    rcases h3 with e | ⟨x, hx, _⟩
    · exact e.symm
    · rw [hl] at hx; cases hx
  | cons y r =>
    have ho := h.ord
    rw [hl] at ho h2 h3
    obtain ⟨o1, _⟩ := List.pairwise_cons.1 ho
    have hy := h2 y (List.mem_cons_self)
    have hyv := (h.each y (by rw [hl]; exact List.mem_cons_self)).2.2
    show y.t.ver = l
    rcases h3 with e | ⟨x, hx, e⟩
    · omega
    · rcases List.mem_cons.1 hx with q | q
      · rw [e, q]
      · have := o1 x q; omega

/-- Where all of it stands behind k calls. -/
structure KpAt (w0 w : World) (p bs ba k : Nat) (s : Rg) : Prop where
  rg : RgIn w0.heap.size w0 w p s
  ok : KOk k s
  seen : SeenAt w bs k s
  vers : VersAt w ba k s

theorem KpAt.below {w0 w w' : World} {p bs ba k : Nat} {s : Rg} (h : KpAt w0 w p bs ba k s) (hb : Below w.heap.size w w') : KpAt w0 w' p bs ba k s :=
  ⟨h.rg.below hb, h.ok, h.seen.keep (hb.block _ h.seen.lt), h.vers.keep (hb.block _ h.vers.lt)⟩
theorem RgIn.map {B : Nat} {w0 w w' : World} {p b : Nat} {s : Rg} (h : RgIn B w0 w p s) (hm : ∃ es c, w.heap[b]? = some (.map es c)) (hb : B ≤ b) (hS : Sole [b] w w') : RgIn B w0 w' p s := by
  obtain ⟨⟨v, h1⟩, h2, h3, h4⟩ := h
  obtain ⟨es, c, hm⟩ := hm
  refine ⟨⟨v, h1.other hS ?_ (fun k hk => ?_)⟩, h2, hS.belowOf h3 h4 (by simpa using hb), Nat.le_trans h4 hS.size⟩
  · simp only [List.mem_singleton]
    rintro rfl
    rw [h1.row] at hm
    cases hm
  · simp only [List.mem_singleton]
    rintro rfl
    obtain ⟨_, ⟨rfl, _⟩ | ⟨g, c', cur, rfl, _, hg, _⟩⟩ := h1.own
    · cases hk
    · simp only [Value.ownBlock, Option.some.injEq] at hk
      subst hk
      rw [hg] at hm
      cases hm
theorem SeenAt.map {w : World} {b k : Nat} {s : Rg} (h : SeenAt w b k s) : ∃ es c, w.heap[b]? = some (.map es c) := by
  obtain ⟨D, ⟨es, clock, h1, _⟩, _⟩ := h; exact ⟨_, _, h1⟩
theorem VersAt.map {w : World} {b k : Nat} {s : Rg} (h : VersAt w b k s) : ∃ es c, w.heap[b]? = some (.map es c) := by
  obtain ⟨D, ⟨es, clock, h1, _⟩, _⟩ := h; exact ⟨_, _, h1⟩
theorem RootsAt.mono {w : World} {b k m : Nat} {L : List Int} (h : RootsAt w b k L) (hm : k ≤ m) : RootsAt w b m L := by
  obtain ⟨D, h1, h2⟩ := h; exact ⟨D, mp_mono h1 hm, h2⟩
theorem SeenAt.mono {w : World} {b k m : Nat} {s : Rg} (h : SeenAt w b k s) (hm : k ≤ m) : SeenAt w b m s := by
  obtain ⟨D, h1, h2⟩ := h; exact ⟨D, mp_mono h1 hm, h2⟩
theorem VersAt.mono {w : World} {b k m : Nat} {s : Rg} (h : VersAt w b k s) (hm : k ≤ m) : VersAt w b m s := by
  obtain ⟨D, h1, h2⟩ := h; exact ⟨D, mp_mono h1 hm, h2⟩
theorem vers_close {w : World} {b k : Nat} {s : Rg} (h : VersAt w b k s) (i : Int) : VersAt w b k (closeR s i) := by
  obtain ⟨D, h1, h2⟩ := h; exact ⟨D, h1, fun x hx => h2 x (List.mem_filter.1 hx).1⟩
theorem seen_next {w : World} {b k : Nat} {s : Rg} (h : SeenAt w b k s) (root n : Int) : SeenAt w b k (nextR s root n) := by
  unfold nextR; split <;> exact h
theorem vers_next {w : World} {b k : Nat} {s : Rg} (h : VersAt w b k s) (root n : Int) : VersAt w b k (nextR s root n) := by
  unfold nextR; split <;> exact h
theorem closeE_has (s : Rg) (i : Int) : ((closeE s i == 0) != hasR s i) = false := by
  unfold closeE; cases hasR s i <;> rfl

end Go.Proofs.Ytakifnlfgaedjaa
