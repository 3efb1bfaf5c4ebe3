/- Puts undone. -/
import Derived.Test.YtmifpeocgikbeabMH
import Derived.Test.YtmifpeocgikbeabDlRow
import Derived.Test.YtmifpeocgikbeabDlLaw
namespace Go.Proofs.Ytmifpeocgikbeab
open Go.RowKit Go.Maps
set_option linter.unusedVariables false
set_option linter.unusedSimpArgs false
set_option maxRecDepth 100000

/-- Undone to the mark, it is what it was. -/
structure Back (s t : Dl) : Prop where
  most : t.most = s.most
  le : s.pus.length ≤ t.pus.length
  take : t.pus.take s.pus.length = s.pus
  L : undoL t.L (t.pus.drop s.pus.length).reverse = s.L
theorem Back.refl (s : Dl) : Back s s := ⟨rfl, Nat.le_refl _, by rw [List.take_length], by rw [List.drop_length]; rfl⟩
theorem Back.put {s t : Dl} (h : Back s t) (ht : DlOk t) {c : Cg} (hc : CgOk c) : Back s (putS t c) := by
  by_cases h0 : (putX t c).2 = 0
  · have hb := put_back ht hc h0
    have e : putS t c = ⟨t.most, setL t.L (putX t c).1, t.pus ++ [⟨c.pl, wasX t c.pl, isX t c.pl⟩]⟩ := by unfold putS; rw [if_pos h0]
    rw [e] at hb ⊢
    refine ⟨h.most, by simp; have := h.le; omega, ?_, ?_⟩
    · dsimp only
      rw [List.take_append_of_le_length h.le]; exact h.take
    · dsimp only at hb ⊢
      rw [List.drop_append_of_le_length h.le, List.reverse_append, List.reverse_cons, List.reverse_nil, List.nil_append, List.cons_append, List.nil_append]
      show undoL (undo1 _ _) _ = _
      rw [hb]; exact h.L
  · rw [putS_err h0]; exact h
theorem Back.is {s t : Dl} (h : Back s t) : undoS t s.pus.length = s := by
  unfold undoS
  rw [h.most, h.L, h.take]

theorem DlN.mark {B : Nat} {w0 w : World} {p b : Nat} {s : Dl} (h : DlN B w0 w p b s) : Calls Try.prog 20 #[.pointer (some ⟨p, 0, none⟩)] w fun e w' => e = .returned (.int .i64 s.pus.length) ∧ w' = w := by
  obtain ⟨v, h1, h2⟩ := h.d
  exact (dmark_any h1).mono (by rintro e w' ⟨h1, h2⟩; exact ⟨h1, h2.symm⟩)
theorem DlN.bad {B : Nat} {w0 w : World} {p b : Nat} {s : Dl} (h : DlN B w0 w p b s) (m : Int) (hm : m < 0 ∨ (s.pus.length : Int) < m) : Calls Try.prog 9 #[.pointer (some ⟨p, 0, none⟩), .int .i64 m] w fun e w' => e = .returned (.int .i64 1) ∧ Below w.heap.size w w' := by
  obtain ⟨v, h1, h2⟩ := h.d
  exact undo_bad h1 m hm
theorem DlN.undo {B : Nat} {w0 w : World} {p b : Nat} {s : Dl} (h : DlN B w0 w p b s) (m : Nat) (hm : m ≤ s.pus.length) (hbd : s.L.length + s.pus.length ≤ 1000) : Calls Try.prog 9 #[.pointer (some ⟨p, 0, none⟩), .int .i64 m] w fun e w' =>
    e = .returned (.int .i64 0) ∧ DlN B w0 w' p b (undoS s m) ∧ KeepD b w w' := by
  obtain ⟨v, h1, h2⟩ := h.d
  refine (dundo_any h1 m hm hbd).mono ?_
  rintro e w' ⟨rfl, v', h3, h4⟩
  obtain ⟨h5, h6⟩ := h4.below h.p h.b h2 h.le
  exact ⟨rfl, ⟨h.bel.trans h5, Nat.le_trans h.le h4.size, ⟨v', h3, h6⟩, h.p, h.b⟩, h4.keepD h1⟩

/-- A row of changes that calls on a delta leave. -/
structure RowT (b : Nat) (w : World) (ua : Option Addr) (L : List Cg) : Prop where
  at_ : 0 < L.length → ∃ g, ua = some ⟨g, 0, none⟩ ∧ RowG w g L ∧ g ≠ b ∧ ∃ cs fr, w.heap[g]? = some (.cells cs 37 fr)
theorem RowT.keep {b : Nat} {w w' : World} {ua : Option Addr} {L : List Cg} (h : RowT b w ua L) (k : KeepD b w w') : RowT b w' ua L := ⟨fun hp => by
  obtain ⟨g, h1, h2, h3, cs, fr, h4⟩ := h.at_ hp
  have e := k.block g h2.lt (fun hd => by
    rcases hd with e | ⟨cs', fr', e⟩ | ⟨cs', fr', e⟩
    · exact h3 e
    · rw [h4] at e; cases e
    · rw [h4] at e; cases e)
  exact ⟨g, h1, ⟨fun i hi j u hu => (World.cell?_of_block e).trans (h2.at_ i hi j u hu), Nat.lt_of_lt_of_le h2.lt k.size⟩, h3, cs, fr, e.trans h4⟩⟩
theorem RowT.below {b : Nat} {w w' : World} {ua : Option Addr} {L : List Cg} (h : RowT b w ua L) (hb : Below w.heap.size w w') : RowT b w' ua L := h.keep (KeepD.of_below hb)
theorem rowT_of {w w' : World} {b : Nat} {u : Value} {L : List Cg} (hL : ∀ c ∈ L, CgOk c) (hb : b < w.heap.size) (h : w'.ownsRow w.heap.size 37 46 u L.length (L.flatMap cgL)) : ∃ ua uc, u = .slice ua L.length uc ∧ RowT b w' ua L := by
  obtain ⟨ua, uc, e, hr⟩ := row_of hL h
  refine ⟨ua, uc, e, ⟨fun hp => ?_⟩⟩
  obtain ⟨g, h1, h2, h3, cs, h4, _⟩ := hr hp
  exact ⟨g, h1, h2, by omega, cs, _, h4⟩

end Go.Proofs.Ytmifpeocgikbeab
