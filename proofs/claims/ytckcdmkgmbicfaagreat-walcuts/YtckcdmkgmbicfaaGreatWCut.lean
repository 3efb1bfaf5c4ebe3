/- Ahead of WalCuts: numbers that are handed in; Arm and Cut on what is left of a log; what is held beside a log. -/
import Derived.Test.YtckcdmkgmbicfaaGreatMW13
import Derived.Test.YtckcdmkgmbicfaaGreatWAll
import Derived.Test.YtckcdmkgmbicfaaGreatWBegins
import Derived.Lib.SmallJoins
import Derived.Deep.Slices
namespace Go.Proofs.YtckcdmkgmbicfaaGreat
open Go.RowKit
set_option linter.unusedVariables false
set_option linter.unusedSimpArgs false
set_option maxRecDepth 4000

/-- The slice value 'v' reads as the numbers 'l'. -/
def RdI (w : World) (v : Value) (l : List Int) : Prop :=
  ∃ a cap, v = .slice a l.length cap ∧ l.length ≤ cap ∧ cap ≤ maxLen ∧ (0 < l.length → ∃ b off, a = some ⟨b, off, none⟩ ∧ b < w.heap.size ∧ ∀ (i : Nat) (x : Int), l[i]? = some x → w.cell? ⟨b, off + i, none⟩ = some (.int .i64 x))

/-- Numbers of 64 bits. -/
def IntsOk (l : List Int) : Prop := ∀ x ∈ l, -9223372036854775808 ≤ x ∧ x ≤ 9223372036854775807

set_option maxRecDepth 100000 in
theorem ints_of {H : Type} {enc : TypeId × Value → H} {W : World} {base : Nat} {held : Bool} {fuel : Nat} {v : Value} {x : DataW H × List MemPlace}
    (h : DataW.trod enc Tryz.prog W base (fun _ => true) held fuel 49 [v] = some x) : ∃ l, IntsOk l ∧ RdI W v l := by
  rcases Deep.open_slice1 Tryz.underlying49 (by kernel_rfl) h with ⟨hcs, _⟩ | ⟨a', len, c, m, n, V, D, Pl, hcs, hb, hl, hm, hmm, _, hx⟩
  · simp at hcs
    subst hcs
    exact ⟨[], (fun x hx => by cases hx), ⟨none, 0, rfl, Nat.le_refl _, by simp, fun h => by simp at h⟩⟩
  · simp at hcs
    subst hcs
    have each : ∀ i, i < len → ∃ z : Int, (-9223372036854775808 ≤ z ∧ z ≤ 9223372036854775807) ∧ W.cell? (a'.add i) = some (.int .i64 z) := fun i hi => by
      obtain ⟨q, t⟩ := hx i (by rw [hmm]; simp; omega)
      obtain ⟨z, e, _, wz⟩ := DataW.trod_int Tryz.underlying3 t
      simp only [List.cons.injEq, and_true] at e
      exact ⟨z, bounds_i64 wz, by rw [q, e]⟩
    have hin : Inhabited Int := ⟨0⟩
    obtain ⟨f, hf⟩ := Deep.choose_lt each
    have hlen : ((List.range len).map f).length = len := by simp
    refine ⟨(List.range len).map f, fun x hx => ?_, some a', c, by rw [hlen], by rw [hlen]; exact hl, hm, fun hp => ?_⟩
    · obtain ⟨i, hi, rfl⟩ := List.mem_map.1 hx
      exact (hf i (List.mem_range.1 hi)).1
    · rw [hlen] at hp
      obtain ⟨b, off, spot⟩ := a'
      have q0 := (hf 0 hp).2
      have hspot : spot = none := by simpa [Addr.add] using World.cell?_spot q0
      subst hspot
      have hadd : ∀ j, (⟨b, off, none⟩ : Addr).add j = ⟨b, off + j, none⟩ := fun j => by unfold Addr.add; split <;> simp_all
      rw [hadd] at q0
      refine ⟨b, off, rfl, World.block_lt_of_cell? _ _ q0, fun i x hi => ?_⟩
      rw [List.getElem?_map] at hi
      rcases Nat.lt_or_ge i len with hlt | hge
      · rw [List.getElem?_range hlt] at hi
        simp only [Option.map_some, Option.some.injEq] at hi
        subst hi
        have := (hf i hlt).2
        rw [hadd] at this
        exact this
      · rw [List.getElem?_eq_none (by simpa using hge)] at hi
        cases hi

theorem arm_left {B : Nat} {X : List Nat} {w : World} {p : Nat} {f : Int} {N : Nat} {arm : Bool} {M fr nx : Nat} {rs : List Rc} (h : LeftV B X w p f N false arm M fr nx rs) (n : Int) (h0 : 0 ≤ n) (h1' : n ≤ 9223372036854775807) (mask : ByteArray) (hmask : mask.size ≤ maxLen) :
    Calls Tryz.prog 19 #[ptr p, .int .i64 n, .string mask] w fun e w' => e = .returned (.tuple #[]) ∧ KeepX B X w w' ∧ LeftV B X w' p f N false true M fr nx rs := by
  obtain ⟨bs, bp, s, U, G, D, hd, hp, h1, h2, hX, hz, hxs, hoff, harm, hpn, hl, hnx, hN4, hN1, rfl⟩ := h
  refine (disk_Arm hd n (by omega) h1' mask hmask).mono ?_
  rintro e w' ⟨rfl, hd', hS, _⟩
  have ea : armSt s n mask = { s with armed := true, left := n, mask := mask } := by unfold armSt; rw [hoff]; simp [h0]
  rw [ea] at hd'
  have hsz := hS.size
  exact ⟨rfl, KeepX.of_sole hS (fun k hk => by simp only [List.mem_singleton] at hk; subst hk; exact ⟨hp, hX _ (by simp)⟩), bs, bp, _, U, G, D, hd', hp, h1, h2, hX, by omega, fun k hk => by have := hxs k hk; omega, hoff, rfl, hpn, hl.same hd'.good rfl (fun i => rfl), hnx, hN4, hN1, rfl⟩

theorem cut_left_any {B : Nat} {X : List Nat} {w : World} {p : Nat} {f : Int} {N : Nat} {off arm : Bool} {M fr nx : Nat} {rs : List Rc} (h : LeftV B X w p f N off arm M fr nx rs) (ho : off = true → arm = false) (mask : ByteArray) (hmask : mask.size ≤ maxLen) :
    Calls Tryz.prog 10 #[ptr p, .string mask] w fun e w' => e = .returned (.tuple #[]) ∧ KeepX B X w w' ∧ LeftV B X w' p f N true false M fr nx rs := by
  cases off
  · obtain ⟨bs, bp, s, U, G, D, hd, hp, h1, h2, hX, hz, hxs, hoff, harm, hpn, hl, hnx, hN4, hN1, rfl⟩ := h
    refine (disk_Cut_on hd mask hmask hoff).mono ?_
    rintro e w' ⟨rfl, hd', hS⟩
    have hsz := hS.size
    have hsn : ∀ i, seen (cutSt s mask) i = seen s i := fun i => by
      unfold seen
      rw [cut_pend hd.good, hpn]
      rcases cut_safe hd.good mask i with e | ⟨c, e, _⟩
      · exact e
      · rw [hpn] at e; cases e
    exact ⟨rfl, KeepX.of_sole hS (fun k hk => ⟨by simp only [List.mem_cons, List.mem_nil_iff, or_false] at hk; rcases hk with rfl | rfl | rfl <;> assumption, hX k hk⟩), bs, bp, _, U, G, D, hd', hp, h1, h2, hX, by omega, fun k hk => by have := hxs k hk; omega, rfl, rfl, cut_pend hd.good mask, hl.same hd'.good (cut_blocks s mask) hsn, hnx, hN4, hN1, rfl⟩
  · obtain rfl := ho rfl
    refine (cut_left_v h mask).mono ?_
    rintro e w' ⟨rfl, rfl⟩
    exact ⟨rfl, KeepX.refl _ _ _, h⟩

/-- Where it begins, and how great its next number may be. -/
theorem LeftV.parts {B : Nat} {X : List Nat} {w : World} {p : Nat} {f : Int} {N : Nat} {off arm : Bool} {M fr nx : Nat} {rs : List Rc} (h : LeftV B X w p f N off arm M fr nx rs) : fromR nx rs = fr ∧ nx ≤ M + N := by
  obtain ⟨bs, bp, s, U, G, D, hd, hp, h1, h2, hX, hz, hxs, hoff, harm, hpn, hl, hnx, hN4, hN1, rfl⟩ := h
  have hce : chainE U (G ++ D) ≤ M + N := by
    rcases chainE_is (G ++ D) U with e | ⟨r, hr, e⟩
    · rw [e]; have := hl.um; omega
    · rw [e]
      have hok := hl.fi.ok r hr
      have hb0 := getD_mem hok.pos
      have hlt := hok.lt _ hb0
      have hw := hl.fi.whole r hr 0 hok.pos
      have hbd := (hl.bd _ hlt).1 (by rw [hw, pc_kind]; have := hok.kind; omega)
      rw [hw] at hbd
      have hat : (r.pc 0).at_ = r.at_ := rfl
      have hbl : r.blocks.length ≤ N := by
        have hsub : r.blocks.length ≤ (List.range N).length := by
          refine List.Nodup.length_le_of_subset hok.nodup (fun b hb => List.mem_range.2 (hok.lt b hb))
        simpa using hsub
      unfold Rr.fin
      omega
  refine ⟨?_, by have := hl.frm; omega⟩
  rcases hl.begins with ⟨e, hle⟩ | ⟨r, D', e, hf⟩
  · subst e
    rw [List.append_nil] at hnx
    show nx = fr
    omega
  · subst e
    exact hf.symm

theorem LgAt.trim {w : World} {p : Nat} {B : List Nat} {s : Lg} (h : LgAt w p B s) : LgAt w p (B.filter fun k => decide (k < w.heap.size)) s := by
  obtain ⟨v, h1, a, cap, rfl, k1, k2, k3, k4⟩ := h.body
  refine ⟨⟨_, h1, a, cap, rfl, k1, k2, k3, fun hp => ?_⟩, fun hm => h.apart (List.mem_filter.1 hm).1⟩
  obtain ⟨b, off, rfl, hl, hb, hc⟩ := k4 hp
  refine ⟨b, off, rfl, hl, List.mem_filter.2 ⟨hb, by simpa using hl⟩, fun i x hi => ?_⟩
  obtain ⟨c1, g, c2, hg⟩ := hc i x hi
  exact ⟨c1, g, c2, hg.trim⟩

/-- More blocks are held beside. -/
theorem Both.holds {B : Nat} {w w' : World} {q p : Nat} {f : Int} {N : Nat} {arm : Bool} {nx dn : Nat} {rs : List Rc} {x : Nat} {BX : List Nat} (h : Both B w q p f N arm nx dn rs x BX) (hb : Below w.heap.size w w') (Y : List Nat) (h1 : ∀ k ∈ BX, k ∈ Y) (h2 : ∀ k ∈ Y, (k ∈ BX ∨ w.heap.size ≤ k) ∧ k < w'.heap.size) : Both B w' q p f N arm nx dn rs x Y := by
  obtain ⟨l1, l2, l3⟩ := h.lt
  have hr := h.ref.below hb
  obtain ⟨v, r1, r2⟩ := hr.body
  refine ⟨h.log.below hb _ (fun k hk => ?_), ⟨⟨v, r1, RdR.mono r2 h1⟩, fun hm => ?_⟩, h.shorts, h.lx, h.n1⟩
  · rcases List.mem_cons.1 hk with rfl | hk
    · exact ⟨.inl List.mem_cons_self, Nat.lt_of_lt_of_le l2 hb.size⟩
    · obtain ⟨z1, z2⟩ := h2 k hk
      exact ⟨z1.imp (fun z => List.mem_cons_of_mem _ z) id, z2⟩
  · rcases (h2 x hm).1 with e | e
    · exact h.ref.apart e
    · omega

theorem LgAt.opened_lt {w : World} {p : Nat} {B : List Nat} {s : Lg} (h : LgAt w p B s) : p < w.heap.size := by
  obtain ⟨v, h1, _⟩ := h.body
  exact (Array.getElem?_eq_some_iff.1 h1).1
theorem LeftV.lt {B : Nat} {X : List Nat} {w : World} {p : Nat} {f : Int} {N : Nat} {off arm : Bool} {M fr nx : Nat} {rs : List Rc} (h : LeftV B X w p f N off arm M fr nx rs) : ∀ k ∈ X, k < w.heap.size := by
  obtain ⟨bs, bp, s, U, G, D, hd, hp, h1, h2, hX, hz, hxs, _⟩ := h
  exact hxs

/-- Behind a call that changes the blocks of S alone; some of what is new is held beside. -/
theorem LeftV.more {B : Nat} {X X' : List Nat} {w w' : World} {p : Nat} {f : Int} {N : Nat} {off arm : Bool} {M fr nx : Nat} {rs : List Rc} (h : LeftV B X w p f N off arm M fr nx rs) {S : List Nat} (hS : Sole S w w') (hk : ∀ k ∈ S, ∃ cs t fr, w.heap[k]? = some (.cells cs t fr) ∧ t ≠ 69) (hX' : ∀ k ∈ X', k ∈ X ∨ w.heap.size ≤ k ∧ k < w'.heap.size) : LeftV B X' w' p f N off arm M fr nx rs := by
  obtain ⟨bs, bp, s, U, G, D, hd, hp, h1, h2, hX, hz, hxs, hr⟩ := h
  have hdS : ∀ k ∈ [p, bs, bp], k ∉ S := fun k hkk hm => by
    obtain ⟨cs, t, fr, hc, t1⟩ := hk k hm
    exact not_disk hd hc t1 hkk
  have hlt := hd.lt
  have hsz := hS.size
  refine ⟨bs, bp, s, U, G, D, hd.other hS (hdS p (by simp)) (hdS bs (by simp)) (hdS bp (by simp)), hp, h1, h2, fun k hk hx => ?_, by omega, fun k hk => ?_, hr⟩
  · rcases hX' k hx with e | e
    · exact hX k hk e
    · simp only [List.mem_cons, List.mem_nil_iff, or_false] at hk
      rcases hk with rfl | rfl | rfl <;> omega
  · rcases hX' k hk with e | e
    · have := hxs k e; omega
    · exact e.2

/-- Where the copy is held against what is found: what is left, and the copy with the record under way. -/
def TailS (w : World) (p pw dn FR kk M nx' : Nat) (RS : List Rc) (wx : World) : Prop :=
  ∃ BW NZ, Hid (LeftV w.heap.size (pw :: BW) wx p 3 50 true false M FR nx' (List.take kk RS)) ∧ Hid (LgAt wx pw BW ⟨RS, dn, 50, NZ⟩) ∧ Hid (LgOk ⟨RS, dn, 50, NZ⟩) ∧ Hid (∀ r ∈ RS, longB r.grp = false) ∧ Hid (Below w.heap.size w wx)

theorem mod_at (t n : Nat) (hn : 0 < n) : (t : Int).tmod (n : Int) = ((t % n : Nat) : Int) ∧ t % n < n := ⟨by rw [Int.tmod_eq_emod_of_nonneg (by omega)]; omega, Nat.mod_lt _ hn⟩

end Go.Proofs.YtckcdmkgmbicfaaGreat
