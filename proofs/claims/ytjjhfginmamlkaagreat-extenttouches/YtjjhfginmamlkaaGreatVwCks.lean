/- What is put into a delta may be; what a change makes of what stands, in the document's order and in the program's. -/
import Derived.Test.YtjjhfginmamlkaaGreatVwGet
import Derived.Test.YtjjhfginmamlkaaGreatD3
namespace Go.Proofs.YtjjhfginmamlkaaGreat
open Go.RowKit
set_option linter.unusedVariables false
set_option linter.unusedSimpArgs false
set_option maxRecDepth 4000

theorem trim_of {p : Pt} (hl : p.bytes.length = 32) (h : ∀ i, i < 32 → p.mask.testBit i = false → p.bytes.getD i 0 = 0) : trimP p = p := by
  have hb : (trimP p).bytes = p.bytes := ch_ext (layB_len _ _) hl fun i hi => by
    rw [trimP_get p hi]
    cases hm : p.mask.testBit i
    · rw [h i hi hm]; rfl
    · rfl
  obtain ⟨f, m, b⟩ := p
  unfold trimP at hb ⊢
  dsimp only at hb ⊢
  rw [hb]
theorem trim_zero {p : Pt} (h : trimP p = p) (i : Nat) (hi : i < 32) (hm : p.mask.testBit i = false) : p.bytes.getD i 0 = 0 := by
  have := trimP_get p hi
  rw [h, hm] at this
  simpa using this
theorem trim_len {p : Pt} (h : trimP p = p) : p.bytes.length = 32 := by
  rw [← h]
  exact layB_len _ _
theorem trim_trim (p : Pt) : trimP (trimP p) = trimP p := trim_of (layB_len _ _) fun i hi hm => by
  rw [trimP_get p hi]
  rw [show p.mask.testBit i = false from hm]
  rfl
theorem trim_join (a b : Pt) : trimP (joinP a b) = joinP a b := by
  unfold joinP
  cases hf : b.fresh
  · rw [if_neg (by simp)]
    refine trim_of (layB_len _ _) fun i hi hm => ?_
    dsimp only at hm ⊢
    rw [Nat.testBit_or, Bool.or_eq_false_iff] at hm
    rw [layB_get _ _ hi]
    unfold layAt
    rw [hm.2, hf]
    have := trimP_get a hi
    rw [hm.1] at this
    simpa using this
  · rw [if_pos rfl]
    exact trim_trim b

theorem ck_cases {c : Cg} (h : ckOk c = true) : plOk c.pl = true ∧ (if c.gone then cgEq c (goneC c.pl) else if c.pl.part = 1 then recOk c else if c.pl.part = 2 then entOk c else datOk c) = true := by
  unfold ckOk at h
  cases hp : plOk c.pl
  · rw [hp] at h; cases h
  · rw [hp, if_pos rfl] at h; exact ⟨rfl, h⟩
theorem dat_trim {c : Cg} (h : datOk c = true) : trimP c.pt = c.pt ∧ c = dataC c.pl c.pt := by
  unfold datOk at h
  have e := cgEq_iff.1 h
  have e2 : c.pt = trimP c.pt := congrArg Cg.pt e
  exact ⟨e2.symm, by rw [← e2] at e; exact e⟩
theorem dat_of {p : Pl} {q : Pt} (h : trimP q = q) : datOk (dataC p q) = true := by
  unfold datOk
  refine cgEq_iff.2 ?_
  show dataC p q = dataC p (trimP q)
  rw [h]
theorem join_ck {a b : Cg} (h : (joinX a b).2 = 0) : ckOk (joinX a b).1 = true := by
  unfold joinX at h ⊢
  cases ha : ckOk a
  · rw [ha] at h; cases h
  cases hb : ckOk b
  · rw [ha, hb] at h; cases h
  cases hp : plEq a.pl b.pl
  · rw [ha, hb, hp] at h; cases h
  rw [ha, hb, hp] at h
  simp only [if_true] at h ⊢
  have epl := plEq_iff.1 hp
  obtain ⟨pa, ca⟩ := ck_cases ha
  obtain ⟨pb, cb⟩ := ck_cases hb
  cases hg : b.gone
  · rw [hg] at h cb
    simp only [Bool.false_eq_true, if_false] at h cb ⊢
    by_cases h1 : b.pl.part = 1
    · rw [if_pos h1] at h ⊢
      unfold jRX at h ⊢
      cases hf : b.fresh
      · rw [hf] at h
        simp only [Bool.false_eq_true, if_false] at h ⊢
        cases hga : a.gone
        · rw [hga] at h
          simp only [Bool.false_eq_true, if_false] at h ⊢
          cases hr : recOk (recJ a b)
          · rw [hr] at h; cases h
          · simp only [if_true]
            have q1 : (recJ a b).pl = a.pl := by unfold recJ recI; split <;> rfl
            have q2 : (recJ a b).gone = false := by unfold recJ recI; split <;> exact hga
            unfold ckOk
            rw [q1, pa, q2]
            simp only [if_true, Bool.false_eq_true, if_false]
            rw [if_pos (by rw [epl]; exact h1)]
            exact hr
        · rw [hga] at h; cases h
      · simp only [if_true]; exact hb
    · rw [if_neg h1] at h cb ⊢
      by_cases h2 : b.pl.part = 2
      · rw [if_pos h2]; exact hb
      · rw [if_neg h2] at cb ⊢
        obtain ⟨t1, t2⟩ := dat_trim cb
        have hok : ∀ q : Pt, trimP q = q → ckOk (dataC b.pl q) = true := fun q hq => by
          unfold ckOk
          rw [show (dataC b.pl q).pl = b.pl from rfl, pb, show (dataC b.pl q).gone = false from rfl]
          simp only [if_true, Bool.false_eq_true, if_false]
          rw [if_neg h1, if_neg h2]
          exact dat_of hq
        unfold jDX
        cases hga : a.gone
        · simp only [Bool.false_eq_true, if_false]
          unfold joC
          rw [t2]
          exact hok _ (trim_join a.pt b.pt)
        · simp only [if_true]
          have e : frP b = dataC b.pl ⟨true, b.pt.mask, b.pt.bytes⟩ := (congrArg frP t2).trans rfl
          rw [e]
          exact hok _ (trim_of (p := ⟨true, b.pt.mask, b.pt.bytes⟩) (show b.pt.bytes.length = 32 from trim_len t1) fun i hi hm => trim_zero (p := b.pt) t1 i hi hm)
  · simp only [if_true]; exact hb

/-- Every change may be. -/
def CksOk (s : Dl) : Prop := ∀ c ∈ s.L, ckOk c = true
theorem CksOk.put {s : Dl} (hs : CksOk s) (c : Cg) : CksOk (putS s c) := by
  by_cases h0 : (putX s c).2 = 0
  · unfold putS
    rw [if_pos h0]
    intro x hx
    rcases setL_mem.1 hx with rfl | ⟨hx, _⟩
    · unfold putX behX at h0 ⊢
      cases hc : ckOk c
      · rw [hc] at h0; cases h0
      · rw [hc] at h0
        simp only [if_true] at h0 ⊢
        cases hi : isX s c.pl
        · rw [hi] at h0
          simp only [Bool.false_eq_true, if_false] at h0 ⊢
          split at h0
          · cases h0
          · rename_i hm
            rw [if_neg hm]; exact hc
        · rw [hi] at h0
          simp only [if_true] at h0 ⊢
          exact join_ck h0
    · exact hs x hx
  · unfold putS
    rw [if_neg h0]
    exact hs
theorem CksOk.names {s : Dl} (hs : CksOk s) : ∀ c ∈ s.L, c.pl.name.size ≤ 8 := fun c hc => plOk_size (ck_cases (hs c hc)).1

/-- What a change makes of what stands, in the document's order. -/
def refW (x : It) (is : Bool) (c : Cg) : It × Bool × Int :=
  if c.gone then (it0, false, 0) else if c.pl.part = 2 then (leadI c, true, 0) else if c.pl.part = 3 then (laidI x c, true, 0) else if c.fresh then (freshI c, true, 0) else if is then (⟨x.kind, wM c x.mode, wL c x.links, wS c x.size, x.lead, x.bytes⟩, true, 0) else (it0, false, 3)
def refA (c : Cg) : Bool := c.gone || c.fresh || c.pl.part == 2 || c.pt.fresh
def refT (l : List (ByteArray × ByteArray)) (p : Pl) (c : Cg) (ch : Bool) : It × Bool × Int :=
  if ch then (if refA c then refW it0 false c else if stE l p ≠ 0 then (it0, false, stE l p) else refW (stI l p) (stB l p) c) else (stI l p, stB l p, stE l p)
def refG (l : List (ByteArray × ByteArray)) (s : Dl) (q : Pl) : It × Bool × Int := if plOk q then refT l q (wasX s q) (isX s q) else (it0, false, 30)

theorem stI_one {l : List (ByteArray × ByteArray)} {q : Pl} (h1 : q.part = 1) : (stI l q).lead = 0 ∧ (stI l q).bytes = zeroC := by
  unfold stI
  cases stB l q
  · exact ⟨rfl, rfl⟩
  · rw [if_pos rfl]
    unfold decI
    split
    · rw [h1, rdI_1]; exact ⟨rfl, rfl⟩
    · exact ⟨rfl, rfl⟩
theorem ch_ref (l : List (ByteArray × ByteArray)) (c : Cg) (h : ckOk c = true) : chL l c = refT l c.pl c true := by
  obtain ⟨hp, hc⟩ := ck_cases h
  unfold chL chR refT refW refA
  rw [if_pos rfl]
  cases hg : c.gone
  · rw [hg] at hc
    simp only [Bool.false_eq_true, if_false, Bool.false_or] at hc ⊢
    by_cases h1 : c.pl.part = 1
    · rw [if_pos h1] at hc
      have n2 : ¬ c.pl.part = 2 := by omega
      have n3 : ¬ c.pl.part = 3 := by omega
      have b2 : (c.pl.part == 2) = false := by simp [n2]
      unfold recOk at hc
      cases hf : c.fresh
      · rw [hf] at hc
        simp only [Bool.false_eq_true, if_false] at hc
        have hpt : c.pt.fresh = false := by
          unfold fieldsOk at hc
          split at hc
          · cases hc
          · split at hc
            · cases hc
            · have e := cgEq_iff.1 (Bool.and_eq_true_iff.1 hc).1
              rw [e]; rfl
        obtain ⟨e1, e2⟩ := stI_one (l := l) h1
        by_cases he : stE l c.pl = 0
        · cases hB : stB l c.pl
          · simp [hpt, n2, n3, he]
          · simp [hpt, n2, n3, he, withI, e1, e2]
        · simp [hpt, n2, n3, he]
      · simp only [if_true, Bool.true_or]
        rw [if_neg n2, if_neg n3]
    · rw [if_neg h1] at hc
      by_cases h2 : c.pl.part = 2
      · rw [if_pos h2] at hc
        unfold entOk at hc
        have e := cgEq_iff.1 (Bool.and_eq_true_iff.1 hc).1
        have hf : c.fresh = false := by rw [e]; rfl
        have b2 : (c.pl.part == 2) = true := by simp [h2]
        rw [hf, b2, if_pos h2, if_pos h2]
        simp only [Bool.false_eq_true, if_false, Bool.true_or, if_true, Bool.or_true]
      · rw [if_neg h2] at hc
        obtain ⟨t1, t2⟩ := dat_trim hc
        have hf : c.fresh = false := by rw [t2]; rfl
        have h3 : c.pl.part = 3 := by rcases plOk_part hp with e | e | e <;> omega
        have b2 : (c.pl.part == 2) = false := by simp [h2]
        cases hpf : c.pt.fresh
        · by_cases he : stE l c.pl = 0
          · simp [hf, h3, he]
          · simp [hf, h3, he]
        · simp [hf, h3]
  · simp only [if_true, Bool.true_or]
theorem st_bad0 {l : List (ByteArray × ByteArray)} {q : Pl} (h : plOk q = false) : stE l q = 30 := by unfold stE; rw [h]; rfl
theorem vg_ref (l : List (ByteArray × ByteArray)) {s : Dl} (hs : DlOk s) (hc : CksOk s) (q : Pl) : vgR l s q = refG l s q := by
  unfold vgR refG
  cases hi : isX s q
  · cases hk : plOk q
    · have e1 : stB l q = false := by unfold stB; rw [hk]; rfl
      rw [st_bad0 hk]
      unfold stI
      rw [e1]
      rfl
    · unfold refT; rfl
  · have hpl := was_pl hs hi
    have hm : wasX s q ∈ s.L := by
      unfold isX at hi
      unfold wasX
      cases hgl : getL s.L q with
      | none => rw [hgl] at hi; cases hi
      | some c => exact ((getL_some hs.L.rise).1 hgl).1
    have hk := hc _ hm
    have hp : plOk q = true := by rw [← hpl]; exact (ck_cases hk).1
    rw [hp, if_pos rfl, if_pos rfl, ch_ref l _ hk, hpl]

end Go.Proofs.YtjjhfginmamlkaaGreat
