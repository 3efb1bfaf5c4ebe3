/- ExVg: in one text. -/
import Derived.Test.YtiplhhaehbjghaaGreatS2
namespace Go.Proofs.YtiplhhaehbjghaaGreat
open Go.RowKit
set_option linter.unusedVariables false
set_option maxHeartbeats 32000000
set_option maxRecDepth 100000
set_option linter.unusedSimpArgs false
def aft (v : It × Bool × Int) (c : Cg) : It × Bool × Int := if refA c then refW it0 false c else if v.2.2 ≠ 0 then (it0, false, v.2.2) else refW v.1 v.2.1 c
theorem ch_aft (l : List (ByteArray × ByteArray)) {c : Cg} (h : ckOk c = true) : chL l c = aft (stI l c.pl, stB l c.pl, stE l c.pl) c := by
 rw [ch_ref l c h]; unfold refT aft; rw [if_pos rfl]
theorem aft_over {v : It × Bool × Int} {c : Cg} (h : refA c = true) : aft v c = refW it0 false c := by unfold aft; rw [if_pos h]
theorem aft_err {v : It × Bool × Int} {c : Cg} (h : refA c = false) (he : v.2.2 ≠ 0) : aft v c = (it0, false, v.2.2) := by unfold aft; rw [h, if_neg (by simp), if_pos he]
theorem aft_on {v : It × Bool × Int} {c : Cg} (h : refA c = false) (he : v.2.2 = 0) : aft v c = refW v.1 v.2.1 c := by unfold aft; rw [h, if_neg (by simp), if_neg (by simpa using he)]
theorem orF_bit {f g : Int} (hf : 1 ≤ f ∧ f ≤ 7) (hg : 1 ≤ g ∧ g ≤ 7) : (1 ≤ orF f g ∧ orF f g ≤ 7) ∧ bF (orF f g) 1 = (bF f 1 || bF g 1) ∧ bF (orF f g) 2 = (bF f 2 || bF g 2) ∧ bF (orF f g) 4 = (bF f 4 || bF g 4) := by
 obtain ⟨f0, f1⟩ := hf
 obtain ⟨g0, g1⟩ := hg
 have hf : f = 1 ∨ f = 2 ∨ f = 3 ∨ f = 4 ∨ f = 5 ∨ f = 6 ∨ f = 7 := by omega
 have hg : g = 1 ∨ g = 2 ∨ g = 3 ∨ g = 4 ∨ g = 5 ∨ g = 6 ∨ g = 7 := by omega
 rcases hf with rfl | rfl | rfl | rfl | rfl | rfl | rfl <;> rcases hg with rfl | rfl | rfl | rfl | rfl | rfl | rfl <;> decide
theorem fields_bd {c : Cg} (h : fieldsOk c = true) : (1 ≤ c.fields ∧ c.fields ≤ 7) ∧ c = fieldsC c.pl c.fields 0 (wM c 0) (wL c 0) (wS c 0) := by
 unfold fieldsOk at h
 split at h
 ·cases h
 ·split at h
  ·cases h
  ·exact ⟨by omega, cgEq_iff.1 (Bool.and_eq_true_iff.1 h).1⟩
theorem rec_fields {c : Cg} (h : recOk c = true) (hf : c.fresh = false) : fieldsOk c = true := by
 unfold recOk at h; rw [hf] at h; exact h
theorem lay_fresh {x : List Int} {p : Pt} (h : p.fresh = true) : layB x p = layB zeroC p := by
 apply ch_ext (layB_len _ _) (layB_len _ _)
 intro i hi
 rw [layB_get _ _ hi, layB_get _ _ hi]
 unfold layAt
 rw [h]
 rfl
theorem lay_frP (p : Pt) : layB zeroC { p with fresh := true } = layB zeroC p := by
 apply ch_ext (layB_len _ _) (layB_len _ _)
 intro i hi
 rw [layB_get _ _ hi, layB_get _ _ hi]
 unfold layAt
 dsimp only
 split
 ·rfl
 ·rw [if_pos rfl, zeroC_get]; split <;> rfl
theorem aft_join (v : It × Bool × Int) (hv : v.2.2 = 0 ∨ v.1 = it0) {a b : Cg} (h : (joinX a b).2 = 0) : aft v (joinX a b).1 = aft (aft v a) b := by
 have hpl := joinX_pl h
 unfold joinX at h ⊢
 cases ha : ckOk a
 ·rw [ha] at h; cases h
 cases hb : ckOk b
 ·rw [ha, hb] at h; cases h
 cases hp : plEq a.pl b.pl
 ·rw [ha, hb, hp] at h; cases h
 rw [ha, hb, hp] at h
 simp only [if_true] at h ⊢
 have epl := plEq_iff.1 hp
 obtain ⟨pa, ca⟩ := ck_cases ha
 obtain ⟨pb, cb⟩ := ck_cases hb
 have over : ∀ (c : Cg), refA c = true → ∀ v', aft v c = aft v' c := fun c hc v' => by unfold aft; rw [if_pos hc, if_pos hc]
 cases hg : b.gone
 case true =>
  simp only [if_true]
  exact over b (by unfold refA; rw [hg]; rfl) _
 rw [hg] at h cb
 simp only [Bool.false_eq_true, if_false] at h cb ⊢
 by_cases h1 : b.pl.part = 1
 ·rw [if_pos h1] at h cb ⊢
  unfold jRX at h ⊢
  cases hf : b.fresh
  case true =>
   simp only [if_true]
   exact over b (by unfold refA; rw [hg, hf]; rfl) _
  rw [hf] at h
  simp only [Bool.false_eq_true, if_false] at h ⊢
  cases hga : a.gone
  case true => rw [hga] at h; cases h
  rw [hga] at h ca
  simp only [Bool.false_eq_true, if_false] at h ca ⊢
  cases hr : recOk (recJ a b)
  case false => rw [hr] at h; cases h
  simp only [if_true]
  have h1a : a.pl.part = 1 := by rw [epl]; exact h1
  rw [if_pos h1a] at ca
  have n2 : ¬ b.pl.part = 2 := by omega
  have n3 : ¬ b.pl.part = 3 := by omega
  have n2a : ¬ a.pl.part = 2 := by omega
  have n3a : ¬ a.pl.part = 3 := by omega
  have b2 : (b.pl.part == 2) = false := by simp [n2]
  have b2a : (a.pl.part == 2) = false := by simp [n2a]
  have fb := rec_fields cb hf
  obtain ⟨bdb, eb⟩ := fields_bd fb
  have ptb : b.pt.fresh = false := by rw [eb]; rfl
  have rb : refA b = false := by unfold refA; rw [hg, hf, b2, ptb]; rfl
  cases hfa : a.fresh
  ·have fa := rec_fields ca hfa
   obtain ⟨bda, ea⟩ := fields_bd fa
   have pta : a.pt.fresh = false := by rw [ea]; rfl
   have ra : refA a = false := by unfold refA; rw [hga, hfa, b2a, pta]; rfl
   have ej : recJ a b = { recI a b with fields := orF a.fields b.fields } := by unfold recJ; rw [hfa]; rfl
   have rj : refA (recJ a b) = false := by rw [ej]; unfold refA recI; dsimp only; rw [hga, hfa, b2a, pta]; rfl
   obtain ⟨_, o1, o2, o4⟩ := orF_bit bda bdb
   by_cases he : v.2.2 = 0
   ·rw [aft_on rj he, aft_on ra he]
    have k1 : (recJ a b).gone = false := by rw [ej]; exact hga
    have k2 : (recJ a b).pl = a.pl := by rw [ej]; rfl
    have k3 : (recJ a b).fresh = false := by rw [ej]; exact hfa
    have wJ : ∀ x is, refW x is (recJ a b) = if is then (⟨x.kind, wM (recJ a b) x.mode, wL (recJ a b) x.links, wS (recJ a b) x.size, x.lead, x.bytes⟩, true, 0) else (it0, false, 3) := fun x is => by
     unfold refW; rw [k1, k2, k3, if_neg (by simp), if_neg n2a, if_neg n3a, if_neg (by simp)]
    have wA : ∀ x is, refW x is a = if is then (⟨x.kind, wM a x.mode, wL a x.links, wS a x.size, x.lead, x.bytes⟩, true, 0) else (it0, false, 3) := fun x is => by
     unfold refW; rw [hga, hfa, if_neg (by simp), if_neg n2a, if_neg n3a, if_neg (by simp)]
    have wB : ∀ x is, refW x is b = if is then (⟨x.kind, wM b x.mode, wL b x.links, wS b x.size, x.lead, x.bytes⟩, true, 0) else (it0, false, 3) := fun x is => by
     unfold refW; rw [hg, hf, if_neg (by simp), if_neg n2, if_neg n3, if_neg (by simp)]
    rw [wJ, wA]
    obtain ⟨x, is, er⟩ := v
    dsimp only at he ⊢
    cases is
    ·rw [if_neg (by simp), if_neg (by simp), aft_err rb (by dsimp only; decide)]
    ·rw [if_pos rfl, if_pos rfl, aft_on rb rfl]
     dsimp only
     rw [wB, if_pos rfl]
     dsimp only
     have m1 : wM (recJ a b) x.mode = wM b (wM a x.mode) := by rw [ej]; unfold wM recI; dsimp only; rw [o1]; unfold wM; cases bF a.fields 1 <;> cases bF b.fields 1 <;> rfl
     have m2 : wL (recJ a b) x.links = wL b (wL a x.links) := by rw [ej]; unfold wL recI; dsimp only; rw [o2]; unfold wL; cases bF a.fields 2 <;> cases bF b.fields 2 <;> rfl
     have m4 : wS (recJ a b) x.size = wS b (wS a x.size) := by rw [ej]; unfold wS recI; dsimp only; rw [o4]; unfold wS; cases bF a.fields 4 <;> cases bF b.fields 4 <;> rfl
     rw [m1, m2, m4]
   ·rw [aft_err rj he, aft_err ra he, aft_err rb (by exact he)]
  ·have ej : recJ a b = recI a b := by unfold recJ; rw [hfa]; rfl
   have ra : refA a = true := by unfold refA; rw [hga, hfa]; rfl
   have rj : refA (recI a b) = true := by unfold refA recI; dsimp only; rw [hga, hfa]; rfl
   rw [ej, aft_over rj, aft_over ra]
   have k1 : (recI a b).gone = false := hga
   have k2 : (recI a b).pl = a.pl := rfl
   have k3 : (recI a b).fresh = true := hfa
   have wJ : refW it0 false (recI a b) = (freshI (recI a b), true, 0) := by unfold refW; rw [k1, k2, k3, if_neg (by simp), if_neg n2a, if_neg n3a, if_pos rfl]
   have wA : refW it0 false a = (freshI a, true, 0) := by unfold refW; rw [hga, hfa, if_neg (by simp), if_neg n2a, if_neg n3a, if_pos rfl]
   rw [wJ, wA, aft_on rb rfl]
   unfold refW
   rw [hg, hf, if_neg (by simp), if_neg n2, if_neg n3, if_neg (by simp), if_pos rfl]
   rfl
 ·rw [if_neg h1] at h cb ⊢
  by_cases h2 : b.pl.part = 2
  ·rw [if_pos h2]
   exact over b (by unfold refA; rw [h2]; simp) _
  ·rw [if_neg h2] at cb ⊢
   have h3 : b.pl.part = 3 := by rcases plOk_part pb with e | e | e <;> omega
   have n1a : ¬ a.pl.part = 1 := by rw [epl]; exact h1
   have n2a : ¬ a.pl.part = 2 := by rw [epl]; exact h2
   have h3a : a.pl.part = 3 := by rw [epl]; exact h3
   have b2 : (b.pl.part == 2) = false := by simp [h2]
   have b2a : (a.pl.part == 2) = false := by simp [n2a]
   obtain ⟨t1, t2⟩ := dat_trim cb
   have hfb : b.fresh = false := by rw [t2]; rfl
   have rb : refA b = b.pt.fresh := by unfold refA; rw [hg, hfb, b2]; simp
   have wB : ∀ x is, refW x is b = (laidI x b, true, 0) := fun x is => by unfold refW; rw [hg]; simp only [Bool.false_eq_true, if_false]; rw [if_neg h2, if_pos h3]
   unfold jDX
   cases hga : a.gone
   case true =>
    simp only [if_true]
    have ra : refA a = true := by unfold refA; rw [hga]; rfl
    have rj : refA (frP b) = true := by unfold refA frP; simp
    have wJ : ∀ x is, refW x is (frP b) = (laidI x (frP b), true, 0) := fun x is => by
     unfold refW
     rw [show (frP b).gone = false from hg, show (frP b).pl = b.pl from rfl]; simp only [Bool.false_eq_true, if_false]; rw [if_neg h2, if_pos h3]
    have wA : refW it0 false a = (it0, false, 0) := by unfold refW; rw [hga]; rfl
    have e : laidI it0 (frP b) = laidI it0 b := by unfold laidI frP; dsimp only; rw [show it0.bytes = zeroC from rfl, lay_frP]
    rw [aft_over rj, aft_over ra, wJ, wA]
    cases hbf : b.pt.fresh
    ·rw [aft_on (by rw [rb]; exact hbf) rfl, wB, e]
    ·rw [aft_over (by rw [rb]; exact hbf), wB, e]
   rw [hga] at ca
   simp only [Bool.false_eq_true, if_false] at ca ⊢
   rw [if_neg n1a, if_neg n2a] at ca
   obtain ⟨s1, s2⟩ := dat_trim ca
   have hfa : a.fresh = false := by rw [s2]; rfl
   have ra : refA a = a.pt.fresh := by unfold refA; rw [hga, hfa, b2a]; simp
   have wA : ∀ x is, refW x is a = (laidI x a, true, 0) := fun x is => by unfold refW; rw [hga]; simp only [Bool.false_eq_true, if_false]; rw [if_neg n2a, if_pos h3a]
   have wJ : ∀ x is, refW x is (joC a b) = (laidI x (joC a b), true, 0) := fun x is => by
    unfold refW
    rw [show (joC a b).gone = false from hg, show (joC a b).pl = b.pl from rfl]; simp only [Bool.false_eq_true, if_false]; rw [if_neg h2, if_pos h3]
   have rj : refA (joC a b) = (b.pt.fresh || a.pt.fresh) := by
    unfold refA
    rw [show (joC a b).gone = false from hg, show (joC a b).fresh = false from hfb, show (joC a b).pl = b.pl from rfl, b2, show (joC a b).pt = joinP a.pt b.pt from rfl]
    unfold joinP
    cases hbf : b.pt.fresh
    ·simp
    ·simp [trimP, hbf]
   have lJ : ∀ x, laidI x (joC a b) = laidI (laidI x a) b := fun x => by
    unfold laidI
    dsimp only
    rw [show (joC a b).pt = joinP a.pt b.pt from rfl, lay_join]
   cases hbf : b.pt.fresh
   case true =>
    have e : laidI it0 (joC a b) = laidI it0 b := by rw [lJ]; unfold laidI; dsimp only; rw [lay_fresh hbf, lay_fresh (x := it0.bytes) hbf]
    rw [aft_over (by rw [rj, hbf]; rfl), aft_over (v := aft v a) (by rw [rb]; exact hbf), wJ, wB, e]
   rw [hbf] at rj rb
   cases haf : a.pt.fresh
   case true =>
    rw [haf] at rj ra
    rw [aft_over rj, aft_over ra, wJ, wA, aft_on rb rfl, wB, lJ]
   rw [haf] at rj ra
   by_cases he : v.2.2 = 0
   ·rw [aft_on rj he, aft_on ra he, wJ, wA, aft_on rb rfl, wB, lJ]
   ·rw [aft_err rj he, aft_err ra he, aft_err rb (by exact he)]
theorem vg_put (l : List (ByteArray × ByteArray)) {d : Dl} (hd : DlOk d) (hc : CksOk d) {c : Cg} (hcg : CgOk c) (h0 : (putX d c).2 = 0) (q : Pl) : vgR l (putS d c) q = if plEq c.pl q = true then aft (vgR l d c.pl) c else vgR l d q := by
 have hL : (putS d c).L = setL d.L (putX d c).1 := by unfold putS; rw [if_pos h0]
 have hpl := putX_pl h0
 have hok := putX_ok hd hcg
 have hg := getL_set hd.L hok q
 rw [hpl] at hg
 have hst : (stE l c.pl = 0 ∨ stI l c.pl = it0) := by
  by_cases he : stE l c.pl = 0
  ·exact .inl he
  ·right
   unfold stI
   have : stB l c.pl = false := by
    cases hB : stB l c.pl with
    | false => rfl
    | true =>
     exfalso
     unfold stB at hB
     simp only [Bool.and_eq_true, decide_eq_true_eq] at hB
     apply he
     unfold stE
     rw [hB.1.1, hB.1.2, if_pos rfl, if_pos rfl]
     exact hB.2
   rw [this]; rfl
 cases hq : plEq c.pl q
 ·rw [if_neg (by decide)]
  rw [hq, if_neg (by decide)] at hg
  unfold vgR isX wasX
  rw [hL, hg]
 ·rw [if_pos rfl]
  rw [hq, if_pos rfl] at hg
  have eq := plEq_iff.1 hq
  subst eq
  have hi' : isX (putS d c) c.pl = true := by unfold isX; rw [hL, hg]; rfl
  have hw' : wasX (putS d c) c.pl = (putX d c).1 := by unfold wasX; rw [hL, hg]; rfl
  have hck : ckOk (putX d c).1 = true := by
   have := hc.put c
   refine this _ ?_
   rw [hL]
   exact setL_mem.2 (.inl rfl)
  have hv : vgR l (putS d c) c.pl = aft (stI l c.pl, stB l c.pl, stE l c.pl) (putX d c).1 := by
   unfold vgR
   rw [hi', hw', if_pos rfl, ch_aft l hck, hpl]
  rw [hv]
  unfold putX behX at h0 ⊢
  cases hco : ckOk c
  ·rw [hco] at h0; cases h0
  rw [hco] at h0
  simp only [if_true] at h0 ⊢
  cases hi : isX d c.pl
  ·rw [hi] at h0
   simp only [Bool.false_eq_true, if_false] at h0 ⊢
   split at h0
   ·cases h0
   ·rename_i hm
    rw [if_neg hm]
    have : vgR l d c.pl = (stI l c.pl, stB l c.pl, stE l c.pl) := by unfold vgR; rw [hi]; rfl
    rw [this]
  ·rw [hi] at h0
   simp only [if_true] at h0 ⊢
   have hwp := was_pl hd hi
   have : vgR l d c.pl = aft (stI l c.pl, stB l c.pl, stE l c.pl) (wasX d c.pl) := by
    unfold vgR
    rw [hi, if_pos rfl, ch_aft l (is_ck hc hi), hwp]
   rw [this]
   exact aft_join _ hst h0
end Go.Proofs.YtiplhhaehbjghaaGreat
