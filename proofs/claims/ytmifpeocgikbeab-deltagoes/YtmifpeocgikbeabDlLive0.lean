/- The chapter's examples, in plain words. -/
import Derived.Test.YtmifpeocgikbeabDlPut2
namespace Go.Proofs.Ytmifpeocgikbeab
open Go.RowKit Go.Maps
set_option linter.unusedVariables false
set_option linter.unusedSimpArgs false
set_option maxRecDepth 100000

theorem setL_old {L : List Cg} (h : LOk L) {c d : Cg} (hc : CgOk c) (hg : getL L c.pl = some d) : (setL L c).length = L.length := by
  obtain ⟨h1, h2⟩ := (getL_some h.rise).1 hg
  have e : setL L d = L := by
    refine getL_ext (setL_ok h (h.ok d h1)) h fun p => ?_
    rw [getL_set h (h.ok d h1)]
    split
    · rename_i e
      rw [← plEq_iff.1 e]
      exact ((getL_some h.rise).2 ⟨h1, rfl⟩).symm
    · rfl
  have a : ∀ x : Cg, (setL L x).length = (delL L x.pl).length + 1 := fun x => by unfold setL; rw [(insC_perm x _).length_eq, List.length_cons]
  rw [a c, ← h2, ← a d, e]
theorem setL_new {L : List Cg} {c : Cg} (hg : getL L c.pl = none) : (setL L c).length = L.length + 1 := by
  unfold setL
  rw [(insC_perm c _).length_eq, List.length_cons]
  congr 2
  unfold delL
  refine List.filter_eq_self.2 fun x hx => ?_
  rw [plEq_no (getL_none.1 hg x hx)]; rfl

def lv1 : Cg := freshC (recP 2) 1 0 1 0
def lv2 : Cg := fieldsC (recP 2) 4 0 0 0 5
def lv2' : Cg := freshC (recP 2) 1 0 1 5
def lv3 : Cg := goneC (datP 2 0)
def lv4 : Cg := dataC (datP 2 0) ⟨false, 1, zeroC⟩
def lv4' : Cg := dataC (datP 2 0) ⟨true, 1, zeroC⟩
def lv5 : Cg := goneC (recP 2)

theorem pt1_ok (f : Bool) : PtOk ⟨f, 1, zeroC⟩ := ⟨show 1 < 4294967296 by decide, ch_zero⟩
theorem nil_len : (⟨#[]⟩ : ByteArray).size ≤ maxLen := Nat.zero_le _
theorem rec_ok : PlOk (recP 2) := ⟨by decide, by decide, by decide, by decide, nil_len, by decide, by decide⟩
theorem dat_ok : PlOk (datP 2 0) := ⟨by decide, by decide, by decide, by decide, nil_len, by decide, by decide⟩
theorem ino_ok (a b c d : Int) (ha : a = 0 ∨ a = 1) (hb : b = 0) (hc : c = 0 ∨ c = 1) (hd : d = 0 ∨ d = 5) : InoOk a b c d := by constructor <;> omega
theorem lv1_ok : CgOk lv1 := ⟨rec_ok, by decide, by decide, ino_ok _ _ _ _ (.inr rfl) rfl (.inr rfl) (.inl rfl), by decide, by decide, pt0_ok⟩
theorem lv2_ok : CgOk lv2 := ⟨rec_ok, by decide, by decide, ino_ok _ _ _ _ (.inl rfl) rfl (.inl rfl) (.inr rfl), by decide, by decide, pt0_ok⟩
theorem lv2'_ok : CgOk lv2' := ⟨rec_ok, by decide, by decide, ino_ok _ _ _ _ (.inr rfl) rfl (.inr rfl) (.inr rfl), by decide, by decide, pt0_ok⟩
theorem lv3_ok : CgOk lv3 := ⟨dat_ok, by decide, by decide, ino_ok _ _ _ _ (.inl rfl) rfl (.inl rfl) (.inl rfl), by decide, by decide, pt0_ok⟩
theorem lv4_ok : CgOk lv4 := ⟨dat_ok, by decide, by decide, ino_ok _ _ _ _ (.inl rfl) rfl (.inl rfl) (.inl rfl), by decide, by decide, pt1_ok _⟩
theorem lv4'_ok : CgOk lv4' := ⟨dat_ok, by decide, by decide, ino_ok _ _ _ _ (.inl rfl) rfl (.inl rfl) (.inl rfl), by decide, by decide, pt1_ok _⟩
theorem lv5_ok : CgOk lv5 := ⟨rec_ok, by decide, by decide, ino_ok _ _ _ _ (.inl rfl) rfl (.inl rfl) (.inl rfl), by decide, by decide, pt0_ok⟩

theorem pk1 : plOk (recP 2) = true := by kernel_rfl
theorem pk2 : plOk (datP 2 0) = true := by kernel_rfl
theorem pe12 : plEq (recP 2) (datP 2 0) = false := by kernel_rfl
theorem pe21 : plEq (datP 2 0) (recP 2) = false := by kernel_rfl
theorem ck1 : ckOk lv1 = true := by kernel_rfl
theorem ck2 : ckOk lv2 = true := by kernel_rfl
theorem ck3 : ckOk lv3 = true := by kernel_rfl
theorem ck4 : ckOk lv4 = true := by kernel_rfl
theorem ck5 : ckOk lv5 = true := by kernel_rfl
theorem jo12 : joinX lv1 lv2 = (lv2', 0) := by kernel_rfl
theorem jo34 : joinX lv3 lv4 = (lv4', 0) := by kernel_rfl
theorem jo25 : joinX lv2' lv5 = (lv5, 0) := by kernel_rfl
theorem jo52 : joinX lv5 lv2 = (cg0, 3) := by kernel_rfl

/-- What a Put finds and does. -/
theorem put_new {s : Dl} {c : Cg} (hg : getL s.L c.pl = none) (hk : ckOk c = true) (hm : (s.L.length : Int) < s.most) : putX s c = (c, 0) := by
  unfold putX isX wasX behX
  rw [hg, hk]
  simp only [if_true, Option.isSome_none, Bool.false_eq_true, if_false]
  rw [if_neg (by omega)]
theorem put_old {s : Dl} {c d : Cg} (hg : getL s.L c.pl = some d) (hk : ckOk c = true) : putX s c = joinX d c := by
  unfold putX isX wasX behX
  rw [hg, hk]
  rfl
theorem putS_is {s : Dl} {c x : Cg} (h : putX s c = (x, 0)) : (putS s c).L = setL s.L x ∧ (putS s c).most = s.most ∧ (putS s c).pus.length = s.pus.length + 1 := by
  unfold putS
  rw [h]
  simp

structure Live (s : Dl) (n : Nat) (a b : Option Cg) : Prop where
  most : s.most = 4
  a : getL s.L (recP 2) = a
  b : getL s.L (datP 2 0) = b
  len : s.L.length = n
  pus : s.pus.length ≤ 10
  ok : DlOk s

theorem live_s0 : Live (newS 4) 0 none none := ⟨rfl, rfl, rfl, rfl, by decide, newS_ok (by decide)⟩
theorem live_s1 {s : Dl} (h : Live s 0 none none) (hp : s.pus.length ≤ 0) : putX s lv1 = (lv1, 0) ∧ Live (putS s lv1) 1 (some lv1) none ∧ (putS s lv1).pus.length ≤ 1 := by
  have e : putX s lv1 = (lv1, 0) := put_new h.a ck1 (by rw [h.len, h.most]; decide)
  obtain ⟨h1, h2, h3⟩ := putS_is e
  refine ⟨e, ⟨by rw [h2, h.most], ?_, ?_, ?_, by omega, putS_ok h.ok lv1_ok⟩, by omega⟩
  · rw [h1, getL_set h.ok.L lv1_ok]; exact if_pos (plEq_self _)
  · rw [h1, getL_set h.ok.L lv1_ok, show lv1.pl = recP 2 from rfl, pe12]; exact h.b
  · rw [h1, setL_new h.a, h.len]
theorem live_s2 {s : Dl} (h : Live s 1 (some lv1) none) (hp : s.pus.length ≤ 1) : putX s lv2 = (lv2', 0) ∧ Live (putS s lv2) 1 (some lv2') none ∧ (putS s lv2).pus.length ≤ 2 := by
  have e : putX s lv2 = (lv2', 0) := (put_old (c := lv2) h.a ck2).trans jo12
  obtain ⟨h1, h2, h3⟩ := putS_is e
  refine ⟨e, ⟨by rw [h2, h.most], ?_, ?_, ?_, by omega, putS_ok h.ok lv2_ok⟩, by omega⟩
  · rw [h1, getL_set h.ok.L lv2'_ok]; exact if_pos (plEq_self _)
  · rw [h1, getL_set h.ok.L lv2'_ok, show lv2'.pl = recP 2 from rfl, pe12]; exact h.b
  · rw [h1, setL_old h.ok.L lv2'_ok (d := lv1) h.a, h.len]
theorem live_s3 {s : Dl} (h : Live s 1 (some lv2') none) (hp : s.pus.length ≤ 2) : putX s lv3 = (lv3, 0) ∧ Live (putS s lv3) 2 (some lv2') (some lv3) ∧ (putS s lv3).pus.length ≤ 3 := by
  have e : putX s lv3 = (lv3, 0) := put_new h.b ck3 (by rw [h.len, h.most]; decide)
  obtain ⟨h1, h2, h3⟩ := putS_is e
  refine ⟨e, ⟨by rw [h2, h.most], ?_, ?_, ?_, by omega, putS_ok h.ok lv3_ok⟩, by omega⟩
  · rw [h1, getL_set h.ok.L lv3_ok, show lv3.pl = datP 2 0 from rfl, pe21]; exact h.a
  · rw [h1, getL_set h.ok.L lv3_ok]; exact if_pos (plEq_self _)
  · rw [h1, setL_new h.b, h.len]
theorem live_s4 {s : Dl} (h : Live s 2 (some lv2') (some lv3)) (hp : s.pus.length ≤ 3) : putX s lv4 = (lv4', 0) ∧ Live (putS s lv4) 2 (some lv2') (some lv4') ∧ (putS s lv4).pus.length ≤ 4 := by
  have e : putX s lv4 = (lv4', 0) := (put_old (c := lv4) h.b ck4).trans jo34
  obtain ⟨h1, h2, h3⟩ := putS_is e
  refine ⟨e, ⟨by rw [h2, h.most], ?_, ?_, ?_, by omega, putS_ok h.ok lv4_ok⟩, by omega⟩
  · rw [h1, getL_set h.ok.L lv4'_ok, show lv4'.pl = datP 2 0 from rfl, pe21]; exact h.a
  · rw [h1, getL_set h.ok.L lv4'_ok]; exact if_pos (plEq_self _)
  · rw [h1, setL_old h.ok.L lv4'_ok (d := lv3) h.b, h.len]
theorem live_s5 {s : Dl} (h : Live s 2 (some lv2') (some lv4')) (hp : s.pus.length ≤ 4) : putX s lv5 = (lv5, 0) ∧ Live (putS s lv5) 2 (some lv5) (some lv4') ∧ (putS s lv5).pus.length ≤ 5 := by
  have e : putX s lv5 = (lv5, 0) := (put_old (c := lv5) h.a ck5).trans jo25
  obtain ⟨h1, h2, h3⟩ := putS_is e
  refine ⟨e, ⟨by rw [h2, h.most], ?_, ?_, ?_, by omega, putS_ok h.ok lv5_ok⟩, by omega⟩
  · rw [h1, getL_set h.ok.L lv5_ok]; exact if_pos (plEq_self _)
  · rw [h1, getL_set h.ok.L lv5_ok, show lv5.pl = recP 2 from rfl, pe12]; exact h.b
  · rw [h1, setL_old h.ok.L lv5_ok (d := lv2') h.a, h.len]
theorem live_s6 {s : Dl} (h : Live s 2 (some lv5) (some lv4')) : putX s lv2 = (cg0, 3) ∧ putS s lv2 = s := by
  have e : putX s lv2 = (cg0, 3) := (put_old (c := lv2) h.a ck2).trans jo52
  refine ⟨e, ?_⟩
  unfold putS
  rw [e]
  rfl

end Go.Proofs.Ytmifpeocgikbeab
