/- ExF, ExG: in one text. -/
import Derived.Test.YtjjhfginmamlkaaGreatXA
import Derived.Test.YtjjhfginmamlkaaGreatEF
namespace Go.Proofs.YtjjhfginmamlkaaGreat
open Go.RowKit
set_option linter.unusedVariables false
set_option linter.unusedSimpArgs false
set_option maxRecDepth 4000

set_option maxRecDepth 100000

/-! ### Which places there are -/

theorem filter_lt {A : List Pl} {a : Pl} (h : a ∈ A) : (A.filter fun y => !plEq a y).length < A.length := by
  induction A with
  | nil => cases h
  | cons b A ih =>
    rw [List.filter_cons]
    rcases List.mem_cons.1 h with rfl | h
    · rw [plEq_self]
      have := List.length_filter_le (fun y => !plEq a y) A
      simp only [Bool.not_true, Bool.false_eq_true, if_false, List.length_cons]
      omega
    · have := ih h
      split
      · simp only [List.length_cons]; omega
      · simp only [List.length_cons]; omega
theorem sub_len : ∀ {A B : List Pl}, A.Nodup → (∀ x ∈ A, x ∈ B) → A.length ≤ B.length
  | [], B, _, _ => Nat.zero_le _
  | a :: A, B, hn, hs => by
    obtain ⟨h1, h2⟩ := List.nodup_cons.1 hn
    have := sub_len (A := A) (B := B.filter fun y => !plEq a y) h2 (fun x hx => List.mem_filter.2 ⟨hs x (List.mem_cons_of_mem _ hx), by rw [plEq_no (fun e => h1 (by rw [e]; exact hx))]; rfl⟩)
    have := filter_lt (hs a List.mem_cons_self)
    rw [List.length_cons]; omega
theorem rise_nodup {L : List Cg} (h : Rise L) : (L.map (·.pl)).Nodup := by
  unfold List.Nodup
  rw [List.pairwise_map]
  exact h.imp (fun e => cmp_ne e)

/-- A sight over nothing, whose changes are of these places alone. -/
structure Bs (s : Sg) (K : List Pl) : Prop where
  nil : s.l = []
  ok : DlOk s.d
  ck : CksOk s.d
  most : s.d.most = 64
  at_ : ∀ c ∈ s.d.L, c.pl ∈ K
  k : K.length ≤ 64
theorem Bs.same {s t : Sg} {K : List Pl} (h : Bs s K) (hl : t.l = s.l) (hd : t.d = s.d) : Bs t K := by
  obtain ⟨h1, h2, h3, h4, h5, h6⟩ := h
  exact ⟨by rw [hl, h1], by rw [hd]; exact h2, by rw [hd]; exact h3, by rw [hd]; exact h4, by rw [hd]; exact h5, h6⟩
theorem Bs.room {s : Sg} {K : List Pl} (h : Bs s K) {p : Pl} (hp : p ∈ K) (hi : isX s.d p = false) : (s.d.L.length : Int) < s.d.most := by
  have hg : getL s.d.L p = none := by unfold isX at hi; cases hh : getL s.d.L p with | none => rfl | some c => rw [hh] at hi; cases hi
  have hn : (p :: s.d.L.map (·.pl)).Nodup := List.nodup_cons.2 ⟨fun e => by
    obtain ⟨c, hc, e⟩ := List.mem_map.1 e
    exact getL_none.1 hg c hc e, rise_nodup h.ok.L.rise⟩
  have := sub_len hn (B := K) (fun x hx => by
    rcases List.mem_cons.1 hx with rfl | hx
    · exact hp
    · obtain ⟨c, hc, rfl⟩ := List.mem_map.1 hx
      exact h.at_ c hc)
  have := h.k
  rw [List.length_cons, List.length_map] at *
  rw [h.most]; omega
theorem Bs.put {s : Sg} {K : List Pl} (h : Bs s K) {c : Cg} (hc : CgOk c) (hk : ckOk c = true) (hp : c.pl ∈ K) (hj : isX s.d c.pl = true → (joinX (wasX s.d c.pl) c).2 = 0) :
    (putX s.d c).2 = 0 ∧ Bs { s with d := putS s.d c } K ∧ (∀ q, vgR [] (putS s.d c) q = if plEq c.pl q = true then aft (vgR [] s.d c.pl) c else vgR [] s.d q) ∧ ∀ q, getL (putS s.d c).L q = if plEq c.pl q = true then some (putX s.d c).1 else getL s.d.L q := by
  have h0 : (putX s.d c).2 = 0 := by
    unfold putX behX
    rw [hk, if_pos rfl]
    cases hi : isX s.d c.pl
    · rw [if_neg (by simp), if_neg (by have := h.room hp hi; omega)]
    · rw [if_pos rfl]; exact hj hi
  have hL : (putS s.d c).L = setL s.d.L (putX s.d c).1 := by unfold putS; rw [if_pos h0]
  have hpl := putX_pl h0
  have hok := putX_ok h.ok hc
  refine ⟨h0, ⟨h.nil, putS_ok h.ok hc, h.ck.put c, ?_, ?_, h.k⟩, fun q => vg_put [] h.ok h.ck hc h0 q, fun q => ?_⟩
  · have : (putS s.d c).most = s.d.most := by unfold putS; split <;> rfl
    exact this.trans h.most
  · intro x hx
    have hx : x ∈ setL s.d.L (putX s.d c).1 := by rw [← hL]; exact hx
    rcases setL_mem.1 hx with rfl | ⟨hx, _⟩
    · rw [hpl]; exact hp
    · exact h.at_ x hx
  · rw [hL, getL_set h.ok.L hok, hpl]

/-! ### Chunks -/

theorem dat_ok {ino : Int} (hi : 1 ≤ ino) {c : Nat} (hc : c < 16) : plOk (datP ino c) = true := by
  have h1 : (ino == 0) = false := by simp; omega
  have h2 : decide ((c : Int) < 16) = true := by simp; omega
  unfold plOk datP
  simp [h1, ByteArray.toList_eq]
  omega
theorem dat_inj {ino : Int} {c c' : Nat} (h : datP ino c = datP ino c') : c = c' := by
  have := congrArg Pl.chunk h
  simp only [datP] at this
  omega
theorem dat_rec {ino ino' : Int} {c : Int} (h : datP ino c = recP ino') : False := by
  have := congrArg Pl.part h
  simp [datP, recP] at this
theorem data_ck {p : Pl} (hp : plOk p = true) (h3 : p.part = 3) {q : Pt} (hq : trimP q = q) : ckOk (dataC p q) = true := by
  unfold ckOk
  show (if plOk p = true then (if (false : Bool) = true then _ else if p.part = 1 then _ else if p.part = 2 then _ else datOk (dataC p q)) else false) = true
  rw [if_pos hp, if_neg (by simp), if_neg (by omega), if_neg (by omega)]
  exact dat_of hq
theorem gone_ck' {p : Pl} (h : plOk p = true) : ckOk (goneC p) = true := by
  unfold ckOk
  show (if plOk p = true then (if (true : Bool) = true then cgEq (goneC p) (goneC p) else _) else false) = true
  rw [if_pos h, if_pos rfl]
  exact cgEq_self _
/-- What is of a chunk is always joined. -/
theorem join_dat {d : Dl} (hd : DlOk d) (hc : CksOk d) {c : Cg} (hk : ckOk c = true) (h3 : c.pl.part = 3) (hi : isX d c.pl = true) : (joinX (wasX d c.pl) c).2 = 0 := by
  have hw := was_pl hd hi
  have hk2 := is_ck hc hi
  unfold joinX
  rw [hk, hk2, hw, plEq_self]
  simp only [if_true]
  split
  · rfl
  · rw [if_neg (by omega), if_neg (by omega)]
    unfold jDX
    split <;> rfl
theorem aft_data {v : It × Bool × Int} (hv : v.2.2 = 0) {p : Pl} (h3 : p.part = 3) {q : Pt} (hf : q.fresh = false) : aft v (dataC p q) = (⟨0, 0, 0, 0, 0, layB v.1.bytes q⟩, true, 0) := by
  have hr : refA (dataC p q) = false := by
    unfold refA dataC
    dsimp only
    rw [hf]
    simp [h3]
  unfold aft
  rw [hr, if_neg (by simp), if_neg (by rw [hv]; simp)]
  unfold refW
  show (if (false : Bool) = true then _ else if p.part = 2 then _ else if p.part = 3 then (laidI v.1 (dataC p q), true, (0 : Int)) else _) = _
  rw [if_neg (by simp), if_neg (by omega), if_pos h3]
  rfl
theorem aft_gone (v : It × Bool × Int) (p : Pl) : aft v (goneC p) = (it0, false, 0) := by
  unfold aft refA refW goneC
  rfl

/-- The chunks of a file, as its bytes. -/
def By (s : Sg) (ino : Int) (f : Nat → Int) : Prop := ∀ c : Nat, c < 16 → (vgR [] s.d (datP ino c)).2.2 = 0 ∧ ∀ i, i < 32 → (vgR [] s.d (datP ino c)).1.bytes.getD i 0 = f (32 * c + i)
theorem By.same {s t : Sg} {ino : Int} {f : Nat → Int} (h : By s ino f) (hd : t.d = s.d) : By t ino f := by
  unfold By; rw [hd]; exact h
theorem By.fn {s : Sg} {ino : Int} {f g : Nat → Int} (h : By s ino f) (e : ∀ j, j < 512 → f j = g j) : By s ino g := fun c hc => ⟨(h c hc).1, fun i hi => by rw [(h c hc).2 i hi]; exact e _ (by omega)⟩

/-- What is put in at chunks of one file leaves: all else as it was. -/
structure Left (ino : Int) (s s' : Sg) : Prop where
  l : s'.l = s.l
  R : s'.R = s.R
  U : s'.U = s.U
  n : s'.n = s.n
  else_ : ∀ q, (∀ c : Nat, q ≠ datP ino c) → vgR [] s'.d q = vgR [] s.d q ∧ getL s'.d.L q = getL s.d.L q
theorem Left.refl (ino : Int) (s : Sg) : Left ino s s := ⟨rfl, rfl, rfl, rfl, fun q _ => ⟨rfl, rfl⟩⟩
theorem Left.trans {ino : Int} {s t u : Sg} (h : Left ino s t) (k : Left ino t u) : Left ino s u :=
  ⟨k.l.trans h.l, k.R.trans h.R, k.U.trans h.U, k.n.trans h.n, fun q hq => ⟨((k.else_ q hq).1).trans (h.else_ q hq).1, ((k.else_ q hq).2).trans (h.else_ q hq).2⟩⟩

/-- One change of a chunk. -/
theorem put_dat {s : Sg} {K : List Pl} {ino : Int} (hi : 1 ≤ ino) (h : Bs s K) (hK : ∀ c : Nat, c < 16 → datP ino c ∈ K) {f : Nat → Int} (hf : By s ino f) {k : Nat} (hk : k < 16) {c : Cg} (hc : CgOk c) (hp : c.pl = datP ino k) (hck : ckOk c = true) {x : It} {b : Bool} (ha : aft (vgR [] s.d (datP ino k)) c = (x, b, 0)) {g : Nat → Int} (hx : ∀ i, i < 32 → x.bytes.getD i 0 = g (32 * k + i)) :
    (putX s.d c).2 = 0 ∧ Bs { s with d := putS s.d c } K ∧ By { s with d := putS s.d c } ino (fun j => if j / 32 = k then g j else f j) ∧ Left ino s { s with d := putS s.d c } := by
  obtain ⟨h0, h1, h2, h3⟩ := h.put hc hck (by rw [hp]; exact hK k hk) (fun e => join_dat h.ok h.ck hck (by rw [hp]; rfl) e)
  refine ⟨h0, h1, fun c' hc' => ?_, ⟨rfl, rfl, rfl, rfl, fun q hq => ?_⟩⟩
  · show (vgR [] (putS s.d c) (datP ino c')).2.2 = 0 ∧ ∀ i, i < 32 → (vgR [] (putS s.d c) (datP ino c')).1.bytes.getD i 0 = _
    rw [h2, hp]
    by_cases e : k = c'
    · subst e
      rw [plEq_self, if_pos rfl, ha]
      refine ⟨rfl, fun i hi' => ?_⟩
      dsimp only
      rw [if_pos (by omega)]
      exact hx i hi'
    · rw [plEq_no (fun e' => e (dat_inj e')), if_neg (by decide)]
      refine ⟨(hf c' hc').1, fun i hi' => ?_⟩
      dsimp only
      rw [if_neg (by omega)]
      exact (hf c' hc').2 i hi'
  · show vgR [] (putS s.d c) q = _ ∧ getL (putS s.d c).L q = _
    rw [h2, h3, hp, plEq_no (fun e => hq k e.symm), if_neg (by decide), if_neg (by decide)]
    exact ⟨rfl, rfl⟩

theorem exPut_cons {G : Sgt} (s : G.S) (c : Cg) (cs : List Cg) : exPut G s (c :: cs) = if G.putE s c ≠ 0 then (G.putS s c, G.putE s c) else exPut G (G.putS s c) cs := rfl

theorem exPutP_cons (s : Sg) (c : Cg) (cs : List Cg) : exPut SgP s (c :: cs) = if (putX s.d c).2 ≠ 0 then ({ s with d := putS s.d c }, (putX s.d c).2) else exPut SgP { s with d := putS s.d c } cs := rfl

/-- Bytes are laid into the chunks that they meet. -/
theorem put_lay {ino : Int} (hi : 1 ≤ ino) (hi2 : ino ≤ 4294967295) {K : List Pl} (hK : ∀ c : Nat, c < 16 → datP ino c ∈ K) {xs : List Int} (hxs : Byt xs) : ∀ (n o off len : Nat) (s : Sg) (f : Nat → Int), len ≤ n → off + len ≤ 512 → o + len ≤ xs.length → Bs s K → By s ino f →
    ∃ s', exPut SgP s ((pcsF n o off len).map (layC ino xs)) = (s', 0) ∧ Bs s' K ∧ By s' ino (fun j => if off ≤ j ∧ j < off + len then xs.getD (o + (j - off)) 0 else f j) ∧ Left ino s s'
  | 0, o, off, len, s, f, hn, h5, hx, hb, hf => by
    have : len = 0 := by omega
    subst this
    exact ⟨s, rfl, hb, hf.fn (fun j _ => by rw [if_neg (by omega)]), Left.refl _ _⟩
  | n + 1, o, off, len, s, f, hn, h5, hx, hb, hf => by
    unfold pcsF
    by_cases h0 : len = 0
    · subst h0
      rw [if_pos rfl]
      exact ⟨s, rfl, hb, hf.fn (fun j _ => by rw [if_neg (by omega)]), Left.refl _ _⟩
    rw [if_neg h0]
    have m0 := pcN_pos (off := off) (len := len) (by omega)
    have m1 := pcN_le off len
    have m2 : off % 32 + pcN off len ≤ 32 := by unfold pcN; omega
    generalize hm : pcN off len = m at *
    rw [List.map_cons]
    have hyl : ((xs.drop o).take m).length = m := by rw [List.length_take, List.length_drop]; omega
    have hyb : Byt ((xs.drop o).take m) := (hxs.drop o).take m
    have hk : off / 32 < 16 := by omega
    have hpt : PtOk (ofP (off % 32) ((xs.drop o).take m)) := ofP_ok hyb (by rw [hyl]; omega)
    have hc : CgOk (dataC (datP ino (off / 32 : Nat)) (ofP (off % 32) ((xs.drop o).take m))) := ⟨datP_ok (by omega) hi2 (by omega), by simp [dataC], by simp [dataC], ⟨by simp [dataC], by simp [dataC], by simp [dataC], by simp [dataC], by simp [dataC], by simp [dataC], by simp [dataC], by simp [dataC]⟩, by simp [dataC], by simp [dataC], hpt⟩
    have hck : ckOk (dataC (datP ino (off / 32 : Nat)) (ofP (off % 32) ((xs.drop o).take m))) = true := data_ck (dat_ok hi hk) rfl (of_trim _ _)
    have ha := aft_data (v := vgR [] s.d (datP ino (off / 32 : Nat))) (hf _ hk).1 (p := datP ino (off / 32 : Nat)) rfl (q := ofP (off % 32) ((xs.drop o).take m)) rfl
    obtain ⟨p0, p1, p2, p3⟩ := put_dat hi hb hK hf hk hc rfl hck ha (g := fun j => if off ≤ j ∧ j < off + m then xs.getD (o + (j - off)) 0 else f j) (fun i hi' => by
      show (layB _ _).getD i 0 = _
      rw [lay_of _ _ _ hi', hyl, (hf _ hk).2 i hi']
      by_cases hh : off % 32 ≤ i ∧ i < off % 32 + m
      · rw [if_pos hh, if_pos (by omega)]
        rw [List.getD_eq_getElem?_getD, List.getElem?_take, if_pos (by omega), List.getElem?_drop, ← List.getD_eq_getElem?_getD]
        congr 1
        omega
      · rw [if_neg hh, if_neg (by omega)])
    obtain ⟨s', q0, q1, q2, q3⟩ := put_lay hi hi2 hK hxs n (o + m) (off + m) (len - m) { s with d := putS s.d (dataC (datP ino (off / 32 : Nat)) (ofP (off % 32) ((xs.drop o).take m))) } _ (by omega) (by omega) (by omega) p1 p2
    refine ⟨s', ?_, q1, q2.fn (fun j hj => ?_), p3.trans q3⟩
    · rw [exPutP_cons, if_neg (by show ¬ (putX s.d (dataC (datP ino (off / 32 : Nat)) (ofP (off % 32) ((xs.drop o).take m)))).2 ≠ 0; rw [p0]; simp)]
      exact q0
    · by_cases h1 : off + m ≤ j ∧ j < off + m + (len - m)
      · rw [if_pos h1, if_pos (by omega)]
        congr 1
        omega
      · rw [if_neg h1]
        by_cases h2 : j / 32 = off / 32
        · rw [if_pos h2]
          by_cases h3 : off ≤ j ∧ j < off + m
          · rw [if_pos h3, if_pos (by omega)]
          · rw [if_neg h3, if_neg (by omega)]
        · rw [if_neg h2, if_neg ?_]
          intro h3
          have : m = min (32 - off % 32) len := by rw [← hm]; rfl
          omega

/-- Chunks are gone. -/
theorem put_gone {ino : Int} (hi : 1 ≤ ino) (hi2 : ino ≤ 4294967295) {K : List Pl} (hK : ∀ c : Nat, c < 16 → datP ino c ∈ K) : ∀ (n a : Nat) (s : Sg) (f : Nat → Int), a + n ≤ 16 → Bs s K → By s ino f →
    ∃ s', exPut SgP s ((List.range' a n).map fun (c : Nat) => goneC (datP ino c)) = (s', 0) ∧ Bs s' K ∧ By s' ino (fun j => if 32 * a ≤ j ∧ j < 32 * (a + n) then 0 else f j) ∧ Left ino s s'
  | 0, a, s, f, h, hb, hf => ⟨s, rfl, hb, hf.fn (fun j _ => by rw [if_neg (by omega)]), Left.refl _ _⟩
  | n + 1, a, s, f, h, hb, hf => by
    obtain ⟨p0, p1, p2, p3⟩ := put_dat hi hb hK hf (k := a) (by omega) (c := goneC (datP ino a)) (gone_ok (datP_ok (by omega) hi2 (by omega))) rfl (gone_ck' (dat_ok hi (by omega))) (aft_gone _ _) (g := fun _ => 0) (fun i hi' => zeroC_get i)
    obtain ⟨s', q0, q1, q2, q3⟩ := put_gone hi hi2 hK n (a + 1) { s with d := putS s.d (goneC (datP ino a)) } _ (by omega) p1 p2
    refine ⟨s', ?_, q1, q2.fn (fun j hj => ?_), p3.trans q3⟩
    · rw [List.range'_succ, List.map_cons]
      rw [exPutP_cons, if_neg (by rw [p0]; simp)]
      exact q0
    · by_cases h1 : 32 * (a + 1) ≤ j ∧ j < 32 * (a + 1 + n)
      · rw [if_pos h1, if_pos (by omega)]
      · rw [if_neg h1]
        by_cases h2 : j / 32 = a
        · rw [if_pos h2, if_pos (by omega)]
        · rw [if_neg h2, if_neg (by omega)]

theorem exPut_app {G : Sgt} : ∀ (A B : List Cg) (s : G.S), exPut G s (A ++ B) = if (exPut G s A).2 ≠ 0 then exPut G s A else exPut G (exPut G s A).1 B
  | [], B, s => by rw [if_neg (by unfold exPut; simp)]; rfl
  | a :: A, B, s => by
    rw [List.cons_append, exPut_cons, exPut_cons]
    by_cases h : G.putE s a ≠ 0
    · rw [if_pos h, if_pos h, if_pos h]
    · rw [if_neg h, if_neg h, exPut_app A B]
theorem exPutP_app (A B : List Cg) (s : Sg) : exPut SgP s (A ++ B) = if (exPut SgP s A).2 ≠ 0 then exPut SgP s A else exPut SgP (exPut SgP s A).1 B := exPut_app (G := SgP) A B s
/-- The bytes from one up to another are cut off. -/
theorem put_wipe {ino : Int} (hi : 1 ≤ ino) (hi2 : ino ≤ 4294967295) {K : List Pl} (hK : ∀ c : Nat, c < 16 → datP ino c ∈ K) {lo hi' : Nat} (hl : lo < hi') (h5 : hi' ≤ 512) {s : Sg} {f : Nat → Int} (hb : Bs s K) (hf : By s ino f) :
    ∃ s', exPut SgP s (wipeC ino lo hi') = (s', 0) ∧ Bs s' K ∧ By s' ino (fun j => if lo ≤ j ∧ j < 32 * ((hi' + 31) / 32) then 0 else f j) ∧ Left ino s s' := by
  unfold wipeC
  rw [exPutP_app]
  have h1 : ∃ s1, exPut SgP s (wipe0 ino lo) = (s1, 0) ∧ Bs s1 K ∧ By s1 ino (fun j => if lo ≤ j ∧ j < 32 * ((lo + 31) / 32) then 0 else f j) ∧ Left ino s s1 := by
    unfold wipe0
    by_cases h0 : 0 < lo % 32
    · rw [if_pos h0]
      have hk : lo / 32 < 16 := by omega
      have hz := zeroP_ok (lo % 32 : Nat)
      have hzz : zeroP (lo % 32 : Nat) = ⟨false, runM (lo % 32) (32 - lo % 32), zeroC⟩ := by unfold zeroP; rw [if_neg (by omega)]; rfl
      rw [hzz] at hz
      have hc : CgOk (dataC (datP ino (lo / 32 : Nat)) ⟨false, runM (lo % 32) (32 - lo % 32), zeroC⟩) := ⟨datP_ok (by omega) hi2 (by omega), by simp [dataC], by simp [dataC], ⟨by simp [dataC], by simp [dataC], by simp [dataC], by simp [dataC], by simp [dataC], by simp [dataC], by simp [dataC], by simp [dataC]⟩, by simp [dataC], by simp [dataC], hz⟩
      have hck := data_ck (dat_ok hi hk) rfl (trim_of (p := ⟨false, runM (lo % 32) (32 - lo % 32), zeroC⟩) (by show zeroC.length = 32; exact ch_zero.1) (fun i _ _ => zeroC_get i))
      have ha := aft_data (v := vgR [] s.d (datP ino (lo / 32 : Nat))) (hf _ hk).1 (p := datP ino (lo / 32 : Nat)) rfl (q := ⟨false, runM (lo % 32) (32 - lo % 32), zeroC⟩) rfl
      obtain ⟨p0, p1, p2, p3⟩ := put_dat hi hb hK hf hk hc rfl hck ha (g := fun j => if lo ≤ j ∧ j < 32 * ((lo + 31) / 32) then 0 else f j) (fun i hi' => by
        show (layB _ _).getD i 0 = _
        rw [layB_get _ _ hi']
        unfold layAt
        dsimp only
        rw [runM_bit, zeroC_get, (hf _ hk).2 i hi']
        by_cases hh : lo % 32 ≤ i
        · rw [if_pos (by simp; omega), if_pos (by omega)]
        · rw [if_neg (by simp; omega), if_neg (by simp), if_neg (by omega)])
      refine ⟨_, ?_, p1, p2.fn (fun j hj => ?_), p3⟩
      · rw [exPutP_cons, if_neg (by rw [p0]; simp)]
        rfl
      · by_cases h2 : j / 32 = lo / 32
        · rw [if_pos h2]
        · rw [if_neg h2, if_neg (by omega)]
    · rw [if_neg h0]
      exact ⟨s, rfl, hb, hf.fn (fun j _ => by rw [if_neg (by omega)]), Left.refl _ _⟩
  obtain ⟨s1, e1, b1, f1, l1⟩ := h1
  rw [e1, if_neg (by simp)]
  obtain ⟨s', q0, q1, q2, q3⟩ := put_gone hi hi2 hK ((hi' + 31) / 32 - (lo + 31) / 32) ((lo + 31) / 32) s1 _ (by omega) b1 f1
  refine ⟨s', q0, q1, q2.fn (fun j hj => ?_), l1.trans q3⟩
  by_cases h1 : 32 * ((lo + 31) / 32) ≤ j ∧ j < 32 * ((lo + 31) / 32 + ((hi' + 31) / 32 - (lo + 31) / 32))
  · rw [if_pos h1, if_pos (by omega)]
  · rw [if_neg h1]
    by_cases h2 : lo ≤ j ∧ j < 32 * ((lo + 31) / 32)
    · rw [if_pos h2, if_pos (by omega)]
    · rw [if_neg h2, if_neg (by omega)]

/-! ### A file -/

structure Fl (s : Sg) (ino : Int) (xs : List Int) : Prop where
  i0 : 1 ≤ ino
  i1 : ino ≤ 4294967295
  rec_ : getL s.d.L (recP ino) = some (freshC (recP ino) 1 0 1 xs.length)
  len : xs.length ≤ 512
  byt : Byt xs
  by_ : By s ino (fun j => xs.getD j 0)
theorem Fl.same {s t : Sg} {ino : Int} {xs : List Int} (h : Fl s ino xs) (hd : t.d = s.d) : Fl t ino xs := ⟨h.i0, h.i1, by rw [hd]; exact h.rec_, h.len, h.byt, h.by_.same hd⟩
/-- What is found of it. -/
theorem Fl.fd {s : Sg} {ino : Int} {xs : List Int} (h : Fl s ino xs) : fdR s ino = (⟨1, 0, 1, xs.length⟩, 0) := by
  have hi : isX s.d (recP ino) = true := by unfold isX; rw [h.rec_]; rfl
  have hw : wasX s.d (recP ino) = freshC (recP ino) 1 0 1 xs.length := by unfold wasX; rw [h.rec_]; rfl
  unfold fdR fdF vgR
  rw [hi, hw, if_neg (by have := h.i0; omega), if_pos rfl]
  rfl
theorem Fl.sz {s : Sg} {ino : Int} {xs : List Int} (h : Fl s ino xs) : exSz SgP s ino = ({ s with R := addK s.R ino [3] }, (xs.length : Int), 0) := by
  unfold exSz
  show (if (fdR s ino).2 ≠ 0 then ((s, 0, (fdR s ino).2) : Sg × Int × Int) else if (fdR s ino).1.k = 2 then (s, 0, 193) else sizeR s ino) = _
  rw [h.fd, if_neg (by simp), if_neg (by simp)]
  unfold sizeR
  rw [h.fd, if_neg (by simp)]
  rfl
/-- Its size is set. -/
theorem set_sz {s : Sg} {K : List Pl} {ino : Int} (h0 : 1 ≤ ino) (h1 : ino ≤ 4294967295) {z z' : Int} (hr : getL s.d.L (recP ino) = some (freshC (recP ino) 1 0 1 z)) (hz : 0 ≤ z' ∧ z' ≤ 512) (hb : Bs s K) (hK : recP ino ∈ K) :
    ∃ d', setR s ino [(4, z')] = ({ s with d := d', U := addK s.U ino [3] }, 0) ∧ Bs { s with d := d', U := addK s.U ino [3] } K ∧ getL d'.L (recP ino) = some (freshC (recP ino) 1 0 1 z') ∧ ∀ q, q ≠ recP ino → vgR [] d' q = vgR [] s.d q ∧ getL d'.L q = getL s.d.L q := by
  have hi : isX s.d (recP ino) = true := by unfold isX; rw [hr]; rfl
  have hw : wasX s.d (recP ino) = freshC (recP ino) 1 0 1 z := by unfold wasX; rw [hr]; rfl
  have hfd : fdR s ino = (⟨1, 0, 1, z⟩, 0) := by
    unfold fdR fdF vgR
    rw [hi, hw, if_neg (by omega), if_pos rfl]
    rfl
  have e1 : ∀ i : In4, wfR i [(4, z')] = (⟨i.k, i.m, i.l, z'⟩, 4, true) := fun i => by
    unfold wfR wfL
    simp [wf1, show (bits BinOp.and .i64 0 4) = 0 by decide, show bits BinOp.or .i64 0 4 = 4 by decide]
  have hio : inoOk 1 0 1 z' = true := ino_iff.2 ⟨by omega, .inl ⟨rfl, by omega, by omega, hz.1, hz.2⟩⟩
  have hcg : CgOk (fieldsC (recP ino) 4 0 0 0 z') := ⟨recP_ok (by omega) h1, by simp [fieldsC], by simp [fieldsC], ⟨by simp [fieldsC], by simp [fieldsC], by simp [fieldsC], by simp [fieldsC], by simp [fieldsC], by simp [fieldsC], by simp only [fieldsC]; omega, by simp only [fieldsC]; omega⟩, by simp [fieldsC], by simp [fieldsC], pt0_ok⟩
  have hpo : plOk (recP ino) = true := by
    have : (ino == 0) = false := by simp; omega
    unfold plOk recP; simp [this, ByteArray.toList_eq]
  have w4 : bF 4 4 = true := by decide
  have w2 : bF 4 2 = false := by decide
  have w1 : bF 4 1 = false := by decide
  have hck : ckOk (fieldsC (recP ino) 4 0 0 0 z') = true := by
    unfold ckOk
    show (if plOk (recP ino) = true then (if (false : Bool) = true then _ else if (1 : Int) = 1 then recOk (fieldsC (recP ino) 4 0 0 0 z') else _) else false) = true
    rw [if_pos hpo, if_neg (by simp), if_pos rfl]
    unfold recOk
    rw [show (fieldsC (recP ino) 4 0 0 0 z').fresh = false from rfl, if_neg (by simp)]
    unfold fieldsOk wM wL wS
    show (if (4 : Int) < 1 then false else if (4 : Int) > 7 then false else cgEq (fieldsC (recP ino) 4 0 0 0 z') (fieldsC (recP ino) 4 0 (if bF 4 1 = true then 0 else 0) (if bF 4 2 = true then 0 else 0) (if bF 4 4 = true then z' else 0)) && inoOk 1 (if bF 4 1 = true then 0 else 0) (if bF 4 2 = true then 0 else 1) (if bF 4 4 = true then z' else 0)) = true
    rw [w1, w2, w4]
    simp only [if_true, Bool.false_eq_true, if_false]
    rw [if_neg (by decide), if_neg (by decide), cgEq_self, hio]
    rfl
  have hro : recOk (freshC (recP ino) 1 0 1 z') = true := by
    unfold recOk
    rw [show (freshC (recP ino) 1 0 1 z').fresh = true from rfl, if_pos rfl]
    show (cgEq (freshC (recP ino) 1 0 1 z') (freshC (recP ino) 1 0 1 z') && inoOk 1 0 1 z') = true
    rw [cgEq_self, hio]; rfl
  have hre : recJ (freshC (recP ino) 1 0 1 z) (fieldsC (recP ino) 4 0 0 0 z') = freshC (recP ino) 1 0 1 z' := by
    unfold recJ
    rw [show (freshC (recP ino) 1 0 1 z).fresh = true from rfl, if_pos rfl]
    unfold recI wM wL wS
    show (⟨recP ino, false, true, 0, 1, (if bF 4 1 = true then 0 else 0), (if bF 4 2 = true then 0 else 1), (if bF 4 4 = true then z' else z), 0, pt0⟩ : Cg) = _
    rw [w1, w2, w4]
    rfl
  have hjo : joinX (freshC (recP ino) 1 0 1 z) (fieldsC (recP ino) 4 0 0 0 z') = (freshC (recP ino) 1 0 1 z', 0) := by
    have hka : ckOk (freshC (recP ino) 1 0 1 z) = true := by have := is_ck hb.ck hi; rw [hw] at this; exact this
    unfold joinX
    rw [hka, hck, if_pos rfl, if_pos rfl]
    show (if plEq (recP ino) (recP ino) = true then (if (false : Bool) = true then _ else if (1 : Int) = 1 then jRX (freshC (recP ino) 1 0 1 z) (fieldsC (recP ino) 4 0 0 0 z') else _) else _) = _
    rw [plEq_self, if_pos rfl, if_neg (by simp), if_pos rfl]
    unfold jRX
    rw [hre]
    show (if (false : Bool) = true then _ else if (false : Bool) = true then _ else if recOk (freshC (recP ino) 1 0 1 z') = true then (freshC (recP ino) 1 0 1 z', (0 : Int)) else _) = _
    rw [if_neg (by simp), if_neg (by simp), if_pos hro]
  have hpx : putX s.d (fieldsC (recP ino) 4 0 0 0 z') = (freshC (recP ino) 1 0 1 z', 0) := by
    unfold putX behX
    rw [hck, if_pos rfl]
    show (if isX s.d (recP ino) = true then joinX (wasX s.d (recP ino)) _ else _) = _
    rw [hi, if_pos rfl, hw, hjo]
  obtain ⟨p0, p1, p2, p3⟩ := hb.put hcg hck hK (fun _ => by show (joinX (wasX s.d (recP ino)) _).2 = 0; rw [hw, hjo])
  refine ⟨putS s.d (fieldsC (recP ino) 4 0 0 0 z'), ?_, p1.same rfl rfl, ?_, fun q hq => ?_⟩
  · unfold setR setF
    rw [hfd, e1, e1]
    dsimp only
    rw [if_neg (by simp), hio, if_neg (by simp), if_neg (by decide)]
    show (if (putX s.d (fieldsC (recP ino) 4 0 0 0 z')).2 ≠ 0 then _ else _) = _
    rw [hpx, if_neg (by simp)]
    rfl
  · rw [p3, hpx]
    show (if plEq (recP ino) (recP ino) = true then _ else _) = _
    rw [plEq_self, if_pos rfl]
  · rw [p2, p3]
    show (if plEq (recP ino) q = true then _ else _) = _ ∧ (if plEq (recP ino) q = true then _ else _) = _
    rw [plEq_no (fun e => hq e.symm), if_neg (by decide), if_neg (by decide)]
    exact ⟨rfl, rfl⟩

set_option maxRecDepth 100000

def rdX (s : Sg) (ino off n : Int) : Sg × ByteArray × Int := exRd SgP s ino off n
def wrX (s : Sg) (ino off : Int) (data : ByteArray) : Sg × Int := exWr SgP s ino off data
def trX (s : Sg) (ino size : Int) : Sg × Int := exTr SgP s ino size

/-- All else than a file's record and chunks is as it was. -/
def Left2 (ino : Int) (s s' : Sg) : Prop := ∀ q, (∀ c : Nat, q ≠ datP ino c) → q ≠ recP ino → vgR [] s'.d q = vgR [] s.d q ∧ getL s'.d.L q = getL s.d.L q
theorem Left2.refl (ino : Int) {s s' : Sg} (h : s'.d = s.d) : Left2 ino s s' := fun q _ _ => by rw [h]; exact ⟨rfl, rfl⟩
theorem Fl.other {s s' : Sg} {ino ino' : Int} {zs : List Int} (h : Fl s ino' zs) (hne : ino' ≠ ino) (hl : Left2 ino s s') : Fl s' ino' zs := by
  have dne : ∀ (c c' : Nat), datP ino' c ≠ datP ino c' := fun c c' e => hne (congrArg Pl.ino e)
  have rne : recP ino' ≠ recP ino := fun e => hne (congrArg Pl.ino e)
  refine ⟨h.i0, h.i1, ?_, h.len, h.byt, fun c hc => ?_⟩
  · rw [(hl _ (fun c e => dat_rec e.symm) rne).2]; exact h.rec_
  · rw [(hl (datP ino' c) (fun c' => dne c c') (fun e => dat_rec e)).1]; exact h.by_ c hc

/-- The bytes of a list behind a write. -/
def ovl (xs : List Int) (off : Nat) (ds : List Int) : List Int := (List.range (max xs.length (off + ds.length))).map fun j => if off ≤ j ∧ j < off + ds.length then ds.getD (j - off) 0 else xs.getD j 0
theorem ovl_len (xs : List Int) (off : Nat) (ds : List Int) : (ovl xs off ds).length = max xs.length (off + ds.length) := by simp [ovl]
theorem ovl_get (xs : List Int) (off : Nat) (ds : List Int) (j : Nat) : (ovl xs off ds).getD j 0 = if off ≤ j ∧ j < off + ds.length then ds.getD (j - off) 0 else xs.getD j 0 := by
  by_cases h : j < max xs.length (off + ds.length)
  · unfold ovl
    rw [List.getD_eq_getElem?_getD, List.getElem?_map, List.getElem?_range h]; rfl
  · have : (ovl xs off ds)[j]? = none := List.getElem?_eq_none (by rw [ovl_len]; omega)
    rw [List.getD_eq_getElem?_getD, this, if_neg (by omega), List.getD_eq_getElem?_getD, List.getElem?_eq_none (by omega)]
theorem byt_getD {xs : List Int} (h : Byt xs) (j : Nat) : 0 ≤ xs.getD j 0 ∧ xs.getD j 0 ≤ 255 := h.getD j
theorem ovl_byt {xs : List Int} (hx : Byt xs) (off : Nat) {ds : List Int} (hd : Byt ds) : Byt (ovl xs off ds) := by
  intro y hy
  unfold ovl at hy
  obtain ⟨j, _, rfl⟩ := List.mem_map.1 hy
  split
  · exact hd.getD _
  · exact hx.getD _

theorem wr_file {s : Sg} {K : List Pl} {ino : Int} {xs : List Int} (hb : Bs s K) (hf : Fl s ino xs) (hK : ∀ c : Nat, c < 16 → datP ino c ∈ K) (hKr : recP ino ∈ K) {off : Nat} {data : ByteArray} (h0 : 0 < data.size) (h1 : data.size ≤ 64) (h2 : off + data.size ≤ 512) :
    ∃ s', wrX s ino off data = (s', 0) ∧ Bs s' K ∧ Fl s' ino (ovl xs off (strB data)) ∧ Left2 ino s s' ∧ s'.R = addK s.R ino [3] ∧ s'.U = (if off + data.size ≤ xs.length then addL s.U (tcB ino off (off + data.size)) else addK (addL s.U (tcB ino off (off + data.size))) ino [3]) := by
  have hdl := strB_length data
  have hx5 := hf.len
  obtain ⟨s2, e2, b2, f2, l2⟩ := put_lay hf.i0 hf.i1 hK (strB_byt data) data.size 0 off data.size { s with R := addK s.R ino [3] } _ (Nat.le_refl _) h2 (by omega) (hb.same rfl rfl) (hf.by_.same rfl)
  have e2' : exPut SgP { s with R := addK s.R ino [3] } ((pcsL (off : Int).toNat data.size).map (layC ino (strB data))) = (s2, 0) := e2
  have hw : wrX s ino off data = exWr3 SgP ino (off + data.size) xs.length { s2 with U := addL s2.U (tcB ino off (off + data.size)) } := by
    unfold wrX exWr
    rw [if_neg (by omega), hf.sz]
    unfold exWr1
    rw [if_neg (by simp), if_neg (by omega), if_neg (by omega), e2']
    unfold exWr2
    rw [if_neg (by simp)]
    rfl
  have hrec : getL s2.d.L (recP ino) = some (freshC (recP ino) 1 0 1 xs.length) := by rw [(l2.else_ (recP ino) (fun c e => dat_rec e.symm)).2]; exact hf.rec_
  have hby : By s2 ino (fun j => (ovl xs off (strB data)).getD j 0) := f2.fn (fun j hj => by
    rw [ovl_get, hdl, Nat.zero_add])
  have hl2 : Left2 ino s s2 := fun q hq hr => l2.else_ q hq
  have hbt := ovl_byt hf.byt off (strB_byt data)
  by_cases hle : off + data.size ≤ xs.length
  · refine ⟨{ s2 with U := addL s2.U (tcB ino off (off + data.size)) }, ?_, b2.same rfl rfl, ⟨hf.i0, hf.i1, ?_, by rw [ovl_len, hdl]; omega, hbt, hby.same rfl⟩, hl2, l2.R, ?_⟩
    · rw [hw]; unfold exWr3; rw [if_pos (by omega)]; first | done | rfl
    · rw [ovl_len, hdl, show max xs.length (off + data.size) = xs.length by omega]; exact hrec
    · rw [if_pos hle, l2.U]
  · obtain ⟨d', k1, k2, k3, k4⟩ := set_sz (s := { s2 with U := addL s2.U (tcB ino off (off + data.size)) }) (K := K) hf.i0 hf.i1 (z := xs.length) (z' := ((off + data.size : Nat) : Int)) hrec ⟨by omega, by omega⟩ (b2.same rfl rfl) hKr
    refine ⟨_, ?_, k2, ⟨hf.i0, hf.i1, ?_, by rw [ovl_len, hdl]; omega, hbt, fun c hc => ?_⟩, fun q hq hr => ?_, l2.R, ?_⟩
    · rw [hw]; unfold exWr3; rw [if_neg (by omega)]; exact k1
    · rw [ovl_len, hdl, show max xs.length (off + data.size) = off + data.size by omega]; exact k3
    · have := (k4 (datP ino c) (fun e => dat_rec e)).1
      show (vgR [] d' (datP ino c)).2.2 = 0 ∧ _
      rw [this]; exact hby c hc
    · obtain ⟨a1, a2⟩ := k4 q hr
      obtain ⟨b1, b2'⟩ := hl2 q hq hr
      exact ⟨a1.trans b1, a2.trans b2'⟩
    · rw [if_neg hle]
      show addK (addL s2.U _) ino [3] = _
      rw [l2.U]
      first | done | rfl

/-- What Write refuses, and what it does of nothing. -/
theorem wr_no {s : Sg} {ino : Int} {xs : List Int} (hf : Fl s ino xs) (off : Int) (data : ByteArray) (h : off < 0 ∨ 64 < data.size) : wrX s ino off data = (s, 1) := by unfold wrX exWr; rw [if_pos h]; first | done | rfl
theorem wr_none {s : Sg} {ino : Int} {xs : List Int} (hf : Fl s ino xs) {off : Int} {data : ByteArray} (h0 : 0 ≤ off) (h : data.size = 0) : wrX s ino off data = ({ s with R := addK s.R ino [3] }, 0) := by
  unfold wrX exWr
  rw [if_neg (by omega), hf.sz]
  unfold exWr1
  rw [if_neg (by simp), if_pos h]; first | done | rfl
theorem wr_big {s : Sg} {ino : Int} {xs : List Int} (hf : Fl s ino xs) {off : Int} {data : ByteArray} (h0 : 0 ≤ off) (h1 : data.size ≤ 64) (h : data.size ≠ 0) (h2 : 512 - (data.size : Int) < off) : wrX s ino off data = ({ s with R := addK s.R ino [3] }, 180) := by
  unfold wrX exWr
  rw [if_neg (by omega), hf.sz]
  unfold exWr1
  rw [if_neg (by simp), if_neg h, if_pos h2]; first | done | rfl

/-- A list of bytes that is cut, or made longer by noughts. -/
def cutL (xs : List Int) (n : Nat) : List Int := xs.take n ++ List.replicate (n - xs.length) 0
theorem cut_len (xs : List Int) (n : Nat) : (cutL xs n).length = n := by simp [cutL]; omega
theorem cut_get (xs : List Int) (n j : Nat) : (cutL xs n).getD j 0 = if j < n then xs.getD j 0 else 0 := by
  unfold cutL
  rw [List.getD_eq_getElem?_getD]
  by_cases h : j < n
  · rw [if_pos h]
    by_cases h2 : j < xs.length
    · rw [List.getElem?_append_left (by rw [List.length_take]; omega), List.getElem?_take, if_pos h, List.getD_eq_getElem?_getD]
    · rw [List.getElem?_append_right (by rw [List.length_take]; omega), List.getElem?_replicate, List.getD_eq_getElem?_getD, List.getElem?_eq_none (by omega)]
      split <;> rfl
  · rw [if_neg h, List.getElem?_eq_none (by rw [List.length_append, List.length_take, List.length_replicate]; omega)]
    rfl
theorem cut_byt {xs : List Int} (h : Byt xs) (n : Nat) : Byt (cutL xs n) := (h.take n).append (fun y hy => by rw [List.eq_of_mem_replicate hy]; omega)
theorem cut_same (xs : List Int) : cutL xs xs.length = xs := by simp [cutL]

theorem tr_file {s : Sg} {K : List Pl} {ino : Int} {xs : List Int} (hb : Bs s K) (hf : Fl s ino xs) (hK : ∀ c : Nat, c < 16 → datP ino c ∈ K) (hKr : recP ino ∈ K) {n : Nat} (h5 : n ≤ 512) :
    ∃ s', trX s ino n = (s', 0) ∧ Bs s' K ∧ Fl s' ino (cutL xs n) ∧ Left2 ino s s' := by
  have hx5 := hf.len
  have hun : trX s ino n = exTr1 SgP ino n ({ s with R := addK s.R ino [3] }, (xs.length : Int), 0) := by unfold trX exTr; rw [hf.sz]; first | done | rfl
  rw [hun]
  unfold exTr1
  rw [if_neg (by simp), if_neg (by omega)]
  by_cases he : n = xs.length
  · rw [if_pos (by dsimp only; omega)]
    subst he
    exact ⟨_, rfl, hb.same rfl rfl, by rw [cut_same]; exact hf.same rfl, Left2.refl ino rfl⟩
  rw [if_neg (by dsimp only; omega)]
  by_cases hlt : n < xs.length
  · rw [if_pos (by dsimp only; omega)]
    obtain ⟨s2, e2, b2, f2, l2⟩ := put_wipe hf.i0 hf.i1 hK hlt hx5 (s := { s with R := addK s.R ino [3] }) (hb.same rfl rfl) (hf.by_.same rfl)
    have e2' : exPut SgP { s with R := addK s.R ino [3] } (wipeC ino (n : Int).toNat (xs.length : Int).toNat) = (s2, 0) := e2
    rw [e2']
    unfold exTr2
    rw [if_neg (by simp)]
    have hrec : getL s2.d.L (recP ino) = some (freshC (recP ino) 1 0 1 xs.length) := by rw [(l2.else_ (recP ino) (fun c e => dat_rec e.symm)).2]; exact hf.rec_
    obtain ⟨d', k1, k2, k3, k4⟩ := set_sz (s := { s2 with U := addL s2.U (tcB ino n xs.length) }) (K := K) hf.i0 hf.i1 (z := xs.length) (z' := (n : Int)) hrec ⟨by omega, by omega⟩ (b2.same rfl rfl) hKr
    refine ⟨_, k1, k2, ⟨hf.i0, hf.i1, by rw [cut_len]; exact k3, by rw [cut_len]; omega, cut_byt hf.byt _, fun c hc => ?_⟩, fun q hq hr => ?_⟩
    · have := (k4 (datP ino c) (fun e => dat_rec e)).1
      show (vgR [] d' (datP ino c)).2.2 = 0 ∧ _
      rw [this]
      refine ⟨(f2 c hc).1, fun i hi => ?_⟩
      refine Eq.trans ((f2 c hc).2 i hi) ?_
      dsimp only
      rw [cut_get]
      by_cases g1 : 32 * c + i < n
      · rw [if_neg (by omega), if_pos g1]
      · rw [if_neg g1]
        by_cases g2 : 32 * c + i < 32 * ((xs.length + 31) / 32)
        · rw [if_pos (by omega)]
        · rw [if_neg (by omega), List.getD_eq_getElem?_getD, List.getElem?_eq_none (by omega)]; rfl
    · obtain ⟨a1, a2⟩ := k4 q hr
      obtain ⟨b1, b2'⟩ := l2.else_ q hq
      exact ⟨a1.trans b1, a2.trans b2'⟩
  · rw [if_neg (by dsimp only; omega)]
    obtain ⟨d', k1, k2, k3, k4⟩ := set_sz (s := { s with R := addK s.R ino [3] }) (K := K) hf.i0 hf.i1 (z := xs.length) (z' := (n : Int)) hf.rec_ ⟨by omega, by omega⟩ (hb.same rfl rfl) hKr
    refine ⟨_, k1, k2, ⟨hf.i0, hf.i1, by rw [cut_len]; exact k3, by rw [cut_len]; omega, cut_byt hf.byt _, fun c hc => ?_⟩, fun q hq hr => ?_⟩
    · have := (k4 (datP ino c) (fun e => dat_rec e)).1
      show (vgR [] d' (datP ino c)).2.2 = 0 ∧ _
      rw [this]
      refine ⟨(hf.by_ c hc).1, fun i hi => ?_⟩
      have hh := (hf.by_ c hc).2 i hi
      refine Eq.trans hh ?_
      dsimp only
      rw [cut_get]
      split
      · rfl
      · rw [List.getD_eq_getElem?_getD, List.getElem?_eq_none (by omega)]; rfl
    · exact k4 q hr
theorem tr_no {s : Sg} {ino : Int} {xs : List Int} (hf : Fl s ino xs) {n : Int} (h : n < 0 ∨ 512 < n) : trX s ino n = ({ s with R := addK s.R ino [3] }, 180) := by
  have hun : trX s ino n = exTr1 SgP ino n ({ s with R := addK s.R ino [3] }, (xs.length : Int), 0) := by unfold trX exTr; rw [hf.sz]; first | done | rfl
  rw [hun]
  unfold exTr1
  rw [if_neg (by simp), if_pos h]; first | done | rfl

/-- The bytes of pieces. -/
theorem get_file {s : Sg} {ino : Int} {f : Nat → Int} (hn : s.l = []) (hf : By s ino f) : ∀ (n o off len : Nat), len ≤ n → off + len ≤ 512 → exGet SgP ino s (pcsF n o off len) = (s, (List.range len).map (fun j => f (off + j)), 0)
  | 0, o, off, len, h, _ => by
    have : len = 0 := by omega
    subst this; rfl
  | n + 1, o, off, len, h, h5 => by
    unfold pcsF
    by_cases h0 : len = 0
    · subst h0; rfl
    rw [if_neg h0]
    have m0 := pcN_pos (off := off) (len := len) (by omega)
    have m1 := pcN_le off len
    have m2 : off % 32 + pcN off len ≤ 32 := by unfold pcN; omega
    generalize hm : pcN off len = m at *
    have hk : off / 32 < 16 := by omega
    obtain ⟨k1, k2⟩ := hf (off / 32) hk
    have ih := get_file hn hf n (o + m) (off + m) (len - m) (by omega) (by omega)
    have e : exGet SgP ino s (⟨off / 32, off % 32, o, m⟩ :: pcsF n (o + m) (off + m) (len - m)) =
        if (vgR s.l s.d (datP ino (off / 32 : Nat))).2.2 ≠ 0 then (s, [], (vgR s.l s.d (datP ino (off / 32 : Nat))).2.2) else
          ((exGet SgP ino s (pcsF n (o + m) (off + m) (len - m))).1, ((vgR s.l s.d (datP ino (off / 32 : Nat))).1.bytes.drop (off % 32)).take m ++ (exGet SgP ino s (pcsF n (o + m) (off + m) (len - m))).2.1, (exGet SgP ino s (pcsF n (o + m) (off + m) (len - m))).2.2) := rfl
    rw [e, ih, hn, if_neg (by rw [k1]; simp)]
    dsimp only
    have hl := vgR_len [] s.d (datP ino (off / 32 : Nat))
    congr 2
    apply List.ext_getElem?
    intro j
    rw [List.getElem?_map]
    by_cases hj : j < len
    · rw [List.getElem?_range hj]
      by_cases hjm : j < m
      · rw [List.getElem?_append_left (by rw [List.length_take, List.length_drop]; omega), List.getElem?_take, if_pos hjm, List.getElem?_drop]
        have hi : off % 32 + j < 32 := by omega
        have := k2 _ hi
        rw [List.getD_eq_getElem?_getD] at this
        have hs : off % 32 + j < (vgR [] s.d (datP ino (off / 32 : Nat))).1.bytes.length := by omega
        rw [List.getElem?_eq_getElem hs] at this ⊢
        simp only [Option.getD_some] at this
        rw [this]
        simp only [Option.map_some]
        congr 2
        omega
      · rw [List.getElem?_append_right (by rw [List.length_take, List.length_drop]; omega)]
        have hll : (((vgR [] s.d (datP ino (off / 32 : Nat))).1.bytes.drop (off % 32)).take m).length = m := by rw [List.length_take, List.length_drop]; omega
        rw [hll, List.getElem?_map, List.getElem?_range (by omega)]
        simp only [Option.map_some]
        congr 2
        omega
    · rw [List.getElem?_eq_none (by rw [List.length_append, List.length_take, List.length_drop, List.length_map, List.length_range]; omega), List.getElem?_eq_none (by rw [List.length_range]; omega)]
      rfl
theorem rd_file {s : Sg} {ino : Int} {xs : List Int} (hn : s.l = []) (hf : Fl s ino xs) {off n : Nat} (h : n ≤ 64) :
    rdX s ino off n = ((if off < xs.length ∧ 0 < n then { s with R := addL (addK s.R ino [3]) (tcB ino off (off + min n (xs.length - off) : Nat)) } else { s with R := addK s.R ino [3] }), strOfNums ((xs.drop off).take n), 0) := by
  have hx5 := hf.len
  unfold rdX exRd
  rw [if_neg (by omega), hf.sz]
  unfold exRd1
  rw [if_neg (by simp)]
  unfold exRd2
  dsimp only
  by_cases hc : off < xs.length ∧ 0 < n
  · rw [if_neg (by omega), if_pos hc]
    obtain ⟨m, hm⟩ : ∃ m, min n (xs.length - off) = m := ⟨_, rfl⟩
    have hmi : min (n : Int) ((xs.length : Int) - (off : Int)) = (m : Int) := by omega
    rw [hmi, hm, Int.toNat_natCast, Int.toNat_natCast]
    have eg := get_file (s := { s with R := addL (addK s.R ino [3]) (tcB ino off (off + m : Nat)) }) hn (hf.by_.same rfl) m 0 off m (Nat.le_refl _) (by omega)
    have ee : exGet SgP ino (SgP.rd { s with R := addK s.R ino [3] } (tcB ino off (off + m))) (pcsL off m) = ({ s with R := addL (addK s.R ino [3]) (tcB ino off (off + m : Nat)) }, (List.range m).map (fun j => xs.getD (off + j) 0), 0) := eg
    rw [ee]
    unfold exOut
    dsimp only
    rw [if_neg (by simp)]
    congr 2
    congr 1
    apply List.ext_getElem?
    intro j
    rw [List.getElem?_map, List.getElem?_take, List.getElem?_drop]
    by_cases hj : j < m
    · rw [List.getElem?_range hj, if_pos (by omega), List.getElem?_eq_getElem (by omega)]
      simp only [Option.map_some]
      rw [List.getD_eq_getElem?_getD, List.getElem?_eq_getElem (by omega)]
      rfl
    · rw [List.getElem?_eq_none (by rw [List.length_range]; omega)]
      split
      · rw [List.getElem?_eq_none (by omega)]; rfl
      · rfl
  · rw [if_pos (by omega), if_neg hc]
    have : (xs.drop off).take n = [] := by
      by_cases hz : n = 0
      · subst hz; simp
      · rw [List.drop_of_length_le (by omega)]; simp
    rw [this]
    rfl

end Go.Proofs.YtjjhfginmamlkaaGreat
