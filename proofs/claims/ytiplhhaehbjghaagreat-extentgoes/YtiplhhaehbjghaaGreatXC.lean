/- ExF, ExG, ExH: in one text. -/
import Derived.Test.YtiplhhaehbjghaaGreatXA
import Derived.Test.YtiplhhaehbjghaaGreatEF
import Derived.Test.YtiplhhaehbjghaaGreatXB
import Derived.Test.YtiplhhaehbjghaaGreatIK
namespace Go.Proofs.YtiplhhaehbjghaaGreat
open Go.RowKit
set_option linter.unusedVariables false
set_option maxHeartbeats 32000000
set_option maxRecDepth 100000
set_option linter.unusedSimpArgs false
theorem filter_lt {A : List Pl} {a : Pl} (h : a ∈ A) : (A.filter fun y => !plEq a y).length < A.length := by
 induction A with
 | nil => cases h
 | cons b A ih =>
  rw [List.filter_cons]
  rcases List.mem_cons.1 h with rfl | h
  ·rw [plEq_self]
   have := List.length_filter_le (fun y => !plEq a y) A
   simp only [Bool.not_true, Bool.false_eq_true, if_false, List.length_cons]
   omega
  ·have := ih h
   split
   ·simp only [List.length_cons]; omega
   ·simp only [List.length_cons]; omega
theorem sub_len : ∀ {A B : List Pl}, A.Nodup → (∀ x ∈ A, x ∈ B) → A.length ≤ B.length
 | [], B, _, _ => Nat.zero_le _
 | a :: A, B, hn, hs => by
  obtain ⟨h1, h2⟩ := List.nodup_cons.1 hn
  have := sub_len (A := A) (B := B.filter fun y => !plEq a y) h2 (fun x hx => List.mem_filter.2 ⟨hs x (List.mem_cons_of_mem _ hx), by rw [plEq_no (fun e => h1 (by rw [e]; exact hx))]; rfl⟩)
  have := filter_lt (hs a List.mem_cons_self)
  rw [List.length_cons]; omega
theorem rise_nodupE {L : List Cg} (h : Rise L) : (L.map (·.pl)).Nodup := by
 unfold List.Nodup
 rw [List.pairwise_map]
 exact h.imp (fun e => cmp_ne e)
structure Bs (s : Sg) (K : List Pl) : Prop where
 nil : s.l = []
 ok : DlOk s.d
 ck : CksOk s.d
 most : s.d.most = 64
 at_ : ∀ c ∈ s.d.L, c.pl ∈ K
 k : K.length ≤ 64
theorem Bs.same {s t : Sg} {K : List Pl} (h : Bs s K) (hl : t.l = s.l) (hd : t.d = s.d) : Bs t K := by
 obtain ⟨h1, h2, h3, h4, h5, h6⟩ := h
 exact ⟨by rw [hl, h1], by rw [hd]; exact h2, by rw [hd]; exact h3, by rw [hd]; exact h4, by rw [hd]; exact h5, h6⟩
theorem Bs.room {s : Sg} {K : List Pl} (h : Bs s K) {p : Pl} (hp : p ∈ K) (hi : isX s.d p = false) : (s.d.L.length : Int) < s.d.most := by
 have hg : getL s.d.L p = none := by unfold isX at hi; cases hh : getL s.d.L p with | none => rfl | some c => rw [hh] at hi; cases hi
 have hn : (p :: s.d.L.map (·.pl)).Nodup := List.nodup_cons.2 ⟨fun e => by
  obtain ⟨c, hc, e⟩ := List.mem_map.1 e
  exact getL_none.1 hg c hc e, rise_nodupE h.ok.L.rise⟩
 have := sub_len hn (B := K) (fun x hx => by
  rcases List.mem_cons.1 hx with rfl | hx
  ·exact hp
  ·obtain ⟨c, hc, rfl⟩ := List.mem_map.1 hx
   exact h.at_ c hc)
 have := h.k
 rw [List.length_cons, List.length_map] at *
 rw [h.most]; omega
theorem Bs.put {s : Sg} {K : List Pl} (h : Bs s K) {c : Cg} (hc : CgOk c) (hk : ckOk c = true) (hp : c.pl ∈ K) (hj : isX s.d c.pl = true → (joinX (wasX s.d c.pl) c).2 = 0) :
  (putX s.d c).2 = 0 ∧ Bs { s with d := putS s.d c } K ∧ (∀ q, vgR [] (putS s.d c) q = if plEq c.pl q = true then aft (vgR [] s.d c.pl) c else vgR [] s.d q) ∧ ∀ q, getL (putS s.d c).L q = if plEq c.pl q = true then some (putX s.d c).1 else getL s.d.L q := by
 have h0 : (putX s.d c).2 = 0 := by
  unfold putX behX
  rw [hk, if_pos rfl]
  cases hi : isX s.d c.pl
  ·rw [if_neg (by simp), if_neg (by have := h.room hp hi; omega)]
  ·rw [if_pos rfl]; exact hj hi
 have hL : (putS s.d c).L = setL s.d.L (putX s.d c).1 := by unfold putS; rw [if_pos h0]
 have hpl := putX_pl h0
 have hok := putX_ok h.ok hc
 refine ⟨h0, ⟨h.nil, putS_ok h.ok hc, h.ck.put c, ?_, ?_, h.k⟩, fun q => vg_put [] h.ok h.ck hc h0 q, fun q => ?_⟩
 ·have : (putS s.d c).most = s.d.most := by unfold putS; split <;> rfl
  exact this.trans h.most
 ·intro x hx
  have hx : x ∈ setL s.d.L (putX s.d c).1 := by rw [← hL]; exact hx
  rcases setL_mem.1 hx with rfl | ⟨hx, _⟩
  ·rw [hpl]; exact hp
  ·exact h.at_ x hx
 ·rw [hL, getL_set h.ok.L hok, hpl]
theorem dat_rec {ino ino' : Int} {c : Int} (h : datP ino c = recP ino') : False := by
 have := congrArg Pl.part h
 simp [datP, recP] at this
def By (s : Sg) (ino : Int) (f : Nat → Int) : Prop := ∀ c : Nat, c < 16 → (vgR [] s.d (datP ino c)).2.2 = 0 ∧ ∀ i, i < 32 → (vgR [] s.d (datP ino c)).1.bytes.getD i 0 = f (32 * c + i)
theorem By.same {s t : Sg} {ino : Int} {f : Nat → Int} (h : By s ino f) (hd : t.d = s.d) : By t ino f := by
 unfold By; rw [hd]; exact h
theorem By.fn {s : Sg} {ino : Int} {f g : Nat → Int} (h : By s ino f) (e : ∀ j, j < 512 → f j = g j) : By s ino g := fun c hc => ⟨(h c hc).1, fun i hi => by rw [(h c hc).2 i hi]; exact e _ (by omega)⟩
structure Left (ino : Int) (s s' : Sg) : Prop where
 l : s'.l = s.l
 R : s'.R = s.R
 U : s'.U = s.U
 n : s'.n = s.n
 else_ : ∀ q, (∀ c : Nat, q ≠ datP ino c) → vgR [] s'.d q = vgR [] s.d q ∧ getL s'.d.L q = getL s.d.L q
theorem Left.refl (ino : Int) (s : Sg) : Left ino s s := ⟨rfl, rfl, rfl, rfl, fun q _ => ⟨rfl, rfl⟩⟩
theorem Left.trans {ino : Int} {s t u : Sg} (h : Left ino s t) (k : Left ino t u) : Left ino s u :=
 ⟨k.l.trans h.l, k.R.trans h.R, k.U.trans h.U, k.n.trans h.n, fun q hq => ⟨((k.else_ q hq).1).trans (h.else_ q hq).1, ((k.else_ q hq).2).trans (h.else_ q hq).2⟩⟩
structure Fl (s : Sg) (ino : Int) (xs : List Int) : Prop where
 i0 : 1 ≤ ino
 i1 : ino ≤ 4294967295
 rec_ : getL s.d.L (recP ino) = some (freshC (recP ino) 1 0 1 xs.length)
 len : xs.length ≤ 512
 byt : Byt xs
 by_ : By s ino (fun j => xs.getD j 0)
theorem Fl.same {s t : Sg} {ino : Int} {xs : List Int} (h : Fl s ino xs) (hd : t.d = s.d) : Fl t ino xs := ⟨h.i0, h.i1, by rw [hd]; exact h.rec_, h.len, h.byt, h.by_.same hd⟩
theorem Fl.fd {s : Sg} {ino : Int} {xs : List Int} (h : Fl s ino xs) : fdR s ino = (⟨1, 0, 1, xs.length⟩, 0) := by
 have hi : isX s.d (recP ino) = true := by unfold isX; rw [h.rec_]; rfl
 have hw : wasX s.d (recP ino) = freshC (recP ino) 1 0 1 xs.length := by unfold wasX; rw [h.rec_]; rfl
 unfold fdR fdF vgR
 rw [hi, hw, if_neg (by have := h.i0; omega), if_pos rfl]
 rfl
theorem Fl.sz {s : Sg} {ino : Int} {xs : List Int} (h : Fl s ino xs) : exSz SgP s ino = ({ s with R := addK s.R ino [3] }, (xs.length : Int), 0) := by
 unfold exSz
 show (if (fdR s ino).2 ≠ 0 then ((s, 0, (fdR s ino).2) : Sg × Int × Int) else if (fdR s ino).1.k = 2 then (s, 0, 193) else sizeR s ino) = _
 rw [h.fd, if_neg (by simp), if_neg (by simp)]
 unfold sizeR
 rw [h.fd, if_neg (by simp)]
 rfl
def rdX (s : Sg) (ino off n : Int) : Sg × ByteArray × Int := exRd SgP s ino off n
def wrX (s : Sg) (ino off : Int) (data : ByteArray) : Sg × Int := exWr SgP s ino off data
def trX (s : Sg) (ino size : Int) : Sg × Int := exTr SgP s ino size
def Left2 (ino : Int) (s s' : Sg) : Prop := ∀ q, (∀ c : Nat, q ≠ datP ino c) → q ≠ recP ino → vgR [] s'.d q = vgR [] s.d q ∧ getL s'.d.L q = getL s.d.L q
theorem Left2.refl (ino : Int) {s s' : Sg} (h : s'.d = s.d) : Left2 ino s s' := fun q _ _ => by rw [h]; exact ⟨rfl, rfl⟩
theorem Fl.other {s s' : Sg} {ino ino' : Int} {zs : List Int} (h : Fl s ino' zs) (hne : ino' ≠ ino) (hl : Left2 ino s s') : Fl s' ino' zs := by
 have dne : ∀ (c c' : Nat), datP ino' c ≠ datP ino c' := fun c c' e => hne (congrArg Pl.ino e)
 have rne : recP ino' ≠ recP ino := fun e => hne (congrArg Pl.ino e)
 refine ⟨h.i0, h.i1, ?_, h.len, h.byt, fun c hc => ?_⟩
 ·rw [(hl _ (fun c e => dat_rec e.symm) rne).2]; exact h.rec_
 ·rw [(hl (datP ino' c) (fun c' => dne c c') (fun e => dat_rec e)).1]; exact h.by_ c hc
open Go.RowKit Go.Maps
def KeepT (w w' : World) : Prop := w.heap.size ≤ w'.heap.size ∧ ∀ (k : Nat) (cs : Array Value) (T : TypeId) (fr : Nat × Nat), w.heap[k]? = some (Obj.cells cs T fr) → T ≠ 140 → T ≠ 208 → T ≠ 153 → T ≠ 73 → T ≠ 23 → T ≠ 77 → w'.heap[k]? = some (Obj.cells cs T fr)
theorem KeepT.below {w w' : World} (hb : Below w.heap.size w w') : KeepT w w' := ⟨hb.size, fun k cs T fr hk _ _ _ _ _ _ => (hb.block _ (lt_of_row hk)).trans hk⟩
theorem KeepT.trans {w w1 w2 : World} (h : KeepT w w1) (k : KeepT w1 w2) : KeepT w w2 := ⟨Nat.le_trans h.1 k.1, fun i cs T fr hi a b c d e f => k.2 i cs T fr (h.2 i cs T fr hi a b c d e f) a b c d e f⟩
theorem Pr.call {B : Nat} {w0 w : World} {pp : Nat} {a : Sa} {s s' : Sg} (h : Pr B w0 w pp a s) {f : FuncId} {args : Array Value} {R : Ending → Prop} (hc : ∀ X, SgIn B w a X s → Calls Tryz.prog f args w fun e w' => R e ∧ SgOut B w a X s' w') :
  Calls Tryz.prog f args w fun e w' => R e ∧ Pr B w0 w' pp a s' ∧ KeepT w w' := by
 obtain ⟨X, x, p1, p2⟩ := h.ex
 refine (hc X p2).mono ?_
 rintro e w' ⟨hR, X', k1, k2, k3⟩
 exact ⟨hR, ⟨⟨X', x, k2.row p1 (p2.not_pair p1), k1⟩, h.bel.trans (k2.belowX p2.ge (Nat.le_trans h.B h.bel.size)), h.B⟩, k2.size, fun k cs T fr hk h1 h2 h3 h4 h5 h6 => k2.row hk (p2.other6 hk h1 h2 h3 h4 h5)⟩
theorem Pr.read {B : Nat} {w0 w : World} {pp : Nat} {a : Sa} {s : Sg} (h : Pr B w0 w pp a s) (ino : Int) (h0 : 0 ≤ ino) (h1 : ino ≤ 4294967295) (off n : Int) (ho0 : -9223372036854775808 ≤ off) (ho1 : off ≤ 9223372036854775807) {N : Nat} (hk : Sk s N) (hN : N ≤ 3800) :
  Calls Tryz.prog 54 #[.pointer (some ⟨a.s, 0, none⟩), .int .u32 ino, .int .i64 off, .int .i64 n] w fun e w' => e = .returned (.tuple #[.string (rdX s ino off n).2.1, .int .i64 (rdX s ino off n).2.2]) ∧ Pr B w0 w' pp a (rdX s ino off n).1 ∧ KeepT w w' :=
 h.call fun X hX => read_g SgP_ok (s := s) hX ino h0 h1 off n ho0 ho1 hk hN
theorem Pr.write {B : Nat} {w0 w : World} {pp : Nat} {a : Sa} {s : Sg} (h : Pr B w0 w pp a s) (ino : Int) (h0 : 0 ≤ ino) (h1 : ino ≤ 4294967295) (off : Int) (data : ByteArray) (hds : data.size ≤ 9223372036854775807) {N : Nat} (hk : Sk s N) (hN : N ≤ 3800) :
  Calls Tryz.prog 53 #[.pointer (some ⟨a.s, 0, none⟩), .int .u32 ino, .int .i64 off, .string data] w fun e w' => e = .returned (.int .i64 (wrX s ino off data).2) ∧ Pr B w0 w' pp a (wrX s ino off data).1 ∧ KeepT w w' :=
 h.call fun X hX => write_g SgP_ok (s := s) hX ino h0 h1 off data hds hk hN
theorem Pr.trunc {B : Nat} {w0 w : World} {pp : Nat} {a : Sa} {s : Sg} (h : Pr B w0 w pp a s) (ino : Int) (h0 : 0 ≤ ino) (h1 : ino ≤ 4294967295) (size : Int) {N : Nat} (hk : Sk s N) (hN : N ≤ 3800) :
  Calls Tryz.prog 55 #[.pointer (some ⟨a.s, 0, none⟩), .int .u32 ino, .int .i64 size] w fun e w' => e = .returned (.int .i64 (trX s ino size).2) ∧ Pr B w0 w' pp a (trX s ino size).1 ∧ KeepT w w' :=
 h.call fun X hX => trunc_g SgP_ok (s := s) hX ino h0 h1 size hk hN
theorem Pr.makeT {B : Nat} {w0 w : World} {pp : Nat} {a : Sa} {s : Sg} (h : Pr B w0 w pp a s) (kind mode : Int) {N : Nat} (hk : Sk s N) (hN : N ≤ 3800) :
  Calls Tryz.prog 32 #[.pointer (some ⟨a.s, 0, none⟩), .int .i64 kind, .int .i64 mode] w fun e w' => e = .returned (.tuple #[.int .u32 (makR s kind mode).2.1, .int .i64 (makR s kind mode).2.2]) ∧ Pr B w0 w' pp a (makR s kind mode).1 ∧ KeepT w w' :=
 h.call fun X hX => make_in hX kind mode (Nat.le_trans hk.L (by omega)) (Nat.le_trans hk.P (by omega))
theorem exk0 (l : List (ByteArray × ByteArray)) (most nx : Int) : Sk (sg0 l most nx) 0 := ⟨(fun c hc => absurd hc (by simp [sg0, newS])), Nat.le_refl _, Nat.le_refl _, Nat.le_refl _, Nat.le_refl _⟩
theorem exk_make {s : Sg} {n : Nat} (h : Sk s n) (kind mode : Int) : Sk (makR s kind mode).1 (n + 1) := by
 have hm : Sk (makS s kind mode) (n + 1) := by
  obtain ⟨h1, h2, h3, h4, h5⟩ := h.put (makC s kind mode)
  exact ⟨h1, h2, h3, h4, h5⟩
 unfold makR
 split
 ·exact h.mono (by omega)
 split
 ·exact hm
 ·exact hm
theorem exk_rd {s : Sg} {n : Nat} (h : Sk s n) (ino off m : Int) : Sk (rdX s ino off m).1 (n + 2) := exRd_sk SgP_ok (s := s) h ino off m
theorem exk_wr {s : Sg} {n : Nat} (h : Sk s n) (ino off : Int) (data : ByteArray) : Sk (wrX s ino off data).1 (n + 9) := exWr_sk SgP_ok (s := s) h ino off data
theorem exSz_le {s : Sg} {n : Nat} (hd : DlOk s.d) (hk : Sk s n) (ino : Int) : (exSz SgP s ino).2.1 ≤ 512 := by
 have hb := fd_bd hd hk.ck ino
 have e : exSz SgP s ino = if (fdR s ino).2 ≠ 0 then ((s, 0, (fdR s ino).2) : Sg × Int × Int) else if (fdR s ino).1.k = 2 then (s, 0, 193) else sizeR s ino := rfl
 rw [e]
 split
 ·exact show (0 : Int) ≤ 512 by decide
 split
 ·exact show (0 : Int) ≤ 512 by decide
 ·unfold sizeR
  split
  ·exact show (0 : Int) ≤ 512 by decide
  ·exact hb.s1
theorem exk_tr {s : Sg} {n : Nat} (hd : DlOk s.d) (h : Sk s n) (ino size : Int) : Sk (trX s ino size).1 (n + 23) := exTr_sk SgP_ok (s := s) ino size (exSz_le hd h ino) h
theorem Pr.dlo {B : Nat} {w0 w : World} {pp : Nat} {a : Sa} {s : Sg} (h : Pr B w0 w pp a s) : DlOk s.d := by
 obtain ⟨X, x, p1, p2⟩ := h.ex
 exact sg_ok p2
def hiB : ByteArray := ⟨#[104, 105]⟩
def xB : ByteArray := ⟨#[120]⟩
def y0 : Sg := sg0 [] 60 2
def y1 : Sg := (makR y0 1 6).1
def y2 : Sg := (wrX y1 2 0 hiB).1
def y3 : Sg := (rdX y2 2 0 9).1
def y4 : Sg := (wrX y3 2 4 xB).1
def y5 : Sg := (rdX y4 2 0 9).1
def y6 : Sg := (trX y5 2 1).1
def y7 : Sg := (trX y6 2 3).1
theorem ylv1 : (makR y0 1 6).2 = (2, 0) := by kernel_rfl
theorem ylv2 : (wrX y1 2 0 hiB).2 = 0 := by kernel_rfl
theorem ylv3 : (rdX y2 2 0 9).2 = (⟨#[104, 105]⟩, 0) := by kernel_rfl
theorem ylv5 : (rdX y4 2 0 9).2 = (⟨#[104, 105, 0, 0, 120]⟩, 0) := by kernel_rfl
theorem ylv9 : (rdX y7 2 0 9).2 = (⟨#[104, 0, 0]⟩, 0) := by kernel_rfl
theorem exlive_any (w : World) : Calls Tryz.prog 14 #[] w fun e w' => e = .returned (.bool true) ∧ Below w.heap.size w w' := by
 have cb := begin_in w none 0 0 [] ⟨rfl, Nat.le_refl _, Nat.zero_le _, fun h => by omega⟩ (Nat.le_refl _) (fun q h => by omega) 60 (by decide) 2 (by decide) (by decide)
 go_enter Tryz.func14, Tryz.ntmps14
 go_wp2_with fail
 refine cb.mono ?_
 intro e w1 hbg
 obtain ⟨pp, a, rfl, hp⟩ := Pr.of hbg (Nat.le_refl _)
 clear cb hbg
 have hp : Pr w.heap.size w w1 pp a y0 := hp
 have k0 : Sk y0 0 := exk0 _ _ _
 have q := hp.c0
 have c := hp.makeT 1 6 k0 (by decide)
 rw [ylv1] at c
 have K1 : Hid (Sk y1 1) := exk_make k0 1 6
 clear hp k0
 go_wp2_with fail
 refine c.mono ?_
 rintro e w2 ⟨rfl, hp, _⟩
 clear c q
 have hp : Pr w.heap.size w w2 pp a y1 := hp
 have q := hp.c0
 have c := hp.write 2 (by decide) (by decide) 0 hiB (by decide) K1.out (by decide)
 rw [ylv2] at c
 unfold hiB at c
 have K2 : Hid (Sk y2 10) := exk_wr K1.out 2 0 hiB
 clear hp
 go_wp2_with fail
 refine c.mono ?_
 rintro e w3 ⟨rfl, hp, _⟩
 clear c q
 have hp : Pr w.heap.size w w3 pp a y2 := hp
 have q := hp.c0
 have c := hp.read 2 (by decide) (by decide) 0 9 (by decide) (by decide) K2.out (by decide)
 rw [ylv3] at c
 have K3 : Hid (Sk y3 12) := exk_rd K2.out 2 0 9
 clear hp
 go_wp2_with fail
 refine c.mono ?_
 rintro e w4 ⟨rfl, hp, _⟩
 clear c q
 have hp : Pr w.heap.size w w4 pp a y3 := hp
 have q := hp.c0
 have c := hp.write 2 (by decide) (by decide) 4 xB (by decide) K3.out (by decide)
 unfold xB at c
 have K4 : Hid (Sk y4 21) := exk_wr K3.out 2 4 xB
 generalize (wrX y3 2 4 ⟨#[120]⟩).2 = e4 at *
 clear hp
 go_wp2_with fail
 refine c.mono ?_
 rintro e w5 ⟨rfl, hp, _⟩
 clear c q
 have hp : Pr w.heap.size w w5 pp a y4 := hp
 have q := hp.c0
 have c := hp.read 2 (by decide) (by decide) 0 9 (by decide) (by decide) K4.out (by decide)
 rw [ylv5] at c
 have K5 : Hid (Sk y5 23) := exk_rd K4.out 2 0 9
 clear hp
 go_wp2_with fail
 refine c.mono ?_
 rintro e w6 ⟨rfl, hp, _⟩
 clear c q
 have hp : Pr w.heap.size w w6 pp a y5 := hp
 have q := hp.c0
 have c := hp.trunc 2 (by decide) (by decide) 1 K5.out (by decide)
 have K6 : Hid (Sk y6 46) := exk_tr hp.dlo K5.out 2 1
 generalize (trX y5 2 1).2 = e6 at *
 clear hp
 go_wp2_with fail
 refine c.mono ?_
 rintro e w7 ⟨rfl, hp, _⟩
 clear c q
 have hp : Pr w.heap.size w w7 pp a y6 := hp
 have q := hp.c0
 have c := hp.trunc 2 (by decide) (by decide) 3 K6.out (by decide)
 have K7 : Hid (Sk y7 69) := exk_tr hp.dlo K6.out 2 3
 generalize (trX y6 2 3).2 = e7 at *
 clear hp
 go_wp2_with fail
 refine c.mono ?_
 rintro e w8 ⟨rfl, hp, _⟩
 clear c q
 have hp : Pr w.heap.size w w8 pp a y7 := hp
 have q := hp.c0
 have c := hp.read 2 (by decide) (by decide) 0 9 (by decide) (by decide) K7.out (by decide)
 rw [ylv9] at c
 clear hp
 go_wp2_with fail
 refine c.mono ?_
 rintro e w9 ⟨rfl, hp, _⟩
 clear c q
 have HB : Hid (Below w.heap.size w w9) := hp.bel
 clear hp
 go_wp2
 go_ret
 exact ⟨rfl, HB.out⟩
end Go.Proofs.YtiplhhaehbjghaaGreat
