/- ExH, ExS: in one text. -/
import Derived.Test.YtjjhfginmamlkaaGreatXB
import Derived.Test.YtjjhfginmamlkaaGreatXC
import Derived.Test.YtjjhfginmamlkaaGreatXH
import Derived.Test.YtjjhfginmamlkaaGreatVwCount
namespace Go.Proofs.YtjjhfginmamlkaaGreat
open Go.RowKit
set_option linter.unusedVariables false
set_option linter.unusedSimpArgs false
set_option maxRecDepth 4000

open Go.RowKit Go.Maps
set_option maxRecDepth 100000

/-- Rows of other types stay. -/
def KeepT (w w' : World) : Prop := w.heap.size ≤ w'.heap.size ∧ ∀ (k : Nat) (cs : Array Value) (T : TypeId) (fr : Nat × Nat), w.heap[k]? = some (Obj.cells cs T fr) → T ≠ 111 → T ≠ 170 → T ≠ 105 → T ≠ 61 → T ≠ 28 → T ≠ 65 → w'.heap[k]? = some (Obj.cells cs T fr)
theorem KeepT.below {w w' : World} (hb : Below w.heap.size w w') : KeepT w w' := ⟨hb.size, fun k cs T fr hk _ _ _ _ _ _ => (hb.block _ (lt_of_row hk)).trans hk⟩
theorem KeepT.trans {w w1 w2 : World} (h : KeepT w w1) (k : KeepT w1 w2) : KeepT w w2 := ⟨Nat.le_trans h.1 k.1, fun i cs T fr hi a b c d e f => k.2 i cs T fr (h.2 i cs T fr hi a b c d e f) a b c d e f⟩

theorem Pr.call {B : Nat} {w0 w : World} {pp : Nat} {a : Sa} {s s' : Sg} (h : Pr B w0 w pp a s) {f : FuncId} {args : Array Value} {R : Ending → Prop} (hc : ∀ X, SgIn B w a X s → Calls Tryz.prog f args w fun e w' => R e ∧ SgOut B w a X s' w') :
    Calls Tryz.prog f args w fun e w' => R e ∧ Pr B w0 w' pp a s' ∧ KeepT w w' := by
  obtain ⟨X, x, p1, p2⟩ := h.ex
  refine (hc X p2).mono ?_
  rintro e w' ⟨hR, X', k1, k2, k3⟩
  exact ⟨hR, ⟨⟨X', x, k2.row p1 (p2.not_pair p1), k1⟩, h.bel.trans (k2.belowX p2.ge (Nat.le_trans h.B h.bel.size)), h.B⟩, k2.size, fun k cs T fr hk h1 h2 h3 h4 h5 h6 => k2.row hk (p2.other6 hk h1 h2 h3 h4 h5)⟩
theorem Pr.read {B : Nat} {w0 w : World} {pp : Nat} {a : Sa} {s : Sg} (h : Pr B w0 w pp a s) (ino : Int) (h0 : 0 ≤ ino) (h1 : ino ≤ 4294967295) (off n : Int) (ho0 : -9223372036854775808 ≤ off) (ho1 : off ≤ 9223372036854775807) {N : Nat} (hk : Sk s N) (hN : N ≤ 3800) :
    Calls Tryz.prog 17 #[.pointer (some ⟨a.s, 0, none⟩), .int .u32 ino, .int .i64 off, .int .i64 n] w fun e w' => e = .returned (.tuple #[.string (rdX s ino off n).2.1, .int .i64 (rdX s ino off n).2.2]) ∧ Pr B w0 w' pp a (rdX s ino off n).1 ∧ KeepT w w' :=
  h.call fun X hX => read_g SgP_ok (s := s) hX ino h0 h1 off n ho0 ho1 hk hN
theorem Pr.write {B : Nat} {w0 w : World} {pp : Nat} {a : Sa} {s : Sg} (h : Pr B w0 w pp a s) (ino : Int) (h0 : 0 ≤ ino) (h1 : ino ≤ 4294967295) (off : Int) (data : ByteArray) (hds : data.size ≤ 9223372036854775807) {N : Nat} (hk : Sk s N) (hN : N ≤ 3800) :
    Calls Tryz.prog 14 #[.pointer (some ⟨a.s, 0, none⟩), .int .u32 ino, .int .i64 off, .string data] w fun e w' => e = .returned (.int .i64 (wrX s ino off data).2) ∧ Pr B w0 w' pp a (wrX s ino off data).1 ∧ KeepT w w' :=
  h.call fun X hX => write_g SgP_ok (s := s) hX ino h0 h1 off data hds hk hN
theorem Pr.trunc {B : Nat} {w0 w : World} {pp : Nat} {a : Sa} {s : Sg} (h : Pr B w0 w pp a s) (ino : Int) (h0 : 0 ≤ ino) (h1 : ino ≤ 4294967295) (size : Int) {N : Nat} (hk : Sk s N) (hN : N ≤ 3800) :
    Calls Tryz.prog 15 #[.pointer (some ⟨a.s, 0, none⟩), .int .u32 ino, .int .i64 size] w fun e w' => e = .returned (.int .i64 (trX s ino size).2) ∧ Pr B w0 w' pp a (trX s ino size).1 ∧ KeepT w w' :=
  h.call fun X hX => trunc_g SgP_ok (s := s) hX ino h0 h1 size hk hN
theorem Pr.makeT {B : Nat} {w0 w : World} {pp : Nat} {a : Sa} {s : Sg} (h : Pr B w0 w pp a s) (kind mode : Int) {N : Nat} (hk : Sk s N) (hN : N ≤ 3800) :
    Calls Tryz.prog 13 #[.pointer (some ⟨a.s, 0, none⟩), .int .i64 kind, .int .i64 mode] w fun e w' => e = .returned (.tuple #[.int .u32 (makR s kind mode).2.1, .int .i64 (makR s kind mode).2.2]) ∧ Pr B w0 w' pp a (makR s kind mode).1 ∧ KeepT w w' :=
  h.call fun X hX => make_in hX kind mode (Nat.le_trans hk.L (by omega)) (Nat.le_trans hk.P (by omega))
theorem exk0 (l : List (ByteArray × ByteArray)) (most nx : Int) : Sk (sg0 l most nx) 0 := ⟨(fun c hc => absurd hc (by simp [sg0, newS])), Nat.le_refl _, Nat.le_refl _, Nat.le_refl _, Nat.le_refl _⟩
theorem exk_make {s : Sg} {n : Nat} (h : Sk s n) (kind mode : Int) : Sk (makR s kind mode).1 (n + 1) := by
  have hm : Sk (makS s kind mode) (n + 1) := by
    obtain ⟨h1, h2, h3, h4, h5⟩ := h.put (makC s kind mode)
    exact ⟨h1, h2, h3, h4, h5⟩
  unfold makR
  split
  · exact h.mono (by omega)
  split
  · exact hm
  · exact hm
theorem exk_rd {s : Sg} {n : Nat} (h : Sk s n) (ino off m : Int) : Sk (rdX s ino off m).1 (n + 2) := exRd_sk SgP_ok (s := s) h ino off m
theorem exk_wr {s : Sg} {n : Nat} (h : Sk s n) (ino off : Int) (data : ByteArray) : Sk (wrX s ino off data).1 (n + 9) := exWr_sk SgP_ok (s := s) h ino off data
theorem exSz_le {s : Sg} {n : Nat} (hd : DlOk s.d) (hk : Sk s n) (ino : Int) : (exSz SgP s ino).2.1 ≤ 512 := by
  have hb := fd_bd hd hk.ck ino
  have e : exSz SgP s ino = if (fdR s ino).2 ≠ 0 then ((s, 0, (fdR s ino).2) : Sg × Int × Int) else if (fdR s ino).1.k = 2 then (s, 0, 193) else sizeR s ino := rfl
  rw [e]
  split
  · exact show (0 : Int) ≤ 512 by decide
  split
  · exact show (0 : Int) ≤ 512 by decide
  · unfold sizeR
    split
    · exact show (0 : Int) ≤ 512 by decide
    · exact hb.s1
theorem exk_tr {s : Sg} {n : Nat} (hd : DlOk s.d) (h : Sk s n) (ino size : Int) : Sk (trX s ino size).1 (n + 23) := exTr_sk SgP_ok (s := s) ino size (exSz_le hd h ino) h
theorem Pr.dlo {B : Nat} {w0 w : World} {pp : Nat} {a : Sa} {s : Sg} (h : Pr B w0 w pp a s) : DlOk s.d := by
  obtain ⟨X, x, p1, p2⟩ := h.ex
  exact sg_ok p2

/-! ### live -/

def hiB : ByteArray := ⟨#[104, 105]⟩
def xB : ByteArray := ⟨#[120]⟩
def y0 : Sg := sg0 [] 60 2
def y1 : Sg := (makR y0 1 6).1
def y2 : Sg := (wrX y1 2 0 hiB).1
def y3 : Sg := (rdX y2 2 0 9).1
def y4 : Sg := (wrX y3 2 4 xB).1
def y5 : Sg := (rdX y4 2 0 9).1
def y6 : Sg := (trX y5 2 1).1
def y7 : Sg := (trX y6 2 3).1
theorem ylv1 : (makR y0 1 6).2 = (2, 0) := by kernel_rfl
theorem ylv2 : (wrX y1 2 0 hiB).2 = 0 := by kernel_rfl
theorem ylv3 : (rdX y2 2 0 9).2 = (⟨#[104, 105]⟩, 0) := by kernel_rfl
theorem ylv5 : (rdX y4 2 0 9).2 = (⟨#[104, 105, 0, 0, 120]⟩, 0) := by kernel_rfl
theorem ylv9 : (rdX y7 2 0 9).2 = (⟨#[104, 0, 0]⟩, 0) := by kernel_rfl

set_option maxHeartbeats 4000000 in
theorem exlive_any (w : World) : Calls Tryz.prog 8 #[] w fun e w' => e = .returned (.bool true) ∧ Below w.heap.size w w' := by
  have cb := begin_in w none 0 0 [] ⟨rfl, Nat.le_refl _, Nat.zero_le _, fun h => by omega⟩ (Nat.le_refl _) (fun q h => by omega) 60 (by decide) 2 (by decide) (by decide)
  go_enter Tryz.func8, Tryz.ntmps8
  go_wp2_with fail
  refine cb.mono ?_
  intro e w1 hbg
  obtain ⟨pp, a, rfl, hp⟩ := Pr.of hbg (Nat.le_refl _)
  clear cb hbg
  have hp : Pr w.heap.size w w1 pp a y0 := hp
  have k0 : Sk y0 0 := exk0 _ _ _
  have q := hp.c0
  have c := hp.makeT 1 6 k0 (by decide)
  rw [ylv1] at c
  have K1 : Hid (Sk y1 1) := exk_make k0 1 6
  clear hp k0
  go_wp2_with fail
  refine c.mono ?_
  rintro e w2 ⟨rfl, hp, _⟩
  clear c q
  have hp : Pr w.heap.size w w2 pp a y1 := hp
  have q := hp.c0
  have c := hp.write 2 (by decide) (by decide) 0 hiB (by decide) K1.out (by decide)
  rw [ylv2] at c
  unfold hiB at c
  have K2 : Hid (Sk y2 10) := exk_wr K1.out 2 0 hiB
  clear hp
  go_wp2_with fail
  refine c.mono ?_
  rintro e w3 ⟨rfl, hp, _⟩
  clear c q
  have hp : Pr w.heap.size w w3 pp a y2 := hp
  have q := hp.c0
  have c := hp.read 2 (by decide) (by decide) 0 9 (by decide) (by decide) K2.out (by decide)
  rw [ylv3] at c
  have K3 : Hid (Sk y3 12) := exk_rd K2.out 2 0 9
  clear hp
  go_wp2_with fail
  refine c.mono ?_
  rintro e w4 ⟨rfl, hp, _⟩
  clear c q
  have hp : Pr w.heap.size w w4 pp a y3 := hp
  have q := hp.c0
  have c := hp.write 2 (by decide) (by decide) 4 xB (by decide) K3.out (by decide)
  unfold xB at c
  have K4 : Hid (Sk y4 21) := exk_wr K3.out 2 4 xB
  generalize (wrX y3 2 4 ⟨#[120]⟩).2 = e4 at *
  clear hp
  go_wp2_with fail
  refine c.mono ?_
  rintro e w5 ⟨rfl, hp, _⟩
  clear c q
  have hp : Pr w.heap.size w w5 pp a y4 := hp
  have q := hp.c0
  have c := hp.read 2 (by decide) (by decide) 0 9 (by decide) (by decide) K4.out (by decide)
  rw [ylv5] at c
  have K5 : Hid (Sk y5 23) := exk_rd K4.out 2 0 9
  clear hp
  go_wp2_with fail
  refine c.mono ?_
  rintro e w6 ⟨rfl, hp, _⟩
  clear c q
  have hp : Pr w.heap.size w w6 pp a y5 := hp
  have q := hp.c0
  have c := hp.trunc 2 (by decide) (by decide) 1 K5.out (by decide)
  have K6 : Hid (Sk y6 46) := exk_tr hp.dlo K5.out 2 1
  generalize (trX y5 2 1).2 = e6 at *
  clear hp
  go_wp2_with fail
  refine c.mono ?_
  rintro e w7 ⟨rfl, hp, _⟩
  clear c q
  have hp : Pr w.heap.size w w7 pp a y6 := hp
  have q := hp.c0
  have c := hp.trunc 2 (by decide) (by decide) 3 K6.out (by decide)
  have K7 : Hid (Sk y7 69) := exk_tr hp.dlo K6.out 2 3
  generalize (trX y6 2 3).2 = e7 at *
  clear hp
  go_wp2_with fail
  refine c.mono ?_
  rintro e w8 ⟨rfl, hp, _⟩
  clear c q
  have hp : Pr w.heap.size w w8 pp a y7 := hp
  have q := hp.c0
  have c := hp.read 2 (by decide) (by decide) 0 9 (by decide) (by decide) K7.out (by decide)
  rw [ylv9] at c
  clear hp
  go_wp2_with fail
  refine c.mono ?_
  rintro e w9 ⟨rfl, hp, _⟩
  clear c q
  have HB : Hid (Below w.heap.size w w9) := hp.bel
  clear hp
  go_wp2
  go_ret
  exact ⟨rfl, HB.out⟩

set_option maxRecDepth 100000

def goodW (off : Int) (data : ByteArray) : Bool := decide (0 ≤ off) && decide (data.size ≤ 64) && (decide (data.size = 0) || decide (off ≤ 512 - (data.size : Int)))
def wrL (xs : List Int) (off : Int) (data : ByteArray) : List Int := if goodW off data = true ∧ data.size ≠ 0 then ovl xs off.toNat (strB data) else xs
theorem wr_any {s : Sg} {K : List Pl} {ino : Int} {xs : List Int} (hb : Bs s K) (hf : Fl s ino xs) (hK : ∀ c : Nat, c < 16 → datP ino c ∈ K) (hKr : recP ino ∈ K) (off : Int) (data : ByteArray) :
    Bs (wrX s ino off data).1 K ∧ Fl (wrX s ino off data).1 ino (wrL xs off data) ∧ Left2 ino s (wrX s ino off data).1 ∧ ((wrX s ino off data).2 == 0) = goodW off data := by
  by_cases h1 : off < 0 ∨ 64 < data.size
  · have hg : goodW off data = false := by
      unfold goodW
      rcases h1 with h | h
      · simp [show ¬ 0 ≤ off by omega]
      · simp [show ¬ data.size ≤ 64 by omega]
    rw [wr_no hf off data h1]
    unfold wrL
    rw [hg, if_neg (by simp)]
    exact ⟨hb, hf, Left2.refl _ rfl, rfl⟩
  have h0 : 0 ≤ off := by omega
  have h64 : data.size ≤ 64 := by omega
  by_cases h2 : data.size = 0
  · have hg : goodW off data = true := by unfold goodW; simp [h0, h2]
    rw [wr_none hf h0 h2]
    unfold wrL
    rw [if_neg (by simp [h2]), hg]
    exact ⟨hb.same rfl rfl, hf.same rfl, Left2.refl _ rfl, rfl⟩
  by_cases h3 : 512 - (data.size : Int) < off
  · have hg : goodW off data = false := by unfold goodW; simp [h2, show ¬ off ≤ 512 - (data.size : Int) by omega]
    rw [wr_big hf h0 h64 h2 h3]
    unfold wrL
    rw [hg, if_neg (by simp)]
    exact ⟨hb.same rfl rfl, hf.same rfl, Left2.refl _ rfl, rfl⟩
  · have hg : goodW off data = true := by unfold goodW; simp [h0, h64, show off ≤ 512 - (data.size : Int) by omega]
    obtain ⟨o, rfl⟩ : ∃ o : Nat, off = (o : Int) := ⟨off.toNat, by omega⟩
    obtain ⟨s', e1, e2, e3, e4, _⟩ := wr_file hb hf hK hKr (off := o) (data := data) (by omega) h64 (by omega)
    rw [e1]
    unfold wrL
    rw [hg, if_pos ⟨rfl, h2⟩, Int.toNat_natCast]
    exact ⟨e2, e3, e4, rfl⟩
def goodT (n : Int) : Bool := decide (0 ≤ n) && decide (n ≤ 512)
def trL (xs : List Int) (n : Int) : List Int := if goodT n = true then cutL xs n.toNat else xs
theorem tr_any {s : Sg} {K : List Pl} {ino : Int} {xs : List Int} (hb : Bs s K) (hf : Fl s ino xs) (hK : ∀ c : Nat, c < 16 → datP ino c ∈ K) (hKr : recP ino ∈ K) (n : Int) :
    Bs (trX s ino n).1 K ∧ Fl (trX s ino n).1 ino (trL xs n) ∧ Left2 ino s (trX s ino n).1 ∧ ((trX s ino n).2 == 0) = goodT n := by
  by_cases h1 : n < 0 ∨ 512 < n
  · have hg : goodT n = false := by
      unfold goodT
      rcases h1 with h | h
      · simp [show ¬ 0 ≤ n by omega]
      · simp [show ¬ n ≤ 512 by omega]
    rw [tr_no hf h1]
    unfold trL
    rw [hg, if_neg (by simp)]
    exact ⟨hb.same rfl rfl, hf.same rfl, Left2.refl _ rfl, rfl⟩
  · have hg : goodT n = true := by unfold goodT; simp [show 0 ≤ n by omega, show n ≤ 512 by omega]
    obtain ⟨m, rfl⟩ : ∃ m : Nat, n = (m : Int) := ⟨n.toNat, by omega⟩
    obtain ⟨s', e1, e2, e3, e4⟩ := tr_file hb hf hK hKr (n := m) (by omega)
    rw [e1]
    unfold trL
    rw [hg, if_pos rfl, Int.toNat_natCast]
    exact ⟨e2, e3, e4, rfl⟩

/-! ### At first -/

def z0 : Sg := sg0 [] 64 2
def z1 : Sg := (makR z0 1 0).1
def z2 : Sg := (makR z1 1 0).1
theorem zlv1 : (makR z0 1 0).2 = (2, 0) := by kernel_rfl
theorem zlv2 : (makR z1 1 0).2 = (3, 0) := by kernel_rfl
theorem z1L : z1.d.L = [freshC (recP 2) 1 0 1 0] := by kernel_rfl
theorem z2L : z2.d.L = [freshC (recP 2) 1 0 1 0, freshC (recP 3) 1 0 1 0] := by kernel_rfl
theorem z1m : z1.d.most = 64 := by kernel_rfl
theorem z2m : z2.d.most = 64 := by kernel_rfl
def KF (ino : Int) : List Pl := recP ino :: (List.range 16).map fun (c : Nat) => datP ino c
theorem KF_len (ino : Int) : (KF ino).length = 17 := by simp [KF]
theorem KF_rec (ino : Int) : recP ino ∈ KF ino := List.mem_cons_self
theorem KF_dat (ino : Int) (c : Nat) (hc : c < 16) : datP ino c ∈ KF ino := List.mem_cons_of_mem _ (List.mem_map.2 ⟨c, List.mem_range.2 hc, rfl⟩)
theorem by_none {s : Sg} {ino : Int} (hi : 1 ≤ ino) (h : ∀ c : Nat, getL s.d.L (datP ino c) = none) : By s ino (fun j => ([] : List Int).getD j 0) := fun c hc => by
  have hx : isX s.d (datP ino c) = false := by unfold isX; rw [h c]; rfl
  obtain ⟨s1, s2, s3⟩ := st_none (l := []) (dat_ok hi hc) (by rfl)
  unfold vgR
  rw [hx, if_neg (by simp)]
  dsimp only
  rw [s1, s2]
  exact ⟨rfl, fun i hi => zeroC_get i⟩
theorem one_start (hd : DlOk z1.d) (hc : CksOk z1.d) : Bs z1 (KF 2) ∧ Fl z1 2 [] := by
  refine ⟨⟨by kernel_rfl, hd, hc, z1m, fun c hc => ?_, by rw [KF_len]; decide⟩, ⟨by decide, by decide, by rw [z1L]; kernel_rfl, by decide, Byt.nil, by_none (by decide) fun c => ?_⟩⟩
  · rw [z1L] at hc
    rw [List.mem_singleton] at hc
    subst hc
    exact KF_rec 2
  · rw [z1L]
    refine getL_none.2 fun x hx => ?_
    rw [List.mem_singleton] at hx
    subst hx
    exact fun e => dat_rec e.symm
theorem two_start (hd : DlOk z2.d) (hc : CksOk z2.d) : Bs z2 (KF 2 ++ KF 3) ∧ Fl z2 2 [] ∧ Fl z2 3 [] := by
  have hn : ∀ (ino : Int) (c : Nat), getL z2.d.L (datP ino c) = none := fun ino c => by
    rw [z2L]
    refine getL_none.2 fun x hx => ?_
    simp only [List.mem_cons, List.not_mem_nil, or_false] at hx
    rcases hx with rfl | rfl <;> exact fun e => dat_rec e.symm
  refine ⟨⟨by kernel_rfl, hd, hc, z2m, fun c hc => ?_, by rw [List.length_append, KF_len, KF_len]; decide⟩, ⟨by decide, by decide, by rw [z2L]; kernel_rfl, by decide, Byt.nil, by_none (by decide) (hn 2)⟩, ⟨by decide, by decide, by rw [z2L]; kernel_rfl, by decide, Byt.nil, by_none (by decide) (hn 3)⟩⟩
  rw [z2L] at hc
  simp only [List.mem_cons, List.not_mem_nil, or_false] at hc
  rcases hc with rfl | rfl
  · exact List.mem_append_left _ (KF_rec 2)
  · exact List.mem_append_right _ (KF_rec 3)
def othB : ByteArray := ⟨#[111, 116, 104, 101, 114]⟩
def othL : List Int := ovl [] 0 (strB othB)
theorem oth_rd : strOfNums ((othL.drop 0).take 64) = othB := by kernel_rfl
theorem oth_len : othL.length = 5 := by kernel_rfl

/-- Two files: one is written and cut, the other one has what it had. -/
structure Ap (S : Sg) : Prop where
  b : Bs S (KF 2 ++ KF 3)
  f : ∃ xs, Fl S 2 xs
  o : Fl S 3 othL
theorem Ap.wr {S : Sg} (h : Ap S) (off : Int) (data : ByteArray) : Ap (wrX S 2 off data).1 := by
  obtain ⟨xs, hf⟩ := h.f
  obtain ⟨h1, h2, h3, _⟩ := wr_any h.b hf (fun c hc => List.mem_append_left _ (KF_dat 2 c hc)) (List.mem_append_left _ (KF_rec 2)) off data
  exact ⟨h1, ⟨_, h2⟩, h.o.other (by decide) h3⟩
theorem Ap.tr {S : Sg} (h : Ap S) (n : Int) : Ap (trX S 2 n).1 := by
  obtain ⟨xs, hf⟩ := h.f
  obtain ⟨h1, h2, h3, _⟩ := tr_any h.b hf (fun c hc => List.mem_append_left _ (KF_dat 2 c hc)) (List.mem_append_left _ (KF_rec 2)) n
  exact ⟨h1, ⟨_, h2⟩, h.o.other (by decide) h3⟩
theorem Ap.rd {S : Sg} (h : Ap S) : Ap (rdX S 3 0 64).1 ∧ (rdX S 3 0 64).2 = (othB, 0) := by
  have e := rd_file (s := S) h.b.nil h.o (off := 0) (n := 64) (by decide)
  rw [oth_rd] at e
  rw [if_pos (by rw [oth_len]; decide)] at e
  obtain ⟨xs, hf⟩ := h.f
  have e' : rdX S 3 0 64 = rdX S 3 ((0 : Nat) : Int) ((64 : Nat) : Int) := rfl
  rw [e', e]
  exact ⟨⟨h.b.same rfl rfl, ⟨xs, hf.same rfl⟩, h.o.same rfl⟩, rfl⟩
theorem Ap.start (hd : DlOk z2.d) (hc : CksOk z2.d) : Ap (wrX z2 3 0 othB).1 ∧ (wrX z2 3 0 othB).2 = 0 := by
  obtain ⟨h1, h2, h3⟩ := two_start hd hc
  obtain ⟨s', e1, e2, e3, e4, _⟩ := wr_file h1 h3 (fun c hc => List.mem_append_right _ (KF_dat 3 c hc)) (List.mem_append_right _ (KF_rec 3)) (off := 0) (data := othB) (by decide) (by decide) (by decide)
  have e' : wrX z2 3 0 othB = (s', 0) := e1
  rw [e']
  exact ⟨⟨e2, ⟨_, h2.other (by decide) e4⟩, e3⟩, rfl⟩

end Go.Proofs.YtjjhfginmamlkaaGreat
