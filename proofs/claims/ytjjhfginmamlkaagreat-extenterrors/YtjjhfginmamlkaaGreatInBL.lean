/- Over a store that may fail: Kind, Stat, Size, touches, what is put in (written by tools/laws/InL2_gen.py). -/
import Derived.Test.YtjjhfginmamlkaaGreatInFdL
import Derived.Test.YtjjhfginmamlkaaGreatS2
namespace Go.Proofs.YtjjhfginmamlkaaGreat.L
open Go.RowKit Go.Maps
set_option linter.unusedVariables false
set_option linter.unusedSimpArgs false
set_option maxRecDepth 100000

theorem SgIn.touchR {B : Nat} {w : World} {a : Sa} {X : List Nat} {s : Sg} (h : SgIn B w a X s) (ino : Int) (h0 : 0 ≤ ino) (h1 : ino ≤ 4294967295) (ad : Option Addr) (n c : Nat) (ks : List Int) (hr : RdKs w (.slice ad n c) ks) (hks : ∀ k ∈ ks, 0 ≤ k ∧ k ≤ 1000) (hn : n ≤ 100) (hL : s.R.length ≤ 18000) :
    Calls Tryz.prog 44 #[.pointer (some ⟨a.r, 0, none⟩), .int .u32 ino, .slice ad n c] w fun e w' => e = .returned (.tuple #[]) ∧ SgOut B w a X { s with R := addK s.R ino ks } w' := by
  obtain ⟨vd, vr, vu, h, rfl⟩ := h
  refine (touch_any h.r ino h0 h1 ad n c ks hr hks hn hL).mono ?_
  rintro e w' ⟨rfl, v', h2, h3⟩
  exact ⟨rfl, h.read h2 h3⟩
theorem SgIn.touchU {B : Nat} {w : World} {a : Sa} {X : List Nat} {s : Sg} (h : SgIn B w a X s) (ino : Int) (h0 : 0 ≤ ino) (h1 : ino ≤ 4294967295) (ad : Option Addr) (n c : Nat) (ks : List Int) (hr : RdKs w (.slice ad n c) ks) (hks : ∀ k ∈ ks, 0 ≤ k ∧ k ≤ 1000) (hn : n ≤ 100) (hL : s.U.length ≤ 18000) :
    Calls Tryz.prog 44 #[.pointer (some ⟨a.u, 0, none⟩), .int .u32 ino, .slice ad n c] w fun e w' => e = .returned (.tuple #[]) ∧ SgOut B w a X { s with U := addK s.U ino ks } w' := by
  obtain ⟨vd, vr, vu, h, rfl⟩ := h
  refine (touch_any h.u ino h0 h1 ad n c ks hr hks hn hL).mono ?_
  rintro e w' ⟨rfl, v', h2, h3⟩
  exact ⟨rfl, h.wrote h2 h3⟩
theorem SgIn.put {B : Nat} {w : World} {a : Sa} {X : List Nat} {s : Sg} (h : SgIn B w a X s) (c : Cg) (hc : CgOk c) (hL : s.d.L.length ≤ 5000) (hP : s.d.pus.length ≤ 5000) :
    Calls Tryz.prog 35 #[.pointer (some ⟨a.v, 0, none⟩), .agg (cgC c)] w fun e w' => e = .returned (.int .i64 (putX s.d c).2) ∧ SgOut B w a X { s with d := putS s.d c } w' := by
  obtain ⟨vd, vr, vu, h, rfl⟩ := h
  refine (vput_q h.vw h.d c hc hL hP).mono ?_
  rintro e w' ⟨rfl, v', h2, h3⟩
  exact ⟨rfl, h.put h2 h3⟩
theorem fdS_same (s : Sg) (ino : Int) : (fdS s ino).d = s.d ∧ (fdS s ino).R = s.R ∧ (fdS s ino).U = s.U ∧ (fdS s ino).l = s.l ∧ (fdS s ino).n = s.n := by
  unfold fdS
  split <;> exact ⟨rfl, rfl, rfl, rfl, rfl⟩
theorem SgIn.other {B : Nat} {w : World} {a : Sa} {X : List Nat} {s : Sg} (h : SgIn B w a X s) {k : Nat} {cs : Array Value} {T : TypeId} {fr : Nat × Nat} (hk : w.heap[k]? = some (.cells cs T fr)) (h1 : T ≠ 111) (h2 : T ≠ 170) (h3 : T ≠ 105) (h4 : T ≠ 61) (h5 : T ≠ 28) (h6 : T ≠ 65) : k ∉ X := by
  obtain ⟨vd, vr, vu, h, rfl⟩ := h
  exact h.other hk h1 h2 h3 h4 h5 h6
theorem SgIn.no_inode {B : Nat} {w : World} {a : Sa} {X : List Nat} {s : Sg} (h : SgIn B w a X s) {g : Nat} {k m l z : Int} (hr : InRow w g k m l z) : g ∉ X := h.other hr.row (by decide) (by decide) (by decide) (by decide) (by decide) (by decide)

set_option maxHeartbeats 2000000 in
theorem kind_in {B : Nat} {w : World} {a : Sa} {X : List Nat} {s : Sg} (h : SgIn B w a X s) (ino : Int) (h0 : 0 ≤ ino) (h1 : ino ≤ 4294967295) : Calls Tryz.prog 66 #[.pointer (some ⟨a.s, 0, none⟩), .int .u32 ino] w fun e w' =>
    e = .returned (.tuple #[.int .i64 (fdR s ino).1.k, .int .i64 (fdR s ino).2]) ∧ SgOut B w a X (fdS s ino) w' := by
  have cf := find_in h ino h0 h1
  generalize fdR s ino = F at *
  generalize fdS s ino = S1 at *
  obtain ⟨⟨fk, fm, fl, fz⟩, fe⟩ := F
  unfold inV at cf
  dsimp only at cf ⊢
  clear h
  go_enter Tryz.func66, Tryz.ntmps66
  go_wp2_with fail
  refine cf.mono ?_
  rintro e w1 ⟨rfl, hb1⟩
  have HO : Hid (SgOut B w a X S1 (w1.alloc (.cells #[.int .i64 fk, .int .i64 fm, .int .i64 fl, .int .i64 fz] 89))) := hb1.post (bel1 w1 (.cells #[.int .i64 fk, .int .i64 fm, .int .i64 fl, .int .i64 fz] 89))
  clear cf hb1
  go_wp2
  go_ret2
  exact ⟨rfl, HO.out⟩

def statR (s : Sg) (ino : Int) : Sg × In4 × Int := if (fdR s ino).2 ≠ 0 then (fdS s ino, in0, (fdR s ino).2) else ({ fdS s ino with R := addK (fdS s ino).R ino [1, 2, 3] }, (fdR s ino).1, 0)

def sizeR (s : Sg) (ino : Int) : Sg × Int × Int := if (fdR s ino).2 ≠ 0 then (fdS s ino, 0, (fdR s ino).2) else ({ fdS s ino with R := addK (fdS s ino).R ino [3] }, (fdR s ino).1.s, 0)

set_option maxHeartbeats 4000000 in
theorem size_in {B : Nat} {w : World} {a : Sa} {X : List Nat} {s : Sg} (h : SgIn B w a X s) (ino : Int) (h0 : 0 ≤ ino) (h1 : ino ≤ 4294967295) (hL : s.R.length ≤ 18000) : Calls Tryz.prog 18 #[.pointer (some ⟨a.s, 0, none⟩), .int .u32 ino] w fun e w' =>
    e = .returned (.tuple #[.int .i64 (sizeR s ino).2.1, .int .i64 (sizeR s ino).2.2]) ∧ SgOut B w a X (sizeR s ino).1 w' := by
  have cf := find_in h ino h0 h1
  have HF : Hid (sizeR s ino = if (fdR s ino).2 ≠ 0 then (fdS s ino, 0, (fdR s ino).2) else ({ fdS s ino with R := addK (fdS s ino).R ino [3] }, (fdR s ino).1.s, 0)) := rfl
  rw [← (fdS_same s ino).2.1] at hL
  generalize sizeR s ino = R at *
  generalize fdR s ino = F at *
  generalize fdS s ino = S1 at *
  obtain ⟨⟨fk, fm, fl, fz⟩, fe⟩ := F
  unfold inV at cf
  dsimp only at cf HF ⊢
  go_enter Tryz.func18, Tryz.ntmps18
  go_wp2_with fail
  refine cf.mono ?_
  rintro e w2 ⟨rfl, ho2⟩
  clear cf
  have hb3 := bel1 w2 (.cells #[.int .i64 fk, .int .i64 fm, .int .i64 fl, .int .i64 fz] 89)
  have hi3 : InRow (w2.alloc (.cells #[.int .i64 fk, .int .i64 fm, .int .i64 fl, .int .i64 fz] 89)) w2.heap.size fk fm fl fz := ⟨heap_alloc_new w2 _⟩
  obtain ⟨w3, hw3⟩ : ∃ w3, w2.alloc (.cells #[.int .i64 fk, .int .i64 fm, .int .i64 fl, .int .i64 fz] 89) = w3 := ⟨_, rfl⟩
  rw [hw3] at hb3 hi3
  obtain ⟨X3, h3, hx2, hx3⟩ := ho2.post hb3
  have c1 := h3.c1
  have HX2 : Hid (Sole X w w3) := hx2
  have HX3 : Hid (∀ k ∈ X3, k ∈ X ∨ w.heap.size ≤ k) := hx3
  have HH3 : Hid (SgIn B w3 a X3 S1) := h3
  clear hx2 hx3 ho2
  by_cases he : fe = 0
  case neg =>
    have heb : (fe != 0) = true := by simpa using he
    have HE : Hid (R = (S1, 0, fe)) := by unfold Hid; rw [HF.out, if_pos he]
    clear HF h3 h hi3
    go_wp2
    go_ret2
    exact ⟨by rw [HE.out]; first | done | rfl, by rw [HE.out]; exact ⟨X3, HH3.out, HX2.out, HX3.out⟩⟩
  subst he
  have HE : Hid (R = ({ S1 with R := addK S1.R ino [3] }, fz, 0)) := by unfold Hid; rw [HF.out, if_neg (by simp)]
  have hb4 := bel1 w3 (.cells #[.int .i64 3] 3)
  have hk4 : RdKs (w3.alloc (.cells #[.int .i64 3] 3)) (.slice (some ⟨w3.heap.size, 0, none⟩) 1 1) [3] := rdKs_lit w3 [3]
  obtain ⟨w4, hw4⟩ : ∃ w4, w3.alloc (.cells #[.int .i64 3] 3) = w4 := ⟨_, rfl⟩
  rw [hw4] at hb4 hk4
  have ct := (h3.below hb4).touchR ino h0 h1 _ _ _ _ hk4 (by intro k hk; simp at hk; omega) (by decide) hL
  have HH4 : Hid (SgIn B w4 a X3 S1) := h3.below hb4
  have HI4 : Hid (InRow w4 w2.heap.size fk fm fl fz) := hi3.below hb4
  have HB4 : Hid (Below w3.heap.size w3 w4) := hb4
  clear HF h3 h hi3 hb3 hb4 hk4
  go_wp2_with fail
  refine ct.mono ?_
  rintro e w5 ⟨rfl, ho⟩
  clear ct c1
  have hi5 := HI4.out.sole ho.sole (HH4.out.no_inode HI4.out)
  have i3 := hi5.cell 3 _ rfl
  have HO : Hid (SgOut B w4 a X3 { S1 with R := addK S1.R ino [3] } w5) := ho
  clear ho hi5
  go_wp2
  go_ret2
  exact ⟨by rw [HE.out]; first | done | rfl, by rw [HE.out]; exact SgOut.then HX2.out HX3.out (SgOut.pre HB4.out HO.out)⟩

end Go.Proofs.YtjjhfginmamlkaaGreat.L
