/- The contract of the law's live. -/
import Derived.Test.YtkmckipfjahlcaaGreatInG
namespace Go.Proofs.YtkmckipfjahlcaaGreat
open Go.RowKit Go.Maps
set_option linter.unusedVariables false
set_option linter.unusedSimpArgs false
set_option maxRecDepth 100000

theorem PrAt.c0 {w : World} {pp x : Nat} {a : Sa} (h : PrAt w pp a x) : w.cell? ⟨pp, 0, none⟩ = some (.pointer (some ⟨a.s, 0, none⟩)) := by rw [cell_of_row _ _ _ _ _ (0, 0) h]; rfl
theorem PrAt.c1 {w : World} {pp x : Nat} {a : Sa} (h : PrAt w pp a x) : w.cell? ⟨pp, 1, none⟩ = some (.pointer (some ⟨a.p, 0, none⟩)) := by rw [cell_of_row _ _ _ _ _ (0, 0) h]; rfl
theorem PrAt.c2 {w : World} {pp x : Nat} {a : Sa} (h : PrAt w pp a x) : w.cell? ⟨pp, 2, none⟩ = some (.pointer (some ⟨x, 0, none⟩)) := by rw [cell_of_row _ _ _ _ _ (0, 0) h]; rfl
theorem PrAt.c3 {w : World} {pp x : Nat} {a : Sa} (h : PrAt w pp a x) : w.cell? ⟨pp, 3, none⟩ = some (.pointer (some ⟨a.g, 0, none⟩)) := by rw [cell_of_row _ _ _ _ _ (0, 0) h]; rfl
theorem SgIn.not_pair {B : Nat} {w : World} {a : Sa} {X : List Nat} {s : Sg} (h : SgIn B w a X s) {pp x : Nat} {a' : Sa} (hp : PrAt w pp a' x) : pp ∉ X := by
  obtain ⟨vd, vr, vu, h, rfl⟩ := h
  exact h.other hp (by decide) (by decide) (by decide) (by decide) (by decide)

/-- A pair, in a statement: what lies below B stays, but for the sight's own blocks, which lie above. -/
structure Pr (B : Nat) (w0 w : World) (pp : Nat) (a : Sa) (s : Sg) : Prop where
  ex : ∃ X x, PrAt w pp a x ∧ SgIn B w a X s
  bel : Below B w0 w
  B : B ≤ w0.heap.size
theorem Pr.c0 {B : Nat} {w0 w : World} {pp : Nat} {a : Sa} {s : Sg} (h : Pr B w0 w pp a s) : w.cell? ⟨pp, 0, none⟩ = some (.pointer (some ⟨a.s, 0, none⟩)) := by
  obtain ⟨X, x, h1, _⟩ := h.ex
  exact h1.c0
theorem Pr.below {B : Nat} {w0 w w' : World} {pp : Nat} {a : Sa} {s : Sg} (h : Pr B w0 w pp a s) (hb : Below w.heap.size w w') : Pr B w0 w' pp a s := by
  obtain ⟨X, x, h1, h2⟩ := h.ex
  exact ⟨⟨X, x, (hb.block _ (lt_of_row h1)).trans h1, h2.below hb⟩, h.bel.trans (hb.mono (Nat.le_trans h.B h.bel.size)), h.B⟩
theorem SgIn.ge {B : Nat} {w : World} {a : Sa} {X : List Nat} {s : Sg} (h : SgIn B w a X s) : ∀ k ∈ X, B ≤ k := by
  obtain ⟨vd, vr, vu, h, rfl⟩ := h
  exact h.ge
theorem Sole.belowX {X : List Nat} {B : Nat} {w w' : World} (h : Sole X w w') (hX : ∀ k ∈ X, B ≤ k) (hB : B ≤ w.heap.size) : Below B w w' :=
  ⟨h.os, h.tape, h.output, h.size, fun k hk => h.block k (by omega) (fun e => by have := hX k e; omega)⟩
/-- What a call on the sight leaves of the pair. -/
theorem Pr.out {B : Nat} {w0 w w' : World} {pp : Nat} {a : Sa} {s s' : Sg} (h : Pr B w0 w pp a s) (ho : ∀ X, SgIn B w a X s → SgOut B w a X s' w') : Pr B w0 w' pp a s' := by
  obtain ⟨X, x, h1, h2⟩ := h.ex
  obtain ⟨X', k1, k2, k3⟩ := ho X h2
  exact ⟨⟨X', x, k2.row h1 (h2.not_pair h1), k1⟩, h.bel.trans (k2.belowX h2.ge (Nat.le_trans h.B h.bel.size)), h.B⟩
theorem Pr.of {w : World} {ad : Option Addr} {n cap : Nat} {l : List (ByteArray × ByteArray)} {most nx : Int} {e : Ending} {w' : World} {B : Nat} (h : BgOut B w ad n cap l most nx e w') (hB : B ≤ w.heap.size) : ∃ pp a, e = .returned (.pointer (some ⟨pp, 0, none⟩)) ∧ Pr B w w' pp a (sg0 l most nx) := by
  obtain ⟨pp, a, x, X, rv, q, rfl, h1, h2, _, _, h4, _⟩ := h
  exact ⟨pp, a, rfl, ⟨X, x, h1, h2⟩, h4.mono hB, hB⟩

theorem calls_and {P : Program} {f : FuncId} {args : Array Value} {w : World} {R S : Ending → World → Prop} (h : Calls P f args w R) (k : ∀ e w', R e w' → S e w') : Calls P f args w S := h.mono k

theorem Pr.set {B : Nat} {w0 w : World} {pp : Nat} {a : Sa} {s : Sg} (h : Pr B w0 w pp a s) (ino : Int) (h0 : 0 ≤ ino) (h1 : ino ≤ 4294967295) (fa : Option Addr) (fn fc : Nat) (fs : List (Int × Int)) (hr : RdZ 2 fiE w (.slice fa fn fc) fs) (hn : fn ≤ 1000) (hf : fiOk fs) {N : Nat} (hk : Sk s N) (hN : N ≤ 880) :
    Calls Tryz.prog 13 #[.pointer (some ⟨a.s, 0, none⟩), .int .u32 ino, .slice fa fn fc] w fun e w' => e = .returned (.int .i64 (setR s ino fs).2) ∧ Pr B w0 w' pp a (setR s ino fs).1 := by
  obtain ⟨X, x, p1, p2⟩ := h.ex
  refine (set_in p2 ino h0 h1 fa fn fc fs hr hn hf (Nat.le_trans hk.L (by omega)) (Nat.le_trans hk.P (by omega)) (Nat.le_trans hk.U (by omega))).mono ?_
  rintro e w' ⟨rfl, ho⟩
  obtain ⟨X', k1, k2, k3⟩ := ho
  exact ⟨rfl, ⟨X', x, k2.row p1 (p2.not_pair p1), k1⟩, h.bel.trans (k2.belowX p2.ge (Nat.le_trans h.B h.bel.size)), h.B⟩
theorem Pr.make {B : Nat} {w0 w : World} {pp : Nat} {a : Sa} {s : Sg} (h : Pr B w0 w pp a s) (kind mode : Int) {N : Nat} (hk : Sk s N) (hN : N ≤ 880) :
    Calls Tryz.prog 20 #[.pointer (some ⟨a.s, 0, none⟩), .int .i64 kind, .int .i64 mode] w fun e w' => e = .returned (.tuple #[.int .u32 (makR s kind mode).2.1, .int .i64 (makR s kind mode).2.2]) ∧ Pr B w0 w' pp a (makR s kind mode).1 := by
  obtain ⟨X, x, p1, p2⟩ := h.ex
  refine (make_in p2 kind mode (Nat.le_trans hk.L (by omega)) (Nat.le_trans hk.P (by omega))).mono ?_
  rintro e w' ⟨rfl, ho⟩
  obtain ⟨X', k1, k2, k3⟩ := ho
  exact ⟨rfl, ⟨X', x, k2.row p1 (p2.not_pair p1), k1⟩, h.bel.trans (k2.belowX p2.ge (Nat.le_trans h.B h.bel.size)), h.B⟩
theorem Pr.kind {B : Nat} {w0 w : World} {pp : Nat} {a : Sa} {s : Sg} (h : Pr B w0 w pp a s) (ino : Int) (h0 : 0 ≤ ino) (h1 : ino ≤ 4294967295) :
    Calls Tryz.prog 14 #[.pointer (some ⟨a.s, 0, none⟩), .int .u32 ino] w fun e w' => e = .returned (.tuple #[.int .i64 (fdR s ino).1.k, .int .i64 (fdR s ino).2]) ∧ Pr B w0 w' pp a s := by
  obtain ⟨X, x, p1, p2⟩ := h.ex
  refine (kind_in p2 ino h0 h1).mono ?_
  rintro e w' ⟨rfl, hb⟩
  exact ⟨rfl, h.below hb⟩
theorem Pr.stat {B : Nat} {w0 w : World} {pp : Nat} {a : Sa} {s : Sg} (h : Pr B w0 w pp a s) (ino : Int) (h0 : 0 ≤ ino) (h1 : ino ≤ 4294967295) {N : Nat} (hk : Sk s N) (hN : N ≤ 880) :
    Calls Tryz.prog 16 #[.pointer (some ⟨a.s, 0, none⟩), .int .u32 ino] w fun e w' => e = .returned (.tuple #[inV (statR s ino).2.1, .int .i64 (statR s ino).2.2]) ∧ Pr B w0 w' pp a (statR s ino).1 := by
  obtain ⟨X, x, p1, p2⟩ := h.ex
  refine (stat_in p2 ino h0 h1 (Nat.le_trans hk.R (by omega))).mono ?_
  rintro e w' ⟨rfl, ho⟩
  obtain ⟨X', k1, k2, k3⟩ := ho
  exact ⟨rfl, ⟨X', x, k2.row p1 (p2.not_pair p1), k1⟩, h.bel.trans (k2.belowX p2.ge (Nat.le_trans h.B h.bel.size)), h.B⟩
theorem Pr.link {B : Nat} {w0 w : World} {pp : Nat} {a : Sa} {s : Sg} (h : Pr B w0 w pp a s) (ino : Int) (h0 : 0 ≤ ino) (h1 : ino ≤ 4294967295) (y : Int) (hy0 : -9223372036854775808 ≤ y) (hy1 : y ≤ 9223372036854775807) {N : Nat} (hk : Sk s N) (hN : N ≤ 880) :
    Calls Tryz.prog 22 #[.pointer (some ⟨a.s, 0, none⟩), .int .u32 ino, .int .i64 y] w fun e w' => e = .returned (.tuple #[.int .i64 (lkR s ino y).2.1, .int .i64 (lkR s ino y).2.2]) ∧ Pr B w0 w' pp a (lkR s ino y).1 := by
  obtain ⟨X, x, p1, p2⟩ := h.ex
  refine (link_in p2 ino h0 h1 y hy0 hy1 hk (by omega) (Nat.le_trans hk.R (by omega)) (Nat.le_trans hk.U (by omega))).mono ?_
  rintro e w' ⟨rfl, ho⟩
  obtain ⟨X', k1, k2, k3⟩ := ho
  exact ⟨rfl, ⟨X', x, k2.row p1 (p2.not_pair p1), k1⟩, h.bel.trans (k2.belowX p2.ge (Nat.le_trans h.B h.bel.size)), h.B⟩
theorem Pr.rm {B : Nat} {w0 w : World} {pp : Nat} {a : Sa} {s : Sg} (h : Pr B w0 w pp a s) (ino : Int) (h0 : 0 ≤ ino) (h1 : ino ≤ 4294967295) {N : Nat} (hk : Sk s N) (hN : N ≤ 880) :
    Calls Tryz.prog 18 #[.pointer (some ⟨a.s, 0, none⟩), .int .u32 ino] w fun e w' => e = .returned (.int .i64 (rmR s ino).2) ∧ Pr B w0 w' pp a (rmR s ino).1 := by
  obtain ⟨X, x, p1, p2⟩ := h.ex
  refine (rm_in p2 ino h0 h1 hk (by omega) (Nat.le_trans hk.R (by omega)) (Nat.le_trans hk.U (by omega))).mono ?_
  rintro e w' ⟨rfl, ho⟩
  obtain ⟨X', k1, k2, k3⟩ := ho
  exact ⟨rfl, ⟨X', x, k2.row p1 (p2.not_pair p1), k1⟩, h.bel.trans (k2.belowX p2.ge (Nat.le_trans h.B h.bel.size)), h.B⟩

/-! ### How much is held -/

theorem sk0 (l : List (ByteArray × ByteArray)) (most nx : Int) : Sk (sg0 l most nx) 0 := ⟨(fun c hc => absurd hc (by simp [sg0, newS])), Nat.le_refl _, Nat.le_refl _, Nat.le_refl _, Nat.le_refl _⟩
theorem Sk.make {s : Sg} {n : Nat} (h : Sk s n) (kind mode : Int) : Sk (makR s kind mode).1 (n + 1) := by
  have hm : Sk (makS s kind mode) (n + 1) := by
    obtain ⟨h1, h2, h3, h4, h5⟩ := h.put (makC s kind mode)
    exact ⟨h1, h2, h3, h4, h5⟩
  unfold makR
  split
  · exact h.mono (by omega)
  split
  · exact hm
  · exact hm
theorem goneL_sk : ∀ (ps : List Pl) {s : Sg} {n : Nat}, Sk s n → Sk (goneL s ps).1 (n + ps.length)
  | [], s, n, h => h
  | p :: ps, s, n, h => by
    unfold goneL
    have h1 : Sk (gone1 s p) (n + 1) := h.put (goneC p)
    split
    · exact h1.mono (by simp)
    · exact (goneL_sk ps h1).mono (by simp; omega)
theorem Sk.rm {s : Sg} {n : Nat} (h : Sk s n) (hd : DlOk s.d) (ino : Int) : Sk (rmR s ino).1 (n + 20) := by
  have hb := fd_bd hd h.ck ino
  unfold rmR rmF
  split
  · exact h.mono (by omega)
  · have h1 : Sk (rmB s ino (fdR s ino).1) (n + 1) := by
      unfold rmB
      split
      · exact (h.read ino [3])
      · exact h.mono (by omega)
    have h2 := goneL_sk (placesL ino (fdR s ino).1) h1
    have hl := placesL_len (ino := ino) hb.s1
    unfold rmE
    split
    · exact h2.mono (by omega)
    · exact (h2.wrote ino [7]).mono (by simp; omega)
theorem Sk.link {s : Sg} {n : Nat} (h : Sk s n) (hd : DlOk s.d) (ino y : Int) : Sk (lkR s ino y).1 (n + 30) := by
  have h1 := h.read ino [2]
  simp only [List.length_singleton] at h1
  unfold lkR
  split
  · exact h.mono (by omega)
  split
  · exact h.mono (by omega)
  · unfold lkB
    split
    · exact h1.mono (by omega)
    split
    · unfold lkE
      have h2 := Sk.rm (s := { s with R := addK s.R ino [2] }) h1 hd ino
      split
      · exact h2.mono (by omega)
      · exact h2.mono (by omega)
    split
    · exact h1.mono (by omega)
    · unfold lkE
      have h2 := h1.set ino [(2, (fdR s ino).1.l + y)]
      split
      · exact h2.mono (by omega)
      · exact h2.mono (by omega)
theorem Sk.stat {s : Sg} {n : Nat} (h : Sk s n) (ino : Int) : Sk (statR s ino).1 (n + 3) := by
  unfold statR
  split
  · exact h.mono (by omega)
  · exact h.read ino [1, 2, 3]

/-! ### live -/

def v0 : Sg := sg0 [] 60 2
def v1 : Sg := (makR v0 1 6).1
def v2 : Sg := (lkR v1 2 1).1
def v3 : Sg := (lkR v2 2 (-2)).1
theorem lv_1 : (makR v0 1 6).2 = (2, 0) := by kernel_rfl
theorem lv_2 : (lkR v1 2 1).2 = (2, 0) := by kernel_rfl
theorem lv_3 : (lkR v2 2 (-2)).2 = (0, 0) := by kernel_rfl
theorem lv_4 : (fdR v3 2).2 = 220 := by kernel_rfl
theorem Pr.dl {B : Nat} {w0 w : World} {pp : Nat} {a : Sa} {s : Sg} (h : Pr B w0 w pp a s) : DlOk s.d := by
  obtain ⟨X, x, p1, p2⟩ := h.ex
  exact sg_ok p2

set_option maxHeartbeats 4000000 in
theorem live_any (w : World) : Calls Tryz.prog 8 #[] w fun e w' => e = .returned (.bool true) ∧ Below w.heap.size w w' := by
  have cb := begin_in w none 0 0 [] ⟨rfl, Nat.le_refl _, Nat.zero_le _, fun h => by omega⟩ (Nat.le_refl _) (fun q h => by omega) 60 (by decide) 2 (by decide) (by decide)
  go_enter Tryz.func8, Tryz.ntmps8
  go_wp2_with fail
  refine cb.mono ?_
  intro e w1 hbg
  obtain ⟨pp, a, rfl, hp1⟩ := Pr.of hbg (Nat.le_refl _)
  clear cb hbg
  have hp1 : Pr w.heap.size w w1 pp a v0 := hp1
  have k0 : Sk v0 0 := sk0 _ _ _
  have q1 := hp1.c0
  have cm := hp1.make 1 6 k0 (by decide)
  rw [lv_1] at cm
  have K1 : Hid (Sk v1 1) := k0.make 1 6
  clear hp1 k0
  go_wp2_with fail
  refine cm.mono ?_
  rintro e w2 ⟨rfl, hp2⟩
  clear cm q1
  have hp2 : Pr w.heap.size w w2 pp a v1 := hp2
  have q2 := hp2.c0
  have cl := hp2.link 2 (by decide) (by decide) 1 (by decide) (by decide) K1.out (by decide)
  rw [lv_2] at cl
  have K2 : Hid (Sk v2 31) := K1.out.link hp2.dl 2 1
  clear hp2
  go_wp2_with fail
  refine cl.mono ?_
  rintro e w3 ⟨rfl, hp3⟩
  clear cl q2
  have hp3 : Pr w.heap.size w w3 pp a v2 := hp3
  have q3 := hp3.c0
  have cl := hp3.link 2 (by decide) (by decide) (-2) (by decide) (by decide) K2.out (by decide)
  rw [lv_3] at cl
  clear hp3
  go_wp2_with fail
  refine cl.mono ?_
  rintro e w4 ⟨rfl, hp4⟩
  clear cl q3
  have hp4 : Pr w.heap.size w w4 pp a v3 := hp4
  have q4 := hp4.c0
  have ck := hp4.kind 2 (by decide) (by decide)
  rw [lv_4] at ck
  generalize (fdR v3 2).1.k = kk at *
  clear hp4
  go_wp2_with fail
  refine ck.mono ?_
  rintro e w5 ⟨rfl, hp5⟩
  clear ck q4
  have HB : Hid (Below w.heap.size w w5) := hp5.bel
  clear hp5
  go_wp2
  go_ret
  exact ⟨rfl, HB.out⟩

end Go.Proofs.YtkmckipfjahlcaaGreat
