/- SgI, ExA: in one text. -/
import Derived.Test.YtiplhhaehbjghaaGreatS2
import Derived.Test.YtiplhhaehbjghaaGreatXV
namespace Go.Proofs.YtiplhhaehbjghaaGreat
open Go.RowKit
set_option linter.unusedVariables false
set_option maxHeartbeats 32000000
set_option maxRecDepth 100000
set_option linter.unusedSimpArgs false
open Go.RowKit Go.Maps
theorem SgIn.other6 {B : Nat} {w : World} {a : Sa} {X : List Nat} {s : Sg} (h : SgIn B w a X s) {k : Nat} {cs : Array Value} {T : TypeId} {fr : Nat × Nat} (hk : w.heap[k]? = some (.cells cs T fr)) (h1 : T ≠ 140) (h2 : T ≠ 208) (h3 : T ≠ 153) (h4 : T ≠ 73) (h5 : T ≠ 23) : k ∉ X := by
 obtain ⟨vd, vr, vu, h, rfl⟩ := h
 exact h.other hk h1 h2 h3 h4 h5
theorem SgIn.addR {B : Nat} {w : World} {a : Sa} {X : List Nat} {s : Sg} (h : SgIn B w a X s) (t : Tc) (ht : TcOk t) (hL : s.R.length ≤ 20000) :
  Calls Tryz.prog 137 #[.pointer (some ⟨a.r, 0, none⟩), .agg (tcC t)] w fun e w' => e = .returned (.int .i64 (tckE t)) ∧ SgOut B w a X { s with R := addL s.R t } w' := by
 obtain ⟨vd, vr, vu, h, rfl⟩ := h
 refine (add_any h.r t ht hL).mono ?_
 rintro e w' ⟨rfl, v', h2, h3⟩
 exact ⟨rfl, h.read h2 h3⟩
theorem SgIn.addU {B : Nat} {w : World} {a : Sa} {X : List Nat} {s : Sg} (h : SgIn B w a X s) (t : Tc) (ht : TcOk t) (hL : s.U.length ≤ 20000) :
  Calls Tryz.prog 137 #[.pointer (some ⟨a.u, 0, none⟩), .agg (tcC t)] w fun e w' => e = .returned (.int .i64 (tckE t)) ∧ SgOut B w a X { s with U := addL s.U t } w' := by
 obtain ⟨vd, vr, vu, h, rfl⟩ := h
 refine (add_any h.u t ht hL).mono ?_
 rintro e w' ⟨rfl, v', h2, h3⟩
 exact ⟨rfl, h.wrote h2 h3⟩
theorem SgOut.finP {B : Nat} {w w5 w6 : World} {a : Sa} {X : List Nat} {s' : Sg} (hB : B ≤ w.heap.size) (ho : SgOut B w a X s' w5) {g : Nat} (hg : w.heap.size ≤ g) {T : TypeId} {cs : Array Value} (hr : w5.heap[g]? = some (.cells cs T (0, 0))) (t1 : T ≠ 140) (t2 : T ≠ 208) (t3 : T ≠ 153) (t4 : T ≠ 73) (t5 : T ≠ 23) (t6 : T ≠ 77) (t7 : T ≠ 68) (t8 : T ≠ 164) (hs : Sole [g] w5 w6) : SgOut B w a X s' w6 := by
 obtain ⟨X', h1, h2, h3⟩ := ho
 refine ⟨X', h1.keep hs.size (fun k hk hc => hs.block k hk (fun e => ?_)), h2.after hs (fun k hk => .inr (by rw [List.mem_singleton] at hk; omega)), h3⟩
 rw [List.mem_singleton] at e
 subst e
 obtain ⟨vd, vr, vu, h, rfl⟩ := h1
 have tt : ∀ {cs' : Array Value} {T' : TypeId} {fr' : Nat × Nat}, w5.heap[k]? = some (.cells cs' T' fr') → T = T' := fun e => by rw [e] at hr; simp only [Option.some.injEq, Obj.cells.injEq] at hr; exact hr.2.1.symm
 rcases hc with hc | hc | hc | hc | hc
 ·omega
 ·exact h.other hr t1 t2 t3 t4 t5 hc
 ·subst hc; exact absurd (tt h.sr) t7
 ·subst hc; exact absurd (tt h.vw.row) t8
 ·subst hc
  obtain ⟨ad, n, cap, hS, _⟩ := h.so
  exact absurd (tt hS.row) t6
structure Sgt where
 S : Type
 In : Nat → World → Sa → List Nat → S → Prop
 fd : S → Int → In4 × Int
 fdS : S → Int → S
 sz : S → Int → S × Int × Int
 set : S → Int → List (Int × Int) → S × Int
 get : S → Pl → It × Bool × Int
 getS : S → Pl → S
 putE : S → Cg → Int
 putS : S → Cg → S
 rd : S → Tc → S
 wr : S → Tc → S
 Sk : S → Nat → Prop
def Sgt.Out (G : Sgt) (B : Nat) (w : World) (a : Sa) (X : List Nat) (s : G.S) (w' : World) : Prop := ∃ X', G.In B w' a X' s ∧ Sole X w w' ∧ ∀ k ∈ X', k ∈ X ∨ w.heap.size ≤ k
structure Sgt.Ok (G : Sgt) : Prop where
 below : ∀ {B w w' a X} {s : G.S}, G.In B w a X s → Below w.heap.size w w' → G.In B w' a X s
 lt : ∀ {B w a X} {s : G.S}, G.In B w a X s → ∀ k ∈ X, k < w.heap.size
 other : ∀ {B w a X} {s : G.S}, G.In B w a X s → ∀ {k : Nat} {cs : Array Value} {T : TypeId} {fr : Nat × Nat}, w.heap[k]? = some (.cells cs T fr) → T ≠ 140 → T ≠ 208 → T ≠ 153 → T ≠ 73 → T ≠ 23 → T ≠ 77 → k ∉ X
 srow : ∀ {B w a X} {s : G.S}, G.In B w a X s → SRow w a
 le : ∀ {B w a X} {s : G.S}, G.In B w a X s → B ≤ w.heap.size
 fin : ∀ {B w w5 w6 a X} {s : G.S}, B ≤ w.heap.size → G.Out B w a X s w5 → ∀ {k : Nat} {T : TypeId} {cs : Array Value}, w.heap.size ≤ k → w5.heap[k]? = some (.cells cs T (0, 0)) → T ≠ 140 → T ≠ 208 → T ≠ 153 → T ≠ 73 → T ≠ 23 → T ≠ 77 → T ≠ 68 → T ≠ 164 → Sole [k] w5 w6 → G.Out B w a X s w6
 skm : ∀ {s : G.S} {n m : Nat}, G.Sk s n → n ≤ m → G.Sk s m
 skF : ∀ {s : G.S} {n : Nat}, G.Sk s n → ∀ ino, G.Sk (G.fdS s ino) n
 skZ : ∀ {s : G.S} {n : Nat}, G.Sk s n → ∀ ino, G.Sk (G.sz s ino).1 (n + 1)
 skS : ∀ {s : G.S} {n : Nat}, G.Sk s n → ∀ ino fs, G.Sk (G.set s ino fs).1 (n + 4)
 skG : ∀ {s : G.S} {n : Nat}, G.Sk s n → ∀ p, G.Sk (G.getS s p) n
 skP : ∀ {s : G.S} {n : Nat}, G.Sk s n → ∀ c, G.Sk (G.putS s c) (n + 1)
 skR : ∀ {s : G.S} {n : Nat}, G.Sk s n → ∀ t, G.Sk (G.rd s t) (n + 1)
 skW : ∀ {s : G.S} {n : Nat}, G.Sk s n → ∀ t, G.Sk (G.wr s t) (n + 1)
 szb : ∀ {B w a X} {s : G.S} {n : Nat}, G.In B w a X s → G.Sk s n → ∀ ino, 0 ≤ (G.sz s ino).2.1 ∧ (G.sz s ino).2.1 ≤ 512
 getO : ∀ {B w a X} {s : G.S}, G.In B w a X s → ∀ p, Ch (G.get s p).1.bytes
 kind : ∀ {B w a X} {s : G.S}, G.In B w a X s → ∀ ino, 0 ≤ ino → ino ≤ 4294967295 → Calls Tryz.prog 25 #[.pointer (some ⟨a.s, 0, none⟩), .int .u32 ino] w fun e w' => e = .returned (.tuple #[.int .i64 (G.fd s ino).1.k, .int .i64 (G.fd s ino).2]) ∧ G.Out B w a X (G.fdS s ino) w'
 size : ∀ {B w a X} {s : G.S} {n : Nat}, G.In B w a X s → ∀ ino, 0 ≤ ino → ino ≤ 4294967295 → G.Sk s n → n ≤ 4000 → Calls Tryz.prog 43 #[.pointer (some ⟨a.s, 0, none⟩), .int .u32 ino] w fun e w' => e = .returned (.tuple #[.int .i64 (G.sz s ino).2.1, .int .i64 (G.sz s ino).2.2]) ∧ G.Out B w a X (G.sz s ino).1 w'
 sets : ∀ {B w a X} {s : G.S} {n : Nat}, G.In B w a X s → ∀ ino, 0 ≤ ino → ino ≤ 4294967295 → ∀ (g fn fc : Nat) (fs : List (Int × Int)), RdZ 2 fiE w (.slice (some ⟨g, 0, none⟩) fn fc) fs → g ∉ X → fn ≤ 1000 → fiOk fs → G.Sk s n → n ≤ 4000 →
  Calls Tryz.prog 45 #[.pointer (some ⟨a.s, 0, none⟩), .int .u32 ino, .slice (some ⟨g, 0, none⟩) fn fc] w fun e w' => e = .returned (.int .i64 (G.set s ino fs).2) ∧ G.Out B w a X (G.set s ino fs).1 w'
 gets : ∀ {B w a X} {s : G.S}, G.In B w a X s → ∀ p, PlOk p → Calls Tryz.prog 139 #[.pointer (some ⟨a.v, 0, none⟩), plV p] w fun e w' => e = .returned (.tuple #[.agg (itC (G.get s p).1), .bool (G.get s p).2.1, .int .i64 (G.get s p).2.2]) ∧ G.Out B w a X (G.getS s p) w'
 puts : ∀ {B w a X} {s : G.S} {n : Nat}, G.In B w a X s → ∀ c, CgOk c → G.Sk s n → n ≤ 4000 → Calls Tryz.prog 85 #[.pointer (some ⟨a.v, 0, none⟩), .agg (cgC c)] w fun e w' => e = .returned (.int .i64 (G.putE s c)) ∧ G.Out B w a X (G.putS s c) w'
 rds : ∀ {B w a X} {s : G.S} {n : Nat}, G.In B w a X s → ∀ t, TcOk t → G.Sk s n → n ≤ 4000 → Calls Tryz.prog 137 #[.pointer (some ⟨a.r, 0, none⟩), .agg (tcC t)] w fun e w' => e = .returned (.int .i64 (tckE t)) ∧ G.Out B w a X (G.rd s t) w'
 wrs : ∀ {B w a X} {s : G.S} {n : Nat}, G.In B w a X s → ∀ t, TcOk t → G.Sk s n → n ≤ 4000 → Calls Tryz.prog 137 #[.pointer (some ⟨a.u, 0, none⟩), .agg (tcC t)] w fun e w' => e = .returned (.int .i64 (tckE t)) ∧ G.Out B w a X (G.wr s t) w'
theorem SRow.row {w : World} {a : Sa} (h : SRow w a) : w.heap[a.s]? = some (.cells #[.pointer (some ⟨a.v, 0, none⟩), .pointer (some ⟨a.r, 0, none⟩), .pointer (some ⟨a.u, 0, none⟩), alV a.x] 68 (0, 0)) := h
theorem Sgt.Ok.drew {G : Sgt} (g : G.Ok) {B w a X} {s : G.S} (h : G.In B w a X s) : G.In B w.drew a X s := g.below h (Below.refl _ _).drew
theorem Sgt.Ok.out {G : Sgt} (g : G.Ok) {B w w' a X} {s : G.S} (h : G.In B w a X s) (hb : Below w.heap.size w w') : G.Out B w a X s w' := ⟨X, g.below h hb, Sole.of_below hb X, fun k hk => .inl hk⟩
theorem Sgt.Out.pre {G : Sgt} {B w w1 w2 a X} {s : G.S} (hb : Below w.heap.size w w1) (h : G.Out B w1 a X s w2) : G.Out B w a X s w2 := by
 obtain ⟨X', h1, h2, h3⟩ := h
 exact ⟨X', h1, (Sole.of_below hb X).trans h2, fun k hk => (h3 k hk).imp id (Nat.le_trans hb.size)⟩
theorem Sgt.Ok.post {G : Sgt} (g : G.Ok) {B w w1 w2 a X} {s : G.S} (h : G.Out B w a X s w1) (hb : Below w1.heap.size w1 w2) : G.Out B w a X s w2 := by
 obtain ⟨X', h1, h2, h3⟩ := h
 exact ⟨X', g.below h1 hb, h2.trans (Sole.of_below hb X), h3⟩
theorem Sgt.Out.then {G : Sgt} {B w w1 w2 a} {X X1 : List Nat} {s : G.S} (hs : Sole X w w1) (hx : ∀ k ∈ X1, k ∈ X ∨ w.heap.size ≤ k) (h : G.Out B w1 a X1 s w2) : G.Out B w a X s w2 := by
 obtain ⟨X', h1, h2, h3⟩ := h
 exact ⟨X', h1, hs.after h2 hx, fun k hk => by
  rcases h3 k hk with e | e
  ·exact hx k e
  ·exact .inr (Nat.le_trans hs.size e)⟩
theorem Sgt.Out.sole {G : Sgt} {B w w1 a X} {s : G.S} (h : G.Out B w a X s w1) : Sole X w w1 := by
 obtain ⟨X1, h1, h2, h3⟩ := h
 exact h2
theorem vgR_ch (l : List (ByteArray × ByteArray)) {d : Dl} (hd : DlOk d) (p : Pl) : Ch (vgR l d p).1.bytes := by
 unfold vgR
 split
 ·have hc : CgOk (wasX d p) := getL_ok hd.L p
  unfold chL chR
  repeat' split
  all_goals first | exact it0_ok.ch | exact ch_zero | exact layB_ch it0_ok.ch hc.pt | exact layB_ch (stI_ok _ _).ch hc.pt
 ·exact (stI_ok l p).ch
theorem Sk.addR {s : Sg} {n : Nat} (h : Sk s n) (t : Tc) : Sk { s with R := addL s.R t } (n + 1) := by
 have := addL_len s.R t
 have := h.R
 exact ⟨h.ck, Nat.le_trans h.L (by omega), Nat.le_trans h.P (by omega), by dsimp only; omega, Nat.le_trans h.U (by omega)⟩
theorem Sk.addU {s : Sg} {n : Nat} (h : Sk s n) (t : Tc) : Sk { s with U := addL s.U t } (n + 1) := by
 have := addL_len s.U t
 have := h.U
 exact ⟨h.ck, Nat.le_trans h.L (by omega), Nat.le_trans h.P (by omega), Nat.le_trans h.R (by omega), by dsimp only; omega⟩
theorem Sk.size {s : Sg} {n : Nat} (h : Sk s n) (ino : Int) : Sk (sizeR s ino).1 (n + 1) := by
 unfold sizeR
 split
 ·exact h.mono (by omega)
 ·exact h.read ino [3]
def SgP : Sgt := ⟨Sg, SgIn, fdR, fun s _ => s, sizeR, setR, fun s p => vgR s.l s.d p, fun s _ => s, fun s c => (putX s.d c).2, fun s c => { s with d := putS s.d c }, fun s t => { s with R := addL s.R t }, fun s t => { s with U := addL s.U t }, Sk⟩
theorem SgP_ok : SgP.Ok where
 below := fun h hb => SgIn.below h hb
 lt := fun h => SgIn.lt h
 other := fun h _ _ _ _ hk h1 h2 h3 h4 h5 _ => SgIn.other6 h hk h1 h2 h3 h4 h5
 srow := fun h => SgIn.srow h
 le := fun h => h.lts.2.2.2
 fin := fun hB ho _ _ _ hg hr t1 t2 t3 t4 t5 t6 t7 t8 hs => SgOut.finP hB ho hg hr t1 t2 t3 t4 t5 t6 t7 t8 hs
 skm := fun h hm => Sk.mono h hm
 skF := fun h _ => h
 skZ := fun h ino => Sk.size h ino
 skS := fun h ino fs => Sk.set h ino fs
 skG := fun h _ => h
 skP := fun h c => Sk.put h c
 skR := fun h t => Sk.addR h t
 skW := fun h t => Sk.addU h t
 szb := fun {B w a X s n} h hk ino => by
  have hb := fd_bd (sg_ok h) hk.ck ino
  show 0 ≤ (sizeR s ino).2.1 ∧ (sizeR s ino).2.1 ≤ 512
  unfold sizeR
  split
  ·exact ⟨Int.le_refl _, show (0 : Int) ≤ 512 by decide⟩
  ·exact ⟨hb.s0, hb.s1⟩
 getO := fun {B w a X s} h p => vgR_ch s.l (sg_ok h) p
 kind := fun {B w a X s} h ino h0 h1 => (kind_in h ino h0 h1).mono (by rintro e w' ⟨rfl, hb⟩; exact ⟨rfl, SgIn.out h hb⟩)
 size := fun {B w a X s n} h ino h0 h1 hk hn => size_in h ino h0 h1 (Nat.le_trans hk.R (by omega))
 sets := fun {B w a X s n} h ino h0 h1 g fn fc fs hr hg hfn hf hk hn => set_in h ino h0 h1 _ fn fc fs hr hfn hf (Nat.le_trans hk.L (by omega)) (Nat.le_trans hk.P (by omega)) (Nat.le_trans hk.U (by omega))
 gets := fun {B w a X s} h p hp => (SgIn.get h p hp).mono (by rintro e w' ⟨rfl, hb⟩; exact ⟨rfl, SgIn.out h hb⟩)
 puts := fun {B w a X s n} h c hc hk hn => SgIn.put h c hc (Nat.le_trans hk.L (by omega)) (Nat.le_trans hk.P (by omega))
 rds := fun {B w a X s n} h t ht hk hn => SgIn.addR h t ht (Nat.le_trans hk.R (by omega))
 wrs := fun {B w a X s n} h t ht hk hn => SgIn.addU h t ht (Nat.le_trans hk.U (by omega))
open Go.RowKit Go.Maps
structure Pc3 where
 c : Nat
 at_ : Nat
 o : Nat
 n : Nat
def pcN (off len : Nat) : Nat := min (32 - off % 32) len
def pcsF : Nat → Nat → Nat → Nat → List Pc3
 | 0, _, _, _ => []
 | f + 1, o, off, len => if len = 0 then [] else ⟨off / 32, off % 32, o, pcN off len⟩ :: pcsF f (o + pcN off len) (off + pcN off len) (len - pcN off len)
def pcsL (off len : Nat) : List Pc3 := pcsF len 0 off len
theorem pcN_pos {off len : Nat} (h : 0 < len) : 0 < pcN off len := by unfold pcN; omega
theorem pcN_le (off len : Nat) : pcN off len ≤ len := by unfold pcN; omega
theorem pcsF_fuel : ∀ (f f' o off len : Nat), len ≤ f → len ≤ f' → pcsF f o off len = pcsF f' o off len
 | 0, 0, _, _, _, _, _ => rfl
 | 0, f' + 1, o, off, len, h, _ => by
  have : len = 0 := by omega
  subst this; rfl
 | f + 1, 0, o, off, len, _, h => by
  have : len = 0 := by omega
  subst this; rfl
 | f + 1, f' + 1, o, off, len, h, h' => by
  unfold pcsF
  by_cases h0 : len = 0
  ·rw [if_pos h0, if_pos h0]
  ·rw [if_neg h0, if_neg h0]
   have := pcN_pos (off := off) (len := len) (by omega)
   rw [pcsF_fuel f f' _ _ _ (by omega) (by omega)]
theorem pcsF_next {f o off len : Nat} (hf : len ≤ f) (h : 0 < len) : pcsF f o off len = ⟨off / 32, off % 32, o, pcN off len⟩ :: pcsF f (o + pcN off len) (off + pcN off len) (len - pcN off len) := by
 obtain ⟨g, rfl⟩ : ∃ g, f = g + 1 := ⟨f - 1, by omega⟩
 have hp := pcN_pos (off := off) h
 conv => lhs; unfold pcsF
 rw [if_neg (by omega), pcsF_fuel g (g + 1) _ _ _ (by omega) (by omega)]
theorem pcsF_len : ∀ (f o off len : Nat), (pcsF f o off len).length ≤ len
 | 0, _, _, len => Nat.zero_le _
 | f + 1, o, off, len => by
  unfold pcsF
  split
  ·exact Nat.zero_le _
  ·have := pcN_pos (off := off) (len := len) (by omega)
   have := pcN_le off len
   have := pcsF_len f (o + pcN off len) (off + pcN off len) (len - pcN off len)
   rw [List.length_cons]; omega
theorem pcsF_mem : ∀ (f o off len : Nat), ∀ p ∈ pcsF f o off len, 0 < p.n ∧ p.at_ + p.n ≤ 32 ∧ o ≤ p.o ∧ p.o + p.n ≤ o + len ∧ 32 * p.c + p.at_ + o = off + p.o
 | 0, _, _, _, p, hp => absurd hp (by simp [pcsF])
 | f + 1, o, off, len, p, hp => by
  unfold pcsF at hp
  split at hp
  ·exact absurd hp (by simp)
  ·rename_i h0
   have h1 := pcN_pos (off := off) (len := len) (by omega)
   have h2 := pcN_le off len
   rcases List.mem_cons.1 hp with rfl | hp
   ·refine ⟨h1, ?_, Nat.le_refl _, ?_, ?_⟩
    ·dsimp only; unfold pcN; omega
    ·dsimp only; omega
    ·dsimp only; omega
   ·obtain ⟨a, b, c, d, e⟩ := pcsF_mem f _ _ _ p hp
    exact ⟨a, b, by omega, by omega, by omega⟩
theorem pcsL_mem {off len : Nat} {p : Pc3} (hp : p ∈ pcsL off len) : 0 < p.n ∧ p.at_ + p.n ≤ 32 ∧ p.o + p.n ≤ len ∧ 32 * p.c + p.at_ = off + p.o := by
 obtain ⟨a, b, c, d, e⟩ := pcsF_mem _ _ _ _ p hp
 exact ⟨a, b, by omega, by omega⟩
def tcB (ino lo hi : Int) : Tc := ⟨4, ino, ⟨#[]⟩, lo, hi⟩
theorem tcB_ok {ino lo hi : Int} (h0 : 0 ≤ ino) (h1 : ino ≤ 4294967295) (l0 : 0 ≤ lo) (l1 : lo ≤ 1000) (u0 : 0 ≤ hi) (u1 : hi ≤ 1000) : TcOk (tcB ino lo hi) := ⟨by simp [tcB], by simp [tcB], h0, h1, Nat.zero_le _, by simp only [tcB]; omega, by simp only [tcB]; omega, by simp only [tcB]; omega, by simp only [tcB]; omega⟩
def exSz (G : Sgt) (s : G.S) (ino : Int) : G.S × Int × Int :=
 if (G.fd s ino).2 ≠ 0 then (G.fdS s ino, 0, (G.fd s ino).2) else if (G.fd s ino).1.k = 2 then (G.fdS s ino, 0, 193) else G.sz (G.fdS s ino) ino
def exGet (G : Sgt) (ino : Int) : G.S → List Pc3 → G.S × List Int × Int
 | s, [] => (s, [], 0)
 | s, p :: ps => if (G.get s (datP ino p.c)).2.2 ≠ 0 then (G.getS s (datP ino p.c), [], (G.get s (datP ino p.c)).2.2) else
   ((exGet G ino (G.getS s (datP ino p.c)) ps).1, ((G.get s (datP ino p.c)).1.bytes.drop p.at_).take p.n ++ (exGet G ino (G.getS s (datP ino p.c)) ps).2.1, (exGet G ino (G.getS s (datP ino p.c)) ps).2.2)
def exPut (G : Sgt) : G.S → List Cg → G.S × Int
 | s, [] => (s, 0)
 | s, c :: cs => if G.putE s c ≠ 0 then (G.putS s c, G.putE s c) else exPut G (G.putS s c) cs
def exOut (G : Sgt) (r : G.S × List Int × Int) : G.S × ByteArray × Int := (r.1, if r.2.2 ≠ 0 then ⟨#[]⟩ else strOfNums r.2.1, r.2.2)
def exRd2 (G : Sgt) (ino off : Int) (z : G.S × Int × Int) (m : Int) : G.S × ByteArray × Int :=
 if m ≤ 0 then (z.1, ⟨#[]⟩, 0) else exOut G (exGet G ino (G.rd z.1 (tcB ino off (off + m))) (pcsL off.toNat m.toNat))
def exRd1 (G : Sgt) (ino off n : Int) (z : G.S × Int × Int) : G.S × ByteArray × Int :=
 if z.2.2 ≠ 0 then (z.1, ⟨#[]⟩, z.2.2) else exRd2 G ino off z (min n (z.2.1 - off))
def exRd (G : Sgt) (s : G.S) (ino off n : Int) : G.S × ByteArray × Int :=
 if off < 0 ∨ n < 0 ∨ 64 < n then (s, ⟨#[]⟩, 1) else exRd1 G ino off n (exSz G s ino)
def layC (ino : Int) (xs : List Int) (p : Pc3) : Cg := dataC (datP ino p.c) (ofP p.at_ ((xs.drop p.o).take p.n))
def exWr3 (G : Sgt) (ino end_ size : Int) (s : G.S) : G.S × Int := if end_ ≤ size then (s, 0) else G.set s ino [(4, end_)]
def exWr2 (G : Sgt) (ino off end_ size : Int) (g : G.S × Int) : G.S × Int :=
 if g.2 ≠ 0 then g else exWr3 G ino end_ size (G.wr g.1 (tcB ino off end_))
def exWr1 (G : Sgt) (ino off : Int) (data : ByteArray) (z : G.S × Int × Int) : G.S × Int :=
 if z.2.2 ≠ 0 then (z.1, z.2.2) else if data.size = 0 then (z.1, 0) else if 512 - (data.size : Int) < off then (z.1, 180) else
  exWr2 G ino off (off + data.size) z.2.1 (exPut G z.1 ((pcsL off.toNat data.size).map (layC ino (strB data))))
def exWr (G : Sgt) (s : G.S) (ino off : Int) (data : ByteArray) : G.S × Int :=
 if off < 0 ∨ 64 < data.size then (s, 1) else exWr1 G ino off data (exSz G s ino)
def wipe0 (ino : Int) (lo : Nat) : List Cg := if 0 < lo % 32 then [dataC (datP ino ((lo / 32 : Nat) : Int)) ⟨false, runM (lo % 32) (32 - lo % 32), zeroC⟩] else []
def wipe1 (ino : Int) (lo hi : Nat) : List Cg := (List.range' ((lo + 31) / 32) ((hi + 31) / 32 - (lo + 31) / 32)).map fun (c : Nat) => goneC (datP ino c)
def wipeC (ino : Int) (lo hi : Nat) : List Cg := wipe0 ino lo ++ wipe1 ino lo hi
def exTr2 (G : Sgt) (ino size old : Int) (g : G.S × Int) : G.S × Int :=
 if g.2 ≠ 0 then g else G.set (G.wr g.1 (tcB ino size old)) ino [(4, size)]
def exTr1 (G : Sgt) (ino size : Int) (z : G.S × Int × Int) : G.S × Int :=
 if z.2.2 ≠ 0 then (z.1, z.2.2) else if size < 0 ∨ 512 < size then (z.1, 180) else if size = z.2.1 then (z.1, 0) else
  if size < z.2.1 then exTr2 G ino size z.2.1 (exPut G z.1 (wipeC ino size.toNat z.2.1.toNat)) else G.set z.1 ino [(4, size)]
def exTr (G : Sgt) (s : G.S) (ino size : Int) : G.S × Int := exTr1 G ino size (exSz G s ino)
theorem exSz_sk {G : Sgt} (g : G.Ok) {s : G.S} {n : Nat} (h : G.Sk s n) (ino : Int) : G.Sk (exSz G s ino).1 (n + 1) := by
 unfold exSz
 split
 ·exact g.skm (g.skF h ino) (by omega)
 split
 ·exact g.skm (g.skF h ino) (by omega)
 ·exact g.skZ (g.skF h ino) ino
theorem exGet_sk {G : Sgt} (g : G.Ok) {ino : Int} : ∀ (ps : List Pc3) {s : G.S} {n : Nat}, G.Sk s n → G.Sk (exGet G ino s ps).1 n
 | [], s, n, h => h
 | p :: ps, s, n, h => by
  unfold exGet
  split
  ·exact g.skG h _
  ·exact exGet_sk g ps (g.skG h _)
theorem exPut_sk {G : Sgt} (g : G.Ok) : ∀ (cs : List Cg) {s : G.S} {n : Nat}, G.Sk s n → G.Sk (exPut G s cs).1 (n + cs.length)
 | [], s, n, h => h
 | c :: cs, s, n, h => by
  unfold exPut
  split
  ·exact g.skm (g.skP h c) (by simp)
  ·exact g.skm (exPut_sk g cs (g.skP h c)) (by simp; omega)
theorem exRd_sk {G : Sgt} (g : G.Ok) {s : G.S} {n : Nat} (h : G.Sk s n) (ino off m : Int) : G.Sk (exRd G s ino off m).1 (n + 2) := by
 have h1 := exSz_sk g h ino
 unfold exRd exRd1 exRd2 exOut
 split
 ·exact g.skm h (by omega)
 split
 ·exact g.skm h1 (by omega)
 split
 ·exact g.skm h1 (by omega)
 ·exact exGet_sk g _ (g.skR h1 _)
theorem pcsL_len3 {off len : Nat} (h : len ≤ 64) : (pcsL off len).length ≤ 64 := Nat.le_trans (pcsF_len _ _ _ _) h
theorem pcsF_len2 : ∀ (f o off len : Nat), (pcsF f o off len).length ≤ (off % 32 + len + 31) / 32
 | 0, _, _, len => Nat.zero_le _
 | f + 1, o, off, len => by
  unfold pcsF
  split
  ·exact Nat.zero_le _
  ·have h1 := pcN_pos (off := off) (len := len) (by omega)
   have h2 := pcN_le off len
   have ih := pcsF_len2 f (o + pcN off len) (off + pcN off len) (len - pcN off len)
   rw [List.length_cons]
   by_cases h3 : pcN off len = len
   ·have h4 := pcsF_len f (o + pcN off len) (off + pcN off len) (len - pcN off len)
    omega
   ·have h5 : pcN off len = 32 - off % 32 := by unfold pcN at h3 ⊢; omega
    omega
theorem pcsL_len9 {off len : Nat} (h : len ≤ 64) : (pcsL off len).length ≤ 3 := by
 have := pcsF_len2 len 0 off len
 unfold pcsL
 omega
theorem wipe_len {ino : Int} {lo hi : Nat} (h : hi ≤ 512) : (wipeC ino lo hi).length ≤ 17 := by
 unfold wipeC wipe0 wipe1
 rw [List.length_append, List.length_map, List.length_range']
 split
 ·simp; omega
 ·simp; omega
theorem exWr_sk {G : Sgt} (g : G.Ok) {s : G.S} {n : Nat} (h : G.Sk s n) (ino off : Int) (data : ByteArray) : G.Sk (exWr G s ino off data).1 (n + 9) := by
 have h1 := exSz_sk g h ino
 unfold exWr exWr1
 split
 ·exact g.skm h (by omega)
 rename_i h0
 split
 ·exact g.skm h1 (by omega)
 split
 ·exact g.skm h1 (by omega)
 split
 ·exact g.skm h1 (by omega)
 ·have h2 := exPut_sk g ((pcsL off.toNat data.size).map (layC ino (strB data))) h1
  have hl := pcsL_len9 (off := off.toNat) (len := data.size) (by omega)
  unfold exWr2 exWr3
  split
  ·exact g.skm h2 (by rw [List.length_map]; omega)
  split
  ·exact g.skm (g.skW h2 _) (by rw [List.length_map]; omega)
  ·exact g.skm (g.skS (g.skW h2 _) ino _) (by rw [List.length_map]; omega)
theorem exTr_sk {G : Sgt} (g : G.Ok) {s : G.S} (ino size : Int) (hz : (exSz G s ino).2.1 ≤ 512) {n : Nat} (h : G.Sk s n) : G.Sk (exTr G s ino size).1 (n + 23) := by
 have h1 := exSz_sk g h ino
 unfold exTr exTr1
 split
 ·exact g.skm h1 (by omega)
 split
 ·exact g.skm h1 (by omega)
 rename_i h0
 split
 ·exact g.skm h1 (by omega)
 split
 ·rename_i hs
  have h2 := exPut_sk g (wipeC ino size.toNat (exSz G s ino).2.1.toNat) h1
  have hl := wipe_len (ino := ino) (lo := size.toNat) (hi := (exSz G s ino).2.1.toNat) (by omega)
  unfold exTr2
  split
  ·exact g.skm h2 (by omega)
  ·exact g.skm (g.skS (g.skW h2 _) ino _) (by omega)
 ·exact g.skm (g.skS h1 ino _) (by omega)
end Go.Proofs.YtiplhhaehbjghaaGreat
