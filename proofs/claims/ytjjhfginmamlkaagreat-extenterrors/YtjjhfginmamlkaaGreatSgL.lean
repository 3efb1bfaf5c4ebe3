/- A sight over a store that may fail. -/
import Derived.Test.YtjjhfginmamlkaaGreatXA
import Derived.Test.YtjjhfginmamlkaaGreatInML
namespace Go.Proofs.YtjjhfginmamlkaaGreat.L
open Go.RowKit Go.Maps
set_option linter.unusedVariables false
set_option linter.unusedSimpArgs false
set_option maxRecDepth 100000

theorem SgIn.addR {B : Nat} {w : World} {a : Sa} {X : List Nat} {s : Sg} (h : SgIn B w a X s) (t : Tc) (ht : TcOk t) (hL : s.R.length ≤ 20000) :
    Calls Tryz.prog 70 #[.pointer (some ⟨a.r, 0, none⟩), .agg (tcC t)] w fun e w' => e = .returned (.int .i64 (tckE t)) ∧ SgOut B w a X { s with R := addL s.R t } w' := by
  obtain ⟨vd, vr, vu, h, rfl⟩ := h
  refine (add_any h.r t ht hL).mono ?_
  rintro e w' ⟨rfl, v', h2, h3⟩
  exact ⟨rfl, h.read h2 h3⟩
theorem SgIn.addU {B : Nat} {w : World} {a : Sa} {X : List Nat} {s : Sg} (h : SgIn B w a X s) (t : Tc) (ht : TcOk t) (hL : s.U.length ≤ 20000) :
    Calls Tryz.prog 70 #[.pointer (some ⟨a.u, 0, none⟩), .agg (tcC t)] w fun e w' => e = .returned (.int .i64 (tckE t)) ∧ SgOut B w a X { s with U := addL s.U t } w' := by
  obtain ⟨vd, vr, vu, h, rfl⟩ := h
  refine (add_any h.u t ht hL).mono ?_
  rintro e w' ⟨rfl, v', h2, h3⟩
  exact ⟨rfl, h.wrote h2 h3⟩
theorem SgOut.finP {B : Nat} {w w5 w6 : World} {a : Sa} {X : List Nat} {s' : Sg} (hB : B ≤ w.heap.size) (ho : SgOut B w a X s' w5) {g : Nat} (hg : w.heap.size ≤ g) {T : TypeId} {cs : Array Value} (hr : w5.heap[g]? = some (.cells cs T (0, 0))) (t1 : T ≠ 111) (t2 : T ≠ 170) (t3 : T ≠ 105) (t4 : T ≠ 61) (t5 : T ≠ 28) (t6 : T ≠ 65) (t7 : T ≠ 56) (t8 : T ≠ 116) (hs : Sole [g] w5 w6) : SgOut B w a X s' w6 := by
  obtain ⟨X', h1, h2, h3⟩ := ho
  refine ⟨X', h1.keep hs.size (fun k hk hc => hs.block k hk (fun e => ?_)), h2.after hs (fun k hk => .inr (by rw [List.mem_singleton] at hk; omega)), h3⟩
  rw [List.mem_singleton] at e
  subst e
  obtain ⟨vd, vr, vu, h, rfl⟩ := h1
  have tt : ∀ {cs' : Array Value} {T' : TypeId} {fr' : Nat × Nat}, w5.heap[k]? = some (.cells cs' T' fr') → T = T' := fun e => by rw [e] at hr; simp only [Option.some.injEq, Obj.cells.injEq] at hr; exact hr.2.1.symm
  rcases hc with hc | hc | hc | hc | hc
  · omega
  · exact h.other hr t1 t2 t3 t4 t5 t6 hc
  · subst hc; exact absurd (tt h.sr) t7
  · subst hc; exact absurd (tt h.vw.row) t8
  · subst hc
    obtain ⟨ad, n, cap, hS, _⟩ := h.so
    exact absurd (tt hS.row) t6
theorem vgV_ch (l : List (ByteArray × ByteArray)) (f : Int) {d : Dl} (hd : DlOk d) (p : Pl) : Ch (vgV l f d p).1.bytes := by
  unfold vgV
  split
  · have hc : CgOk (wasX d p) := getL_ok hd.L p
    unfold chV chR
    repeat' split
    all_goals first | exact it0_ok.ch | exact ch_zero | exact layB_ch it0_ok.ch hc.pt | exact layB_ch (stV_ok l f _).ch hc.pt
  · exact (stV_ok l f p).ch
theorem Sk.addR {s : Sg} {n : Nat} (h : Sk s n) (t : Tc) : Sk { s with R := addL s.R t } (n + 1) := by
  have := addL_len s.R t
  have := h.R
  exact ⟨h.ck, Nat.le_trans h.L (by omega), Nat.le_trans h.P (by omega), by dsimp only; omega, Nat.le_trans h.U (by omega)⟩
theorem Sk.addU {s : Sg} {n : Nat} (h : Sk s n) (t : Tc) : Sk { s with U := addL s.U t } (n + 1) := by
  have := addL_len s.U t
  have := h.U
  exact ⟨h.ck, Nat.le_trans h.L (by omega), Nat.le_trans h.P (by omega), Nat.le_trans h.R (by omega), by dsimp only; omega⟩
theorem Sk.size {s : Sg} {n : Nat} (h : Sk s n) (ino : Int) : Sk (sizeR s ino).1 (n + 1) := by
  unfold sizeR
  split
  · exact (h.fdS ino).mono (by omega)
  · exact (h.fdS ino).read ino [3]
theorem Sk.set {s : Sg} {n : Nat} (h : Sk s n) (ino : Int) (fs : List (Int × Int)) : Sk (setR s ino fs).1 (n + 4) := by
  have h := h.fdS ino
  unfold setR setF
  split
  · exact h.mono (by omega)
  split
  · exact h.mono (by omega)
  split
  · exact h.mono (by omega)
  split
  · exact (h.put _).mono (by omega)
  · exact (Sk.wrote (h.put _) ino _).mono (by have := kindsL_len (wfR (fdR s ino).1 fs).2.1; omega)
theorem Sk.ask {s : Sg} {n : Nat} (h : Sk s n) (f : Int) : Sk { s with lf := f } n := ⟨h.ck, h.L, h.P, h.R, h.U⟩

/-- Over a store that may fail. -/
def SgL : Sgt := ⟨Sg, SgIn, fdR, fdS, sizeR, setR, fun s p => vgV s.l s.lf s.d p, fun s p => { s with lf := vgF s.lf s.d p }, fun s c => (putX s.d c).2, fun s c => { s with d := putS s.d c }, fun s t => { s with R := addL s.R t }, fun s t => { s with U := addL s.U t }, Sk⟩
theorem SgL_ok : SgL.Ok where
  below := fun h hb => SgIn.below h hb
  lt := fun h => SgIn.lt h
  other := fun h _ _ _ _ hk h1 h2 h3 h4 h5 h6 => SgIn.other h hk h1 h2 h3 h4 h5 h6
  srow := fun h => SgIn.srow h
  le := fun h => h.lts.2.2.2
  fin := fun hB ho _ _ _ hg hr t1 t2 t3 t4 t5 t6 t7 t8 hs => SgOut.finP hB ho hg hr t1 t2 t3 t4 t5 t6 t7 t8 hs
  skm := fun h hm => Sk.mono h hm
  skF := fun h ino => Sk.fdS h ino
  skZ := fun h ino => Sk.size h ino
  skS := fun h ino fs => Sk.set h ino fs
  skG := fun h p => Sk.ask h _
  skP := fun h c => Sk.put h c
  skR := fun h t => Sk.addR h t
  skW := fun h t => Sk.addU h t
  szb := fun {B w a X s n} h hk ino => by
    have hb := fd_bd (sg_ok h) hk.ck ino
    show 0 ≤ (sizeR s ino).2.1 ∧ (sizeR s ino).2.1 ≤ 512
    unfold sizeR
    split
    · exact ⟨Int.le_refl _, show (0 : Int) ≤ 512 by decide⟩
    · exact ⟨hb.s0, hb.s1⟩
  getO := fun {B w a X s} h p => vgV_ch s.l s.lf (sg_ok h) p
  kind := fun {B w a X s} h ino h0 h1 => kind_in h ino h0 h1
  size := fun {B w a X s n} h ino h0 h1 hk hn => size_in h ino h0 h1 (Nat.le_trans hk.R (by omega))
  sets := fun {B w a X s n} h ino h0 h1 g fn fc fs hr hg hfn hf hk hn => set_in h ino h0 h1 _ fn fc fs hr (fun b off e _ => by simp only [Option.some.injEq, Addr.mk.injEq] at e; rw [← e.1]; exact hg) hfn hf (Nat.le_trans hk.L (by omega)) (Nat.le_trans hk.P (by omega)) (Nat.le_trans hk.U (by omega))
  gets := fun {B w a X s} h p hp => SgIn.get h p hp
  puts := fun {B w a X s n} h c hc hk hn => SgIn.put h c hc (Nat.le_trans hk.L (by omega)) (Nat.le_trans hk.P (by omega))
  rds := fun {B w a X s n} h t ht hk hn => SgIn.addR h t ht (Nat.le_trans hk.R (by omega))
  wrs := fun {B w a X s n} h t ht hk hn => SgIn.addU h t ht (Nat.le_trans hk.U (by omega))

end Go.Proofs.YtjjhfginmamlkaaGreat.L
