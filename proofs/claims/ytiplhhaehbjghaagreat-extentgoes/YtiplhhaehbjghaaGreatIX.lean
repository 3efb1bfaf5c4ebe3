/- RtRadd, InX, InY, InZ, InMk, InRm: in one text. -/
import Derived.Test.YtiplhhaehbjghaaGreatM1
import Derived.Test.YtiplhhaehbjghaaGreatR2
import Derived.Deep.AppendSrc
import Derived.Deep.LoopGhost
import Derived.Test.YtiplhhaehbjghaaGreatS2
import Derived.Test.YtiplhhaehbjghaaGreatV3
import Derived.Test.YtiplhhaehbjghaaGreatEF
import Derived.Test.YtiplhhaehbjghaaGreatIJ
namespace Go.Proofs.YtiplhhaehbjghaaGreat
open Go.RowKit
set_option linter.unusedVariables false
set_option maxHeartbeats 32000000
set_option maxRecDepth 100000
set_option linter.unusedSimpArgs false
open Go.RowKit Go.Maps
theorem tc_load {w : World} {b off n cap : Nat} {l : List Tc} (h : RdZ 5 tcE w (.slice (some ⟨b, off, none⟩) n cap) l) {i : Nat} {x : Tc} (hx : l[i]? = some x) :
  (Instr.loadAt 73 (.pointer (some ⟨b, off + i * 5, none⟩))).run Tryz.prog w = .ok (.agg #[.int .i64 x.kind, .int .u32 x.ino, .string x.name, .int .i64 x.lo, .int .i64 x.hi]) w := by
 obtain ⟨⟨a, c, e, h1, h2, h3⟩, _⟩ := h
 simp only [Value.slice.injEq] at e
 obtain ⟨rfl, rfl, rfl⟩ := e
 obtain ⟨b', off', e', hlt, hc⟩ := h3 (by intro e; subst e; simp at hx)
 simp only [Option.some.injEq, Addr.mk.injEq] at e'
 obtain ⟨rfl, rfl, _⟩ := e'
 have hr : w.rangeAt b (off + i * 5) (tcE x) := fun j u hu => hc i x j u hx hu
 exact run_loadAt_mid (P := Tryz.prog) w b (off + i * 5) 73 _ _ hr Tryz.underlying73 rfl (by kernel_rfl)
theorem tc_cells {w : World} {a : Option Addr} {n cap : Nat} {l : List Tc} (h : RdZ 5 tcE w (.slice a n cap) l) {i : Nat} {x : Tc} (hx : l[i]? = some x) :
  ∃ b off, a = some ⟨b, off, none⟩ ∧ w.cell? ⟨b, off + i * 5, none⟩ = some (.int .i64 x.kind) ∧ w.cell? ⟨b, off + i * 5 + 1, none⟩ = some (.int .u32 x.ino) ∧ w.cell? ⟨b, off + i * 5 + 2, none⟩ = some (.string x.name) ∧ w.cell? ⟨b, off + i * 5 + 3, none⟩ = some (.int .i64 x.lo) ∧ w.cell? ⟨b, off + i * 5 + 4, none⟩ = some (.int .i64 x.hi) := by
 obtain ⟨⟨a', c, e, h1, h2, h3⟩, _⟩ := h
 simp only [Value.slice.injEq] at e
 obtain ⟨rfl, rfl, rfl⟩ := e
 obtain ⟨b, off, rfl, hlt, hc⟩ := h3 (by intro e; subst e; simp at hx)
 exact ⟨b, off, rfl, hc i x 0 _ hx rfl, hc i x 1 _ hx rfl, hc i x 2 _ hx rfl, hc i x 3 _ hx rfl, hc i x 4 _ hx rfl⟩
theorem RdZ.keep {α : Type} {k : Nat} {enc : α → List Value} {w w' : World} {v : Value} {l : List α} (h : RdZ k enc w v l) (hs : w.heap.size ≤ w'.heap.size) (hb : ∀ q, v.ownBlock = some q → w'.heap[q]? = w.heap[q]?) : RdZ k enc w' v l := by
 obtain ⟨⟨a, cap, rfl, h1, h2, h3⟩, hz⟩ := h
 refine ⟨⟨a, cap, rfl, h1, h2, fun hne => ?_⟩, hz⟩
 obtain ⟨b, off, rfl, hlt, hc⟩ := h3 hne
 exact ⟨b, off, rfl, Nat.lt_of_lt_of_le hlt hs, fun i x j u hi hj => (World.cell?_of_block (hb b rfl)).trans (hc i x j u hi hj)⟩
theorem cut3t_run (w : World) (a : Option Addr) (n c : Nat) (hc : n ≤ c) : (Instr.sliceAt 70 (.slice a n c) none (some (.int .i64 n)) (some (.int .i64 n))).run Tryz.prog w = .ok (.slice a n n) w := by
 have u := Tryz.underlying70
 have h2 : (n : Int) ≤ (c : Int) := by omega
 go_simp
theorem run_append_tc (w : World) (a : Option Addr) (n c : Nat) (A : List Tc) (h : RdZ 5 tcE w (.slice a n c) A) (hlen : A.length ≤ 1000000) (g0 : Nat) (t : Tc) (hg0 : TcAt w g0 t) (ty : TypeId) :
  ∃ v W, (Builtin.append_ #[70, 70] ty #[.slice a n n, .slice (some ⟨g0, 0, none⟩) 1 1]).run Tryz.prog w = .ok v W ∧ W.ownsRow w.heap.size 73 5 v (A ++ [t]).length ((A ++ [t]).flatMap tcE) ∧ Below w.heap.size w W := by
 obtain ⟨i, hi, hz0, hz1, hz2⟩ := info_parts info_tc
 have hsrc := Src.ofSlice (P := Tryz.prog) w (size := i.size) (tx := 70) Tryz.underlying70 ⟨g0, 0, none⟩ 1 1 (tcE t) (by rw [hz1]; rfl) (fun j u hj => by
  have hadd : (⟨g0, 0, none⟩ : Addr).add j = ⟨g0, j, none⟩ := by unfold Addr.add; split <;> simp_all
  rw [hadd, cell_of_row w g0 j _ _ (0, 0) hg0.row, ← hj]
  exact List.getElem?_toArray) (tc_one t)
 obtain ⟨⟨a', c', e, _, _, h4⟩, hzz⟩ := h
 simp only [Value.slice.injEq] at e
 obtain ⟨rfl, rfl, rfl⟩ := e
 have hold : (Builtin.firstCells i.size A.length (.slice a A.length A.length)).run Tryz.prog w.drew = .ok (A.flatMap tcE).toArray w.drew := by
  rcases Nat.eq_zero_or_pos A.length with h0 | hp
  ·obtain rfl : A = [] := List.eq_nil_of_length_eq_zero h0
   cases a with
   | none => simp [Builtin.firstCells]
   | some ad => simpa using run_firstCells_some (P := Tryz.prog) w.drew i.size 0 ad 0 0 [] (by simp) (fun j u hj => by simp at hj)
  ·obtain ⟨b, off, rfl, hb, hcs⟩ := h4 (by intro e; subst e; simp at hp)
   refine run_firstCells_some (P := Tryz.prog) w.drew i.size A.length ⟨b, off, none⟩ A.length A.length _ (by rw [hz1, flat_len tc_len]) (fun j u hj => ?_)
   have hadd : (⟨b, off, none⟩ : Addr).add j = ⟨b, off + j, none⟩ := by unfold Addr.add; split <;> simp_all
   rw [hadd]
   have hjl := (List.getElem?_eq_some_iff.1 hj).1
   rw [flat_len tc_len] at hjl
   have hik : j / 5 < A.length := (Nat.div_lt_iff_lt_mul (by decide)).2 hjl
   have hx := List.getElem?_eq_getElem hik
   have hmk : j % 5 < (tcE A[j / 5]).length := by rw [tc_len]; exact Nat.mod_lt _ (by decide)
   have hu := List.getElem?_eq_getElem hmk
   have hfl := flat_atR 5 tcE tc_len A (j / 5) _ (j % 5) _ hx hu
   rw [Nat.div_add_mod' j 5] at hfl
   rw [hfl] at hj
   cases hj
   have := hcs (j / 5) _ (j % 5) _ hx hu
   rw [Nat.add_assoc, Nat.div_add_mod' j 5] at this
   exact this
 have hr := run_append_grow_src (P := Tryz.prog) w 70 70 ty 73 i (.agg (tcC tc0)) Tryz.underlying70 hi hz0 a A.length A.length _ hold _ 1 _ hsrc (by omega) (by omega) (by rw [hz2]; exact growslice_fits (by omega) (by omega))
 obtain ⟨cp, hge, hcm, hce⟩ : ∃ cp, A.length + 1 ≤ cp ∧ cp ≤ maxLen ∧ cp = grownCap w (A.length + 1) A.length 73 := ⟨_, grownCap_ge w _ _ _, grownCap_le_maxLen w _ _ _ (by unfold maxLen; omega), rfl⟩
 rw [← hce] at hr
 have hzl : (Builtin.zeroCells (Value.agg (tcC tc0)).cells (cp - (A.length + 1))).size = (cp - (A.length + 1)) * 5 := by
  rw [show (Value.agg (tcC tc0)).cells = tcC tc0 from rfl, size_zeroCells]; rfl
 have hfl := flat_len tc_len A
 refine ⟨_, _, hr, ?_, (Below.refl _ w).drew.alloc (Nat.le_refl _) _⟩
 have hl1 : ((A ++ [t]).flatMap tcE) = A.flatMap tcE ++ tcE t := by simp
 have hln : (A ++ [t]).length = A.length + 1 := by simp
 rw [hl1, hln]
 refine ⟨by rw [List.length_append, hfl, tc_len]; omega, .inr ⟨w.heap.size, cp, _, rfl, Nat.le_refl _, heap_alloc_new w.drew _, hge, hcm, ?_, ?_⟩⟩
 ·rw [Array.size_append, hzl, List.size_toArray, List.length_append, hfl, tc_len]
  have : cp = A.length + 1 + (cp - (A.length + 1)) := by omega
  rw [this, Nat.add_mul, Nat.add_mul, show A.length + 1 + (cp - (A.length + 1)) - (A.length + 1) = cp - (A.length + 1) by omega, Nat.one_mul]
 ·rw [Array.toList_append]
  show ((A.flatMap tcE ++ tcE t) ++ _).take _ = A.flatMap tcE ++ tcE t
  rw [List.take_append_of_le_length (by rw [List.length_append, hfl, tc_len]; omega)]
  exact List.take_of_length_le (by rw [List.length_append, hfl, tc_len]; omega)
def NewOr (w w' : World) (u v : Value) : Prop := u.ownBlock = v.ownBlock ∨ ∀ g, u.ownBlock = some g → w.heap.size ≤ g ∧ g < w'.heap.size
def raddL (L : List Tc) (t : Tc) : List Tc := if hasL L t = true then L else L ++ [t]
theorem radd_any (w : World) (a : Option Addr) (n c : Nat) (l : List Tc) (h : RdZ 5 tcE w (.slice a n c) l) (t : Tc) (hl : l.length ≤ 5000) : Calls Tryz.prog 144 #[.slice a n c, .agg (tcC t)] w fun e w' =>
  ∃ u, e = .returned u ∧ RdZ 5 tcE w' u (raddL l t) ∧ Below w.heap.size w w' ∧ NewOr w w' u (.slice a n c) := by
 obtain ⟨hln, hnc, hcm⟩ := h.len
 have hb1 := bel1 w (.cells (tcC t) 73)
 have ht1 := TcAt.laid w t
 obtain ⟨w1, hw1⟩ : ∃ w1, w.alloc (.cells (tcC t) 73) = w1 := ⟨_, rfl⟩
 rw [hw1] at hb1 ht1
 have HR1 : Hid (RdZ 5 tcE w1 (.slice a n c) l) := h.below hb1
 have HB1 : Hid (Below w.heap.size w w1) := hb1
 have HLN : Hid (l.length = n ∧ n ≤ c ∧ n ≤ 5000) := ⟨hln, hnc, by omega⟩
 unfold raddL
 obtain ⟨R, hR⟩ : ∃ R, (if hasL l t = true then l else l ++ [t]) = R := ⟨_, rfl⟩
 rw [hR]
 have HR : Hid (raddL l t = R) := hR
 have hn1 : n ≤ 5000 := by omega
 clear h hln hnc hcm hR hb1 hl
 go_enter Tryz.func144, Tryz.ntmps144
 go_wp2
 go_loopg [9] n (fun kx s9 wr => ∃ i : Nat, s9 = .int .i64 i ∧ i ≤ n ∧ n - i ≤ kx ∧ Hid (Below w1.heap.size w1 wr) ∧ Hid (∀ x ∈ l.take i, tcEq t x = false))
 case atStart => exact ⟨0, rfl, Nat.zero_le _, by omega, Below.refl _ _, by simp [Hid]⟩
 case round =>
  obtain ⟨i, rfl, hin, hkx, HW, HQ⟩ := hrel
  have hr := HR1.out.below HW.out
  have htr := ht1.below HW.out
  by_cases hlt : i < n
  ·obtain ⟨x, hx⟩ : ∃ x, l[i]? = some x := ⟨_, List.getElem?_eq_getElem (by have := HLN.out; omega)⟩
   have HX : Hid (l[i]? = some x) := hx
   obtain ⟨b0, o0, rfl⟩ : ∃ b0 o0, a = some ⟨b0, o0, none⟩ := by
    obtain ⟨b, off, e, _⟩ := tc_cells hr hx
    exact ⟨b, off, e⟩
   have HLD : Hid _ := tc_load hr hx
   have hbl := bel1 wr (.cells #[.int .i64 x.kind, .int .u32 x.ino, .string x.name, .int .i64 x.lo, .int .i64 x.hi] 73)
   have hiI : (i : Int) < (n : Int) := by omega
   have hib : (i : Int) + 1 ≤ 9223372036854775807 := by omega
   obtain ⟨w5, hw5⟩ : ∃ w5, wr.alloc (.cells #[.int .i64 x.kind, .int .u32 x.ino, .string x.name, .int .i64 x.lo, .int .i64 x.hi] 73) = w5 := ⟨_, rfl⟩
   have ht5 : TcAt w5 wr.heap.size x := by rw [← hw5]; exact TcAt.laid wr x
   rw [hw5] at hbl
   have htt := htr.below hbl
   have HL5 : Hid _ := ht5.load
   have HT5 : Hid _ := htt.load
   have HW5 : Hid (Below w1.heap.size w1 w5) := thenB HW.out hbl
   have heq := fun W => eq_tc W x t
   have hcomm : tcEq x t = tcEq t x := by
    rw [Bool.eq_iff_iff, tcEq_iff, tcEq_iff]; exact eq_comm
   rw [hcomm] at heq
   clear hx hr htr hbl ht5 htt hcomm
   cases hq : tcEq t x with
   | true =>
    rw [hq] at heq
    go_wp2_with (first | (refine wpList_loadG rfl 73 _ rfl _ rfl _ HLD.out ?_) | (refine wpList_loadG rfl 73 _ rfl _ rfl _ HL5.out ?_) | (refine wpList_loadG rfl 73 _ rfl _ rfl _ HT5.out ?_))
    go_ret
    have hh : hasL l t = true := by
     unfold hasL
     exact List.any_eq_true.2 ⟨x, List.mem_of_getElem? HX.out, hq⟩
    refine ⟨_, rfl, ?_, HB1.out.trans (HW5.out.mono HB1.out.size), .inl rfl⟩
    rw [← HR.out, raddL, if_pos hh]
    exact HR1.out.below HW5.out
   | false =>
    rw [hq] at heq
    go_wp2_with (first | (refine wpList_loadG rfl 73 _ rfl _ rfl _ HLD.out ?_) | (refine wpList_loadG rfl 73 _ rfl _ rfl _ HL5.out ?_) | (refine wpList_loadG rfl 73 _ rfl _ rfl _ HT5.out ?_))
    go_roundg (n - (i + 1))
    case measure => omega
    case rel =>
     refine ⟨i + 1, by rw [show ((i : Int) + 1) = ((i + 1 : Nat) : Int) by omega], by omega, by omega, HW5.out, fun y hy => ?_⟩
     rw [take_next HX.out] at hy
     rcases List.mem_append.1 hy with hy | hy
     ·exact HQ.out y hy
     ·rw [List.mem_singleton] at hy; rw [hy]; exact hq
  ·obtain rfl : n = i := by omega
   have hno : hasL l t = false := by
    unfold hasL
    rw [List.any_eq_false]
    intro y hy
    have := HQ.out y (by rw [List.take_of_length_le (by have := HLN.out; omega)]; exact hy)
    rw [this]; simp
   have HRR : Hid (R = l ++ [t]) := by unfold Hid; rw [← HR.out, raddL, if_neg (by rw [hno]; simp)]
   have hbs := slice_tc t
   have hcut := fun W => cut3t_run W a n c HLN.out.2.1
   clear hkx hin hlt HQ hno HR
   have hS : ∀ W, Below wr.heap.size wr W → TcAt W w.heap.size t := fun W hW => htr.below hW
   go_wp2_with fail
   refine wp_region_noPanic ?_
   refine wp_region_held_drew (S := fun W => Below wr.heap.size wr W) (by kernel_rfl) (Below.refl _ _).drew (fun hHeld => ?_)
   refine tk 0 (.slice a n c) rfl ?_
   try simp only [nz]
   refine tk 1 (.slice a n c) rfl ?_
   try simp only [nz]
   refine tk 2 (.int .i64 n) rfl ?_
   try simp only [nz]
   refine tk 3 (.slice a n c) rfl ?_
   try simp only [nz]
   refine tk 4 (.int .i64 n) rfl ?_
   try simp only [nz]
   refine tk 5 (.slice a n n) rfl ?_ (fun W hSw => by (try dsimp only at hSw); have hk := hcut W; go_simp)
   try simp only [nz]
   refine wpAnyH_take (i := 6) (v := .agg (tcC t)) rfl (by kernel_rfl) (by kernel_rfl) (by kernel_rfl) (fun _ _ _ h => h) (yields_load (by rfl) _ _ rfl _ rfl _ (fun W h => (hS W h).load)) (by assumption) ?_
   try simp only [nz]
   refine rd 7 rfl (fun K hK => ?_)
   rw [if_pos (by rfl)]
   refine wp_buildS 70 1 _ rfl #[(0, .agg (tcC t))] (by kernel_rfl) (hbs wr.drew) ?_
   have hb6 : Below wr.heap.size wr (wr.drew.alloc (.cells (tcC t) 73)) := (Below.refl _ wr).drew.alloc (Nat.le_refl _) _
   refine hK.out _ _ hb6 (fun hHeld2 => ?_)
   clear hK K
   try simp only [nz]
   have ht6 : TcAt (wr.drew.alloc (.cells (tcC t) 73)) wr.heap.size t := TcAt.laid wr.drew t
   obtain ⟨w6, hw6⟩ : ∃ w6, (wr.drew.alloc (.cells (tcC t) 73)) = w6 := ⟨_, rfl⟩
   rw [hw6] at hb6 ht6 hHeld2 ⊢
   have hr6 := hr.below hb6
   refine rd 8 rfl (fun K hK => ?_)
   rw [if_pos (by rfl)]
   obtain ⟨v7, w7, hrun, h7o, h7b⟩ := run_append_tc w6 a n c l hr6 (by have := HLN.out; omega) wr.heap.size t ht6 70
   refine wp_app _ _ 70 rfl _ _ rfl rfl hrun ?_
   refine hK.out _ _ (hb6.trans (h7b.mono hb6.size)) (fun hHeld4 => ?_)
   clear hK K
   try simp only [nz]
   refine tk 9 v7 rfl ?_
   try simp only [nz]
   refine wpAnyH_done (by kernel_rfl) ?_ _
   refine NoPanic.normal ?_
   go_wp2_with fail
   go_ret
   have hB6 : Below w.heap.size w w6 := (HB1.out.trans (HW.out.mono HB1.out.size)).trans (hb6.mono (by have := HB1.out.size; have := HW.out.size; omega))
   refine ⟨_, rfl, by rw [HRR.out]; exact rdZ_own tc_len h7o, hB6.trans (h7b.mono hB6.size), .inr fun g hg => ?_⟩
   have hq := own_row h7o hg
   obtain ⟨cs, e1⟩ := hq
   refine ⟨?_, (Array.getElem?_eq_some_iff.1 e1).1⟩
   obtain ⟨_, ⟨e, _⟩ | ⟨g', cap, cur, e, h3, _⟩⟩ := h7o
   ·rw [e] at hg; cases hg
   ·rw [e] at hg; cases hg
    have := hB6.size
    show w.heap.size ≤ g'
    omega
open Go.RowKit Go.Maps
structure XsAt (B : Nat) (w : World) (x rv q : Nat) (vq vr vu : Value) (s : Sg) : Prop where
 row : w.heap[x]? = some (.cells #[.pointer (some ⟨rv, 0, none⟩), vr, vu, .int .u32 s.n] 111 (0, 0))
 v : ∃ ad n cap, RvAt w rv ad n cap q ∧ RdK w ad n cap s.l ∧ (∀ g, 0 < n → ad = some g → g.block < B)
 d : ∃ xs, Xd w q s.d xs vq
 r : RdZ 5 tcE w vr s.R
 u : RdZ 5 tcE w vu s.U
 n0 : 0 ≤ s.n
 n1 : s.n ≤ 4294967295
 own : ∀ k, (vq.ownBlock = some k ∨ vr.ownBlock = some k ∨ vu.ownBlock = some k) → B ≤ k ∧ k < w.heap.size ∧ k ≠ x ∧ k ≠ rv ∧ k ≠ q
 gx : B ≤ x ∧ B ≤ rv ∧ B ≤ q
def minX (x rv q : Nat) (vq vr vu : Value) : List Nat := [x, rv, q] ++ vq.ownBlock.toList ++ vr.ownBlock.toList ++ vu.ownBlock.toList
theorem minX_iff {x rv q : Nat} {vq vr vu : Value} {k : Nat} : k ∈ minX x rv q vq vr vu ↔ k = x ∨ k = rv ∨ k = q ∨ vq.ownBlock = some k ∨ vr.ownBlock = some k ∨ vu.ownBlock = some k := by
 simp [minX, Option.mem_toList, Option.mem_def, or_assoc]
def XsIn (B : Nat) (w : World) (x : Nat) (X : List Nat) (s : Sg) : Prop := ∃ rv q vq vr vu, XsAt B w x rv q vq vr vu s ∧ X = minX x rv q vq vr vu
def XsOut (B : Nat) (w : World) (x : Nat) (X : List Nat) (s : Sg) (w' : World) : Prop := ∃ X', XsIn B w' x X' s ∧ Sole X w w' ∧ ∀ k ∈ X', k ∈ X ∨ w.heap.size ≤ k
theorem XsAt.rvx {B : Nat} {w : World} {x rv q : Nat} {vq vr vu : Value} {s : Sg} (h : XsAt B w x rv q vq vr vu s) : rv ≠ x ∧ q ≠ x ∧ rv ≠ q ∧ x < w.heap.size ∧ rv < w.heap.size ∧ q < w.heap.size := by
 obtain ⟨ad, n, cap, h1, _⟩ := h.v
 obtain ⟨xs, hd⟩ := h.d
 exact ⟨ne_of_type h1.row h.row (by decide), ne_of_type hd.x.row h.row (by decide), ne_of_type h1.row hd.x.row (by decide), lt_of_row h.row, h1.lt, hd.x.lt⟩
theorem XsAt.lt {B : Nat} {w : World} {x rv q : Nat} {vq vr vu : Value} {s : Sg} (h : XsAt B w x rv q vq vr vu s) : ∀ k ∈ minX x rv q vq vr vu, k < w.heap.size ∧ B ≤ k := fun k hk => by
 obtain ⟨_, _, _, e1, e2, e3⟩ := h.rvx
 obtain ⟨g1, g2, g3⟩ := h.gx
 rcases minX_iff.1 hk with rfl | rfl | rfl | e
 ·exact ⟨e1, g1⟩
 ·exact ⟨e2, g2⟩
 ·exact ⟨e3, g3⟩
 ·exact ⟨(h.own k e).2.1, (h.own k e).1⟩
theorem XsAt.keep {B : Nat} {w w' : World} {x rv q : Nat} {vq vr vu : Value} {s : Sg} (h : XsAt B w x rv q vq vr vu s) (hs : w.heap.size ≤ w'.heap.size) (hk : ∀ k, k < w.heap.size → (k < B ∨ k ∈ minX x rv q vq vr vu) → w'.heap[k]? = w.heap[k]?) : XsAt B w' x rv q vq vr vu s := by
 obtain ⟨ad, n, cap, h1, h2, h3⟩ := h.v
 obtain ⟨xs, hd⟩ := h.d
 have hm : ∀ k, k ∈ minX x rv q vq vr vu → w'.heap[k]? = w.heap[k]? := fun k hk' => hk k (h.lt k hk').1 (.inr hk')
 exact ⟨(hm x (minX_iff.2 (.inl rfl))).trans h.row, ⟨ad, n, cap, ⟨(hm rv (minX_iff.2 (.inr (.inl rfl)))).trans h1.row⟩, h2.keep h3 hs (fun k hl hb => hk k hl (.inl hb)), h3⟩,
  ⟨xs, hd.keep hs (hm q (minX_iff.2 (.inr (.inr (.inl rfl))))) (fun g hg => hm g (minX_iff.2 (.inr (.inr (.inr (.inl hg))))))⟩,
  h.r.keep hs (fun g hg => hm g (minX_iff.2 (.inr (.inr (.inr (.inr (.inl hg))))))), h.u.keep hs (fun g hg => hm g (minX_iff.2 (.inr (.inr (.inr (.inr (.inr hg))))))), h.n0, h.n1,
  fun k e => by obtain ⟨a, b, c⟩ := h.own k e; exact ⟨a, Nat.lt_of_lt_of_le b hs, c⟩, h.gx⟩
theorem XsAt.below {B : Nat} {w w' : World} {x rv q : Nat} {vq vr vu : Value} {s : Sg} (h : XsAt B w x rv q vq vr vu s) (hb : Below w.heap.size w w') : XsAt B w' x rv q vq vr vu s := h.keep hb.size (fun k hl _ => hb.block k hl)
theorem XsIn.below {B : Nat} {w w' : World} {x : Nat} {X : List Nat} {s : Sg} (h : XsIn B w x X s) (hb : Below w.heap.size w w') : XsIn B w' x X s := by
 obtain ⟨rv, q, vq, vr, vu, h, rfl⟩ := h
 exact ⟨rv, q, vq, vr, vu, h.below hb, rfl⟩
theorem XsIn.keep {B : Nat} {w w' : World} {x : Nat} {X : List Nat} {s : Sg} (h : XsIn B w x X s) (hs : w.heap.size ≤ w'.heap.size) (hk : ∀ k, k < w.heap.size → (k < B ∨ k ∈ X) → w'.heap[k]? = w.heap[k]?) : XsIn B w' x X s := by
 obtain ⟨rv, q, vq, vr, vu, h, rfl⟩ := h
 exact ⟨rv, q, vq, vr, vu, h.keep hs hk, rfl⟩
theorem XsIn.lt {B : Nat} {w : World} {x : Nat} {X : List Nat} {s : Sg} (h : XsIn B w x X s) : ∀ k ∈ X, k < w.heap.size ∧ B ≤ k := by
 obtain ⟨rv, q, vq, vr, vu, h, rfl⟩ := h
 exact h.lt
theorem XsIn.out {B : Nat} {w w' : World} {x : Nat} {X : List Nat} {s : Sg} (h : XsIn B w x X s) (hb : Below w.heap.size w w') : XsOut B w x X s w' := ⟨X, h.below hb, Sole.of_below hb X, fun k hk => .inl hk⟩
theorem XsOut.pre {B : Nat} {w w1 w2 : World} {x : Nat} {X : List Nat} {s : Sg} (hb : Below w.heap.size w w1) (h : XsOut B w1 x X s w2) : XsOut B w x X s w2 := by
 obtain ⟨X', h1, h2, h3⟩ := h
 exact ⟨X', h1, (Sole.of_below hb X).trans h2, fun k hk => (h3 k hk).imp id (Nat.le_trans hb.size)⟩
theorem XsOut.post {B : Nat} {w w1 w2 : World} {x : Nat} {X : List Nat} {s : Sg} (h : XsOut B w x X s w1) (hb : Below w1.heap.size w1 w2) : XsOut B w x X s w2 := by
 obtain ⟨X', h1, h2, h3⟩ := h
 exact ⟨X', h1.below hb, h2.trans (Sole.of_below hb X), h3⟩
theorem XsIn.row {B : Nat} {w : World} {x : Nat} {X : List Nat} {s : Sg} (h : XsIn B w x X s) : ∃ rv vr vu, w.heap[x]? = some (.cells #[.pointer (some ⟨rv, 0, none⟩), vr, vu, .int .u32 s.n] 111 (0, 0)) := by
 obtain ⟨rv, q, vq, vr, vu, h, rfl⟩ := h
 exact ⟨rv, vr, vu, h.row⟩
theorem XsAt.setR {B : Nat} {w w1 : World} {x rv q : Nat} {vq vr vu : Value} {s : Sg} (h : XsAt B w x rv q vq vr vu s) (hb : Below w.heap.size w w1) {u : Value} {L : List Tc} (hu : RdZ 5 tcE w1 u L) (hn : NewOr w w1 u vr) : XsOut B w x (minX x rv q vq vr vu) { s with R := L } (w1.setCell ⟨x, 1, none⟩ u) := by
 have h1 := h.below hb
 obtain ⟨e1, e2, e3, l1, l2, l3⟩ := h.rvx
 obtain ⟨g1, g2, g3⟩ := h.gx
 obtain ⟨ad, n, cap, k1, k2, k3⟩ := h1.v
 obtain ⟨xs, hd⟩ := h1.d
 have hs : w1.heap.size ≤ (w1.setCell ⟨x, 1, none⟩ u).heap.size := by simp [World.setCell]
 have ho : ∀ k, k ≠ x → (w1.setCell ⟨x, 1, none⟩ u).heap[k]? = w1.heap[k]? := fun k hk => heap_setCell_other w1 ⟨x, 1, none⟩ k _ hk
 have hq : ∀ k, u.ownBlock = some k → B ≤ k ∧ k < w1.heap.size ∧ k ≠ x ∧ k ≠ rv ∧ k ≠ q := fun k e => by
  rcases hn with hn | hn
  ·exact h1.own k (.inr (.inl (hn.symm.trans e)))
  ·obtain ⟨a, b⟩ := hn k e
   have := h.gx
   exact ⟨by omega, b, by omega, by omega, by omega⟩
 have hr := heap_setCell_same w1 x 1 _ _ u h1.row
 refine ⟨minX x rv q vq u vu, ⟨rv, q, vq, u, vu, ⟨hr, ⟨ad, n, cap, ⟨(ho rv e1).trans k1.row⟩, k2.keep k3 hs (fun k hl hB => ho k (by omega)), k3⟩, ⟨xs, hd.keep hs (ho q e2) (fun g hg => ho g (h1.own g (.inl hg)).2.2.1)⟩,
  hu.keep hs (fun g hg => ho g (hq g hg).2.2.1), h1.u.keep hs (fun g hg => ho g (h1.own g (.inr (.inr hg))).2.2.1), h1.n0, h1.n1, fun k e => ?_, h.gx⟩, rfl⟩, (Sole.of_below hb _).trans (Sole.setCell w1 u (minX_iff.2 (.inl rfl))), fun k hk => ?_⟩
 ·obtain ⟨a, b, c⟩ : B ≤ k ∧ k < w1.heap.size ∧ k ≠ x ∧ k ≠ rv ∧ k ≠ q := by
   rcases e with e | e | e
   ·exact h1.own k (.inl e)
   ·exact hq k e
   ·exact h1.own k (.inr (.inr e))
  exact ⟨a, Nat.lt_of_lt_of_le b hs, c⟩
 ·rcases minX_iff.1 hk with e | e | e | e | e | e
  ·exact .inl (minX_iff.2 (.inl e))
  ·exact .inl (minX_iff.2 (.inr (.inl e)))
  ·exact .inl (minX_iff.2 (.inr (.inr (.inl e))))
  ·exact .inl (minX_iff.2 (.inr (.inr (.inr (.inl e)))))
  ·rcases hn with hn | hn
   ·exact .inl (minX_iff.2 (.inr (.inr (.inr (.inr (.inl (hn.symm.trans e)))))))
   ·exact .inr (hn k e).1
  ·exact .inl (minX_iff.2 (.inr (.inr (.inr (.inr (.inr e))))))
theorem XsAt.setU {B : Nat} {w w1 : World} {x rv q : Nat} {vq vr vu : Value} {s : Sg} (h : XsAt B w x rv q vq vr vu s) (hb : Below w.heap.size w w1) {u : Value} {L : List Tc} (hu : RdZ 5 tcE w1 u L) (hn : NewOr w w1 u vu) : XsOut B w x (minX x rv q vq vr vu) { s with U := L } (w1.setCell ⟨x, 2, none⟩ u) := by
 have h1 := h.below hb
 obtain ⟨e1, e2, e3, l1, l2, l3⟩ := h.rvx
 obtain ⟨g1, g2, g3⟩ := h.gx
 obtain ⟨ad, n, cap, k1, k2, k3⟩ := h1.v
 obtain ⟨xs, hd⟩ := h1.d
 have hs : w1.heap.size ≤ (w1.setCell ⟨x, 2, none⟩ u).heap.size := by simp [World.setCell]
 have ho : ∀ k, k ≠ x → (w1.setCell ⟨x, 2, none⟩ u).heap[k]? = w1.heap[k]? := fun k hk => heap_setCell_other w1 ⟨x, 2, none⟩ k _ hk
 have hq : ∀ k, u.ownBlock = some k → B ≤ k ∧ k < w1.heap.size ∧ k ≠ x ∧ k ≠ rv ∧ k ≠ q := fun k e => by
  rcases hn with hn | hn
  ·exact h1.own k (.inr (.inr (hn.symm.trans e)))
  ·obtain ⟨a, b⟩ := hn k e
   have := h.gx
   exact ⟨by omega, b, by omega, by omega, by omega⟩
 have hr := heap_setCell_same w1 x 2 _ _ u h1.row
 refine ⟨minX x rv q vq vr u, ⟨rv, q, vq, vr, u, ⟨hr, ⟨ad, n, cap, ⟨(ho rv e1).trans k1.row⟩, k2.keep k3 hs (fun k hl hB => ho k (by omega)), k3⟩, ⟨xs, hd.keep hs (ho q e2) (fun g hg => ho g (h1.own g (.inl hg)).2.2.1)⟩,
  h1.r.keep hs (fun g hg => ho g (h1.own g (.inr (.inl hg))).2.2.1), hu.keep hs (fun g hg => ho g (hq g hg).2.2.1), h1.n0, h1.n1, fun k e => ?_, h.gx⟩, rfl⟩, (Sole.of_below hb _).trans (Sole.setCell w1 u (minX_iff.2 (.inl rfl))), fun k hk => ?_⟩
 ·obtain ⟨a, b, c⟩ : B ≤ k ∧ k < w1.heap.size ∧ k ≠ x ∧ k ≠ rv ∧ k ≠ q := by
   rcases e with e | e | e
   ·exact h1.own k (.inl e)
   ·exact h1.own k (.inr (.inl e))
   ·exact hq k e
  exact ⟨a, Nat.lt_of_lt_of_le b hs, c⟩
 ·rcases minX_iff.1 hk with e | e | e | e | e | e
  ·exact .inl (minX_iff.2 (.inl e))
  ·exact .inl (minX_iff.2 (.inr (.inl e)))
  ·exact .inl (minX_iff.2 (.inr (.inr (.inl e))))
  ·exact .inl (minX_iff.2 (.inr (.inr (.inr (.inl e)))))
  ·exact .inl (minX_iff.2 (.inr (.inr (.inr (.inr (.inl e))))))
  ·rcases hn with hn | hn
   ·exact .inl (minX_iff.2 (.inr (.inr (.inr (.inr (.inr (hn.symm.trans e)))))))
   ·exact .inr (hn k e).1
theorem read_x {B : Nat} {w : World} {x : Nat} {X : List Nat} {s : Sg} (h : XsIn B w x X s) (t : Tc) (hl : s.R.length ≤ 5000) : Calls Tryz.prog 93 #[.pointer (some ⟨x, 0, none⟩), .agg (tcC t)] w fun e w' => e = .returned (.tuple #[]) ∧ XsOut B w x X { s with R := raddL s.R t } w' := by
 obtain ⟨rv, q, vq, vr, vu, h, rfl⟩ := h
 obtain ⟨a, n, c, rfl⟩ : ∃ a n c, vr = .slice a n c := by
  obtain ⟨⟨a, c, e, _⟩, _⟩ := h.r
  exact ⟨_, _, _, e⟩
 have hb1 := bel1 w (.cells (tcC t) 73)
 have ht1 := TcAt.laid w t
 obtain ⟨w1, hw1⟩ : ∃ w1, w.alloc (.cells (tcC t) 73) = w1 := ⟨_, rfl⟩
 rw [hw1] at hb1 ht1
 have H1 := h.below hb1
 have cr : ∀ W, Below w1.heap.size w1 W → Calls Tryz.prog 144 #[.slice a n c, .agg (tcC t)] W fun e w' => ∃ u, e = .returned u ∧ RdZ 5 tcE w' u (raddL s.R t) ∧ Below W.heap.size W w' ∧ NewOr W w' u (.slice a n c) := fun W hW => radd_any W a n c s.R (h.below (thenB hb1 hW)).r t hl
 have q1 : ∀ W, Below w1.heap.size w1 W → W.cell? ⟨x, 1, none⟩ = some (.slice a n c) := fun W hW => by rw [cell_of_row _ _ _ _ _ (0, 0) (H1.below hW).row]; rfl
 have HX : Hid (XsAt B w1.drew x rv q vq (.slice a n c) vu s) := H1.below (Below.refl _ _).drew
 have HB1 : Hid (Below w.heap.size w w1.drew) := hb1.drew
 clear h H1 hb1 hl
 go_enter Tryz.func93, Tryz.ntmps93
 go_wp2_with fail
 refine wp_region_noPanic ?_
 refine wp_region_sink 9 (S := fun W => Below w1.heap.size w1 W) (by kernel_rfl) (by kernel_rfl) (Below.refl _ _).drew (fun hHeld => ?_)
 refine tk 0 (.pointer (some ⟨x, 0, none⟩)) rfl ?_
 try simp only [nz]
 refine tk 1 (.pointer (some ⟨x, 0, none⟩)) rfl ?_
 try simp only [nz]
 refine tk 2 (.pointer (some ⟨x, 0, none⟩)) rfl ?_
 try simp only [nz]
 refine tk 3 (.pointer (some ⟨x, 1, none⟩)) rfl ?_
 try simp only [nz]
 refine tk 4 (.slice a n c) rfl ?_ (fun W hSw => by (try dsimp only at hSw); (have z := q1 W hSw; go_simp))
 try simp only [nz]
 refine wpAnyH_take (i := 5) (v := .agg (tcC t)) rfl (by kernel_rfl) (by kernel_rfl) (by kernel_rfl) (fun _ _ _ h => h) (yields_load (by rfl) _ _ rfl _ rfl _ (fun W hW => (ht1.below hW).load)) (by assumption) ?_
 try simp only [nz]
 refine rd 6 rfl (fun K hK => ?_)
 go_simp
 go_wp2_with (go_at_call 144; refine (cr _ hHeld).mono ?_; rintro e w3 ⟨u, rfl, h1, h2, h3⟩; obtain ⟨a', n', c', rfl⟩ : ∃ a' n' c', u = .slice a' n' c' := (by obtain ⟨⟨_, _, e, _⟩, _⟩ := h1; exact ⟨_, _, _, e⟩))
 refine hK.out _ _ (hHeld.trans (h2.mono hHeld.size)) (fun hHeld2 => ?_)
 clear hK K cr
 try simp only [nz]
 refine tk 7 (.pointer (some ⟨x, 0, none⟩)) rfl ?_
 try simp only [nz]
 refine tk 8 (.pointer (some ⟨x, 1, none⟩)) rfl ?_
 try simp only [nz]
 have hrow1 := (HX.out.below h2).row
 have c1 : w3.cell? ⟨x, 1, none⟩ = some (.slice a n c) := q1 w3 hHeld2
 have f1 : w3.frozen? ⟨x, 1, none⟩ = false := by simp [World.frozen?, hrow1]
 have HO : Hid (XsOut B w x (minX x rv q vq (.slice a n c) vu) { s with R := raddL s.R t } (w3.setCell ⟨x, 1, none⟩ (.slice a' n' c'))) := (HX.out.setR h2 h1 h3).pre HB1.out
 refine wpAnyH_done (by kernel_rfl) ?_ _
 refine Behind.run (by rfl) ?_
 clear h1 h2 h3 hrow1 q1 hHeld hHeld2 HX
 go_simp
 go_wp2
 refine NoPanic.normal ?_
 go_wp2
 go_end0
 exact ⟨rfl, HO.out⟩
theorem wrote_x {B : Nat} {w : World} {x : Nat} {X : List Nat} {s : Sg} (h : XsIn B w x X s) (t : Tc) (hl : s.U.length ≤ 5000) : Calls Tryz.prog 96 #[.pointer (some ⟨x, 0, none⟩), .agg (tcC t)] w fun e w' => e = .returned (.tuple #[]) ∧ XsOut B w x X { s with U := raddL s.U t } w' := by
 obtain ⟨rv, q, vq, vr, vu, h, rfl⟩ := h
 obtain ⟨a, n, c, rfl⟩ : ∃ a n c, vu = .slice a n c := by
  obtain ⟨⟨a, c, e, _⟩, _⟩ := h.u
  exact ⟨_, _, _, e⟩
 have hb1 := bel1 w (.cells (tcC t) 73)
 have ht1 := TcAt.laid w t
 obtain ⟨w1, hw1⟩ : ∃ w1, w.alloc (.cells (tcC t) 73) = w1 := ⟨_, rfl⟩
 rw [hw1] at hb1 ht1
 have H1 := h.below hb1
 have cr : ∀ W, Below w1.heap.size w1 W → Calls Tryz.prog 144 #[.slice a n c, .agg (tcC t)] W fun e w' => ∃ u, e = .returned u ∧ RdZ 5 tcE w' u (raddL s.U t) ∧ Below W.heap.size W w' ∧ NewOr W w' u (.slice a n c) := fun W hW => radd_any W a n c s.U (h.below (thenB hb1 hW)).u t hl
 have q1 : ∀ W, Below w1.heap.size w1 W → W.cell? ⟨x, 2, none⟩ = some (.slice a n c) := fun W hW => by rw [cell_of_row _ _ _ _ _ (0, 0) (H1.below hW).row]; rfl
 have HX : Hid (XsAt B w1.drew x rv q vq vr (.slice a n c) s) := H1.below (Below.refl _ _).drew
 have HB1 : Hid (Below w.heap.size w w1.drew) := hb1.drew
 clear h H1 hb1 hl
 go_enter Tryz.func96, Tryz.ntmps96
 go_wp2_with fail
 refine wp_region_noPanic ?_
 refine wp_region_sink 9 (S := fun W => Below w1.heap.size w1 W) (by kernel_rfl) (by kernel_rfl) (Below.refl _ _).drew (fun hHeld => ?_)
 refine tk 0 (.pointer (some ⟨x, 0, none⟩)) rfl ?_
 try simp only [nz]
 refine tk 1 (.pointer (some ⟨x, 0, none⟩)) rfl ?_
 try simp only [nz]
 refine tk 2 (.pointer (some ⟨x, 0, none⟩)) rfl ?_
 try simp only [nz]
 refine tk 3 (.pointer (some ⟨x, 2, none⟩)) rfl ?_
 try simp only [nz]
 refine tk 4 (.slice a n c) rfl ?_ (fun W hSw => by (try dsimp only at hSw); (have z := q1 W hSw; go_simp))
 try simp only [nz]
 refine wpAnyH_take (i := 5) (v := .agg (tcC t)) rfl (by kernel_rfl) (by kernel_rfl) (by kernel_rfl) (fun _ _ _ h => h) (yields_load (by rfl) _ _ rfl _ rfl _ (fun W hW => (ht1.below hW).load)) (by assumption) ?_
 try simp only [nz]
 refine rd 6 rfl (fun K hK => ?_)
 go_simp
 go_wp2_with (go_at_call 144; refine (cr _ hHeld).mono ?_; rintro e w3 ⟨u, rfl, h1, h2, h3⟩; obtain ⟨a', n', c', rfl⟩ : ∃ a' n' c', u = .slice a' n' c' := (by obtain ⟨⟨_, _, e, _⟩, _⟩ := h1; exact ⟨_, _, _, e⟩))
 refine hK.out _ _ (hHeld.trans (h2.mono hHeld.size)) (fun hHeld2 => ?_)
 clear hK K cr
 try simp only [nz]
 refine tk 7 (.pointer (some ⟨x, 0, none⟩)) rfl ?_
 try simp only [nz]
 refine tk 8 (.pointer (some ⟨x, 2, none⟩)) rfl ?_
 try simp only [nz]
 have hrow1 := (HX.out.below h2).row
 have c1 : w3.cell? ⟨x, 2, none⟩ = some (.slice a n c) := q1 w3 hHeld2
 have f1 : w3.frozen? ⟨x, 2, none⟩ = false := by simp [World.frozen?, hrow1]
 have HO : Hid (XsOut B w x (minX x rv q vq vr (.slice a n c)) { s with U := raddL s.U t } (w3.setCell ⟨x, 2, none⟩ (.slice a' n' c'))) := (HX.out.setU h2 h1 h3).pre HB1.out
 refine wpAnyH_done (by kernel_rfl) ?_ _
 refine Behind.run (by rfl) ?_
 clear h1 h2 h3 hrow1 q1 hHeld hHeld2 HX
 go_simp
 go_wp2
 refine NoPanic.normal ?_
 go_wp2
 go_end0
 exact ⟨rfl, HO.out⟩
open Go.RowKit Go.Maps
theorem rrec_any (w : World) (i : Int) : Calls Tryz.prog 91 #[.int .u32 i] w fun e w' => e = .returned (plV (recP i)) ∧ Below w.heap.size w w' := by
 go_enter Tryz.func91, Tryz.ntmps91
 go_wp2
 exact ret_place rfl w.heap.size (recP i) rfl (heap_alloc_new w _) rfl ⟨rfl, (Below.refl _ _).alloc (Nat.le_refl _) _⟩
theorem XsAt.get {B : Nat} {w : World} {x rv q : Nat} {vq vr vu : Value} {s : Sg} (h : XsAt B w x rv q vq vr vu s) (hck : CksOk s.d) (z : Pl) (hz : PlOk z) : Calls Tryz.prog 111 #[.pointer (some ⟨rv, 0, none⟩), plV z] w fun e w' =>
  e = .returned (.tuple #[.agg (itC (vgR s.l s.d z).1), .bool (vgR s.l s.d z).2.1, .int .i64 (vgR s.l s.d z).2.2]) ∧ Below w.heap.size w w' := by
 obtain ⟨ad, n, cap, h1, h2, _⟩ := h.v
 obtain ⟨xs, hd⟩ := h.d
 rw [vg_ref s.l hd.ok hck z]
 exact rget_any h1 h2 hd z hz
theorem XsAt.c0 {B : Nat} {w : World} {x rv q : Nat} {vq vr vu : Value} {s : Sg} (h : XsAt B w x rv q vq vr vu s) : w.cell? ⟨x, 0, none⟩ = some (.pointer (some ⟨rv, 0, none⟩)) := by rw [cell_of_row _ _ _ _ _ (0, 0) h.row]; rfl
theorem inode_at {B : Nat} {w : World} {xp rv q : Nat} {vq vr vu : Value} {s : Sg} (h : XsAt B w xp rv q vq vr vu s) (hck : CksOk s.d) (ino : Int) (h0 : 0 ≤ ino) (h1 : ino ≤ 4294967295) : Calls Tryz.prog 92 #[.pointer (some ⟨xp, 0, none⟩), .int .u32 ino] w fun e w' =>
  e = .returned (.tuple #[inV (fdR s ino).1, .int .i64 (fdR s ino).2]) ∧ Below w.heap.size w w' := by
 have hz := zeroItemR
 have len0 := ch_zero.1
 have al : ∀ (A : World) (o : Obj), Below A.heap.size A (A.alloc o) := fun A o => (Below.refl _ A).alloc (Nat.le_refl _) o
 have hb1 := al w (.cells #[.int .i64 0, .int .i64 0, .int .i64 0, .int .i64 0] 91)
 have hr1 : InRow (w.alloc (.cells #[.int .i64 0, .int .i64 0, .int .i64 0, .int .i64 0] 91)) w.heap.size 0 0 0 0 := ⟨heap_alloc_new w _⟩
 obtain ⟨w1, hw1⟩ : ∃ w1, w.alloc (.cells #[.int .i64 0, .int .i64 0, .int .i64 0, .int .i64 0] 91) = w1 := ⟨_, rfl⟩
 rw [hw1] at hb1 hr1
 have h1' := h.below hb1
 have cr : ∀ W, Below w1.heap.size w1 W → Calls Tryz.prog 91 #[.int .u32 ino] W fun e w' => e = .returned (plV (recP ino)) ∧ Below W.heap.size W w' := fun W _ => rrec_any W ino
 have cg : ∀ W, Below w1.heap.size w1 W → Calls Tryz.prog 111 #[.pointer (some ⟨rv, 0, none⟩), plV (recP ino)] W fun e w' =>
  e = .returned (.tuple #[.agg (itC (vgR s.l s.d (recP ino)).1), .bool (vgR s.l s.d (recP ino)).2.1, .int .i64 (vgR s.l s.d (recP ino)).2.2]) ∧ Below W.heap.size W w' := fun W hW => (h1'.below hW).get hck _ (recP_ok h0 h1)
 have qv : ∀ W, Below w1.heap.size w1 W → W.cell? ⟨xp, 0, none⟩ = some (.pointer (some ⟨rv, 0, none⟩)) := fun W hW => (h1'.below hW).c0
 have hlen := vgR_len s.l s.d (recP ino)
 have HF : Hid (fdF ino (vgR s.l s.d (recP ino)) = fdR s ino) := rfl
 generalize fdR s ino = F at *
 generalize vgR s.l s.d (recP ino) = V at *
 obtain ⟨x, is, er⟩ := V
 dsimp only at cg hlen
 have HX : Hid (x.bytes.length = 32) := hlen
 clear hlen h h1'
 by_cases hi : ino = 0
 case pos =>
  subst hi
  have HE : Hid (F = (in0, 220)) := by unfold Hid; rw [← HF.out]; rfl
  have r0 := hr1.cell 0 _ rfl
  have r1 := hr1.cell 1 _ rfl
  have r2 := hr1.cell 2 _ rfl
  have r3 := hr1.cell 3 _ rfl
  have q0 := hr1.fr 0
  have q1 := hr1.fr 1
  have q2 := hr1.fr 2
  have q3 := hr1.fr 3
  clear cr cg qv HF
  go_enter Tryz.func92, Tryz.ntmps92
  go_wp2
  refine ret_in2 rfl w.heap.size 0 0 0 0 rfl _ rfl (InRow.put hr1 _ _ _ _) rfl ⟨by rw [HE.out]; rfl, ?_⟩
  exact (((hb1.setCell (Nat.le_refl _) _).setCell (Nat.le_refl _) _).setCell (Nat.le_refl _) _).setCell (Nat.le_refl _) _
 have hib : (ino == 0) = false := by simpa using hi
 have HF2 : Hid ((if er ≠ 0 then (in0, er) else if is then ((⟨x.kind, x.mode, x.links, x.size⟩ : In4), 0) else (in0, 220)) = F) := by
  have := HF.out; unfold fdF at this; rw [if_neg hi] at this; exact this
 clear HF
 have HF := HF2
 clear HF2 hi
 go_enter Tryz.func92, Tryz.ntmps92
 go_wp2_with fail
 refine wp_region_noPanic ?_
 refine wp_region_held_drew (S := fun W => Below w1.heap.size w1 W) (by kernel_rfl) (Below.refl _ _).drew (fun hHeld => ?_)
 refine tk 0 (.pointer (some ⟨xp, 0, none⟩)) rfl ?_
 try simp only [nz]
 refine tk 1 (.pointer (some ⟨xp, 0, none⟩)) rfl ?_
 try simp only [nz]
 refine tk 2 (.pointer (some ⟨xp, 0, none⟩)) rfl ?_
 try simp only [nz]
 refine tk 3 (.pointer (some ⟨rv, 0, none⟩)) rfl ?_ (fun W hSw => by (try dsimp only at hSw); (have z := qv W hSw; go_simp))
 try simp only [nz]
 refine tk 4 (.int .u32 ino) rfl ?_
 try simp only [nz]
 refine wpAnyH_ready (rs := [5, 11]) (by kernel_rfl) (by simp) ?_
 refine AllReadyH.cons rfl (fun K hK => ?_) (AllReadyH.cons rfl (fun K hK => ?_) AllReadyH.nil)
 ·skip
  go_simp
  go_wp2_with (go_at_call 91; refine (cr _ (by assumption)).mono ?_; rintro e w5 ⟨rfl, hb5⟩)
  refine hK.out _ _ (hHeld.trans (hb5.mono hHeld.size)) (fun hHeldA => ?_)
  clear hK K
  try simp only [nz]
  refine wpAnyH_ready (rs := [6, 11]) (by kernel_rfl) (by simp) ?_
  refine AllReadyH.cons rfl (fun K hK => ?_) (AllReadyH.cons rfl (fun K hK => ?_) AllReadyH.nil)
  ·skip
   go_simp
   go_wp2_with (go_at_call 111; refine (cg _ (by assumption)).mono ?_; rintro e w6 ⟨rfl, hb6⟩)
   refine hK.out _ _ (hHeldA.trans (hb6.mono hHeldA.size)) (fun hHeldB => ?_)
   clear hK K
   try simp only [nz]
   refine tk 7 (.tuple #[.agg (itC x), .bool is, .int .i64 er]) rfl ?_
   try simp only [nz]
   refine tk 8 (.agg (itC x)) rfl ?_
   try simp only [nz]
   refine tk 9 (.bool is) rfl ?_
   try simp only [nz]
   refine tk 10 (.int .i64 er) rfl ?_
   try simp only [nz]
   refine rd 11 rfl (fun K hK => ?_)
   go_simp
   go_wp2
   have hat := ItAt.laid 130 w6 it0
   have hba := al w6 (.cells (itC it0) 130)
   have HGE : Hid (w1.heap.size ≤ w6.heap.size) := hHeldB.size
   obtain ⟨G, hG⟩ : ∃ G, w6.heap.size = G := ⟨_, rfl⟩
   refine hK.out _ _ (hHeldB.trans (hba.mono hHeldB.size)) (fun hHeldC => ?_)
   clear hK K
   obtain ⟨w8, hw8⟩ : ∃ w8, w6.alloc (.cells (itC it0) 130) = w8 := ⟨_, rfl⟩
   rw [hw8] at hat hHeldC ⊢
   rw [hG] at hat HGE ⊢
   try simp only [nz]
   clear hba hw8 hG
   refine rd 12 rfl (fun K hK => ?_)
   rw [if_pos (by rfl)]
   refine wp_stR _ _ rfl G x it0 rfl rfl HX.out len0 hat ?_
   refine hK.out _ _ (below_setRow hHeldC HGE.out _) (fun hHeldY => ?_)
   clear hK K
   try simp only [nz]
   have hx7 := hat.setRow x
   obtain ⟨w7, hw7⟩ : ∃ w7, w8.setRow G (itC x) = w7 := ⟨_, rfl⟩
   rw [hw7] at hx7 hHeldY ⊢
   have hHeldZ := hHeldY
   refine tk 13 (.bool is) rfl ?_
   try simp only [nz]
   refine tk 14 (.int .i64 er) rfl ?_
   try simp only [nz]
   clear hw7 hat
   refine wpAnyH_done (by kernel_rfl) ?_ _
   refine NoPanic.normal ?_
   have HB7 : Hid (Below w1.heap.size w1 w7) := hHeldZ
   have hres := hr1.below hHeldZ
   have r0 := hres.cell 0 _ rfl
   have r1 := hres.cell 1 _ rfl
   have r2 := hres.cell 2 _ rfl
   have r3 := hres.cell 3 _ rfl
   have q0 := hres.fr 0
   have q1 := hres.fr 1
   have q2 := hres.fr 2
   have q3 := hres.fr 3
   have HRES : Hid (InRow w7 w.heap.size 0 0 0 0) := hres
   have lJ : Hid _ := hx7.loadJ
   have HFB : Hid (∀ k m l s : Int, Below w.heap.size w ((((w7.setCell ⟨w.heap.size, 0, none⟩ (.int .i64 k)).setCell ⟨w.heap.size, 1, none⟩ (.int .i64 m)).setCell ⟨w.heap.size, 2, none⟩ (.int .i64 l)).setCell ⟨w.heap.size, 3, none⟩ (.int .i64 s))) := fun k m l s => ((((hb1.trans (hHeldZ.mono hb1.size)).setCell (Nat.le_refl _) _).setCell (Nat.le_refl _) _).setCell (Nat.le_refl _) _).setCell (Nat.le_refl _) _
   clear cr cg qv hHeldZ hres hx7 hr1
   by_cases he : er = 0
   case neg =>
    have heb : (er != 0) = true := by simpa using he
    have HE : Hid (F = (in0, er)) := by unfold Hid; rw [← HF.out, if_pos he]
    go_wp2
    refine ret_in2 rfl w.heap.size 0 0 0 0 rfl _ rfl (InRow.put HRES.out _ _ _ _) rfl ⟨by rw [HE.out]; rfl, HFB.out _ _ _ _⟩
   subst he
   cases is with
   | false =>
    have HE : Hid (F = (in0, 220)) := by unfold Hid; rw [← HF.out]; rfl
    go_wp2
    refine ret_in2 rfl w.heap.size 0 0 0 0 rfl _ rfl (InRow.put HRES.out _ _ _ _) rfl ⟨by rw [HE.out]; rfl, HFB.out _ _ _ _⟩
   | true =>
    have HE : Hid (F = (⟨x.kind, x.mode, x.links, x.size⟩, 0)) := by unfold Hid; rw [← HF.out]; rfl
    go_wp2_with (refine wpList_loadG rfl 91 _ rfl _ rfl _ lJ.out ?_)
    refine ret_in2 rfl w.heap.size x.kind x.mode x.links x.size rfl _ rfl (InRow.put HRES.out _ _ _ _) rfl ⟨by rw [HE.out]; rfl, HFB.out _ _ _ _⟩
  ·skip
   go_simp
   go_wp2
   have hat := ItAt.laid 130 w5 it0
   have hba := al w5 (.cells (itC it0) 130)
   have HGE : Hid (w1.heap.size ≤ w5.heap.size) := hHeldA.size
   obtain ⟨G, hG⟩ : ∃ G, w5.heap.size = G := ⟨_, rfl⟩
   refine hK.out _ _ (hHeldA.trans (hba.mono hHeldA.size)) (fun hHeldC => ?_)
   clear hK K
   obtain ⟨w8, hw8⟩ : ∃ w8, w5.alloc (.cells (itC it0) 130) = w8 := ⟨_, rfl⟩
   rw [hw8] at hat hHeldC ⊢
   rw [hG] at hat HGE ⊢
   try simp only [nz]
   clear hba hw8 hG
   refine rd 6 rfl (fun K hK => ?_)
   go_simp
   go_wp2_with (go_at_call 111; refine (cg _ (by assumption)).mono ?_; rintro e w9 ⟨rfl, hb6⟩)
   refine hK.out _ _ (hHeldC.trans (hb6.mono hHeldC.size)) (fun hHeldB => ?_)
   clear hK K
   try simp only [nz]
   refine tk 7 (.tuple #[.agg (itC x), .bool is, .int .i64 er]) rfl ?_
   try simp only [nz]
   refine tk 8 (.agg (itC x)) rfl ?_
   try simp only [nz]
   refine tk 9 (.bool is) rfl ?_
   try simp only [nz]
   refine tk 10 (.int .i64 er) rfl ?_
   try simp only [nz]
   have hat2 := hat.below hb6
   clear hat
   have hat := hat2
   refine rd 12 rfl (fun K hK => ?_)
   rw [if_pos (by rfl)]
   refine wp_stR _ _ rfl G x it0 rfl rfl HX.out len0 hat ?_
   refine hK.out _ _ (below_setRow hHeldB HGE.out _) (fun hHeldY => ?_)
   clear hK K
   try simp only [nz]
   have hx7 := hat.setRow x
   obtain ⟨w7, hw7⟩ : ∃ w7, w9.setRow G (itC x) = w7 := ⟨_, rfl⟩
   rw [hw7] at hx7 hHeldY ⊢
   have hHeldZ := hHeldY
   refine tk 13 (.bool is) rfl ?_
   try simp only [nz]
   refine tk 14 (.int .i64 er) rfl ?_
   try simp only [nz]
   clear hw7 hat
   refine wpAnyH_done (by kernel_rfl) ?_ _
   refine NoPanic.normal ?_
   have HB7 : Hid (Below w1.heap.size w1 w7) := hHeldZ
   have hres := hr1.below hHeldZ
   have r0 := hres.cell 0 _ rfl
   have r1 := hres.cell 1 _ rfl
   have r2 := hres.cell 2 _ rfl
   have r3 := hres.cell 3 _ rfl
   have q0 := hres.fr 0
   have q1 := hres.fr 1
   have q2 := hres.fr 2
   have q3 := hres.fr 3
   have HRES : Hid (InRow w7 w.heap.size 0 0 0 0) := hres
   have lJ : Hid _ := hx7.loadJ
   have HFB : Hid (∀ k m l s : Int, Below w.heap.size w ((((w7.setCell ⟨w.heap.size, 0, none⟩ (.int .i64 k)).setCell ⟨w.heap.size, 1, none⟩ (.int .i64 m)).setCell ⟨w.heap.size, 2, none⟩ (.int .i64 l)).setCell ⟨w.heap.size, 3, none⟩ (.int .i64 s))) := fun k m l s => ((((hb1.trans (hHeldZ.mono hb1.size)).setCell (Nat.le_refl _) _).setCell (Nat.le_refl _) _).setCell (Nat.le_refl _) _).setCell (Nat.le_refl _) _
   clear cr cg qv hHeldZ hres hx7 hr1
   by_cases he : er = 0
   case neg =>
    have heb : (er != 0) = true := by simpa using he
    have HE : Hid (F = (in0, er)) := by unfold Hid; rw [← HF.out, if_pos he]
    go_wp2
    refine ret_in2 rfl w.heap.size 0 0 0 0 rfl _ rfl (InRow.put HRES.out _ _ _ _) rfl ⟨by rw [HE.out]; rfl, HFB.out _ _ _ _⟩
   subst he
   cases is with
   | false =>
    have HE : Hid (F = (in0, 220)) := by unfold Hid; rw [← HF.out]; rfl
    go_wp2
    refine ret_in2 rfl w.heap.size 0 0 0 0 rfl _ rfl (InRow.put HRES.out _ _ _ _) rfl ⟨by rw [HE.out]; rfl, HFB.out _ _ _ _⟩
   | true =>
    have HE : Hid (F = (⟨x.kind, x.mode, x.links, x.size⟩, 0)) := by unfold Hid; rw [← HF.out]; rfl
    go_wp2_with (refine wpList_loadG rfl 91 _ rfl _ rfl _ lJ.out ?_)
    refine ret_in2 rfl w.heap.size x.kind x.mode x.links x.size rfl _ rfl (InRow.put HRES.out _ _ _ _) rfl ⟨by rw [HE.out]; rfl, HFB.out _ _ _ _⟩
 ·skip
  go_simp
  go_wp2
  have hat : ItAt 130 (w1.alloc (.cells (itC it0) 130)).drew w1.heap.size it0 := ⟨(ItAt.laid 130 w1 it0).row⟩
  have HGE : Hid (w1.heap.size ≤ w1.heap.size) := Nat.le_refl _
  refine hK.out _ _ (al w1 (.cells (itC it0) 130)).drew (fun hHeldC => ?_)
  clear hK K
  obtain ⟨w8, hw8⟩ : ∃ w8, (w1.alloc (.cells (itC it0) 130)).drew = w8 := ⟨_, rfl⟩
  rw [hw8] at hat hHeldC ⊢
  try simp only [nz]
  clear hw8
  refine rd 5 rfl (fun K hK => ?_)
  go_simp
  go_wp2_with (go_at_call 91; refine (cr _ (by assumption)).mono ?_; rintro e w5 ⟨rfl, hb5⟩)
  refine hK.out _ _ (hHeldC.trans (hb5.mono hHeldC.size)) (fun hHeldA => ?_)
  clear hK K
  try simp only [nz]
  have hat2 := hat.below hb5
  clear hat
  have hat := hat2
  refine rd 6 rfl (fun K hK => ?_)
  go_simp
  go_wp2_with (go_at_call 111; refine (cg _ (by assumption)).mono ?_; rintro e w9 ⟨rfl, hb6⟩)
  refine hK.out _ _ (hHeldA.trans (hb6.mono hHeldA.size)) (fun hHeldB => ?_)
  clear hK K
  try simp only [nz]
  refine tk 7 (.tuple #[.agg (itC x), .bool is, .int .i64 er]) rfl ?_
  try simp only [nz]
  refine tk 8 (.agg (itC x)) rfl ?_
  try simp only [nz]
  refine tk 9 (.bool is) rfl ?_
  try simp only [nz]
  refine tk 10 (.int .i64 er) rfl ?_
  try simp only [nz]
  have hat2 := hat.below hb6
  clear hat
  have hat := hat2
  refine rd 12 rfl (fun K hK => ?_)
  rw [if_pos (by rfl)]
  refine wp_stR _ _ rfl w1.heap.size x it0 rfl rfl HX.out len0 hat ?_
  refine hK.out _ _ (below_setRow hHeldB HGE.out _) (fun hHeldY => ?_)
  clear hK K
  try simp only [nz]
  have hx7 := hat.setRow x
  obtain ⟨w7, hw7⟩ : ∃ w7, w9.setRow w1.heap.size (itC x) = w7 := ⟨_, rfl⟩
  rw [hw7] at hx7 hHeldY ⊢
  have hHeldZ := hHeldY
  refine tk 13 (.bool is) rfl ?_
  try simp only [nz]
  refine tk 14 (.int .i64 er) rfl ?_
  try simp only [nz]
  clear hw7 hat
  refine wpAnyH_done (by kernel_rfl) ?_ _
  refine NoPanic.normal ?_
  have HB7 : Hid (Below w1.heap.size w1 w7) := hHeldZ
  have hres := hr1.below hHeldZ
  have r0 := hres.cell 0 _ rfl
  have r1 := hres.cell 1 _ rfl
  have r2 := hres.cell 2 _ rfl
  have r3 := hres.cell 3 _ rfl
  have q0 := hres.fr 0
  have q1 := hres.fr 1
  have q2 := hres.fr 2
  have q3 := hres.fr 3
  have HRES : Hid (InRow w7 w.heap.size 0 0 0 0) := hres
  have lJ : Hid _ := hx7.loadJ
  have HFB : Hid (∀ k m l s : Int, Below w.heap.size w ((((w7.setCell ⟨w.heap.size, 0, none⟩ (.int .i64 k)).setCell ⟨w.heap.size, 1, none⟩ (.int .i64 m)).setCell ⟨w.heap.size, 2, none⟩ (.int .i64 l)).setCell ⟨w.heap.size, 3, none⟩ (.int .i64 s))) := fun k m l s => ((((hb1.trans (hHeldZ.mono hb1.size)).setCell (Nat.le_refl _) _).setCell (Nat.le_refl _) _).setCell (Nat.le_refl _) _).setCell (Nat.le_refl _) _
  clear cr cg qv hHeldZ hres hx7 hr1
  by_cases he : er = 0
  case neg =>
   have heb : (er != 0) = true := by simpa using he
   have HE : Hid (F = (in0, er)) := by unfold Hid; rw [← HF.out, if_pos he]
   go_wp2
   refine ret_in2 rfl w.heap.size 0 0 0 0 rfl _ rfl (InRow.put HRES.out _ _ _ _) rfl ⟨by rw [HE.out]; rfl, HFB.out _ _ _ _⟩
  subst he
  cases is with
  | false =>
   have HE : Hid (F = (in0, 220)) := by unfold Hid; rw [← HF.out]; rfl
   go_wp2
   refine ret_in2 rfl w.heap.size 0 0 0 0 rfl _ rfl (InRow.put HRES.out _ _ _ _) rfl ⟨by rw [HE.out]; rfl, HFB.out _ _ _ _⟩
  | true =>
   have HE : Hid (F = (⟨x.kind, x.mode, x.links, x.size⟩, 0)) := by unfold Hid; rw [← HF.out]; rfl
   go_wp2_with (refine wpList_loadG rfl 91 _ rfl _ rfl _ lJ.out ?_)
   refine ret_in2 rfl w.heap.size x.kind x.mode x.links x.size rfl _ rfl (InRow.put HRES.out _ _ _ _) rfl ⟨by rw [HE.out]; rfl, HFB.out _ _ _ _⟩
theorem inode_x {B : Nat} {w : World} {x : Nat} {X : List Nat} {s : Sg} (h : XsIn B w x X s) (hck : CksOk s.d) (ino : Int) (h0 : 0 ≤ ino) (h1 : ino ≤ 4294967295) : Calls Tryz.prog 92 #[.pointer (some ⟨x, 0, none⟩), .int .u32 ino] w fun e w' =>
  e = .returned (.tuple #[inV (fdR s ino).1, .int .i64 (fdR s ino).2]) ∧ Below w.heap.size w w' := by
 obtain ⟨rv, q, vq, vr, vu, h, rfl⟩ := h
 exact inode_at h hck ino h0 h1
theorem XsAt.put {B : Nat} {w : World} {x rv q : Nat} {vq vr vu : Value} {s : Sg} (h : XsAt B w x rv q vq vr vu s) (c : Cg) (hc : CgOk c) (hm : s.d.pus.length ≤ 5000) (hL : s.d.L.length ≤ 5000) :
  Calls Tryz.prog 90 #[.pointer (some ⟨q, 0, none⟩), .agg (cgC c)] w fun e w' => e = .returned (.int .i64 (putX s.d c).2) ∧ XsOut B w x (minX x rv q vq vr vu) { s with d := putS s.d c } w' ∧ ∀ k, k < w.heap.size → k ≠ q → w'.heap[k]? = w.heap[k]? := by
 obtain ⟨ad, n, cap, h1, h2, h3⟩ := h.v
 obtain ⟨xs, hd⟩ := h.d
 refine (hd.put c hc hm hL).mono ?_
 rintro e w' ⟨rfl, xs', v', k1, k2, k3⟩
 obtain ⟨e1, e2, e3, l1, l2, l3⟩ := h.rvx
 have hk : ∀ k, k < w.heap.size → k ≠ q → w'.heap[k]? = w.heap[k]? := k2.block
 have hv : ∀ k, v'.ownBlock = some k → B ≤ k ∧ k < w'.heap.size ∧ k ≠ x ∧ k ≠ rv ∧ k ≠ q := fun k e => by
  have hl := own_lt k1.x.at_ e
  rcases k3 k e with e' | e'
  ·obtain ⟨a, b, c⟩ := h.own k (.inl e')
   exact ⟨a, hl, c⟩
  ·have := h.gx
   exact ⟨by omega, hl, by omega, by omega, by omega⟩
 refine ⟨rfl, ⟨minX x rv q v' vr vu, ⟨rv, q, v', vr, vu, ⟨(hk x l1 (fun e => e2 e.symm)).trans h.row, ⟨ad, n, cap, ⟨(hk rv l2 e3).trans h1.row⟩, h2.keep h3 k2.size (fun k hl hB => hk k hl (by have := h.gx; omega)), h3⟩, ⟨xs', k1⟩,
  h.r.keep k2.size (fun g hg => hk g (h.own g (.inr (.inl hg))).2.1 (h.own g (.inr (.inl hg))).2.2.2.2), h.u.keep k2.size (fun g hg => hk g (h.own g (.inr (.inr hg))).2.1 (h.own g (.inr (.inr hg))).2.2.2.2), h.n0, h.n1, fun k e => ?_, h.gx⟩, rfl⟩,
  ⟨k2.os, k2.tape, k2.output, k2.size, fun k hl hn => hk k hl (fun e => hn (minX_iff.2 (.inr (.inr (.inl e)))))⟩, fun k hk' => ?_⟩, hk⟩
 ·rcases e with e | e | e
  ·exact hv k e
  ·obtain ⟨a, b, c⟩ := h.own k (.inr (.inl e)); exact ⟨a, Nat.lt_of_lt_of_le b k2.size, c⟩
  ·obtain ⟨a, b, c⟩ := h.own k (.inr (.inr e)); exact ⟨a, Nat.lt_of_lt_of_le b k2.size, c⟩
 ·rcases minX_iff.1 hk' with e | e | e | e | e
  ·exact .inl (minX_iff.2 (.inl e))
  ·exact .inl (minX_iff.2 (.inr (.inl e)))
  ·exact .inl (minX_iff.2 (.inr (.inr (.inl e))))
  ·rcases k3 k e with e' | e'
   ·exact .inl (minX_iff.2 (.inr (.inr (.inr (.inl e')))))
   ·exact .inr e'
  ·exact .inl (minX_iff.2 (.inr (.inr (.inr (.inr e)))))
theorem radd_addK {L : List Tc} {ino k : Int} (h0 : ino ≠ 0) (hk : k = 1 ∨ k = 2 ∨ k = 3 ∨ k = 7) : raddL L (tcK ino k) = addL L (tcK ino k) := by
 have hm : mayB (tcK ino k) = true := by
  unfold mayB tcK
  rcases hk with rfl | rfl | rfl | rfl <;> simp [h0, noName, noSpan, bareK]
 unfold addL raddL
 rw [if_pos hm]
theorem fd_zero {s : Sg} {ino : Int} (h : (fdR s ino).2 = 0) : ino ≠ 0 := fun e => by
 subst e
 unfold fdR fdF at h
 rw [if_pos rfl] at h
 exact absurd h (by decide)
theorem kind_x {B : Nat} {w : World} {x : Nat} {X : List Nat} {s : Sg} (h : XsIn B w x X s) (hck : CksOk s.d) (ino : Int) (h0 : 0 ≤ ino) (h1 : ino ≤ 4294967295) : Calls Tryz.prog 40 #[.pointer (some ⟨x, 0, none⟩), .int .u32 ino] w fun e w' =>
  e = .returned (.tuple #[.int .i64 (fdR s ino).1.k, .int .i64 (fdR s ino).2]) ∧ Below w.heap.size w w' := by
 have cf := inode_x h hck ino h0 h1
 generalize fdR s ino = F at *
 obtain ⟨⟨fk, fm, fl, fz⟩, fe⟩ := F
 unfold inV at cf
 dsimp only at cf ⊢
 clear h
 go_enter Tryz.func40, Tryz.ntmps40
 go_wp2_with fail
 refine cf.mono ?_
 rintro e w1 ⟨rfl, hb1⟩
 clear cf
 have hb2 := thenB hb1 (bel1 w1 (.cells #[.int .i64 fk, .int .i64 fm, .int .i64 fl, .int .i64 fz] 91))
 go_wp2
 go_ret2
 exact ⟨rfl, hb2⟩
open Go.RowKit Go.Maps
theorem XsOut.sole {B : Nat} {w w' : World} {x : Nat} {X : List Nat} {s : Sg} (h : XsOut B w x X s w') : Sole X w w' := by
 obtain ⟨X', _, h2, _⟩ := h
 exact h2
theorem XsOut.then {B : Nat} {w w1 w2 : World} {x : Nat} {X X1 : List Nat} {s : Sg} (hs : Sole X w w1) (hx : ∀ k ∈ X1, k ∈ X ∨ w.heap.size ≤ k) (h : XsOut B w1 x X1 s w2) : XsOut B w x X s w2 := by
 obtain ⟨X', k1, k2, k3⟩ := h
 exact ⟨X', k1, hs.after k2 hx, fun k hk => by
  rcases k3 k hk with e | e
  ·exact hx k e
  ·exact .inr (Nat.le_trans hs.size e)⟩
theorem XsOut.call {B : Nat} {w0 w : World} {x : Nat} {X : List Nat} {s s' : Sg} (h : XsOut B w0 x X s w) {f : FuncId} {args : Array Value} {R : Ending → Prop} (hc : ∀ X1, XsIn B w x X1 s → Calls Tryz.prog f args w fun e w' => R e ∧ XsOut B w x X1 s' w') :
  Calls Tryz.prog f args w fun e w' => R e ∧ XsOut B w0 x X s' w' := by
 obtain ⟨X1, h1, h2, h3⟩ := h
 refine (hc X1 h1).mono ?_
 rintro e w' ⟨hR, ho⟩
 exact ⟨hR, XsOut.then h2 h3 ho⟩
theorem XsIn.le {B : Nat} {w : World} {x : Nat} {X : List Nat} {s : Sg} (h : XsIn B w x X s) : B ≤ w.heap.size := by
 obtain ⟨rv, q, vq, vr, vu, h, rfl⟩ := h
 have := h.lt x (minX_iff.2 (.inl rfl))
 omega
theorem XsOut.fin {B : Nat} {w w4 w5 w6 : World} {x : Nat} {X : List Nat} {s s' : Sg} (h : XsIn B w x X s) (hb : Below w.heap.size w w4) (ho : XsOut B w4 x X s' w5) {g : Nat} (hg : w.heap.size ≤ g) (hg4 : g < w4.heap.size) (hs : Sole [g] w5 w6) : XsOut B w x X s' w6 := by
 obtain ⟨X', h1, h2, h3⟩ := ho
 have lX := h.lt
 have lB := h.le
 refine ⟨X', h1.keep hs.size (fun k hk hc => hs.block k hk (fun e => ?_)), ((Sole.of_below hb X).trans h2).after hs (fun k hk => .inr (by rw [List.mem_singleton] at hk; omega)), fun k hk => (h3 k hk).imp id (Nat.le_trans hb.size)⟩
 rw [List.mem_singleton] at e
 subst e
 rcases hc with hc | hc
 ·omega
 ·rcases h3 k hc with e | e
  ·have := lX k e; omega
  ·omega
theorem readK {B : Nat} {w : World} {x : Nat} {X : List Nat} {s : Sg} (h : XsIn B w x X s) {ino k : Int} (h0 : ino ≠ 0) (hk : k = 1 ∨ k = 2 ∨ k = 3 ∨ k = 7) (hl : s.R.length ≤ 5000) : Calls Tryz.prog 93 #[.pointer (some ⟨x, 0, none⟩), .agg #[.int .i64 k, .int .u32 ino, .string ⟨#[]⟩, .int .i64 0, .int .i64 0]] w fun e w' =>
  e = .returned (.tuple #[]) ∧ XsOut B w x X { s with R := addL s.R (tcK ino k) } w' := by
 have := read_x h (tcK ino k) hl
 rw [radd_addK h0 hk] at this
 exact this
theorem wroteK {B : Nat} {w : World} {x : Nat} {X : List Nat} {s : Sg} (h : XsIn B w x X s) {ino k : Int} (h0 : ino ≠ 0) (hk : k = 1 ∨ k = 2 ∨ k = 3 ∨ k = 7) (hl : s.U.length ≤ 5000) : Calls Tryz.prog 96 #[.pointer (some ⟨x, 0, none⟩), .agg #[.int .i64 k, .int .u32 ino, .string ⟨#[]⟩, .int .i64 0, .int .i64 0]] w fun e w' =>
  e = .returned (.tuple #[]) ∧ XsOut B w x X { s with U := addL s.U (tcK ino k) } w' := by
 have := wrote_x h (tcK ino k) hl
 rw [radd_addK h0 hk] at this
 exact this
theorem size_x {B : Nat} {w : World} {x : Nat} {X : List Nat} {s : Sg} (h : XsIn B w x X s) (hck : CksOk s.d) (ino : Int) (h0 : 0 ≤ ino) (h1 : ino ≤ 4294967295) (hL : s.R.length ≤ 4000) : Calls Tryz.prog 44 #[.pointer (some ⟨x, 0, none⟩), .int .u32 ino] w fun e w' =>
  e = .returned (.tuple #[.int .i64 (sizeR s ino).2.1, .int .i64 (sizeR s ino).2.2]) ∧ XsOut B w x X (sizeR s ino).1 w' := by
 have cf := inode_x h hck ino h0 h1
 have HZ : Hid ((fdR s ino).2 = 0 → ino ≠ 0) := fd_zero
 have HF : Hid (sizeR s ino = if (fdR s ino).2 ≠ 0 then (s, 0, (fdR s ino).2) else ({ s with R := addK s.R ino [3] }, (fdR s ino).1.s, 0)) := rfl
 generalize sizeR s ino = R at *
 generalize fdR s ino = F at *
 obtain ⟨⟨fk, fm, fl, fz⟩, fe⟩ := F
 unfold inV at cf
 dsimp only at cf HF ⊢
 go_enter Tryz.func44, Tryz.ntmps44
 go_wp2_with fail
 refine cf.mono ?_
 rintro e w2 ⟨rfl, hb2⟩
 clear cf
 have hb3 := bel1 w2 (.cells #[.int .i64 fk, .int .i64 fm, .int .i64 fl, .int .i64 fz] 91)
 have hi3 : InRow (w2.alloc (.cells #[.int .i64 fk, .int .i64 fm, .int .i64 fl, .int .i64 fz] 91)) w2.heap.size fk fm fl fz := ⟨heap_alloc_new w2 _⟩
 obtain ⟨w3, hw3⟩ : ∃ w3, w2.alloc (.cells #[.int .i64 fk, .int .i64 fm, .int .i64 fl, .int .i64 fz] 91) = w3 := ⟨_, rfl⟩
 rw [hw3] at hb3 hi3
 have hB3 := thenB hb2 hb3
 have h3 := h.below hB3
 have HLE : Hid (w.heap.size ≤ w2.heap.size) := hb2.size
 by_cases he : fe = 0
 case neg =>
  have heb : (fe != 0) = true := by simpa using he
  have HE : Hid (R = (s, 0, fe)) := by unfold Hid; rw [HF.out, if_pos he]
  have HH : Hid (XsIn B w x X s) := h
  clear HF h3 h hi3
  go_wp2
  go_ret2
  exact ⟨by rw [HE.out]; first | done | rfl, by rw [HE.out]; exact HH.out.out hB3⟩
 subst he
 have HE : Hid (R = ({ s with R := addK s.R ino [3] }, fz, 0)) := by unfold Hid; rw [HF.out, if_neg (by simp)]
 have ct := readK h3 (HZ.out rfl) (k := 3) (.inr (.inr (.inl rfl))) (by omega)
 have HX : Hid (∀ k ∈ X, k < w.heap.size) := fun k hk => (h.lt k hk).1
 have HI4 : Hid (InRow w3 w2.heap.size fk fm fl fz) := hi3
 have HB4 : Hid (Below w.heap.size w w3) := hB3
 clear HF h3 h hi3 hb2 hb3 hB3
 go_wp2_with fail
 refine ct.mono ?_
 rintro e w5 ⟨rfl, ho⟩
 clear ct
 have hi5 := HI4.out.sole ho.sole (fun e => by have := HX.out _ e; have := HLE.out; omega)
 have i3 := hi5.cell 3 _ rfl
 have HO : Hid (XsOut B w3 x X { s with R := addK s.R ino [3] } w5) := ho
 clear ho hi5
 go_wp2
 go_ret2
 exact ⟨by rw [HE.out]; first | done | rfl, by rw [HE.out]; exact XsOut.pre HB4.out HO.out⟩
open Go.RowKit Go.Maps
theorem XsAt.next {B : Nat} {w : World} {x rv q : Nat} {vq vr vu : Value} {s : Sg} (h : XsAt B w x rv q vq vr vu s) : XsOut B w x (minX x rv q vq vr vu) { s with n := nextN s.n } (w.setCell ⟨x, 3, none⟩ (.int .u32 (nextN s.n))) := by
 obtain ⟨e1, e2, e3, l1, l2, l3⟩ := h.rvx
 obtain ⟨g1, g2, g3⟩ := h.gx
 obtain ⟨ad, n, cap, k1, k2, k3⟩ := h.v
 obtain ⟨xs, hd⟩ := h.d
 obtain ⟨n0, n1⟩ := nextN_ok h.n0 h.n1
 have hs : w.heap.size ≤ (w.setCell ⟨x, 3, none⟩ (.int .u32 (nextN s.n))).heap.size := by simp [World.setCell]
 have ho : ∀ k, k ≠ x → (w.setCell ⟨x, 3, none⟩ (.int .u32 (nextN s.n))).heap[k]? = w.heap[k]? := fun k hk => heap_setCell_other w ⟨x, 3, none⟩ k _ hk
 have hr := heap_setCell_same w x 3 _ _ (.int .u32 (nextN s.n)) h.row
 exact ⟨minX x rv q vq vr vu, ⟨rv, q, vq, vr, vu, ⟨hr, ⟨ad, n, cap, ⟨(ho rv e1).trans k1.row⟩, k2.keep k3 hs (fun k hl hB => ho k (by omega)), k3⟩, ⟨xs, hd.keep hs (ho q e2) (fun g hg => ho g (h.own g (.inl hg)).2.2.1)⟩,
  h.r.keep hs (fun g hg => ho g (h.own g (.inr (.inl hg))).2.2.1), h.u.keep hs (fun g hg => ho g (h.own g (.inr (.inr hg))).2.2.1), n0, n1, fun k e => by obtain ⟨a, b, c⟩ := h.own k e; exact ⟨a, Nat.lt_of_lt_of_le b hs, c⟩, h.gx⟩, rfl⟩,
  Sole.setCell w _ (minX_iff.2 (.inl rfl)), fun k hk => .inl hk⟩
theorem XsIn.next {B : Nat} {w : World} {x : Nat} {X : List Nat} {s : Sg} (h : XsIn B w x X s) : XsOut B w x X { s with n := nextN s.n } (w.setCell ⟨x, 3, none⟩ (.int .u32 (nextN s.n))) := by
 obtain ⟨rv, q, vq, vr, vu, h, rfl⟩ := h
 exact h.next
theorem XsIn.c3 {B : Nat} {w : World} {x : Nat} {X : List Nat} {s : Sg} (h : XsIn B w x X s) : w.cell? ⟨x, 3, none⟩ = some (.int .u32 s.n) ∧ w.frozen? ⟨x, 3, none⟩ = false ∧ 0 ≤ s.n ∧ s.n ≤ 4294967295 := by
 obtain ⟨rv, q, vq, vr, vu, h, rfl⟩ := h
 refine ⟨by rw [cell_of_row _ _ _ _ _ (0, 0) h.row]; rfl, by simp [World.frozen?, h.row], h.n0, h.n1⟩
structure VRow (w : World) (x rv q : Nat) : Prop where
 a : ∃ vr vu n, w.heap[x]? = some (.cells #[.pointer (some ⟨rv, 0, none⟩), vr, vu, n] 111 (0, 0))
 b : ∃ ad n cap, RvAt w rv ad n cap q
theorem VRow.below {w w' : World} {x rv q : Nat} (h : VRow w x rv q) (hb : Below w.heap.size w w') : VRow w' x rv q := by
 obtain ⟨vr, vu, n, h1⟩ := h.a
 obtain ⟨ad, m, cap, h2⟩ := h.b
 exact ⟨⟨vr, vu, n, (hb.block x (lt_of_row h1)).trans h1⟩, ⟨ad, m, cap, h2.below hb⟩⟩
theorem VRow.keep {w w' : World} {x rv q : Nat} (h : VRow w x rv q) (hq : x ≠ q ∧ rv ≠ q) (hk : ∀ k, k < w.heap.size → k ≠ q → w'.heap[k]? = w.heap[k]?) : VRow w' x rv q := by
 obtain ⟨vr, vu, n, h1⟩ := h.a
 obtain ⟨ad, m, cap, h2⟩ := h.b
 exact ⟨⟨vr, vu, n, (hk x (lt_of_row h1) hq.1).trans h1⟩, ⟨ad, m, cap, ⟨(hk rv h2.lt hq.2).trans h2.row⟩⟩⟩
theorem VRow.ne {w : World} {x rv q : Nat} (h : VRow w x rv q) (hq : ∀ g (cs : Array Value) (T : TypeId) (fr : Nat × Nat), w.heap[g]? = some (.cells cs T fr) → T ≠ 179 → g ≠ q) : x ≠ q ∧ rv ≠ q := by
 obtain ⟨vr, vu, n, h1⟩ := h.a
 obtain ⟨ad, m, cap, h2⟩ := h.b
 exact ⟨hq _ _ _ _ h1 (by decide), hq _ _ _ _ h2.row (by decide)⟩
theorem VRow.c0 {w : World} {x rv q : Nat} (h : VRow w x rv q) : w.cell? ⟨x, 0, none⟩ = some (.pointer (some ⟨rv, 0, none⟩)) := by
 obtain ⟨vr, vu, n, h1⟩ := h.a
 rw [cell_of_row _ _ _ _ _ (0, 0) h1]; rfl
theorem VRow.c1 {w : World} {x rv q : Nat} (h : VRow w x rv q) : w.cell? ⟨rv, 1, none⟩ = some (.pointer (some ⟨q, 0, none⟩)) := by
 obtain ⟨ad, m, cap, h2⟩ := h.b
 exact h2.c1
theorem XsIn.putV {B : Nat} {w : World} {x : Nat} {X : List Nat} {s : Sg} (h : XsIn B w x X s) : ∃ rv q, VRow w x rv q ∧ (∀ g (cs : Array Value) (T : TypeId) (fr : Nat × Nat), w.heap[g]? = some (.cells cs T fr) → T ≠ 179 → g ≠ q) ∧ ∀ W, Below w.heap.size w W → ∀ (c : Cg), CgOk c → s.d.pus.length ≤ 5000 → s.d.L.length ≤ 5000 →
  Calls Tryz.prog 90 #[.pointer (some ⟨q, 0, none⟩), .agg (cgC c)] W fun e w' => e = .returned (.int .i64 (putX s.d c).2) ∧ XsOut B W x X { s with d := putS s.d c } w' ∧ W.heap.size ≤ w'.heap.size ∧ ∀ k, k < W.heap.size → k ≠ q → w'.heap[k]? = W.heap[k]? := by
 obtain ⟨rv, q, vq, vr, vu, h, rfl⟩ := h
 obtain ⟨ad, n, cap, h1, h2, h3⟩ := h.v
 obtain ⟨xs, hd⟩ := h.d
 refine ⟨rv, q, ⟨⟨vr, vu, _, h.row⟩, ⟨ad, n, cap, h1⟩⟩, fun g cs T fr hg hT => ne_of_type hg hd.x.row hT, fun W hW c hc hm hL => ?_⟩
 refine ((h.below hW).put c hc hm hL).mono ?_
 rintro e w' ⟨rfl, k1, k2⟩
 exact ⟨rfl, k1, k1.sole.size, k2⟩
open Go.RowKit Go.Maps
end Go.Proofs.YtiplhhaehbjghaaGreat
