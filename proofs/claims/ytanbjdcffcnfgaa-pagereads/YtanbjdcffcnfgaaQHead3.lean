/- The contract of page.DecodeHead. -/
import Derived.Test.YtanbjdcffcnfgaaQHead2
namespace Go.Proofs.Ytanbjdcffcnfgaa
open Go.RowKit
set_option linter.unusedVariables false
set_option linter.unusedSimpArgs false
set_option maxRecDepth 4000

theorem valB_max (xs : List Int) (h : Byt xs) (k : Nat) : (0 : Int) ≤ valB (xs.take k) ∧ (valB (xs.take k) : Int) < (256 : Int) ^ k := by
  have h1 := valB_lt (xs.take k) (h.take k)
  have h2 : (256 : Nat) ^ (xs.take k).length ≤ 256 ^ k := Nat.pow_le_pow_right (by decide) (by rw [List.length_take]; omega)
  refine ⟨by omega, ?_⟩
  have h3 : valB (xs.take k) < 256 ^ k := Nat.lt_of_lt_of_le h1 h2
  exact_mod_cast h3

theorem rdHead_ok {xs : List Int} (h : Byt xs) : HdOk (rdHead xs) := by
  have q8 : (256 : Int) ^ 8 = 18446744073709551616 := by decide
  have q4 : (256 : Int) ^ 4 = 4294967296 := by decide
  have k0 := valB_max (xs.drop 8) (h.drop _) 8
  have k1 := valB_max (xs.drop 16) (h.drop _) 8
  have k2 := valB_max (xs.drop 24) (h.drop _) 8
  have k3 := valB_max (xs.drop 32) (h.drop _) 4
  have k4 := valB_max (xs.drop 36) (h.drop _) 4
  have k5 := valB_max (xs.drop 40) (h.drop _) 4
  rw [q8] at k0 k1 k2
  rw [q4] at k3 k4 k5
  unfold rdHead
  constructor <;> dsimp only <;> omega

theorem hd0_ok : HdOk hd0 := by constructor <;> decide

theorem hdH_ok {xs : List Int} (h : Byt xs) : HdOk (hdH xs) := by
  unfold hdH
  split
  · exact rdHead_ok (h.take _)
  · exact hd0_ok

def hdW (h : Hd) : Array Value := #[.int .u64 h.seq, .int .u64 h.version, .int .u64 h.log, .int .u32 h.root, .int .u32 h.next, .int .u32 h.items]

set_option maxHeartbeats 2000000 in
theorem decodeHead_good (w W0 : World) (xs : List Int) (hy : Byt xs) (ho : opE xs = 0) (hl : xs.length = 512) (hB0 : Below w.heap.size w W0) (hz0 : W0.heap.size = w.heap.size + 1) (hg0 : W0.heap[w.heap.size]? = some (.cells #[.int .u64 0, .int .u64 0, .int .u64 0, .int .u32 0, .int .u32 0, .int .u32 0] 40 (0, 0)))
    (hW0 : w.alloc (.cells #[.int .u64 0, .int .u64 0, .int .u64 0, .int .u32 0, .int .u32 0, .int .u32 0] 40) = W0) (a : Option Addr) (cap : Nat) (hr : Rd w (.slice a 512 cap) xs) (E : Int) (N : Hd) (hyes : headBlock (rdHead (bodyB xs)) = xs → E = 0 ∧ N = rdHead (bodyB xs)) (hno : ¬ headBlock (rdHead (bodyB xs)) = xs → E = 11 ∧ N = hd0)
    (hco : Calls Try.prog 35 #[.slice a 512 cap] W0 fun e w' => ∃ u, e = .returned (.tuple #[u, .int .i64 0]) ∧ Own w' W0.heap.size u (bodyB xs) ∧ Below W0.heap.size W0 w') :
    Calls Try.prog 18 #[.slice a 512 cap] w fun e w' => e = .returned (.tuple #[hdV N, .int .i64 E]) ∧ Below w.heap.size w w' := by
  have hbl : (bodyB xs).length = 508 := by unfold bodyB; rw [List.length_take]; omega
  have hby : Byt (bodyB xs) := hy.take _
  have hok := rdHead_ok hby
  go_enter Try.func18, Try.ntmps18
  go_wp2_with fail
  refine hco.mono ?_
  rintro e w1 ⟨u1, rfl, ho1, hb1⟩
  obtain ⟨g1, cap1, rfl, _, _⟩ := ho1.open (by omega)
  have hno1 := headOf_any w1 g1 0 cap1 (bodyB xs) (by have := ho1.rd; rw [hbl] at this; exact this) hby
  have henc := fun W => encodeHead_any W _ hok
  have hbb := headBlock_byt (rdHead (bodyB xs))
  generalize rdHead (bodyB xs) = H at *
  generalize hBK : headBlock H = BK at *
  obtain ⟨s, v, l, r, n, i⟩ := H
  unfold hdV at hno1 henc
  dsimp only at hno1 henc
  rw [hbl]
  clear hco ho1
  go_wp2_with fail
  refine hno1.mono ?_
  rintro e w2 ⟨rfl, hb2⟩
  have hBn := (Below.refl w2.heap.size w2).alloc (Nat.le_refl _) (.cells #[.int .u64 s, .int .u64 v, .int .u64 l, .int .u32 r, .int .u32 n, .int .u32 i] 40)
  have hgn := heap_alloc_new w2 (.cells #[.int .u64 s, .int .u64 v, .int .u64 l, .int .u32 r, .int .u32 n, .int .u32 i] 40)
  have hzn : (w2.alloc (.cells #[.int .u64 s, .int .u64 v, .int .u64 l, .int .u32 r, .int .u32 n, .int .u32 i] 40)).heap.size = w2.heap.size + 1 := by simp
  have s1 := hb1.size
  have s2' := hb2.size
  generalize hW2 : w2.alloc (.cells #[.int .u64 s, .int .u64 v, .int .u64 l, .int .u32 r, .int .u32 n, .int .u32 i] 40) = W2 at *
  obtain ⟨⟨x0, x1, x2, x3, x4, x5⟩, y0⟩ := box6 hgn
  clear y0 hno1
  go_wp2_with fail
  refine (henc _).mono ?_
  rintro e w3 ⟨u3, rfl, ho3, hb3⟩
  have s3 := hb3.size
  have hB3 : Below w.heap.size w w3 := hB0.trans ((hb1.mono (by omega)).trans ((hb2.mono (by omega)).trans ((hBn.mono (by omega)).trans (hb3.mono (by omega)))))
  have hg3 := (hb3.block w.heap.size (by omega)).trans ((hBn.block w.heap.size (by omega)).trans ((hb2.block w.heap.size (by omega)).trans ((hb1.block w.heap.size (by omega)).trans hg0)))
  have hgn3 := (hb3.block w2.heap.size (by omega)).trans hgn
  have heq := equal_any w3 _ _ _ _ ho3.rd (hr.below hB3) hbb hy
  obtain ⟨⟨b0, b1, b2, b3, b4, b5⟩, d0, d1, d2, d3, d4, d5⟩ := box6 hg3
  obtain ⟨⟨e0, e1, e2, e3, e4, e5⟩, f0⟩ := box6 hgn3
  have HZ : Hid _ := fin_head (.int .u64 0) (.int .u64 0) (.int .u64 0) (.int .u32 0) (.int .u32 0) (.int .u32 0) hg3
  have HF : Hid _ := fin_head (.int .u64 s) (.int .u64 v) (.int .u64 l) (.int .u32 r) (.int .u32 n) (.int .u32 i) hg3
  clear hW2 hW0 x0 x1 x2 x3 x4 x5 hg0 hgn f0 henc
  by_cases hq : BK = xs
  · rw [decide_eq_true hq] at heq
    obtain ⟨rfl, rfl⟩ := hyes hq
    clear hyes hno
    go_wp2_with (go_at_call 37; refine heq.mono ?_; rintro e w' ⟨rfl, rfl⟩)
    exact ret_head2 rfl w.heap.size _ _ _ _ _ _ rfl _ rfl HF.out.1 rfl ⟨rfl, hB3.trans (HF.out.2 _ (Nat.le_refl _))⟩
  · rw [decide_eq_false hq] at heq
    obtain ⟨rfl, rfl⟩ := hno hq
    clear hyes hno
    go_wp2_with (go_at_call 37; refine heq.mono ?_; rintro e w' ⟨rfl, rfl⟩)
    exact ret_head2 rfl w.heap.size _ _ _ _ _ _ rfl _ rfl HZ.out.1 rfl ⟨rfl, hB3.trans (HZ.out.2 _ (Nat.le_refl _))⟩

set_option maxHeartbeats 1000000 in
theorem decodeHead_bad (w W0 : World) (v : Value) (E : Int) (hE : E ≠ 0) (hB0 : Below w.heap.size w W0) (hz0 : W0.heap.size = w.heap.size + 1) (hg0 : W0.heap[w.heap.size]? = some (.cells #[.int .u64 0, .int .u64 0, .int .u64 0, .int .u32 0, .int .u32 0, .int .u32 0] 40 (0, 0)))
    (hW0 : w.alloc (.cells #[.int .u64 0, .int .u64 0, .int .u64 0, .int .u32 0, .int .u32 0, .int .u32 0] 40) = W0) (a : Option Addr) (n cap : Nat) (hv : v = .slice a n cap)
    (hco : Calls Try.prog 35 #[v] W0 fun e w' => ∃ u, e = .returned (.tuple #[u, .int .i64 E]) ∧ Below W0.heap.size W0 w') :
    Calls Try.prog 18 #[v] w fun e w' => e = .returned (.tuple #[hdV hd0, .int .i64 E]) ∧ Below w.heap.size w w' := by
  subst hv
  go_enter Try.func18, Try.ntmps18
  go_wp2_with fail
  refine hco.mono ?_
  rintro e w1 ⟨u1, rfl, hb1⟩
  have hg1 := (hb1.block w.heap.size (by omega)).trans hg0
  obtain ⟨⟨b0, b1, b2, b3, b4, b5⟩, d0, d1, d2, d3, d4, d5⟩ := box6 hg1
  have HZ : Hid _ := fin_head (.int .u64 0) (.int .u64 0) (.int .u64 0) (.int .u32 0) (.int .u32 0) (.int .u32 0) hg1
  clear hg1 hg0 hco hW0
  go_wp2
  exact ret_head2 rfl w.heap.size _ _ _ _ _ _ rfl _ rfl HZ.out.1 rfl ⟨rfl, hB0.trans ((hb1.mono (by omega)).trans (HZ.out.2 _ (Nat.le_refl _)))⟩

theorem decodeHead_any (w : World) (v : Value) (xs : List Int) (hr : Rd w v xs) (hy : Byt xs) :
    Calls Try.prog 18 #[v] w fun e w' => e = .returned (.tuple #[hdV (hdH xs), .int .i64 (hdE xs)]) ∧ Below w.heap.size w w' := by
  have hB0 : Below w.heap.size w (w.alloc (.cells #[.int .u64 0, .int .u64 0, .int .u64 0, .int .u32 0, .int .u32 0, .int .u32 0] 40)) := (Below.refl _ w).alloc (Nat.le_refl _) _
  have hco := contentOf_any _ v xs (hr.below hB0) hy
  by_cases ho : opE xs = 0
  · have hl : xs.length = 512 := by
      unfold opE at ho
      split at ho
      · assumption
      · cases ho
    obtain ⟨a, cap, rfl, hcap, hm, hnn, hne⟩ := id hr
    rw [hl] at hr hco ⊢
    refine decodeHead_good w _ xs hy ho hl hB0 (by simp) (heap_alloc_new w _) rfl a cap hr _ _ (fun hq => ?_) (fun hq => ?_) (hco.mono ?_)
    · have e1 : hdE xs = 0 := by unfold hdE hdIs; rw [if_pos ho, decide_eq_true hq]; rfl
      exact ⟨e1, by unfold hdH; rw [if_pos e1]⟩
    · have e1 : hdE xs = 11 := by unfold hdE hdIs; rw [if_pos ho, decide_eq_false hq]; rfl
      exact ⟨e1, by unfold hdH; rw [if_neg (by rw [e1]; decide)]⟩
    rintro e w' ⟨u, rfl, h1, h2⟩
    exact ⟨u, by rw [ho], h1 ho, h2⟩
  · have hE : hdE xs = opE xs := by unfold hdE; rw [if_neg ho]
    have hN : hdH xs = hd0 := by unfold hdH; rw [hE, if_neg ho]
    rw [hE, hN]
    obtain ⟨a, cap, rfl, _⟩ := id hr
    exact decodeHead_bad w _ _ _ ho hB0 (by simp) (heap_alloc_new w _) rfl a _ cap rfl (hco.mono fun e w' ⟨u, h1, _, h3⟩ => ⟨u, h1, h3⟩)

end Go.Proofs.Ytanbjdcffcnfgaa
