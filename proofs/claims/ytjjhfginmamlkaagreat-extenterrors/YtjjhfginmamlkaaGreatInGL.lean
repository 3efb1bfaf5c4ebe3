/- Over a store that may fail: Begin (written by tools/laws/InL2_gen.py). -/
import Derived.Test.YtjjhfginmamlkaaGreatInEL
import Derived.Test.YtjjhfginmamlkaaGreatXH
namespace Go.Proofs.YtjjhfginmamlkaaGreat.L
open Go.RowKit Go.Maps
set_option linter.unusedVariables false
set_option linter.unusedSimpArgs false
set_option maxRecDepth 100000

def sg0 (l : List (ByteArray × ByteArray)) (most nx : Int) : Sg := ⟨l, newS most, [], [], nx, -1⟩
/-- What Begin makes. -/
def BgOut (B : Nat) (w : World) (ad : Option Addr) (n cap : Nat) (l : List (ByteArray × ByteArray)) (most nx : Int) (e : Ending) (w' : World) : Prop :=
  ∃ pp a x X rv q, e = .returned (.pointer (some ⟨pp, 0, none⟩)) ∧ PrAt w' pp a x ∧ SgIn B w' a X (sg0 l most nx) ∧ (∀ k ∈ X, w.heap.size ≤ k) ∧ RsAt w' x rv q (.slice none 0 0) (.slice none 0 0) (.slice none 0 0) ad n cap (newS most).most nx ∧ Below w.heap.size w w' ∧
    (w.heap.size ≤ pp ∧ w.heap.size ≤ a.s ∧ w.heap.size ≤ a.v ∧ w.heap.size ≤ a.g ∧ w.heap.size ≤ x ∧ w.heap.size ≤ rv ∧ w.heap.size ≤ q)

set_option maxHeartbeats 8000000 in
theorem begin_in (w : World) (ad : Option Addr) (n cap : Nat) (l : List (ByteArray × ByteArray)) (hl : RdK w ad n cap l) {B : Nat} (hB : B ≤ w.heap.size) (hlB : ∀ q, 0 < n → ad = some q → q.block < B) (most : Int) (hm : most ≤ 9223372036854775807) (nx : Int) (h0 : 0 ≤ nx) (h1 : nx ≤ 4294967295) :
    Calls Tryz.prog 10 #[.slice ad n cap, .int .i64 most, .int .u32 nx] w fun e w' => BgOut B w ad n cap l most nx e w' := by
  have cd := dnew_any w most hm
  have HLB : Hid (∀ q, 0 < n → ad = some q → q.block < B) := hlB
  have HLL : Hid (RdK w ad n cap l) := hl
  clear hl
  go_enter Tryz.func10, Tryz.ntmps10
  go_wp2_with fail
  refine cd.mono ?_
  rintro e w1 ⟨rfl, hd1, hb1⟩
  clear cd
  have hb2 := bel1 w1 (.cells #[.slice ad n cap, .int .i64 (-1)] 65)
  have hs2 : SoL (w1.alloc (.cells #[.slice ad n cap, .int .i64 (-1)] 65)) w1.heap.size ad n cap l (-1) := ⟨heap_alloc_new w1 _, (HLL.out.below hb1).below hb2, by decide⟩
  obtain ⟨w2, hw2⟩ : ∃ w2, w1.alloc (.cells #[.slice ad n cap, .int .i64 (-1)] 65) = w2 := ⟨_, rfl⟩
  rw [hw2] at hb2 hs2
  have HS2 : Hid _ := hs2
  have cx := rsnew_any w2 ad n cap most hm nx
  have HD1 : Hid (DlAt w1 (w.heap.size + 1) w.heap.size (.slice none 0 0) (newS most)) := hd1
  have HB1 : Hid (Below w.heap.size w w1) := hb1
  have HB2 : Hid (Below w1.heap.size w1 w2) := hb2
  obtain ⟨D, hD⟩ : ∃ D, newS most = D := ⟨_, rfl⟩
  rw [hD] at cx HD1
  have HDD : Hid (newS most = D) := hD
  clear hd1 hb1 hb2 hs2 hD
  go_wp2_with fail
  refine cx.mono ?_
  rintro e w3 ⟨x, rv, q, rfl, hx3, hb3, hxx⟩
  clear cx
  have HX3 : Hid _ := hx3
  have HB3 : Hid (Below w2.heap.size w2 w3) := hb3
  have HXX : Hid (w2.heap.size ≤ x ∧ w2.heap.size ≤ rv ∧ w2.heap.size ≤ q) := hxx
  clear hx3 hb3 hxx
  have cv := vnew_any w3 w1.heap.size (w.heap.size + 1)
  unfold baV at cv
  go_wp2_with fail
  refine cv.mono ?_
  rintro e w4 ⟨rfl, hv4, hb4⟩
  clear cv
  have HV4 : Hid (VwAt w4 w3.heap.size w1.heap.size (w.heap.size + 1)) := hv4
  have HB4 : Hid (Below w3.heap.size w3 w4) := hb4
  clear hv4 hb4
  have cr := new_any w4
  unfold ptr at cr
  go_wp2_with fail
  refine cr.mono ?_
  rintro e w5 ⟨rfl, hr5, hb5⟩
  clear cr
  have HR5 : Hid (SetAt w5 (w4.heap.size + 1) w4.heap.size (.slice none 0 0) []) := hr5
  have HB5 : Hid (Below w4.heap.size w4 w5) := hb5
  clear hr5 hb5
  have cu := new_any w5
  unfold ptr at cu
  go_wp2_with fail
  refine cu.mono ?_
  rintro e w6 ⟨rfl, hu6, hb6⟩
  clear cu
  have HU6 : Hid (SetAt w6 (w5.heap.size + 1) w5.heap.size (.slice none 0 0) []) := hu6
  have HB6 : Hid (Below w5.heap.size w5 w6) := hb6
  clear hu6 hb6
  have r7 := heap_alloc_new w6 (.cells #[.int .u32 nx] 28)
  have b7 := bel1 w6 (.cells #[.int .u32 nx] 28)
  obtain ⟨w7, hw7⟩ : ∃ w7, w6.alloc (.cells #[.int .u32 nx] 28) = w7 := ⟨_, rfl⟩
  rw [hw7] at r7 b7
  have HR7 : Hid _ := r7
  have HB7 : Hid _ := b7
  clear r7 b7
  go_wp2_with fail
  have r8 := heap_alloc_new w7 (.cells #[.pointer (some ⟨w3.heap.size, 0, none⟩), .pointer (some ⟨w4.heap.size + 1, 0, none⟩), .pointer (some ⟨w5.heap.size + 1, 0, none⟩), .func (.func 27) #[] #[.pointer (some ⟨w6.heap.size, 0, none⟩)]] 56)
  have b8 := bel1 w7 (.cells #[.pointer (some ⟨w3.heap.size, 0, none⟩), .pointer (some ⟨w4.heap.size + 1, 0, none⟩), .pointer (some ⟨w5.heap.size + 1, 0, none⟩), .func (.func 27) #[] #[.pointer (some ⟨w6.heap.size, 0, none⟩)]] 56)
  have z8 := World.size_alloc w7 (.cells #[.pointer (some ⟨w3.heap.size, 0, none⟩), .pointer (some ⟨w4.heap.size + 1, 0, none⟩), .pointer (some ⟨w5.heap.size + 1, 0, none⟩), .func (.func 27) #[] #[.pointer (some ⟨w6.heap.size, 0, none⟩)]] 56)
  obtain ⟨w8, hw8⟩ : ∃ w8, w7.alloc (.cells #[.pointer (some ⟨w3.heap.size, 0, none⟩), .pointer (some ⟨w4.heap.size + 1, 0, none⟩), .pointer (some ⟨w5.heap.size + 1, 0, none⟩), .func (.func 27) #[] #[.pointer (some ⟨w6.heap.size, 0, none⟩)]] 56) = w8 := ⟨_, rfl⟩
  rw [hw8] at r8 b8 z8 ⊢
  have r9 := heap_alloc_new w8 (.cells #[.pointer (some ⟨w7.heap.size, 0, none⟩), .pointer (some ⟨w.heap.size + 1, 0, none⟩), .pointer (some ⟨x, 0, none⟩), .pointer (some ⟨w1.heap.size, 0, none⟩)] 41)
  have b9 := bel1 w8 (.cells #[.pointer (some ⟨w7.heap.size, 0, none⟩), .pointer (some ⟨w.heap.size + 1, 0, none⟩), .pointer (some ⟨x, 0, none⟩), .pointer (some ⟨w1.heap.size, 0, none⟩)] 41)
  obtain ⟨w9, hw9⟩ : ∃ w9, w8.alloc (.cells #[.pointer (some ⟨w7.heap.size, 0, none⟩), .pointer (some ⟨w.heap.size + 1, 0, none⟩), .pointer (some ⟨x, 0, none⟩), .pointer (some ⟨w1.heap.size, 0, none⟩)] 41) = w9 := ⟨_, rfl⟩
  rw [hw9] at r9 b9 ⊢
  clear hw9 hw8 hw7 hw2
  go_ret
  have hb1 := HB1.out
  have hb2 := HB2.out
  have hb3 := HB3.out
  have hb4 := HB4.out
  have hb5 := HB5.out
  have hb6 := HB6.out
  have hb7 := HB7.out
  have b79 := thenB b8 b9
  have b69 := thenB hb7 b79
  have b59 := thenB hb6 b69
  have b49 := thenB hb5 b59
  have b39 := thenB hb4 b49
  have b29 := thenB hb3 b39
  have b19 := thenB hb2 b29
  have b09 := thenB hb1 b19
  have s1 := hb1.size
  have s2 := hb2.size
  have s3 := hb3.size
  have s4 := hb4.size
  have s5 := hb5.size
  have s6 := hb6.size
  have s7 := hb7.size
  have s8 := b8.size
  have s9 := b9.size
  have l5 := HR5.out.lt
  have l6 := HU6.out.lt
  have l1 := HD1.out.lt
  have l7 := lt_of_row HR7.out
  obtain ⟨x1, x2, x3⟩ := HXX.out
  refine ⟨w8.heap.size, ⟨w7.heap.size, w3.heap.size, w1.heap.size, w.heap.size + 1, w.heap.size, w4.heap.size + 1, w4.heap.size, w5.heap.size + 1, w5.heap.size, w6.heap.size⟩, x, _, rv, q, by rw [z8]; first | done | rfl, r9, ⟨.slice none 0 0, .slice none 0 0, .slice none 0 0, ?_, rfl⟩, ?_, ?_, b09, ?_⟩
  · unfold sg0
    rw [HDD.out]
    refine ⟨(b9.block _ (lt_of_row r8)).trans r8, HV4.out.below b49, ⟨ad, n, cap, HS2.out.below b29, HLB.out⟩, HD1.out.below b19, HR5.out.below b59, HU6.out.below b69, (b79.block _ l7).trans HR7.out, h0, h1, ?_, ?_, ?_, ?_, ?_, ?_, Nat.le_trans hB b09.size⟩
    · dsimp only; omega
    · dsimp only; omega
    · dsimp only; omega
    · dsimp only; omega
    · intro k hk; cases hk
    · intro k hk
      rcases mine_iff.1 hk with e | e | e | e | e | e | e | e | e | e | e
      all_goals first | (dsimp only at e; omega) | (cases e)
  · intro k hk
    rcases mine_iff.1 hk with e | e | e | e | e | e | e | e | e | e | e
    all_goals first | (dsimp only at e; omega) | (cases e)
  · rw [HDD.out]; exact HX3.out.below b39
  · dsimp only; omega

end Go.Proofs.YtjjhfginmamlkaaGreat.L
