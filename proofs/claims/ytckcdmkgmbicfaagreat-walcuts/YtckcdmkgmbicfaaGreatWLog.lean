/- The contract of wal's log: the log that was found. -/
import Derived.Test.YtckcdmkgmbicfaaGreatMW6
namespace Go.Proofs.YtckcdmkgmbicfaaGreat
open Go.RowKit
set_option linter.unusedVariables false
set_option linter.unusedSimpArgs false
set_option maxRecDepth 4000

def tmOf (x : Wm) : Tm := ⟨x.at_, x.blocks, x.ba, x.bc⟩
/-- The blocks that no kept record takes, in the order of the round. -/
def emptyL (N n : Nat) (D : List Nat) : List Sl := ((roundL N n).filter fun b => decide (b ∉ D)).map fun b => ⟨b, 0⟩
def goneL (K : List Wm) : List Sl := K.flatMap fun x => slotsL x.blocks (x.at_ + x.blocks.length)
def logL (N fr T E : Nat) (K : List Wm) : Lo := ⟨(K.drop (firstK fr K)).map tmOf, emptyL N (max fr E) (K.flatMap Wm.blocks) ++ goneL (K.take (firstK fr K)), max fr E, T, false⟩

def emptyN (N n : Nat) (D : List Nat) (i : Nat) : List Sl := (((roundL N n).take i).filter fun b => decide (b ∉ D)).map fun b => ⟨b, 0⟩
theorem emptyN_succ (N n : Nat) (D : List Nat) (i b : Nat) (h : (roundL N n)[i]? = some b) : emptyN N n D (i + 1) = emptyN N n D i ++ (if b ∈ D then [] else [⟨b, 0⟩]) := by
  unfold emptyN
  rw [List.take_add_one, h, List.filter_append, List.map_append]
  by_cases hb : b ∈ D
  · simp [hb]
  · simp [hb]
theorem roundL_len (N n : Nat) : (roundL N n).length = N := by simp [roundL]
theorem emptyN_len (N n : Nat) (D : List Nat) (i : Nat) : (emptyN N n D i).length ≤ N := by
  unfold emptyN
  rw [List.length_map]
  refine Nat.le_trans (List.length_filter_le _ _) ?_
  rw [List.length_take, roundL_len]
  omega
theorem emptyN_all (N n : Nat) (D : List Nat) : emptyN N n D N = emptyL N n D := by
  unfold emptyN emptyL
  rw [List.take_of_length_le (by rw [roundL_len]; exact Nat.le_refl _)]
theorem round_get (N n i : Nat) (hi : i < N) : (roundL N n)[i]? = some ((n % N + i) % N) := by
  unfold roundL
  rw [List.getElem?_map, List.getElem?_range hi]
  rfl

theorem goneL_len (m : Nat) : ∀ (K : List Wm), (∀ x ∈ K, x.blocks.length ≤ 1000) → K.length ≤ m → (goneL K).length ≤ 1000 * m
  | [], _, _ => by simp [goneL]
  | x :: K, h, hm => by
    have h1 := h x (by simp)
    obtain ⟨m', rfl⟩ : ∃ m', m = m' + 1 := ⟨m - 1, by simp at hm; omega⟩
    have h2 := goneL_len m' K (fun y hy => h y (List.mem_cons_of_mem _ hy)) (by simp at hm; omega)
    unfold goneL at *
    rw [List.flatMap_cons, List.length_append]
    have : (slotsL x.blocks (x.at_ + x.blocks.length)).length = x.blocks.length := by simp [slotsL]
    omega
theorem flat2_len (l : List Sl) : (l.flatMap slC).length = l.length * 2 := by
  induction l with
  | nil => rfl
  | cons x l ih => rw [List.flatMap_cons, List.length_append, ih, List.length_cons]; show 2 + _ = _; omega
theorem slC_one {l : List Sl} {u : Value} (h : u ∈ l.flatMap slC) : u.oneCell' = true := by
  obtain ⟨x, _, hx⟩ := List.mem_flatMap.1 h
  simp [slC] at hx
  rcases hx with rfl | rfl <;> rfl

set_option maxHeartbeats 1000000 in
/-- The kept records from the F-th on, as a slice. -/
theorem sliceW (a : Option Addr) (n c F : Nat) (hF : F ≤ n) (hnc : n ≤ c) (hcm : c ≤ maxLen) (ha : a = none → c = 0) (hg : ∀ ad, a = some ad → ∃ g, ad = ⟨g, 0, none⟩) :
    ∃ sv sc, (∀ W, (Instr.sliceAt 86 (.slice a n c) (some (.int .i64 F)) none none).run Tryz.prog W = .ok (.slice sv (n - F) sc) W) ∧ (F < n → ∃ g, a = some ⟨g, 0, none⟩ ∧ sv = some ⟨g, F * 4, none⟩ ∧ n - F ≤ sc ∧ sc ≤ maxLen) := by
  unfold maxLen at *
  cases a with
  | none =>
    have hc := ha rfl
    subst hc
    obtain rfl : n = 0 := by omega
    obtain rfl : F = 0 := by omega
    refine ⟨none, 0, fun W => ?_, fun h => absurd h (by omega)⟩
    go_simp
  | some ad =>
    obtain ⟨g, rfl⟩ := hg ad rfl
    by_cases hcF : c = F
    · subst hcF
      obtain rfl : n = c := by omega
      refine ⟨some ⟨g, 0, none⟩, 0, fun W => ?_, fun h => absurd h (by omega)⟩
      have hI : (n : Int) ≤ n := by omega
      go_simp
    · refine ⟨some ⟨g, F * 4, none⟩, c - F, fun W => ?_, fun _ => ⟨g, rfl, rfl, by omega, by omega⟩⟩
      have hI : (F : Int) ≤ n := by omega
      have hI2 : (n : Int) ≤ c := by omega
      go_simp
      all_goals (intro h; exfalso; omega)

set_option maxRecDepth 100000 in
set_option maxHeartbeats 4000000 in
theorem log_any {base : Nat} {w : World} {p : Nat} {f : Int} {N T E fr : Nat} {av : Value} {aK : Option Addr} {cK : Nat} {K : List Wm} (hav : ∃ b n c, av = .slice b n c) (hW : WsAt base w (.slice aK K.length cK) K) (hbase : base ≤ w.heap.size) (hN0 : 0 < N) (hN : N ≤ 1024) (hK : K.length ≤ 1024)
    (hb : ∀ x ∈ K, x.blocks.length ≤ 1000 ∧ ∀ b ∈ x.blocks, b < N) (hat : ∀ x ∈ K, x.at_ ≤ 4611686018427387904) (hfr : fr ≤ 4611686018427388904) (hE : E ≤ 4611686018427388904) :
    Calls Tryz.prog 35 #[.agg #[.pointer (some ⟨p, 0, none⟩), .int .i64 f, .int .i64 N, av, .int .u64 T, .slice aK K.length cK, .int .u64 E], .int .u64 fr] w fun e w' => ∃ q tv fv, e = .returned (.pointer (some ⟨q, 0, none⟩)) ∧ w.heap.size ≤ q ∧ LoAt base w' q p f N tv fv (logL N fr T E K) ∧ Below w.heap.size w w' := by
  obtain ⟨ab, an, ac, rfl⟩ := hav
  obtain ⟨iS, hiS, hy0, hy1, hy2⟩ := info_parts Tryz.infoSl
  obtain ⟨iT, hiT, ht0, ht1, ht2⟩ := info_parts Tryz.infoTk
  obtain ⟨nx, hnx⟩ : ∃ nx : Nat, max fr E = nx := ⟨_, rfl⟩
  have hnxI : max (fr : Int) (E : Int) = (nx : Int) := by omega
  have hnxb : nx ≤ 4611686018427388904 := by omega
  obtain ⟨D, hD⟩ : ∃ D, K.flatMap Wm.blocks = D := ⟨_, rfl⟩
  obtain ⟨w1, hw1⟩ : ∃ w1, w.alloc (.cells #[.pointer (some ⟨p, 0, none⟩), .int .i64 f, .int .i64 N, .slice ab an ac, .int .u64 T, .slice aK K.length cK, .int .u64 E] 88) = w1 := ⟨_, rfl⟩
  have hB1 : Below w.heap.size w w1 := by rw [← hw1]; exact (Below.refl _ w).alloc (Nat.le_refl _) _
  have hg1 : w1.heap[w.heap.size]? = some (.cells #[.pointer (some ⟨p, 0, none⟩), .int .i64 f, .int .i64 N, .slice ab an ac, .int .u64 T, .slice aK K.length cK, .int .u64 E] 88 (0, 0)) := by rw [← hw1]; exact heap_alloc_new w _
  have hlt1 : w.heap.size < w1.heap.size := (Array.getElem?_eq_some_iff.1 hg1).1
  have q0 : w1.cell? ⟨w.heap.size, 0, none⟩ = some (.pointer (some ⟨p, 0, none⟩)) := by rw [cell_of_row _ _ 0 _ _ (0, 0) hg1]; rfl
  have q1 : w1.cell? ⟨w.heap.size, 1, none⟩ = some (.int .i64 f) := by rw [cell_of_row _ _ 1 _ _ (0, 0) hg1]; rfl
  have q2 : w1.cell? ⟨w.heap.size, 2, none⟩ = some (.int .i64 N) := by rw [cell_of_row _ _ 2 _ _ (0, 0) hg1]; rfl
  have q4 : w1.cell? ⟨w.heap.size, 4, none⟩ = some (.int .u64 T) := by rw [cell_of_row _ _ 4 _ _ (0, 0) hg1]; rfl
  have q6 : w1.cell? ⟨w.heap.size, 6, none⟩ = some (.int .u64 E) := by rw [cell_of_row _ _ 6 _ _ (0, 0) hg1]; rfl
  obtain ⟨w2, hw2⟩ : ∃ w2, w1.alloc (.cells #[.pointer (some ⟨p, 0, none⟩), .int .i64 f, .int .i64 N, .slice none 0 0, .slice none 0 0, .int .u64 nx, .int .u64 T, .bool false] 77) = w2 := ⟨_, rfl⟩
  have hB2 : Below w1.heap.size w1 w2 := by rw [← hw2]; exact (Below.refl _ w1).alloc (Nat.le_refl _) _
  have hg2 : w2.heap[w1.heap.size]? = some (.cells #[.pointer (some ⟨p, 0, none⟩), .int .i64 f, .int .i64 N, .slice none 0 0, .slice none 0 0, .int .u64 nx, .int .u64 T, .bool false] 77 (0, 0)) := by rw [← hw2]; exact heap_alloc_new w1 _
  have hlt2 : w1.heap.size < w2.heap.size := (Array.getElem?_eq_some_iff.1 hg2).1
  have k1 := (hB2.block _ hlt1).trans hg1
  have u2 : w2.cell? ⟨w.heap.size, 2, none⟩ = some (.int .i64 N) := by rw [cell_of_row _ _ 2 _ _ (0, 0) k1]; rfl
  have u5 : w2.cell? ⟨w.heap.size, 5, none⟩ = some (.slice aK K.length cK) := by rw [cell_of_row _ _ 5 _ _ (0, 0) k1]; rfl
  have hB12 := thenB hB1 hB2
  have hW2 := hW.keep hB12.size (fun j _ hj => hB12.block j hj)
  have ch := held_any N hN hW2 (by omega) (fun x hx => ⟨by have := (hb x hx).1; omega, (hb x hx).2⟩)
  rw [hD] at ch
  have HK1 : Hid _ := k1
  have HG2 : Hid _ := hg2
  have HW0 : Hid (WsAt base w (.slice aK K.length cK) K) := hW
  have hsl : ∃ sv sc, (∀ W, (Instr.sliceAt 86 (.slice aK K.length cK) (some (.int .i64 (firstK fr K))) none none).run Tryz.prog W = .ok (.slice sv (K.length - firstK fr K) sc) W) ∧ (firstK fr K < K.length → ∃ g, aK = some ⟨g, 0, none⟩ ∧ sv = some ⟨g, firstK fr K * 4, none⟩ ∧ K.length - firstK fr K ≤ sc ∧ sc ≤ maxLen) := by
    obtain ⟨_, ⟨e, h2⟩ | ⟨g, cap, cur, e, _, _, h5, h6, _⟩⟩ := hW.own
    · simp only [Value.slice.injEq] at e; obtain ⟨rfl, e2, rfl⟩ := e; exact sliceW none K.length 0 _ (firstK_le fr K) (by omega) (by decide) (fun _ => rfl) (fun ad h => by cases h)
    · simp only [Value.slice.injEq, true_and] at e; obtain ⟨rfl, rfl⟩ := e; exact sliceW (some ⟨g, 0, none⟩) K.length cK _ (firstK_le fr K) h5 h6 (fun h => by cases h) (fun ad h => by cases h; exact ⟨g, rfl⟩)
  have hcK : K.length ≤ cK ∧ cK ≤ maxLen := by
    obtain ⟨_, ⟨e, h2⟩ | ⟨g, cap, cur, e, _, _, h5, h6, _⟩⟩ := hW.own
    · simp only [Value.slice.injEq] at e; rw [e.2.2, h2]; exact ⟨Nat.le_refl _, by decide⟩
    · simp only [Value.slice.injEq, true_and] at e; rw [e.2]; exact ⟨h5, h6⟩
  have HL : Hid (logL N fr T E K = ⟨(K.drop (firstK fr K)).map tmOf, emptyL N nx D ++ goneL (K.take (firstK fr K)), nx, T, false⟩) := by unfold Hid logL; rw [hnx, hD]
  generalize logL N fr T E K = LL at *
  clear hg1 hg2 k1 hW2 hW hD hnx
  go_enter Tryz.func35, Tryz.ntmps35
  go_wp2_with fail
  refine ch.mono ?_
  rintro e1 w3 ⟨gh, rfl, hgh, hgw, hB3⟩
  clear ch u2 u5 q0 q1 q2 q4 q6
  have HGH : Hid _ := hgw
  have hlth : gh < w3.heap.size := (Array.getElem?_eq_some_iff.1 hgw).1
  have hs3 := hB3.size
  clear hgw
  have s0 : ∀ j v, (#[.pointer (some ⟨p, 0, none⟩), .int .i64 f, .int .i64 N, .slice ab an ac, .int .u64 T, .slice aK K.length cK, .int .u64 E] : Array Value)[j]? = some v → ∀ W, Below w3.heap.size w3 W → W.cell? ⟨w.heap.size, j, none⟩ = some v := fun j v hv W hW => by
    rw [cell_of_row _ _ j _ _ (0, 0) ((hW.block _ (by omega)).trans ((hB3.block _ (by omega)).trans HK1.out))]; exact hv
  have s00 := s0 0 _ rfl
  have s01 := s0 1 _ rfl
  have s02 := s0 2 _ rfl
  have s15 : ∀ W, Below w3.heap.size w3 W → W.cell? ⟨w1.heap.size, 5, none⟩ = some (.int .u64 nx) := fun W hW => by
    rw [cell_of_row _ _ 5 _ _ (0, 0) ((hW.block _ (by omega)).trans ((hB3.block _ (by omega)).trans HG2.out))]; rfl
  have cr := round_any w3.drew (.agg #[.pointer (some ⟨p, 0, none⟩), .int .i64 f, .int .i64 N]) f N nx hN0 hN (by omega) ⟨_, rfl⟩
  clear s0
  go_wp2_with fail
  refine wp_region_noPanic ?_
  refine wp_region_held_drew (S := fun W => Below w3.heap.size w3 W) (by kernel_rfl) (Below.refl _ _).drew (fun hHeld => ?_)
  refine wpAnyH_take (i := 0) (v := .pointer (some ⟨w.heap.size, 0, none⟩)) rfl (by kernel_rfl) (by kernel_rfl) (by kernel_rfl) (fun _ _ _ h => h) (Or.inl ⟨by rfl, fun W hSw => by (try dsimp only at hSw); go_simp⟩) (by assumption) ?_
  simp only [List.getElem_toArray, List.getElem_cons_zero, List.getElem_cons_succ, Act.put, List.setIfInBounds_toArray, List.set_cons_zero, List.set_cons_succ]
  refine wpAnyH_take (i := 1) (v := .agg #[.pointer (some ⟨p, 0, none⟩), .int .i64 f, .int .i64 N]) rfl (by kernel_rfl) (by kernel_rfl) (by kernel_rfl) (fun _ _ _ h => h) (Or.inl ⟨by rfl, fun W hSw => by (try dsimp only at hSw); go_simp⟩) (by assumption) ?_
  simp only [List.getElem_toArray, List.getElem_cons_zero, List.getElem_cons_succ, Act.put, List.setIfInBounds_toArray, List.set_cons_zero, List.set_cons_succ]
  refine wpAnyH_take (i := 2) (v := .pointer (some ⟨w1.heap.size, 0, none⟩)) rfl (by kernel_rfl) (by kernel_rfl) (by kernel_rfl) (fun _ _ _ h => h) (Or.inl ⟨by rfl, fun W hSw => by (try dsimp only at hSw); go_simp⟩) (by assumption) ?_
  simp only [List.getElem_toArray, List.getElem_cons_zero, List.getElem_cons_succ, Act.put, List.setIfInBounds_toArray, List.set_cons_zero, List.set_cons_succ]
  refine wpAnyH_take (i := 3) (v := .pointer (some ⟨w1.heap.size, 0, none⟩)) rfl (by kernel_rfl) (by kernel_rfl) (by kernel_rfl) (fun _ _ _ h => h) (Or.inl ⟨by rfl, fun W hSw => by (try dsimp only at hSw); go_simp⟩) (by assumption) ?_
  simp only [List.getElem_toArray, List.getElem_cons_zero, List.getElem_cons_succ, Act.put, List.setIfInBounds_toArray, List.set_cons_zero, List.set_cons_succ]
  refine wpAnyH_take (i := 4) (v := .pointer (some ⟨w1.heap.size, 5, none⟩)) rfl (by kernel_rfl) (by kernel_rfl) (by kernel_rfl) (fun _ _ _ h => h) (Or.inl ⟨by rfl, fun W hSw => by (try dsimp only at hSw); go_simp⟩) (by assumption) ?_
  simp only [List.getElem_toArray, List.getElem_cons_zero, List.getElem_cons_succ, Act.put, List.setIfInBounds_toArray, List.set_cons_zero, List.set_cons_succ]
  refine wpAnyH_take (i := 5) (v := .int .u64 nx) rfl (by kernel_rfl) (by kernel_rfl) (by kernel_rfl) (fun _ _ _ h => h) (Or.inl ⟨by rfl, fun W hSw => by (try dsimp only at hSw); go_simp⟩) (by assumption) ?_
  simp only [List.getElem_toArray, List.getElem_cons_zero, List.getElem_cons_succ, Act.put, List.setIfInBounds_toArray, List.set_cons_zero, List.set_cons_succ]
  refine wpAnyH_take (i := 8) (v := .int .i64 0) rfl (by kernel_rfl) (by kernel_rfl) (by kernel_rfl) (fun _ _ _ h => h) (Or.inl ⟨by rfl, fun W hSw => by (try dsimp only at hSw); go_simp⟩) (by assumption) ?_
  simp only [List.getElem_toArray, List.getElem_cons_zero, List.getElem_cons_succ, Act.put, List.setIfInBounds_toArray, List.set_cons_zero, List.set_cons_succ]
  refine wpAnyH_ready (rs := [6]) (by kernel_rfl) (by simp) ?_
  refine AllReadyH.cons rfl (fun K hK => ?_) AllReadyH.nil
  go_simp
  go_wp2_with (go_at_call 66; refine cr.mono ?_; rintro e4 w4 ⟨gr, rfl, hgr, hgrw, hB4⟩)
  refine hK.out _ _ (keep2 (by assumption) (by assumption)) (fun hHeld2 => ?_)
  clear hK K
  refine wpAnyH_take (i := 7) (v := .int .i64 N) rfl (by kernel_rfl) (by kernel_rfl) (by kernel_rfl) (fun _ _ _ h => h) (Or.inl ⟨by rfl, fun W hSw => by (try dsimp only at hSw); go_simp⟩) (by assumption) ?_
  simp only [List.getElem_toArray, List.getElem_cons_zero, List.getElem_cons_succ, Act.put, List.setIfInBounds_toArray, List.set_cons_zero, List.set_cons_succ]
  refine wpAnyH_done (by kernel_rfl) ?_ _
  refine NoPanic.normal ?_
  have hb34 : Below w3.heap.size w3 w4 := hHeld2
  have HGR : Hid _ := hgrw
  have hltr : gr < w4.heap.size := (Array.getElem?_eq_some_iff.1 hgrw).1
  have hs4 := hb34.size
  have hb14 : Below w1.heap.size w1 w4 := hB2.trans ((hB3.trans (hb34.mono (by omega))).mono (by omega))
  have hb04 : Below w.heap.size w w4 := thenB hB12 (thenB hB3 hb34)
  have hgr3 : w3.heap.size ≤ gr := hgr
  clear s00 s01 s02 s15 cr hgrw hgr
  go_wp2
  go_loopw [8, 38] (fun _ t wr => ∃ (i : Nat) (aF : Option Addr) (cF : Nat), i ≤ N ∧ t = .int .i64 i ∧
      Hid (wr.heap[w1.heap.size]? = some (.cells #[.pointer (some ⟨p, 0, none⟩), .int .i64 f, .int .i64 N, .slice none 0 0, .slice aF (emptyN N nx D i).length cF, .int .u64 nx, .int .u64 T, .bool false] 77 (0, 0))) ∧
      Hid (wr.ownsRow w4.heap.size 84 2 (.slice aF (emptyN N nx D i).length cF) (emptyN N nx D i).length ((emptyN N nx D i).flatMap slC)) ∧ Sole [w1.heap.size] w4 wr) (fun _ t _ => N - (RowKit.intOf t).toNat)
  case atStart =>
    exact ⟨0, none, 0, Nat.zero_le _, rfl, (hb34.block _ (by omega)).trans ((hB3.block _ (by omega)).trans HG2.out), World.ownsRow_nil _ _ _ _, Sole.refl _ _⟩
  case round =>
    obtain ⟨i, aF, cF, hi, rfl, HG, HO, hSr⟩ := hrel
    have hsr := hSr.size
    have hne0 := emptyN_len N nx D i
    by_cases hil : i < N
    · have hiI : (i : Int) < N := by omega
      obtain ⟨B, hB⟩ : ∃ B, (nx % N + i) % N = B := ⟨_, rfl⟩
      have hBN : B < N := by rw [← hB]; exact Nat.mod_lt _ hN0
      have hBI : (B : Int) < N := by omega
      have HR : Hid ((roundL N nx)[i]? = some B) := by unfold Hid; rw [round_get N nx i hil, hB]
      have HE1 := emptyN_succ N nx D i B HR.out
      have hgr1 := (hSr.block gr hltr (by simp; omega)).trans HGR.out
      have hgh1 := (hSr.block gh (by omega) (by simp; omega)).trans ((hb34.block gh (by omega)).trans HGH.out)
      have cr : wr.cell? ⟨gr, i, none⟩ = some (.int .i64 B) := by
        rw [cell_of_row _ _ i _ _ (0, 0) hgr1, List.getElem?_toArray]
        unfold blkC
        rw [List.getElem?_map, HR.out]; rfl
      have ch : wr.cell? ⟨gh, B, none⟩ = some (.bool (decide (B ∈ D))) := by
        rw [cell_of_row _ _ B _ _ (0, 0) hgh1, List.getElem?_toArray]
        unfold boolC
        rw [List.getElem?_map, List.getElem?_range hBN]; rfl
      clear hgr1 hgh1 hB
      generalize hEm : emptyN N nx D i = Em at *
      by_cases hm : B ∈ D
      · rw [if_pos hm, List.append_nil] at HE1
        rw [decide_eq_true hm] at ch
        have HEE : Hid (emptyN N nx D (i + 1) = Em) := HE1
        clear hm HE1 hEm
        go_wp2
        go_roundw
        case rel => exact ⟨i + 1, aF, cF, by omega, by go_num, by rw [HEE.out]; exact HG, by rw [HEE.out]; exact HO, hSr⟩
        case measure => simp [RowKit.intOf]; omega
      · rw [if_neg hm] at HE1
        rw [decide_eq_false hm] at ch
        have HEE : Hid (emptyN N nx D (i + 1) = Em ++ [(⟨B, 0⟩ : Sl)]) := HE1
        clear hm HE1 hEm
        have c4 : wr.cell? ⟨w1.heap.size, 4, none⟩ = some (.slice aF Em.length cF) := by rw [cell_of_row _ _ 4 _ _ (0, 0) HG.out]; rfl
        obtain ⟨X2, hX2⟩ : ∃ X2, wr.alloc (.cells #[.int .i64 (B : Int), .int .u64 0] 84) = X2 := ⟨_, rfl⟩
        have hBX2 : Below wr.heap.size wr X2 := by rw [← hX2]; exact (Below.refl _ wr).alloc (Nat.le_refl _) _
        have hgX2 : X2.heap[wr.heap.size]? = some (.cells #[.int .i64 (B : Int), .int .u64 0] 84 (0, 0)) := by rw [← hX2]; exact heap_alloc_new wr _
        have hO2 := own_keep HO.out hBX2.size (fun q _ hl => hBX2.block q hl)
        have hG2 := (hBX2.block w1.heap.size (by omega)).trans HG.out
        have hsX2 := hBX2.size
        have hne : ∀ q, (Value.slice aF Em.length cF).ownBlock = some q → w4.heap.size ≤ q := fun q hq => (World.ownsRow.lt hO2 q hq).1
        have HN : ∀ X3, X2.grownBy X3 (Value.slice aF Em.length cF).ownBlock → X3.heap[w1.heap.size]? = some (.cells (#[.pointer (some ⟨p, 0, none⟩), .int .i64 f, .int .i64 N, .slice none 0 0, .slice aF Em.length cF, .int .u64 nx, .int .u64 T, .bool false] : Array Value) 77 (0, 0)) := fun X3 hg => (hg.block w1.heap.size (by omega) (fun e => by have := hne _ e.symm; omega)).trans hG2
        go_wp2_with (at_builtin; refine wpList_append_own_at X2 rfl _ _ 75 rfl w4.heap.size 84 iS _ 2 16 Tryz.underlying75 hiS hy0 hy1 hy2 rfl (by decide) _ Em.length (Em.flatMap slC) rfl hO2 ⟨wr.heap.size, 0, none⟩ 1 1 (slC ⟨B, 0⟩) rfl rfl (rowAdd hgX2) (by simp [slC, Value.oneCell']) (by unfold maxLen; omega) (by omega) (by omega) ?_; intro v3 X3 hown3 hg3 _ hat3; obtain ⟨a3, c3, rfl⟩ := own_shape hown3; have hG3 := HN X3 hg3; have c43 : X3.cell? ⟨w1.heap.size, 4, none⟩ = some (.slice aF Em.length cF) := by { rw [cell_of_row _ _ 4 _ _ (0, 0) hG3]; rfl }; have f43 := frozen_of_row X3 w1.heap.size 4 _ _ hG3)
        have hs3' := hg3.size
        have hG4 := heap_setCell_same X3 w1.heap.size 4 _ _ (.slice a3 (Em.length + 1) c3) hG3
        simp only [List.setIfInBounds_toArray, List.set_cons_zero, List.set_cons_succ] at hG4
        have hS23 : Sole (Value.slice aF Em.length cF).ownBlock.toList X2 X3 := ⟨hg3.os, hg3.tape, hg3.output, hg3.size, fun j hj hn => hg3.block j hj (fun e => hn (by rw [Option.mem_toList]; exact e.symm))⟩
        have hS3 : Sole [w1.heap.size] w4 X3 := (hSr.trans (Sole.of_below hBX2 _)).after hS23 (fun k hk => .inr (by rw [Option.mem_toList] at hk; exact hne k hk))
        obtain ⟨X4, hX4⟩ : ∃ X4, X3.setCell ⟨w1.heap.size, 4, none⟩ (.slice a3 (Em.length + 1) c3) = X4 := ⟨_, rfl⟩
        have hS34 : Sole [w1.heap.size] X3 X4 := by rw [← hX4]; exact Sole.setCell _ _ (by simp)
        rw [hX4] at hG4
        have HG4 : Hid _ := hG4
        have HO4 : Hid (X4.ownsRow w4.heap.size 84 2 (.slice a3 (Em.length + 1) c3) (Em.length + 1) ((Em ++ [(⟨B, 0⟩ : Sl)]).flatMap slC)) := by
          unfold Hid
          rw [List.flatMap_append]
          simp only [List.flatMap_cons, List.flatMap_nil, List.append_nil]
          exact own_keep hown3 hS34.size (fun q hq hl => hS34.block q hl (by have := (World.ownsRow.lt hown3 q hq).1; simp; omega))
        clear hG2 hG3 hG4 hown3 hg3 hat3 hO2 hgX2 HN c4 c43 f43
        go_wp2
        go_roundw
        case rel => rw [hX4]; exact ⟨i + 1, a3, c3, by omega, by go_num, by rw [HEE.out, List.length_append]; exact HG4, by rw [HEE.out, List.length_append]; exact HO4, hS3.trans hS34⟩
        case measure => simp [RowKit.intOf]; omega
    · obtain rfl : i = N := by omega
      rw [emptyN_all] at HG HO
      have hEl : (emptyL i nx D).length ≤ 1024 := by have := emptyN_len i nx D i; rw [emptyN_all] at this; omega
      generalize hEm : emptyL i nx D = Em at *
      clear hEm
      have hbf : ∀ j v, (#[.pointer (some ⟨p, 0, none⟩), .int .i64 f, .int .i64 i, .slice ab an ac, .int .u64 T, .slice aK K.length cK, .int .u64 E] : Array Value)[j]? = some v → wr.cell? ⟨w.heap.size, j, none⟩ = some v := fun j v hv => by
        rw [cell_of_row _ _ j _ _ (0, 0) ((hSr.block _ (by omega) (by simp; omega)).trans ((hb34.block _ (by omega)).trans ((hB3.block _ (by omega)).trans HK1.out)))]; exact hv
      have v0 := hbf 0 _ rfl
      have v1 := hbf 1 _ rfl
      have v2 := hbf 2 _ rfl
      have v3 := hbf 3 _ rfl
      have v4 := hbf 4 _ rfl
      have v5 := hbf 5 _ rfl
      have v6 := hbf 6 _ rfl
      have hb0r : Below w.heap.size w wr := Sole.belowOf hb04 hSr hb04.size (fun k hk => by simp only [List.mem_singleton] at hk; omega)
      have cf := firstFrom_any (p := some ⟨p, 0, none⟩) (f := f) (N := i) (T := T) (E := E) (fr := fr) (av := .slice ab an ac) ⟨_, _, _, rfl⟩ (HW0.out.keep hb0r.size (fun j _ hj => hb0r.block j hj)) (by omega)
      have hFl := firstK_le fr K
      generalize hFe : firstK fr K = F at *
      clear hFe hbf
      go_wp2_with fail
      refine cf.mono ?_
      rintro e5 Y1 ⟨rfl, hbY1⟩
      clear cf v0 v1 v2 v3 v4 v6
      have hsY := hbY1.size
      have v5' : Y1.cell? ⟨w.heap.size, 5, none⟩ = some (.slice aK K.length cK) := (hbY1.cell (p := ⟨w.heap.size, 5, none⟩) (show w.heap.size < wr.heap.size from by omega)).trans v5
      have HGY : Hid _ := (hbY1.block w1.heap.size (by omega)).trans HG.out
      have HOY : Hid _ := own_keep HO.out hbY1.size (fun q _ hl => hbY1.block q hl)
      have hb0Y : Below w.heap.size w Y1 := hb0r.trans (hbY1.mono (by omega))
      have hFI : (F : Int) ≤ K.length := by omega
      have hFc : F ≤ cK := by omega
      clear HG HO v5
      go_wp2
      clear v5'
      go_loopw [11, 67] (fun _ t wq => ∃ (j : Nat) (aG : Option Addr) (cG : Nat), j ≤ F ∧ t = .int .i64 j ∧
          Hid (wq.heap[w1.heap.size]? = some (.cells #[.pointer (some ⟨p, 0, none⟩), .int .i64 f, .int .i64 i, .slice none 0 0, .slice aG (Em ++ goneL (K.take j)).length cG, .int .u64 nx, .int .u64 T, .bool false] 77 (0, 0))) ∧
          Hid (wq.ownsRow w4.heap.size 84 2 (.slice aG (Em ++ goneL (K.take j)).length cG) (Em ++ goneL (K.take j)).length ((Em ++ goneL (K.take j)).flatMap slC)) ∧ Sole [w1.heap.size] w4 wq) (fun _ t _ => F - (RowKit.intOf t).toNat)
      case atStart =>
        refine ⟨0, aF, cF, Nat.zero_le _, rfl, ?_, ?_, hSr.trans (Sole.of_below hbY1 _)⟩
        · rw [show Em ++ goneL (K.take 0) = Em from by simp [goneL]]; exact HGY
        · rw [show Em ++ goneL (K.take 0) = Em from by simp [goneL]]; exact HOY
      case round =>
        obtain ⟨j, aG, cG, hj, rfl, HG, HO, hSq⟩ := hrel
        have hsq := hSq.size
        have hb0q : Below w.heap.size w wr := Sole.belowOf hb04 hSq hb04.size (fun k hk => by simp only [List.mem_singleton] at hk; omega)
        have hgl : (goneL (K.take j)).length ≤ 1000 * j := goneL_len _ _ (fun x hx => (hb x (List.mem_of_mem_take hx)).1) (by rw [List.length_take]; omega)
        by_cases hjl : j < F
        · have hjI : (j : Int) < F := by omega
          have hWq := HW0.out.keep hb0q.size (fun k _ hk => hb0q.block k hk)
          obtain ⟨g, cap, hv, hcl, hcm, hgb, hgl2, hcell⟩ := hWq.cell (by omega)
          simp only [Value.slice.injEq, true_and] at hv
          obtain ⟨rfl, rfl⟩ := hv
          obtain ⟨x, hx⟩ : ∃ x, K[j]? = some x := ⟨_, List.getElem?_eq_getElem (by omega)⟩
          have hxm : x ∈ K := List.mem_of_getElem? hx
          have hxb := hb x hxm
          have hxa := hat x hxm
          have c0 : wr.cell? ⟨g, j * 4, none⟩ = some (.int .u64 x.at_) := hcell j x hx 0 _ rfl
          have c1 : wr.cell? ⟨g, j * 4 + 1, none⟩ = some (.slice x.ba x.blocks.length x.bc) := hcell j x hx 1 _ rfl
          have c2 : wr.cell? ⟨g, j * 4 + 2, none⟩ = some (.slice x.ga x.group.length x.gc) := hcell j x hx 2 _ rfl
          have c3 : wr.cell? ⟨g, j * 4 + 3, none⟩ = some (.bool x.begins) := hcell j x hx 3 _ rfl
          have HT1 : Hid (Em ++ goneL (K.take (j + 1)) = (Em ++ goneL (K.take j)) ++ slotsL x.blocks (x.at_ + x.blocks.length)) := by
            unfold Hid goneL; rw [List.take_add_one, hx, List.flatMap_append]; simp
          have hln : (Em ++ goneL (K.take j)).length ≤ 1026048 := by rw [List.length_append]; omega
          generalize hGn : Em ++ goneL (K.take j) = Gn at *
          obtain ⟨Z1, hZ1⟩ : ∃ Z1, wr.alloc (.cells #[.int .u64 x.at_, .slice x.ba x.blocks.length x.bc, .slice x.ga x.group.length x.gc, .bool x.begins] 126) = Z1 := ⟨_, rfl⟩
          have hBZ1 : Below wr.heap.size wr Z1 := by rw [← hZ1]; exact (Below.refl _ wr).alloc (Nat.le_refl _) _
          have hgZ1 : Z1.heap[wr.heap.size]? = some (.cells #[.int .u64 x.at_, .slice x.ba x.blocks.length x.bc, .slice x.ga x.group.length x.gc, .bool x.begins] 126 (0, 0)) := by rw [← hZ1]; exact heap_alloc_new wr _
          have hltZ : wr.heap.size < Z1.heap.size := (Array.getElem?_eq_some_iff.1 hgZ1).1
          clear hcell hWq hGn
          go_wp2_with fail
          clear c0 c1 c2 c3
          have hOZ := own_keep HO.out hBZ1.size (fun q _ hl => hBZ1.block q hl)
          have hGZ := (hBZ1.block w1.heap.size (by omega)).trans HG.out
          have hne : ∀ q, (Value.slice aG Gn.length cG).ownBlock = some q → w4.heap.size ≤ q ∧ q < wr.heap.size := fun q hq => World.ownsRow.lt HO.out q hq
          obtain ⟨RB, HRB⟩ : ∃ RB : List Nat, Hid (RB = (Value.slice aG Gn.length cG).ownBlock.toList) := ⟨_, rfl⟩
          have hRB : ∀ k ∈ RB, w4.heap.size ≤ k ∧ k < wr.heap.size := fun k hk => by rw [HRB.out, Option.mem_toList] at hk; exact hne k hk
          have p4 : ∀ W, Sole RB Z1 W → W.cell? ⟨w1.heap.size, 4, none⟩ = some (.slice aG Gn.length cG) := fun W hW => by
            rw [cell_of_row _ _ 4 _ _ (0, 0) ((hW.block _ (by omega) (fun e => by have := hRB _ e; omega)).trans hGZ)]; rfl
          have p0 : ∀ W, Sole RB Z1 W → W.cell? ⟨wr.heap.size, 0, none⟩ = some (.int .u64 x.at_) := fun W hW => by
            rw [cell_of_row _ _ 0 _ _ (0, 0) ((hW.block _ (by omega) (fun e => by have := hRB _ e; omega)).trans hgZ1)]; rfl
          have p1 : ∀ W, Sole RB Z1 W → W.cell? ⟨wr.heap.size, 1, none⟩ = some (.slice x.ba x.blocks.length x.bc) := fun W hW => by
            rw [cell_of_row _ _ 1 _ _ (0, 0) ((hW.block _ (by omega) (fun e => by have := hRB _ e; omega)).trans hgZ1)]; rfl
          have hb0Z : Below w.heap.size w Z1.drew := (hb0q.trans (hBZ1.mono (by omega))).drew
          have cs := slotsOf_any Z1.drew x.at_ x.blocks x.ba x.bc (own_keep (HW0.out.each x hxm).b hb0Z.size (fun q _ hl => hb0Z.block q hl)) (by omega) (by omega)
          refine wp_region_noPanic ?_
          refine wp_region_sink 11 (S := fun W => Sole RB Z1 W) (by kernel_rfl) (by kernel_rfl) (Sole.drew _ _) (fun hHeld => ?_)
          refine wpAnyH_take (i := 0) (v := .pointer (some ⟨w1.heap.size, 0, none⟩)) rfl (by kernel_rfl) (by kernel_rfl) (by kernel_rfl) (fun _ _ _ h => h) (Or.inl ⟨by rfl, fun W hSw => by (try dsimp only at hSw); go_simp⟩) (by assumption) ?_
          simp only [List.getElem_toArray, List.getElem_cons_zero, List.getElem_cons_succ, Act.put, List.setIfInBounds_toArray, List.set_cons_zero, List.set_cons_succ]
          refine wpAnyH_take (i := 1) (v := .pointer (some ⟨w1.heap.size, 0, none⟩)) rfl (by kernel_rfl) (by kernel_rfl) (by kernel_rfl) (fun _ _ _ h => h) (Or.inl ⟨by rfl, fun W hSw => by (try dsimp only at hSw); go_simp⟩) (by assumption) ?_
          simp only [List.getElem_toArray, List.getElem_cons_zero, List.getElem_cons_succ, Act.put, List.setIfInBounds_toArray, List.set_cons_zero, List.set_cons_succ]
          refine wpAnyH_take (i := 2) (v := .pointer (some ⟨w1.heap.size, 0, none⟩)) rfl (by kernel_rfl) (by kernel_rfl) (by kernel_rfl) (fun _ _ _ h => h) (Or.inl ⟨by rfl, fun W hSw => by (try dsimp only at hSw); go_simp⟩) (by assumption) ?_
          simp only [List.getElem_toArray, List.getElem_cons_zero, List.getElem_cons_succ, Act.put, List.setIfInBounds_toArray, List.set_cons_zero, List.set_cons_succ]
          refine wpAnyH_take (i := 3) (v := .pointer (some ⟨w1.heap.size, 4, none⟩)) rfl (by kernel_rfl) (by kernel_rfl) (by kernel_rfl) (fun _ _ _ h => h) (Or.inl ⟨by rfl, fun W hSw => by (try dsimp only at hSw); go_simp⟩) (by assumption) ?_
          simp only [List.getElem_toArray, List.getElem_cons_zero, List.getElem_cons_succ, Act.put, List.setIfInBounds_toArray, List.set_cons_zero, List.set_cons_succ]
          refine wpAnyH_take (i := 4) (v := .slice aG Gn.length cG) rfl (by kernel_rfl) (by kernel_rfl) (by kernel_rfl) (fun _ _ _ h => h) (Or.inl ⟨by rfl, fun W hSw => by (try dsimp only at hSw); go_simp⟩) (by assumption) ?_
          simp only [List.getElem_toArray, List.getElem_cons_zero, List.getElem_cons_succ, Act.put, List.setIfInBounds_toArray, List.set_cons_zero, List.set_cons_succ]
          refine wpAnyH_take (i := 5) (v := .pointer (some ⟨wr.heap.size, 0, none⟩)) rfl (by kernel_rfl) (by kernel_rfl) (by kernel_rfl) (fun _ _ _ h => h) (Or.inl ⟨by rfl, fun W hSw => by (try dsimp only at hSw); go_simp⟩) (by assumption) ?_
          simp only [List.getElem_toArray, List.getElem_cons_zero, List.getElem_cons_succ, Act.put, List.setIfInBounds_toArray, List.set_cons_zero, List.set_cons_succ]
          refine wpAnyH_take (i := 6) (v := .agg #[.int .u64 x.at_, .slice x.ba x.blocks.length x.bc]) rfl (by kernel_rfl) (by kernel_rfl) (by kernel_rfl) (fun _ _ _ h => h) (Or.inl ⟨by rfl, fun W hSw => by (try dsimp only at hSw); go_simp⟩) (by assumption) ?_
          simp only [List.getElem_toArray, List.getElem_cons_zero, List.getElem_cons_succ, Act.put, List.setIfInBounds_toArray, List.set_cons_zero, List.set_cons_succ]
          refine wpAnyH_ready (rs := [7]) (by kernel_rfl) (by simp) ?_
          refine AllReadyH.cons rfl (fun K hK => ?_) AllReadyH.nil
          go_simp
          go_wp2_with (go_at_call 50; refine cs.mono ?_; rintro e6 Z2 ⟨gs, rfl, hgs, hgsw, hB2'⟩)
          refine hK.out _ _ (keepS (by assumption) (by assumption)) (fun hHeld2 => ?_)
          clear hK K
          have hsl : (slotsL x.blocks (x.at_ + x.blocks.length)).length = x.blocks.length := by simp [slotsL]
          have hZ12 : Below Z1.heap.size Z1 Z2 := thenB (Below.refl _ Z1).drew hB2'
          have hO2 := own_keep hOZ hZ12.size (fun q _ hl => hZ12.block q hl)
          have hs12' := hZ12.size
          refine wpAnyH_ready (rs := [8]) (by kernel_rfl) (by simp) ?_
          refine AllReadyH.cons rfl (fun K' hK' => ?_) AllReadyH.nil
          rw [if_pos (by rfl)]
          obtain ⟨v3, Z3, hrun, h3o, h3g, _, h3a⟩ := run_append_own_at (P := Tryz.prog) Z2 w4.heap.size 75 75 84 iS _ 2 16 Tryz.underlying75 hiS hy0 hy1 hy2 rfl (by decide) (.slice aG Gn.length cG) Gn.length (Gn.flatMap slC) hO2 ⟨gs, 0, none⟩ x.blocks.length x.blocks.length ((slotsL x.blocks (x.at_ + x.blocks.length)).flatMap slC) (by rw [flat2_len, hsl]) (rowAdd hgsw) (fun u hu => slC_one hu) (by unfold maxLen; omega) (by omega) (by omega)
          obtain ⟨a3, c3, rfl⟩ := own_shape h3o
          refine wp_app _ _ 75 rfl _ _ rfl rfl hrun ?_
          have hS23 : Sole RB Z2 Z3 := ⟨h3g.os, h3g.tape, h3g.output, h3g.size, fun k hk hn => h3g.block k hk (fun e => hn (by rw [HRB.out, Option.mem_toList]; exact e.symm))⟩
          have hS13 : Sole RB Z1 Z3 := hHeld2.trans hS23
          refine hK'.out _ _ hS13 (fun hHeld4 => ?_)
          clear hK' K'
          simp only [List.getElem_toArray, List.getElem_cons_zero, List.getElem_cons_succ, Act.put, List.setIfInBounds_toArray, List.set_cons_zero, List.set_cons_succ]
          refine wpAnyH_take (i := 9) (v := .pointer (some ⟨w1.heap.size, 0, none⟩)) rfl (by kernel_rfl) (by kernel_rfl) (by kernel_rfl) (fun _ _ _ h => h) (Or.inl ⟨by rfl, fun W hSw => by (try dsimp only at hSw); go_simp⟩) (by assumption) ?_
          simp only [List.getElem_toArray, List.getElem_cons_zero, List.getElem_cons_succ, Act.put, List.setIfInBounds_toArray, List.set_cons_zero, List.set_cons_succ]
          refine wpAnyH_take (i := 10) (v := .pointer (some ⟨w1.heap.size, 4, none⟩)) rfl (by kernel_rfl) (by kernel_rfl) (by kernel_rfl) (fun _ _ _ h => h) (Or.inl ⟨by rfl, fun W hSw => by (try dsimp only at hSw); go_simp⟩) (by assumption) ?_
          simp only [List.getElem_toArray, List.getElem_cons_zero, List.getElem_cons_succ, Act.put, List.setIfInBounds_toArray, List.set_cons_zero, List.set_cons_succ]
          have hG3 := (hS13.block w1.heap.size (by omega) (fun e => by have := hRB _ e; omega)).trans hGZ
          have x34 := p4 Z3 hS13
          have f34 := frozen_of_row Z3 w1.heap.size 4 _ _ hG3
          have hG4 := heap_setCell_same Z3 w1.heap.size 4 _ _ (.slice a3 (Gn.length + x.blocks.length) c3) hG3
          simp only [List.setIfInBounds_toArray, List.set_cons_zero, List.set_cons_succ] at hG4
          obtain ⟨Z4, hZ4⟩ : ∃ Z4, Z3.setCell ⟨w1.heap.size, 4, none⟩ (.slice a3 (Gn.length + x.blocks.length) c3) = Z4 := ⟨_, rfl⟩
          have hS34 : Sole [w1.heap.size] Z3 Z4 := by rw [← hZ4]; exact Sole.setCell _ _ (by simp)
          rw [hZ4] at hG4
          have HG4 : Hid _ := hG4
          have HO4 : Hid (Z4.ownsRow w4.heap.size 84 2 (.slice a3 (Gn.length + x.blocks.length) c3) (Gn.length + x.blocks.length) ((Gn ++ slotsL x.blocks (x.at_ + x.blocks.length)).flatMap slC)) := by
            unfold Hid
            rw [List.flatMap_append]
            exact own_keep h3o hS34.size (fun q hq hl => hS34.block q hl (by have := (World.ownsRow.lt h3o q hq).1; simp; omega))
          have hS4 : Sole [w1.heap.size] w4 Z4 := ((hSq.trans (Sole.of_below hBZ1 _)).after hS13 (fun k hk => .inr (by have := hRB k hk; omega))).trans hS34
          have HLn : Hid ((slotsL x.blocks (x.at_ + x.blocks.length)).length = x.blocks.length) := hsl
          clear hsl
          refine wpAnyH_done (by kernel_rfl) ?_ _
          refine Behind.run (by rfl) ?_
          go_simp
          go_wp2
          refine NoPanic.normal ?_
          clear p0 p1 p4 hG3 hG4 x34 f34 hrun h3o h3g h3a hO2 hOZ hGZ hgZ1 cs
          go_wp2
          go_roundw
          case rel => exact ⟨j + 1, a3, c3, by omega, by go_num, by rw [HT1.out, List.length_append, HLn.out]; exact HG4, by rw [HT1.out, List.length_append, HLn.out]; exact HO4, hS4⟩
          case measure => simp [RowKit.intOf]; omega
        · obtain rfl : j = F := by omega
          obtain ⟨sv, sc, hsl1, hsl2⟩ := hsl
          have v5q : wr.cell? ⟨w.heap.size, 5, none⟩ = some (.slice aK K.length cK) := by
            rw [cell_of_row _ _ 5 _ _ (0, 0) ((hSq.block _ (by omega) (by simp; omega)).trans ((hb34.block _ (by omega)).trans ((hB3.block _ (by omega)).trans HK1.out)))]; rfl
          have HFG : Hid (wr.heap[w1.heap.size]? = _) := HG
          generalize hGn : Em ++ goneL (K.take j) = Gn at *
          clear hGn
          go_wp2
          clear v5q hsl1
          go_loopw [13, 88] (fun _ t wq => ∃ (k : Nat) (aT : Option Addr) (cT : Nat), k ≤ K.length - j ∧ t = .int .i64 k ∧
              Hid (wq.heap[w1.heap.size]? = some (.cells #[.pointer (some ⟨p, 0, none⟩), .int .i64 f, .int .i64 i, .slice aT k cT, .slice aG Gn.length cG, .int .u64 nx, .int .u64 T, .bool false] 77 (0, 0))) ∧
              Hid (wq.ownsRow w4.heap.size 84 2 (.slice aG Gn.length cG) Gn.length (Gn.flatMap slC)) ∧ Hid (wq.ownsRow w4.heap.size 94 2 (.slice aT k cT) k ((((K.drop j).take k).map tmOf).flatMap tmC)) ∧ Sole [w1.heap.size] w4 wq) (fun _ t _ => K.length - j - (RowKit.intOf t).toNat)
          case atStart => exact ⟨0, none, 0, Nat.zero_le _, rfl, HG, HO, World.ownsRow_nil _ _ _ _, hSq⟩
          case round =>
            clear HG HO hSq hsq hb0q HFG
            obtain ⟨k, aT, cT, hk, rfl, HG, HO, HT, hSq⟩ := hrel
            have hsq := hSq.size
            have hb0q : Below w.heap.size w wr := Sole.belowOf hb04 hSq hb04.size (fun k hk => by simp only [List.mem_singleton] at hk; omega)
            by_cases hkl : k < K.length - j
            · have hkI : (k : Int) < ((K.length - j : Nat) : Int) := by omega
              obtain ⟨g, rfl, rfl, hsc, hscm⟩ := hsl2 (by omega)
              have hWq := HW0.out.keep hb0q.size (fun k _ hk => hb0q.block k hk)
              obtain ⟨g', cap, hv, hcl, hcm, hgb, hgl2, hcell⟩ := hWq.cell (by omega)
              simp only [Value.slice.injEq, true_and, Option.some.injEq, Addr.mk.injEq, and_true] at hv
              obtain ⟨rfl, rfl⟩ := hv
              obtain ⟨x, hx⟩ : ∃ x, K[j + k]? = some x := ⟨_, List.getElem?_eq_getElem (by omega)⟩
              have hxm : x ∈ K := List.mem_of_getElem? hx
              have c0 : wr.cell? ⟨g, j * 4 + k * 4, none⟩ = some (.int .u64 x.at_) := by have := hcell (j + k) x hx 0 _ rfl; rw [show j * 4 + k * 4 = (j + k) * 4 + 0 from by omega]; exact this
              have c1 : wr.cell? ⟨g, j * 4 + k * 4 + 1, none⟩ = some (.slice x.ba x.blocks.length x.bc) := by have := hcell (j + k) x hx 1 _ rfl; rw [show j * 4 + k * 4 + 1 = (j + k) * 4 + 1 from by omega]; exact this
              have c2 : wr.cell? ⟨g, j * 4 + k * 4 + 2, none⟩ = some (.slice x.ga x.group.length x.gc) := by have := hcell (j + k) x hx 2 _ rfl; rw [show j * 4 + k * 4 + 2 = (j + k) * 4 + 2 from by omega]; exact this
              have c3 : wr.cell? ⟨g, j * 4 + k * 4 + 3, none⟩ = some (.bool x.begins) := by have := hcell (j + k) x hx 3 _ rfl; rw [show j * 4 + k * 4 + 3 = (j + k) * 4 + 3 from by omega]; exact this
              have HT1 : Hid ((((K.drop j).take (k + 1)).map tmOf).flatMap tmC = (((K.drop j).take k).map tmOf).flatMap tmC ++ [.int .u64 x.at_, .slice x.ba x.blocks.length x.bc]) := by
                unfold Hid
                rw [List.take_add_one, List.getElem?_drop, hx, List.map_append, List.flatMap_append]
                simp [tmOf, tmC, Tm.bv]
              obtain ⟨Z1, hZ1⟩ : ∃ Z1, wr.alloc (.cells #[.int .u64 x.at_, .slice x.ba x.blocks.length x.bc, .slice x.ga x.group.length x.gc, .bool x.begins] 126) = Z1 := ⟨_, rfl⟩
              have hBZ1 : Below wr.heap.size wr Z1 := by rw [← hZ1]; exact (Below.refl _ wr).alloc (Nat.le_refl _) _
              have hgZ1 : Z1.heap[wr.heap.size]? = some (.cells #[.int .u64 x.at_, .slice x.ba x.blocks.length x.bc, .slice x.ga x.group.length x.gc, .bool x.begins] 126 (0, 0)) := by rw [← hZ1]; exact heap_alloc_new wr _
              have hltZ : wr.heap.size < Z1.heap.size := (Array.getElem?_eq_some_iff.1 hgZ1).1
              clear hcell hWq
              go_wp2_with fail
              clear c0 c1 c2 c3
              have hTZ := own_keep HT.out hBZ1.size (fun q _ hl => hBZ1.block q hl)
              have hOZ := own_keep HO.out hBZ1.size (fun q _ hl => hBZ1.block q hl)
              have hGZ := (hBZ1.block w1.heap.size (by omega)).trans HG.out
              have hne : ∀ q, (Value.slice aT k cT).ownBlock = some q → w4.heap.size ≤ q ∧ q < wr.heap.size := fun q hq => World.ownsRow.lt HT.out q hq
              obtain ⟨RB, HRB⟩ : ∃ RB : List Nat, Hid (RB = (Value.slice aT k cT).ownBlock.toList) := ⟨_, rfl⟩
              have hRB : ∀ k ∈ RB, w4.heap.size ≤ k ∧ k < wr.heap.size := fun k hk => by rw [HRB.out, Option.mem_toList] at hk; exact hne k hk
              have p3 : ∀ W, Sole RB Z1 W → W.cell? ⟨w1.heap.size, 3, none⟩ = some (.slice aT k cT) := fun W hW => by
                rw [cell_of_row _ _ 3 _ _ (0, 0) ((hW.block _ (by omega) (fun e => by have := hRB _ e; omega)).trans hGZ)]; rfl
              have p0 : ∀ W, Sole RB Z1 W → W.cell? ⟨wr.heap.size, 0, none⟩ = some (.int .u64 x.at_) := fun W hW => by
                rw [cell_of_row _ _ 0 _ _ (0, 0) ((hW.block _ (by omega) (fun e => by have := hRB _ e; omega)).trans hgZ1)]; rfl
              have p1 : ∀ W, Sole RB Z1 W → W.cell? ⟨wr.heap.size, 1, none⟩ = some (.slice x.ba x.blocks.length x.bc) := fun W hW => by
                rw [cell_of_row _ _ 1 _ _ (0, 0) ((hW.block _ (by omega) (fun e => by have := hRB _ e; omega)).trans hgZ1)]; rfl
              refine wp_region_noPanic ?_
              refine wp_region_sink 11 (S := fun W => Sole RB Z1 W) (by kernel_rfl) (by kernel_rfl) (Sole.drew _ _) (fun hHeld => ?_)
              refine wpAnyH_take (i := 0) (v := .pointer (some ⟨w1.heap.size, 0, none⟩)) rfl (by kernel_rfl) (by kernel_rfl) (by kernel_rfl) (fun _ _ _ h => h) (Or.inl ⟨by rfl, fun W hSw => by (try dsimp only at hSw); go_simp⟩) (by assumption) ?_
              simp only [List.getElem_toArray, List.getElem_cons_zero, List.getElem_cons_succ, Act.put, List.setIfInBounds_toArray, List.set_cons_zero, List.set_cons_succ]
              refine wpAnyH_take (i := 1) (v := .pointer (some ⟨w1.heap.size, 0, none⟩)) rfl (by kernel_rfl) (by kernel_rfl) (by kernel_rfl) (fun _ _ _ h => h) (Or.inl ⟨by rfl, fun W hSw => by (try dsimp only at hSw); go_simp⟩) (by assumption) ?_
              simp only [List.getElem_toArray, List.getElem_cons_zero, List.getElem_cons_succ, Act.put, List.setIfInBounds_toArray, List.set_cons_zero, List.set_cons_succ]
              refine wpAnyH_take (i := 2) (v := .pointer (some ⟨w1.heap.size, 0, none⟩)) rfl (by kernel_rfl) (by kernel_rfl) (by kernel_rfl) (fun _ _ _ h => h) (Or.inl ⟨by rfl, fun W hSw => by (try dsimp only at hSw); go_simp⟩) (by assumption) ?_
              simp only [List.getElem_toArray, List.getElem_cons_zero, List.getElem_cons_succ, Act.put, List.setIfInBounds_toArray, List.set_cons_zero, List.set_cons_succ]
              refine wpAnyH_take (i := 3) (v := .pointer (some ⟨w1.heap.size, 3, none⟩)) rfl (by kernel_rfl) (by kernel_rfl) (by kernel_rfl) (fun _ _ _ h => h) (Or.inl ⟨by rfl, fun W hSw => by (try dsimp only at hSw); go_simp⟩) (by assumption) ?_
              simp only [List.getElem_toArray, List.getElem_cons_zero, List.getElem_cons_succ, Act.put, List.setIfInBounds_toArray, List.set_cons_zero, List.set_cons_succ]
              refine wpAnyH_take (i := 4) (v := .slice aT k cT) rfl (by kernel_rfl) (by kernel_rfl) (by kernel_rfl) (fun _ _ _ h => h) (Or.inl ⟨by rfl, fun W hSw => by (try dsimp only at hSw); go_simp⟩) (by assumption) ?_
              simp only [List.getElem_toArray, List.getElem_cons_zero, List.getElem_cons_succ, Act.put, List.setIfInBounds_toArray, List.set_cons_zero, List.set_cons_succ]
              refine wpAnyH_take (i := 5) (v := .pointer (some ⟨wr.heap.size, 0, none⟩)) rfl (by kernel_rfl) (by kernel_rfl) (by kernel_rfl) (fun _ _ _ h => h) (Or.inl ⟨by rfl, fun W hSw => by (try dsimp only at hSw); go_simp⟩) (by assumption) ?_
              simp only [List.getElem_toArray, List.getElem_cons_zero, List.getElem_cons_succ, Act.put, List.setIfInBounds_toArray, List.set_cons_zero, List.set_cons_succ]
              refine wpAnyH_take (i := 6) (v := .agg #[.int .u64 x.at_, .slice x.ba x.blocks.length x.bc]) rfl (by kernel_rfl) (by kernel_rfl) (by kernel_rfl) (fun _ _ _ h => h) (Or.inl ⟨by rfl, fun W hSw => by (try dsimp only at hSw); go_simp⟩) (by assumption) ?_
              simp only [List.getElem_toArray, List.getElem_cons_zero, List.getElem_cons_succ, Act.put, List.setIfInBounds_toArray, List.set_cons_zero, List.set_cons_succ]
              refine wpAnyH_ready (rs := [7]) (by kernel_rfl) (by simp) ?_
              refine AllReadyH.cons rfl (fun K hK => ?_) AllReadyH.nil
              go_simp
              go_wp2
              refine hK.out _ _ (keepSA (by assumption) _) (fun hHeld2 => ?_)
              clear hK K
              obtain ⟨Z2, hZ2⟩ : ∃ Z2, (Z1.alloc (.cells #[.int .u64 x.at_, .slice x.ba x.blocks.length x.bc] 94)).drew = Z2 := ⟨_, rfl⟩
              have hnew : Z2.heap[Z1.heap.size]? = some (.cells #[.int .u64 x.at_, .slice x.ba x.blocks.length x.bc] 94 (0, 0)) := by rw [← hZ2]; exact heap_alloc_new Z1 _
              have hZ12 : Below Z1.heap.size Z1 Z2 := by rw [← hZ2]; exact ((Below.refl _ Z1).alloc (Nat.le_refl _) _).drew
              rw [hZ2] at hHeld2 ⊢
              have hT2 := own_keep hTZ hZ12.size (fun q _ hl => hZ12.block q hl)
              have hs12' := hZ12.size
              refine wpAnyH_ready (rs := [8]) (by kernel_rfl) (by simp) ?_
              refine AllReadyH.cons rfl (fun K' hK' => ?_) AllReadyH.nil
              rw [if_pos (by rfl)]
              obtain ⟨v3, Z3, hrun, h3o, h3g, _, h3a⟩ := run_append_own_at (P := Tryz.prog) Z2 w4.heap.size 74 74 94 iT _ 2 32 Tryz.underlying74 hiT ht0 ht1 ht2 rfl (by decide) (.slice aT k cT) k ((((K.drop j).take k).map tmOf).flatMap tmC) hT2 ⟨Z1.heap.size, 0, none⟩ 1 1 [.int .u64 x.at_, .slice x.ba x.blocks.length x.bc] rfl (rowAdd hnew) (by simp [Value.oneCell']) (by unfold maxLen; omega) (by omega) (by omega)
              obtain ⟨a3, c3, rfl⟩ := own_shape h3o
              refine wp_app _ _ 74 rfl _ _ rfl rfl hrun ?_
              have hS23 : Sole RB Z2 Z3 := ⟨h3g.os, h3g.tape, h3g.output, h3g.size, fun k hk hn => h3g.block k hk (fun e => hn (by rw [HRB.out, Option.mem_toList]; exact e.symm))⟩
              have hS13 : Sole RB Z1 Z3 := hHeld2.trans hS23
              refine hK'.out _ _ hS13 (fun hHeld4 => ?_)
              clear hK' K'
              simp only [List.getElem_toArray, List.getElem_cons_zero, List.getElem_cons_succ, Act.put, List.setIfInBounds_toArray, List.set_cons_zero, List.set_cons_succ]
              refine wpAnyH_take (i := 9) (v := .pointer (some ⟨w1.heap.size, 0, none⟩)) rfl (by kernel_rfl) (by kernel_rfl) (by kernel_rfl) (fun _ _ _ h => h) (Or.inl ⟨by rfl, fun W hSw => by (try dsimp only at hSw); go_simp⟩) (by assumption) ?_
              simp only [List.getElem_toArray, List.getElem_cons_zero, List.getElem_cons_succ, Act.put, List.setIfInBounds_toArray, List.set_cons_zero, List.set_cons_succ]
              refine wpAnyH_take (i := 10) (v := .pointer (some ⟨w1.heap.size, 3, none⟩)) rfl (by kernel_rfl) (by kernel_rfl) (by kernel_rfl) (fun _ _ _ h => h) (Or.inl ⟨by rfl, fun W hSw => by (try dsimp only at hSw); go_simp⟩) (by assumption) ?_
              simp only [List.getElem_toArray, List.getElem_cons_zero, List.getElem_cons_succ, Act.put, List.setIfInBounds_toArray, List.set_cons_zero, List.set_cons_succ]
              have hG3 := (hS13.block w1.heap.size (by omega) (fun e => by have := hRB _ e; omega)).trans hGZ
              have x33 := p3 Z3 hS13
              have f33 := frozen_of_row Z3 w1.heap.size 3 _ _ hG3
              have hG4 := heap_setCell_same Z3 w1.heap.size 3 _ _ (.slice a3 (k + 1) c3) hG3
              simp only [List.setIfInBounds_toArray, List.set_cons_zero, List.set_cons_succ] at hG4
              obtain ⟨Z4, hZ4⟩ : ∃ Z4, Z3.setCell ⟨w1.heap.size, 3, none⟩ (.slice a3 (k + 1) c3) = Z4 := ⟨_, rfl⟩
              have hS34 : Sole [w1.heap.size] Z3 Z4 := by rw [← hZ4]; exact Sole.setCell _ _ (by simp)
              rw [hZ4] at hG4
              have HG4 : Hid _ := hG4
              have HT4 : Hid (Z4.ownsRow w4.heap.size 94 2 (.slice a3 (k + 1) c3) (k + 1) ((((K.drop j).take (k + 1)).map tmOf).flatMap tmC)) := by
                unfold Hid
                rw [HT1.out]
                exact own_keep h3o hS34.size (fun q hq hl => hS34.block q hl (by have := (World.ownsRow.lt h3o q hq).1; simp; omega))
              have hs13 := hS13.size
              have HO4 : Hid (Z4.ownsRow w4.heap.size 84 2 (.slice aG Gn.length cG) Gn.length (Gn.flatMap slC)) := by
                refine own_keep (own_keep hOZ hS13.size (fun q hq hl => hS13.block q hl (fun e => ?_))) hS34.size (fun q hq hl => hS34.block q hl (by have := (World.ownsRow.lt hOZ q hq).1; simp; omega))
                rw [HRB.out, Option.mem_toList] at e
                exact types_apart (by decide) hOZ hTZ q hq e
              have hS4 : Sole [w1.heap.size] w4 Z4 := ((hSq.trans (Sole.of_below hBZ1 _)).after hS13 (fun k hk => .inr (by have := hRB k hk; omega))).trans hS34
              refine wpAnyH_done (by kernel_rfl) ?_ _
              refine Behind.run (by rfl) ?_
              go_simp
              go_wp2
              refine NoPanic.normal ?_
              clear p0 p1 p3 hG3 hG4 x33 f33 hrun h3o h3g h3a hT2 hTZ hOZ hGZ hgZ1
              go_wp2
              go_roundw
              case rel => exact ⟨k + 1, a3, c3, by omega, by go_num, HG4, HO4, HT4, hS4⟩
              case measure => simp [RowKit.intOf]; omega
            · obtain rfl : k = K.length - j := by omega
              have hdr : (K.drop j).take (K.length - j) = K.drop j := List.take_of_length_le (by rw [List.length_drop]; exact Nat.le_refl _)
              rw [hdr] at HT
              have hLo : LoAt base wr w1.heap.size p f i (.slice aT (K.length - j) cT) (.slice aG Gn.length cG) LL := by
                rw [HL.out]
                refine ⟨HG.out, ?_, own_mono HO.out (by omega), fun y hy => ?_⟩
                · have hl : ((K.drop j).map tmOf).length = K.length - j := by simp
                  show wr.ownsRow base _ 2 _ ((K.drop j).map tmOf).length _
                  rw [hl]
                  exact own_mono HT.out (by omega)
                · obtain ⟨z, hz, rfl⟩ := List.mem_map.1 hy
                  exact own_keep (HW0.out.each z (List.mem_of_mem_drop hz)).b hb0q.size (fun q _ hl => hb0q.block q hl)
              go_wp2
              go_ret
              exact ⟨_, _, _, rfl, by omega, hLo, hb0q⟩

end Go.Proofs.YtckcdmkgmbicfaaGreat
