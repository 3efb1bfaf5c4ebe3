/- DgSame, DgBoth: in one text. -/
import Derived.Test.YtmifpeocgikbeabDgPut
import Derived.Test.YtmifpeocgikbeabDlBk
namespace Go.Proofs.Ytmifpeocgikbeab
open Go.RowKit
set_option linter.unusedVariables false
set_option linter.unusedSimpArgs false
set_option maxRecDepth 4000

set_option maxRecDepth 100000

theorem range_load {W : World} {g off : Nat} {c : Cg} (h : W.rangeAt g off (cgL c)) (hk : CgOk c) : (Instr.loadAt 37 (.pointer (some ⟨g, off, none⟩))).run Try.prog W = .ok (.agg (cgC c)) W :=
  run_loadAt_mid (P := Try.prog) W g off 37 _ _ h Try.underlying37 rfl (by rw [cgL_len hk.pt.ch.1]; exact size_cg)

/-- What a round of same reads: the one row from i on, the other one. -/
structure SmS (w W : World) (ga gb : Nat) (L : List Cg) (i : Nat) : Prop where
  b : RowG W gb L
  a : ∀ j, i ≤ j → j < L.length → W.rangeAt ga (j * 46) (cgL (L.getD j cg0))
  r : ∃ cs, W.heap[ga]? = some (.cells cs 37 (0, 0))
  bel : Below w.heap.size w W
theorem SmS.lt {w W : World} {ga gb : Nat} {L : List Cg} {i : Nat} (h : SmS w W ga gb L i) : ga < W.heap.size := by obtain ⟨cs, e⟩ := h.r; exact (Array.getElem?_eq_some_iff.1 e).1
theorem SmS.below {w W W' : World} {ga gb : Nat} {L : List Cg} {i : Nat} (h : SmS w W ga gb L i) (hb : Below W.heap.size W W') : SmS w W' ga gb L i :=
  ⟨h.b.below hb, fun j h1 h2 k u hu => (World.cell?_of_block (hb.block ga h.lt)).trans (h.a j h1 h2 k u hu), by obtain ⟨cs, e⟩ := h.r; exact ⟨cs, (hb.block ga h.lt).trans e⟩, h.bel.trans (hb.mono h.bel.size)⟩
theorem SmS.step {w W : World} {ga gb : Nat} {L : List Cg} {i : Nat} (h : SmS w W ga gb L i) (hne : gb ≠ ga) (hle : w.heap.size ≤ ga) (v : Value) : SmS w (W.setCell ⟨ga, i * 46 + 4, none⟩ v) ga gb L (i + 1) := by
  obtain ⟨cs, e⟩ := h.r
  refine ⟨⟨fun j hj k u hu => (World.cell?_of_block (heap_setCell_other W ⟨ga, i * 46 + 4, none⟩ gb v hne)).trans (h.b.at_ j hj k u hu), ?_⟩, fun j h1 h2 k u hu => ?_, ⟨_, heap_setCell_same W ga (i * 46 + 4) cs _ v e⟩, h.bel.setCell hle v⟩
  · have := h.b.lt; simpa using this
  · have hadr : (⟨ga, i * 46 + 4, none⟩ : Addr) ≠ ⟨ga, j * 46 + k, none⟩ := fun e => by
      simp only [Addr.mk.injEq, true_and, and_true] at e
      have : (i + 1) * 46 ≤ j * 46 := Nat.mul_le_mul_right 46 h1
      omega
    refine Eq.trans ?_ (h.a j (by omega) h2 k u hu)
    exact World.cell?_setCell_other _ _ _ _ hadr

set_option maxHeartbeats 8000000 in
theorem dsame_any {B : Nat} {w0 w : World} {p b q : Nat} {v : Value} {M : Int} {xs : List Cg} {s : Dl} (hD : DlN B w0 w p b s) (hX : XdAt w q v M xs) (hr : Rel s xs) (hm : xs.length ≤ 1000) (hmL : s.L.length ≤ 1000) : Calls Try.prog 13 #[.pointer (some ⟨p, 0, none⟩), .pointer (some ⟨q, 0, none⟩)] w fun e w' =>
    e = .returned (.bool true) ∧ Below w.heap.size w w' := by
  have hz := zeroCg
  have len0 : cg0.pt.bytes.length = 32 := cg0_ok.pt.ch.1
  have hsok : DlOk s := by obtain ⟨v, hd, _⟩ := hD.d; exact hd.ok
  have ca := hD.all hmL
  have hlen := hr.len
  go_enter Try.func13, Try.ntmps13
  go_wp2_with fail
  refine ca.mono ?_
  rintro e w1 ⟨u1, rfl, ho1, hb1⟩
  clear ca
  have cb := xall_any (hX.below hb1) hr hsok hm hmL
  obtain ⟨a1, c1, rfl⟩ := own_shape ho1
  go_wp2_with fail
  refine cb.mono ?_
  rintro e w2 ⟨u2, rfl, ho2, hb2⟩
  clear cb
  obtain ⟨a2, c2, rfl⟩ := own_shape ho2
  have HX2 : Hid (XdAt w2 q v M xs) := (hX.below hb1).below hb2
  have hB2 : Below w.heap.size w w2 := thenB hb1 hb2
  obtain ⟨a3, c3, rfl⟩ := hX.shape
  obtain ⟨N, hN⟩ : ∃ N, xs.length = N := ⟨_, rfl⟩
  have cc : ∀ W, Below w2.heap.size w2 W → Calls Try.prog 15 #[.pointer (some ⟨p, 0, none⟩)] W fun e w' => e = .returned (.int .i64 s.L.length) ∧ w' = W := fun W hW => (hD.below (thenB hB2 hW)).count
  have cm : ∀ W, Below w2.heap.size w2 W → Calls Try.prog 20 #[.pointer (some ⟨p, 0, none⟩)] W fun e w' => e = .returned (.int .i64 N) ∧ w' = W := fun W hW => by
    have := (hD.below (thenB hB2 hW)).mark
    rw [← hlen, hN] at this
    exact this
  rw [hN] at HX2
  have q3 : ∀ W, Below w2.heap.size w2 W → W.cell? ⟨q, 0, none⟩ = some (.slice a3 N c3) := fun W hW => (HX2.out.below hW).c0
  have hrA := row_of hsok.L.ok ho1
  have hrB := row_of hsok.L.ok ho2
  have HRA : Hid (0 < s.L.length → ∃ ga gb, a1 = some ⟨ga, 0, none⟩ ∧ a2 = some ⟨gb, 0, none⟩ ∧ gb ≠ ga ∧ w.heap.size ≤ ga ∧ SmS w w2 ga gb s.L 0) := fun hp => by
    obtain ⟨x1, y1, e1, z1⟩ := hrA
    obtain ⟨x2, y2, e2, z2⟩ := hrB
    simp only [Value.slice.injEq] at e1 e2
    obtain ⟨ga, ea, hga, hla, ⟨cs, ecs, _⟩⟩ := z1 hp
    obtain ⟨gb, eb, hgb, hlb, _⟩ := z2 hp
    have hga2 := hga.below hb2
    refine ⟨ga, gb, e1.1.trans ea, e2.1.trans eb, by have := hga.lt; omega, hla, ⟨hgb, fun j _ hj => hga2.at_ j hj, ⟨cs, (hb2.block ga hga.lt).trans ecs⟩, hB2⟩⟩
  have hcap : s.L.length ≤ c1 ∧ s.L.length ≤ c2 := by
    constructor
    · obtain ⟨_, ⟨h2, h3⟩ | ⟨g, cap, cur, e1, _, _, h5, h6, _⟩⟩ := ho1
      · omega
      · simp only [Value.slice.injEq, true_and] at e1; obtain ⟨_, rfl⟩ := e1; exact h5
    · obtain ⟨_, ⟨h2, h3⟩ | ⟨g, cap, cur, e1, _, _, h5, h6, _⟩⟩ := ho2
      · omega
      · simp only [Value.slice.injEq, true_and] at e1; obtain ⟨_, rfl⟩ := e1; exact h5
  obtain ⟨n, hn⟩ : ∃ n, s.L.length = n := ⟨_, rfl⟩
  have HNL : Hid (s.L.length = n) := hn
  rw [hn] at hcap HRA cc hmL
  rw [hn]
  obtain ⟨hcap1, hcap2⟩ := hcap
  have HD : Hid (DlN B w0 w p b s) := hD
  clear hn hN hrA hrB ho1 ho2 hlen hD hX hb1 hb2
  go_wp2_with fail
  refine wp_region_noPanic ?_
  refine wp_region_held_drew (S := fun W => Below w2.heap.size w2 W) (by kernel_rfl) (Below.refl _ _).drew (fun hHeld => ?_)
  refine wpAnyH_take (i := 0) (v := .slice a1 n c1) rfl (by kernel_rfl) (by kernel_rfl) (by kernel_rfl) (fun _ _ _ h => h) (Or.inl ⟨by rfl, fun W hSw => by (try dsimp only at hSw); go_simp⟩) (by assumption) ?_
  try simp only [List.getElem_toArray, List.getElem_cons_zero, List.getElem_cons_succ, Act.put, List.setIfInBounds_toArray, List.set_cons_zero, List.set_cons_succ]
  refine wpAnyH_take (i := 1) (v := .int .i64 n) rfl (by kernel_rfl) (by kernel_rfl) (by kernel_rfl) (fun _ _ _ h => h) (Or.inl ⟨by rfl, fun W hSw => by (try dsimp only at hSw); go_simp⟩) (by assumption) ?_
  try simp only [List.getElem_toArray, List.getElem_cons_zero, List.getElem_cons_succ, Act.put, List.setIfInBounds_toArray, List.set_cons_zero, List.set_cons_succ]
  refine wpAnyH_take (i := 2) (v := .slice a2 n c2) rfl (by kernel_rfl) (by kernel_rfl) (by kernel_rfl) (fun _ _ _ h => h) (Or.inl ⟨by rfl, fun W hSw => by (try dsimp only at hSw); go_simp⟩) (by assumption) ?_
  try simp only [List.getElem_toArray, List.getElem_cons_zero, List.getElem_cons_succ, Act.put, List.setIfInBounds_toArray, List.set_cons_zero, List.set_cons_succ]
  refine wpAnyH_take (i := 3) (v := .int .i64 n) rfl (by kernel_rfl) (by kernel_rfl) (by kernel_rfl) (fun _ _ _ h => h) (Or.inl ⟨by rfl, fun W hSw => by (try dsimp only at hSw); go_simp⟩) (by assumption) ?_
  try simp only [List.getElem_toArray, List.getElem_cons_zero, List.getElem_cons_succ, Act.put, List.setIfInBounds_toArray, List.set_cons_zero, List.set_cons_succ]
  refine wpAnyH_take (i := 4) (v := .bool false) rfl (by kernel_rfl) (by kernel_rfl) (by kernel_rfl) (fun _ _ _ h => h) (Or.inl ⟨by rfl, fun W hSw => by (try dsimp only at hSw); go_simp⟩) (by assumption) ?_
  try simp only [List.getElem_toArray, List.getElem_cons_zero, List.getElem_cons_succ, Act.put, List.setIfInBounds_toArray, List.set_cons_zero, List.set_cons_succ]
  refine wpAnyH_take (i := 5) (v := .bool false) rfl (by kernel_rfl) (by kernel_rfl) (by kernel_rfl) (fun _ _ _ h => h) (Or.inl ⟨by rfl, fun W hSw => by (try dsimp only at hSw); go_simp⟩) (by assumption) ?_
  try simp only [List.getElem_toArray, List.getElem_cons_zero, List.getElem_cons_succ, Act.put, List.setIfInBounds_toArray, List.set_cons_zero, List.set_cons_succ]
  refine wpAnyH_take (i := 6) (v := .pointer (some ⟨p, 0, none⟩)) rfl (by kernel_rfl) (by kernel_rfl) (by kernel_rfl) (fun _ _ _ h => h) (Or.inl ⟨by rfl, fun W hSw => by (try dsimp only at hSw); go_simp⟩) (by assumption) ?_
  try simp only [List.getElem_toArray, List.getElem_cons_zero, List.getElem_cons_succ, Act.put, List.setIfInBounds_toArray, List.set_cons_zero, List.set_cons_succ]
  refine wpAnyH_take (i := 8) (v := .slice a2 n c2) rfl (by kernel_rfl) (by kernel_rfl) (by kernel_rfl) (fun _ _ _ h => h) (Or.inl ⟨by rfl, fun W hSw => by (try dsimp only at hSw); go_simp⟩) (by assumption) ?_
  try simp only [List.getElem_toArray, List.getElem_cons_zero, List.getElem_cons_succ, Act.put, List.setIfInBounds_toArray, List.set_cons_zero, List.set_cons_succ]
  refine wpAnyH_take (i := 9) (v := .int .i64 n) rfl (by kernel_rfl) (by kernel_rfl) (by kernel_rfl) (fun _ _ _ h => h) (Or.inl ⟨by rfl, fun W hSw => by (try dsimp only at hSw); go_simp⟩) (by assumption) ?_
  try simp only [List.getElem_toArray, List.getElem_cons_zero, List.getElem_cons_succ, Act.put, List.setIfInBounds_toArray, List.set_cons_zero, List.set_cons_succ]
  refine wpAnyH_ready (rs := [7]) (by kernel_rfl) (by simp) ?_
  refine AllReadyH.cons rfl (fun K hK => ?_) AllReadyH.nil
  go_simp
  go_wp2_with (go_at_call 15; refine (cc _ (by assumption)).mono ?_; rintro e w5 ⟨rfl, rfl⟩)
  refine hK.out _ _ (by assumption) (fun hHeld2 => ?_)
  clear hK K
  try simp only [List.getElem_toArray, List.getElem_cons_zero, List.getElem_cons_succ, Act.put, List.setIfInBounds_toArray, List.set_cons_zero, List.set_cons_succ]
  refine wpAnyH_take (i := 10) (v := .bool false) rfl (by kernel_rfl) (by kernel_rfl) (by kernel_rfl) (fun _ _ _ h => h) (Or.inl ⟨by rfl, fun W hSw => by (try dsimp only at hSw); go_simp⟩) (by assumption) ?_
  try simp only [List.getElem_toArray, List.getElem_cons_zero, List.getElem_cons_succ, Act.put, List.setIfInBounds_toArray, List.set_cons_zero, List.set_cons_succ]
  refine wpAnyH_take (i := 11) (v := .bool false) rfl (by kernel_rfl) (by kernel_rfl) (by kernel_rfl) (fun _ _ _ h => h) (Or.inl ⟨by rfl, fun W hSw => by (try dsimp only at hSw); go_simp⟩) (by assumption) ?_
  try simp only [List.getElem_toArray, List.getElem_cons_zero, List.getElem_cons_succ, Act.put, List.setIfInBounds_toArray, List.set_cons_zero, List.set_cons_succ]
  refine wpAnyH_take (i := 12) (v := .bool false) rfl (by kernel_rfl) (by kernel_rfl) (by kernel_rfl) (fun _ _ _ h => h) (Or.inl ⟨by rfl, fun W hSw => by (try dsimp only at hSw); go_simp⟩) (by assumption) ?_
  try simp only [List.getElem_toArray, List.getElem_cons_zero, List.getElem_cons_succ, Act.put, List.setIfInBounds_toArray, List.set_cons_zero, List.set_cons_succ]
  refine wpAnyH_take (i := 13) (v := .pointer (some ⟨p, 0, none⟩)) rfl (by kernel_rfl) (by kernel_rfl) (by kernel_rfl) (fun _ _ _ h => h) (Or.inl ⟨by rfl, fun W hSw => by (try dsimp only at hSw); go_simp⟩) (by assumption) ?_
  try simp only [List.getElem_toArray, List.getElem_cons_zero, List.getElem_cons_succ, Act.put, List.setIfInBounds_toArray, List.set_cons_zero, List.set_cons_succ]
  refine wpAnyH_take (i := 15) (v := .pointer (some ⟨q, 0, none⟩)) rfl (by kernel_rfl) (by kernel_rfl) (by kernel_rfl) (fun _ _ _ h => h) (Or.inl ⟨by rfl, fun W hSw => by (try dsimp only at hSw); go_simp⟩) (by assumption) ?_
  try simp only [List.getElem_toArray, List.getElem_cons_zero, List.getElem_cons_succ, Act.put, List.setIfInBounds_toArray, List.set_cons_zero, List.set_cons_succ]
  refine wpAnyH_take (i := 16) (v := .pointer (some ⟨q, 0, none⟩)) rfl (by kernel_rfl) (by kernel_rfl) (by kernel_rfl) (fun _ _ _ h => h) (Or.inl ⟨by rfl, fun W hSw => by (try dsimp only at hSw); go_simp⟩) (by assumption) ?_
  try simp only [List.getElem_toArray, List.getElem_cons_zero, List.getElem_cons_succ, Act.put, List.setIfInBounds_toArray, List.set_cons_zero, List.set_cons_succ]
  refine wpAnyH_take (i := 17) (v := .pointer (some ⟨q, 0, none⟩)) rfl (by kernel_rfl) (by kernel_rfl) (by kernel_rfl) (fun _ _ _ h => h) (Or.inl ⟨by rfl, fun W hSw => by (try dsimp only at hSw); go_simp⟩) (by assumption) ?_
  try simp only [List.getElem_toArray, List.getElem_cons_zero, List.getElem_cons_succ, Act.put, List.setIfInBounds_toArray, List.set_cons_zero, List.set_cons_succ]
  refine wpAnyH_take (i := 18) (v := .slice a3 N c3) rfl (by kernel_rfl) (by kernel_rfl) (by kernel_rfl) (fun _ _ _ h => h) (Or.inl ⟨by rfl, fun W hSw => by (try dsimp only at hSw); (have z := q3 W hSw; go_simp)⟩) (by assumption) ?_
  try simp only [List.getElem_toArray, List.getElem_cons_zero, List.getElem_cons_succ, Act.put, List.setIfInBounds_toArray, List.set_cons_zero, List.set_cons_succ]
  refine wpAnyH_take (i := 19) (v := .int .i64 N) rfl (by kernel_rfl) (by kernel_rfl) (by kernel_rfl) (fun _ _ _ h => h) (Or.inl ⟨by rfl, fun W hSw => by (try dsimp only at hSw); go_simp⟩) (by assumption) ?_
  try simp only [List.getElem_toArray, List.getElem_cons_zero, List.getElem_cons_succ, Act.put, List.setIfInBounds_toArray, List.set_cons_zero, List.set_cons_succ]
  refine wpAnyH_ready (rs := [14]) (by kernel_rfl) (by simp) ?_
  refine AllReadyH.cons rfl (fun K hK => ?_) AllReadyH.nil
  go_simp
  go_wp2_with (go_at_call 20; refine (cm _ (by assumption)).mono ?_; rintro e w6 ⟨rfl, rfl⟩)
  refine hK.out _ _ (by assumption) (fun hHeld3 => ?_)
  clear hK K
  try simp only [List.getElem_toArray, List.getElem_cons_zero, List.getElem_cons_succ, Act.put, List.setIfInBounds_toArray, List.set_cons_zero, List.set_cons_succ]
  refine wpAnyH_take (i := 20) (v := .bool false) rfl (by kernel_rfl) (by kernel_rfl) (by kernel_rfl) (fun _ _ _ h => h) (Or.inl ⟨by rfl, fun W hSw => by (try dsimp only at hSw); go_simp⟩) (by assumption) ?_
  try simp only [List.getElem_toArray, List.getElem_cons_zero, List.getElem_cons_succ, Act.put, List.setIfInBounds_toArray, List.set_cons_zero, List.set_cons_succ]
  refine wpAnyH_take (i := 21) (v := .bool false) rfl (by kernel_rfl) (by kernel_rfl) (by kernel_rfl) (fun _ _ _ h => h) (Or.inl ⟨by rfl, fun W hSw => by (try dsimp only at hSw); go_simp⟩) (by assumption) ?_
  try simp only [List.getElem_toArray, List.getElem_cons_zero, List.getElem_cons_succ, Act.put, List.setIfInBounds_toArray, List.set_cons_zero, List.set_cons_succ]
  refine wpAnyH_done (by kernel_rfl) ?_ _
  refine NoPanic.normal ?_
  have HB3 : Hid (Below w2.heap.size w2 w2.drew) := (Below.refl _ _).drew
  obtain ⟨w3, hw3⟩ : ∃ w3, w2.drew = w3 := ⟨_, rfl⟩
  rw [hw3] at HB3
  rw [hw3]
  clear hHeld hHeld2 hHeld3 hw3 cc cm q3
  go_wp2_with fail
  go_loopw [7, 8, 9, 38] (fun _ _ _ t wr => ∃ (i : Nat), i ≤ n ∧ t = .int .i64 i ∧ Hid (Below w.heap.size w wr) ∧ Hid (i < n → ∀ ga gb, a1 = some ⟨ga, 0, none⟩ → a2 = some ⟨gb, 0, none⟩ → SmS w wr ga gb s.L i)) (fun _ _ _ t _ => n - (intOf t).toNat)
  case atStart => exact ⟨0, Nat.zero_le _, rfl, thenB hB2 HB3.out, fun hp ga gb e1 e2 => by
    obtain ⟨ga', gb', f1, f2, _, _, hS⟩ := HRA.out hp
    rw [e1] at f1; rw [e2] at f2
    cases f1; cases f2
    exact hS.below HB3.out⟩
  case round =>
    obtain ⟨i, hi, rfl, HB, HS⟩ := hrel
    by_cases hil : i < n
    · have hilI : (i : Int) < n := by omega
      obtain ⟨ga, gb, rfl, rfl, hne, hle, _⟩ := HRA.out (by omega)
      have hS := HS.out hil ga gb rfl rfl
      have hiL : i < s.L.length := by rw [HNL.out]; exact hil
      have hmem := getD_mem hiL
      have hyok := hsok.L.ok _ hmem
      have hwas : wasX s (s.L.getD i cg0).pl = s.L.getD i cg0 := by unfold wasX; rw [(getL_some hsok.L.rise).2 ⟨hmem, rfl⟩]; rfl
      have his : isX s (s.L.getD i cg0).pl = true := by unfold isX; rw [(getL_some hsok.L.rise).2 ⟨hmem, rfl⟩]; rfl
      have hldp : Hid ((Instr.loadAt 25 (.pointer (some ⟨gb, i * 46, none⟩))).run Try.prog wr = .ok (plV (s.L.getD i cg0).pl) wr) := hS.b.loadP hiL
      have cg := (HD.out.below HB.out).get (s.L.getD i cg0).pl hyok.pl
      rw [hwas, his] at cg
      have hlA : Hid (∀ W, SmS w W ga gb s.L i → W.rangeAt ga (i * 46) (cgL (s.L.getD i cg0))) := fun W h => h.a i (Nat.le_refl _) hiL
      have hlB : Hid (∀ W, SmS w W ga gb s.L i → (Instr.loadAt 37 (.pointer (some ⟨gb, i * 46, none⟩))).run Try.prog W = .ok (.agg (cgC (s.L.getD i cg0))) W) := fun W h => h.b.load hiL hyok
      obtain ⟨y, hy⟩ : ∃ y, s.L.getD i cg0 = y := ⟨_, rfl⟩
      rw [hy] at hyok hldp cg hlA hlB
      have HY : Hid (y.pt.bytes.length = 32) := hyok.pt.ch.1
      have hneq := fun W => ne_cgs W (x := y) (y := y) HY.out HY.out
      rw [cgEq_self] at hneq
      clear hy hwas his hmem hiL
      go_wp2_with (first
        | (refine wpList_loadG rfl 25 _ rfl _ rfl _ hldp.out ?_))
      refine cg.mono ?_
      rintro e w5 ⟨rfl, hb5⟩
      clear cg
      have hn6 := CgAt.laid w5 cg0
      have hb6 := alloc_row (A := w5) (.cells (cgC cg0) 37) (cgC y)
      have hx6 := hn6.setRow y
      obtain ⟨w6, hw6⟩ : ∃ w6, (w5.alloc (.cells (cgC cg0) 37)).setRow w5.heap.size (cgC y) = w6 := ⟨_, rfl⟩
      rw [hw6] at hb6 hx6
      have hS6 := (hS.below hb5).below hb6
      go_wp2_with (first
        | (refine wpList_storeG rfl _ _ rfl w5.heap.size y cg0 rfl rfl HY.out len0 hn6 ?_; rw [hw6]))
      refine wp_region_noPanic ?_
      refine wp_region_held_drew (S := fun W => SmS w W ga gb s.L i ∧ CgAt W w5.heap.size y) (by kernel_rfl) ⟨hS6.below (Below.refl _ _).drew, hx6.drew⟩ (fun hHeld => ?_)
      refine wpAnyH_take (i := 0) (v := .slice (some ⟨ga, 0, none⟩) n c1) rfl (by kernel_rfl) (by kernel_rfl) (by kernel_rfl) (fun _ _ _ h => h) (Or.inl ⟨by rfl, fun W hSw => by (try dsimp only at hSw); go_simp⟩) (by assumption) ?_
      try simp only [List.getElem_toArray, List.getElem_cons_zero, List.getElem_cons_succ, Act.put, List.setIfInBounds_toArray, List.set_cons_zero, List.set_cons_succ]
      refine wpAnyH_take (i := 1) (v := .int .i64 i) rfl (by kernel_rfl) (by kernel_rfl) (by kernel_rfl) (fun _ _ _ h => h) (Or.inl ⟨by rfl, fun W hSw => by (try dsimp only at hSw); go_simp⟩) (by assumption) ?_
      try simp only [List.getElem_toArray, List.getElem_cons_zero, List.getElem_cons_succ, Act.put, List.setIfInBounds_toArray, List.set_cons_zero, List.set_cons_succ]
      refine wpAnyH_take (i := 2) (v := .pointer (some ⟨ga, i * 46, none⟩)) rfl (by kernel_rfl) (by kernel_rfl) (by kernel_rfl) (fun _ _ _ h => h) (Or.inl ⟨by rfl, fun W hSw => by (try dsimp only at hSw); go_simp⟩) (by assumption) ?_
      try simp only [List.getElem_toArray, List.getElem_cons_zero, List.getElem_cons_succ, Act.put, List.setIfInBounds_toArray, List.set_cons_zero, List.set_cons_succ]
      refine wpAnyH_take (i := 3) (v := .agg (cgC y)) rfl (by kernel_rfl) (by kernel_rfl) (by kernel_rfl) (fun _ _ _ h => h) (yields_load (by rfl) _ _ rfl _ rfl _ (fun W h => range_load (hlA.out W h.1) hyok)) (by assumption) ?_
      try simp only [List.getElem_toArray, List.getElem_cons_zero, List.getElem_cons_succ, Act.put, List.setIfInBounds_toArray, List.set_cons_zero, List.set_cons_succ]
      refine wpAnyH_take (i := 4) (v := .slice (some ⟨gb, 0, none⟩) n c2) rfl (by kernel_rfl) (by kernel_rfl) (by kernel_rfl) (fun _ _ _ h => h) (Or.inl ⟨by rfl, fun W hSw => by (try dsimp only at hSw); go_simp⟩) (by assumption) ?_
      try simp only [List.getElem_toArray, List.getElem_cons_zero, List.getElem_cons_succ, Act.put, List.setIfInBounds_toArray, List.set_cons_zero, List.set_cons_succ]
      refine wpAnyH_take (i := 5) (v := .int .i64 i) rfl (by kernel_rfl) (by kernel_rfl) (by kernel_rfl) (fun _ _ _ h => h) (Or.inl ⟨by rfl, fun W hSw => by (try dsimp only at hSw); go_simp⟩) (by assumption) ?_
      try simp only [List.getElem_toArray, List.getElem_cons_zero, List.getElem_cons_succ, Act.put, List.setIfInBounds_toArray, List.set_cons_zero, List.set_cons_succ]
      refine wpAnyH_take (i := 6) (v := .pointer (some ⟨gb, i * 46, none⟩)) rfl (by kernel_rfl) (by kernel_rfl) (by kernel_rfl) (fun _ _ _ h => h) (Or.inl ⟨by rfl, fun W hSw => by (try dsimp only at hSw); go_simp⟩) (by assumption) ?_
      try simp only [List.getElem_toArray, List.getElem_cons_zero, List.getElem_cons_succ, Act.put, List.setIfInBounds_toArray, List.set_cons_zero, List.set_cons_succ]
      refine wpAnyH_take (i := 7) (v := .agg (cgC y)) rfl (by kernel_rfl) (by kernel_rfl) (by kernel_rfl) (fun _ _ _ h => h) (yields_load (by rfl) _ _ rfl _ rfl _ (fun W h => hlB.out W h.1)) (by assumption) ?_
      try simp only [List.getElem_toArray, List.getElem_cons_zero, List.getElem_cons_succ, Act.put, List.setIfInBounds_toArray, List.set_cons_zero, List.set_cons_succ]
      refine wpAnyH_take (i := 8) (v := .bool false) rfl (by kernel_rfl) (by kernel_rfl) (by kernel_rfl) (fun _ _ _ h => h) (Or.inl ⟨by rfl, fun W hSw => by (try dsimp only at hSw); (have z := hneq W; go_simp)⟩) (by assumption) ?_
      try simp only [List.getElem_toArray, List.getElem_cons_zero, List.getElem_cons_succ, Act.put, List.setIfInBounds_toArray, List.set_cons_zero, List.set_cons_succ]
      refine wpAnyH_take (i := 9) (v := .bool false) rfl (by kernel_rfl) (by kernel_rfl) (by kernel_rfl) (fun _ _ _ h => h) (Or.inl ⟨by rfl, fun W hSw => by (try dsimp only at hSw); go_simp⟩) (by assumption) ?_
      try simp only [List.getElem_toArray, List.getElem_cons_zero, List.getElem_cons_succ, Act.put, List.setIfInBounds_toArray, List.set_cons_zero, List.set_cons_succ]
      refine wpAnyH_take (i := 10) (v := .bool true) rfl (by kernel_rfl) (by kernel_rfl) (by kernel_rfl) (fun _ _ _ h => h) (Or.inl ⟨by rfl, fun W hSw => by (try dsimp only at hSw); go_simp⟩) (by assumption) ?_
      try simp only [List.getElem_toArray, List.getElem_cons_zero, List.getElem_cons_succ, Act.put, List.setIfInBounds_toArray, List.set_cons_zero, List.set_cons_succ]
      refine wpAnyH_take (i := 11) (v := .bool false) rfl (by kernel_rfl) (by kernel_rfl) (by kernel_rfl) (fun _ _ _ h => h) (Or.inl ⟨by rfl, fun W hSw => by (try dsimp only at hSw); go_simp⟩) (by assumption) ?_
      try simp only [List.getElem_toArray, List.getElem_cons_zero, List.getElem_cons_succ, Act.put, List.setIfInBounds_toArray, List.set_cons_zero, List.set_cons_succ]
      refine wpAnyH_take (i := 12) (v := .bool false) rfl (by kernel_rfl) (by kernel_rfl) (by kernel_rfl) (fun _ _ _ h => h) (Or.inl ⟨by rfl, fun W hSw => by (try dsimp only at hSw); go_simp⟩) (by assumption) ?_
      try simp only [List.getElem_toArray, List.getElem_cons_zero, List.getElem_cons_succ, Act.put, List.setIfInBounds_toArray, List.set_cons_zero, List.set_cons_succ]
      refine wpAnyH_take (i := 13) (v := .bool false) rfl (by kernel_rfl) (by kernel_rfl) (by kernel_rfl) (fun _ _ _ h => h) (Or.inl ⟨by rfl, fun W hSw => by (try dsimp only at hSw); go_simp⟩) (by assumption) ?_
      try simp only [List.getElem_toArray, List.getElem_cons_zero, List.getElem_cons_succ, Act.put, List.setIfInBounds_toArray, List.set_cons_zero, List.set_cons_succ]
      refine wpAnyH_take (i := 14) (v := .agg (cgC y)) rfl (by kernel_rfl) (by kernel_rfl) (by kernel_rfl) (fun _ _ _ h => h) (yields_load (by rfl) _ _ rfl _ rfl _ (fun W h => h.2.load HY.out)) (by assumption) ?_
      try simp only [List.getElem_toArray, List.getElem_cons_zero, List.getElem_cons_succ, Act.put, List.setIfInBounds_toArray, List.set_cons_zero, List.set_cons_succ]
      refine wpAnyH_take (i := 15) (v := .slice (some ⟨gb, 0, none⟩) n c2) rfl (by kernel_rfl) (by kernel_rfl) (by kernel_rfl) (fun _ _ _ h => h) (Or.inl ⟨by rfl, fun W hSw => by (try dsimp only at hSw); go_simp⟩) (by assumption) ?_
      try simp only [List.getElem_toArray, List.getElem_cons_zero, List.getElem_cons_succ, Act.put, List.setIfInBounds_toArray, List.set_cons_zero, List.set_cons_succ]
      refine wpAnyH_take (i := 16) (v := .int .i64 i) rfl (by kernel_rfl) (by kernel_rfl) (by kernel_rfl) (fun _ _ _ h => h) (Or.inl ⟨by rfl, fun W hSw => by (try dsimp only at hSw); go_simp⟩) (by assumption) ?_
      try simp only [List.getElem_toArray, List.getElem_cons_zero, List.getElem_cons_succ, Act.put, List.setIfInBounds_toArray, List.set_cons_zero, List.set_cons_succ]
      refine wpAnyH_take (i := 17) (v := .pointer (some ⟨gb, i * 46, none⟩)) rfl (by kernel_rfl) (by kernel_rfl) (by kernel_rfl) (fun _ _ _ h => h) (Or.inl ⟨by rfl, fun W hSw => by (try dsimp only at hSw); go_simp⟩) (by assumption) ?_
      try simp only [List.getElem_toArray, List.getElem_cons_zero, List.getElem_cons_succ, Act.put, List.setIfInBounds_toArray, List.set_cons_zero, List.set_cons_succ]
      refine wpAnyH_take (i := 18) (v := .agg (cgC y)) rfl (by kernel_rfl) (by kernel_rfl) (by kernel_rfl) (fun _ _ _ h => h) (yields_load (by rfl) _ _ rfl _ rfl _ (fun W h => hlB.out W h.1)) (by assumption) ?_
      try simp only [List.getElem_toArray, List.getElem_cons_zero, List.getElem_cons_succ, Act.put, List.setIfInBounds_toArray, List.set_cons_zero, List.set_cons_succ]
      refine wpAnyH_take (i := 19) (v := .bool false) rfl (by kernel_rfl) (by kernel_rfl) (by kernel_rfl) (fun _ _ _ h => h) (Or.inl ⟨by rfl, fun W hSw => by (try dsimp only at hSw); (have z := hneq W; go_simp)⟩) (by assumption) ?_
      try simp only [List.getElem_toArray, List.getElem_cons_zero, List.getElem_cons_succ, Act.put, List.setIfInBounds_toArray, List.set_cons_zero, List.set_cons_succ]
      refine wpAnyH_take (i := 20) (v := .bool false) rfl (by kernel_rfl) (by kernel_rfl) (by kernel_rfl) (fun _ _ _ h => h) (Or.inl ⟨by rfl, fun W hSw => by (try dsimp only at hSw); go_simp⟩) (by assumption) ?_
      try simp only [List.getElem_toArray, List.getElem_cons_zero, List.getElem_cons_succ, Act.put, List.setIfInBounds_toArray, List.set_cons_zero, List.set_cons_succ]
      refine wpAnyH_done (by kernel_rfl) ?_ _
      refine NoPanic.normal ?_
      have hS7 : SmS w w6.drew ga gb s.L i := hHeld.1
      obtain ⟨w7, hw7⟩ : ∃ w7, w6.drew = w7 := ⟨_, rfl⟩
      rw [hw7] at hS7
      rw [hw7]
      have c4 : w7.cell? ⟨ga, i * 46 + 4, none⟩ = some (.bool y.gone) := hlA.out w7 hS7 4 _ rfl
      have f4 : w7.frozen? ⟨ga, i * 46 + 4, none⟩ = false := by obtain ⟨cs, e⟩ := hS7.r; exact frozen_of_row w7 ga _ cs _ e
      have hS8 := hS7.step hne hle (.bool (!y.gone))
      have HB8 : Hid (Below w.heap.size w (w7.setCell ⟨ga, i * 46 + 4, none⟩ (.bool (!y.gone)))) := hS8.bel
      have HS8 : Hid (SmS w (w7.setCell ⟨ga, i * 46 + 4, none⟩ (.bool (!y.gone))) ga gb s.L (i + 1)) := hS8
      obtain ⟨w8, hw8⟩ : ∃ w8, w7.setCell ⟨ga, i * 46 + 4, none⟩ (.bool (!y.gone)) = w8 := ⟨_, rfl⟩
      rw [hw8] at HB8 HS8
      clear hHeld hS6 hx6 hw7 hS7 hS8 hS hlA hlB hneq hldp
      go_wp2_with fail
      go_roundw
      case rel => exact ⟨i + 1, by omega, by go_num, HB8, fun _ ga' gb' e1 e2 => by cases e1; cases e2; exact HS8.out⟩
      case measure => simp [intOf]; omega
    · obtain rfl : i = n := by omega
      have hilI : ¬ (i : Int) < i := by omega
      go_wp2
      go_ret
      exact ⟨rfl, HB.out⟩

open Go.RowKit Go.Maps
set_option maxRecDepth 100000

theorem XdAt.keepD {B : Nat} {w0 w w' : World} {p b q : Nat} {v : Value} {M : Int} {xs : List Cg} {s : Dl} (h : XdAt w q v M xs) (hd : DlN B w0 w p b s) (k : KeepD b w w') : XdAt w' q v M xs := by
  obtain ⟨u, h1, _⟩ := hd.d
  obtain ⟨e0, cl, hm⟩ := h1.mp.isMap
  refine h.keep k.size (k.block q h.lt (fun hb => ?_)) (fun g hg => ?_)
  · rcases hb with e | ⟨cs, fr, e⟩ | ⟨cs, fr, e⟩
    · have := h.row; rw [e, hm] at this; cases this
    · have := h.row; rw [e] at this; cases this
    · have := h.row; rw [e] at this; cases this
  · obtain ⟨cs', e'⟩ := own_row h.at_ hg
    refine k.block g (World.ownsRow.lt h.at_ g hg).2 (fun hb => ?_)
    rcases hb with e | ⟨cs, fr, e⟩ | ⟨cs, fr, e⟩
    · rw [e, hm] at e'; cases e'
    · rw [e] at e'; cases e'
    · rw [e] at e'; cases e'
theorem DlN.keepX {B : Nat} {w0 w w' : World} {p b q : Nat} {v : Value} {M : Int} {xs : List Cg} {s : Dl} (h : DlN B w0 w p b s) (hx : XdAt w q v M xs) (hq : B ≤ q) (k : KeepX q w w') : DlN B w0 w' p b s := by
  obtain ⟨u, h1, h2⟩ := h.d
  obtain ⟨e0, cl, hm⟩ := h1.mp.isMap
  have hr := hx.row
  refine ⟨⟨k.os.trans h.bel.os, k.tape.trans h.bel.tape, k.output.trans h.bel.output, Nat.le_trans h.bel.size k.size, fun j hj => (k.block j (Nat.lt_of_lt_of_le hj h.le) (by omega)).trans (h.bel.block j hj)⟩, Nat.le_trans h.le k.size, ⟨u, ?_, h2⟩, h.p, h.b⟩
  refine ⟨(k.block p h1.lt (fun e => ?_)).trans h1.row, h1.mp.keep (k.block b h1.mp.lt (fun e => ?_)), own_keep h1.pus k.size (fun g hg hl => k.block g hl (fun e => ?_)), h1.ok⟩
  · have := h1.row; rw [e, hr] at this; cases this
  · rw [e, hr] at hm; cases hm
  · obtain ⟨cs, e'⟩ := own_row h1.pus hg
    rw [e, hr] at e'; cases e'
theorem KeepX.of_sole {q : Nat} {w w' : World} (h : Sole [q] w w') : KeepX q w w' := ⟨h.os, h.tape, h.output, h.size, fun k hk hn => h.block k hk (by simpa using hn)⟩

/-- Both deltas have the same changes. -/
structure Both (B : Nat) (w0 w : World) (p b q : Nat) (s : Dl) (xs : List Cg) : Prop where
  d : DlN B w0 w p b s
  x : ∃ v, XdAt w q v s.most xs
  q : B ≤ q
  r : Rel s xs
theorem Both.below {B : Nat} {w0 w w' : World} {p b q : Nat} {s : Dl} {xs : List Cg} (h : Both B w0 w p b q s xs) (hb : Below w.heap.size w w') : Both B w0 w' p b q s xs := by
  obtain ⟨v, hv⟩ := h.x
  exact ⟨h.d.below hb, ⟨v, hv.below hb⟩, h.q, h.r⟩
theorem Both.ok {B : Nat} {w0 w : World} {p b q : Nat} {s : Dl} {xs : List Cg} (h : Both B w0 w p b q s xs) : DlOk s := by obtain ⟨v, hd, _⟩ := h.d.d; exact hd.ok
theorem Both.len {B : Nat} {w0 w : World} {p b q : Nat} {s : Dl} {xs : List Cg} (h : Both B w0 w p b q s xs) : ∃ a c, w.cell? ⟨q, 0, none⟩ = some (.slice a xs.length c) := by
  obtain ⟨v, hv⟩ := h.x
  obtain ⟨a, c, rfl⟩ := hv.shape
  exact ⟨a, c, hv.c0⟩
theorem Both.dget {B : Nat} {w0 w : World} {p b q : Nat} {s : Dl} {xs : List Cg} (h : Both B w0 w p b q s xs) (z : Pl) (hz : PlOk z) : Calls Try.prog 11 #[.pointer (some ⟨p, 0, none⟩), plV z] w fun e w' => e = .returned (.tuple #[.agg (cgC (wasX s z)), .bool (isX s z)]) ∧ Below w.heap.size w w' := h.d.get z hz
theorem Both.xget {B : Nat} {w0 w : World} {p b q : Nat} {s : Dl} {xs : List Cg} (h : Both B w0 w p b q s xs) (z : Pl) (hz : PlOk z) : Calls Try.prog 12 #[.pointer (some ⟨q, 0, none⟩), plV z] w fun e w' => e = .returned (.tuple #[.agg (cgC (wasX s z)), .bool (isX s z)]) ∧ Below w.heap.size w w' := by
  obtain ⟨v, hv⟩ := h.x
  have := xget_any hv z hz
  rw [← h.r.now z] at this
  exact this
theorem Both.same {B : Nat} {w0 w : World} {p b q : Nat} {s : Dl} {xs : List Cg} (h : Both B w0 w p b q s xs) (hm : xs.length ≤ 1000) (hL : s.L.length ≤ 1000) : Calls Try.prog 13 #[.pointer (some ⟨p, 0, none⟩), .pointer (some ⟨q, 0, none⟩)] w fun e w' => e = .returned (.bool true) ∧ Below w.heap.size w w' := by
  obtain ⟨v, hv⟩ := h.x
  exact dsame_any h.d hv h.r hm hL
/-- A change was put into the first one. -/
structure Half (B : Nat) (w0 w : World) (p b q : Nat) (s s' : Dl) (xs : List Cg) : Prop where
  d : DlN B w0 w p b s'
  x : ∃ v, XdAt w q v s.most xs
  q : B ≤ q
  r : Rel s xs
  ok : DlOk s
theorem Both.dput {B : Nat} {w0 w : World} {p b q : Nat} {s : Dl} {xs : List Cg} (h : Both B w0 w p b q s xs) (hm : xs.length ≤ 1000) (hL : s.L.length ≤ 1000) (c : Cg) (hc : CgOk c) : Calls Try.prog 7 #[.pointer (some ⟨p, 0, none⟩), .agg (cgC c)] w fun e w' =>
    e = .returned (.int .i64 (putX s c).2) ∧ Half B w0 w' p b q s (putS s c) xs ∧ KeepD b w w' := by
  obtain ⟨v, hv⟩ := h.x
  refine (h.d.put c hc hL (by rw [← h.r.len]; exact hm)).mono ?_
  rintro e w' ⟨rfl, h1, h2⟩
  exact ⟨rfl, ⟨h1, ⟨v, hv.keepD h.d h2⟩, h.q, h.r, h.ok⟩, h2⟩
theorem Half.xput {B : Nat} {w0 w : World} {p b q : Nat} {s : Dl} {xs : List Cg} (c : Cg) (hc : CgOk c) (h : Half B w0 w p b q s (putS s c) xs) (hm : xs.length ≤ 1000) (hL : s.L.length ≤ 1000) : Calls Try.prog 8 #[.pointer (some ⟨q, 0, none⟩), .agg (cgC c)] w fun e w' =>
    e = .returned (.int .i64 (putX s c).2) ∧ (∃ xs', Both B w0 w' p b q (putS s c) xs' ∧ xs'.length ≤ xs.length + 1) ∧ KeepX q w w' := by
  obtain ⟨v, hv⟩ := h.x
  refine (xput_any hv h.r h.ok rfl hm hL c hc).mono ?_
  rintro e w' ⟨rfl, v', h1, h2, _⟩
  have hd := h.d.keepX hv h.q h2
  by_cases h0 : (putX s c).2 = 0
  · rw [if_pos h0] at h1
    refine ⟨rfl, ⟨xs ++ [c], ⟨hd, ⟨v', ?_⟩, h.q, h.r.put h.ok hc h0⟩, by simp⟩, h2⟩
    rw [show (putS s c).most = s.most by unfold putS; rw [if_pos h0]]
    exact h1
  · rw [if_neg h0] at h1
    have e1 := putS_err (s := s) (c := c) h0
    rw [e1] at hd ⊢
    exact ⟨rfl, ⟨xs, ⟨hd, ⟨v', h1⟩, h.q, h.r⟩, by omega⟩, h2⟩
theorem undoS_ok {B : Nat} {w0 w : World} {p b : Nat} {s : Dl} (h : DlN B w0 w p b s) : DlOk s := by obtain ⟨v, hd, _⟩ := h.d; exact hd.ok
/-- Undo of the first one, of a mark that may be. -/
theorem Both.dundo {B : Nat} {w0 w : World} {p b q : Nat} {s : Dl} {xs : List Cg} (h : Both B w0 w p b q s xs) (m : Nat) (hm : m ≤ xs.length) (hL : s.L.length + xs.length ≤ 1000) : Calls Try.prog 9 #[.pointer (some ⟨p, 0, none⟩), .int .i64 m] w fun e w' =>
    e = .returned (.int .i64 0) ∧ Half B w0 w' p b q s (undoS s m) xs ∧ KeepD b w w' := by
  obtain ⟨v, hv⟩ := h.x
  have hl := h.r.len
  refine (h.d.undo m (by omega) (by omega)).mono ?_
  rintro e w' ⟨rfl, h1, h2⟩
  exact ⟨rfl, ⟨h1, ⟨v, hv.keepD h.d h2⟩, h.q, h.r, h.ok⟩, h2⟩
theorem Half.xundo {B : Nat} {w0 w : World} {p b q : Nat} {s : Dl} {xs : List Cg} (m : Nat) (hm : m ≤ xs.length) (h : Half B w0 w p b q s (undoS s m) xs) : Calls Try.prog 10 #[.pointer (some ⟨q, 0, none⟩), .int .i64 m] w fun e w' =>
    e = .returned (.int .i64 0) ∧ Both B w0 w' p b q (undoS s m) (xs.take m) ∧ KeepX q w w' := by
  obtain ⟨v, hv⟩ := h.x
  refine (xundo_ok hv m hm).mono ?_
  rintro e w' ⟨rfl, v', h1, _, h2⟩
  have hk := KeepX.of_sole h2
  exact ⟨rfl, ⟨h.d.keepX hv h.q hk, ⟨v', h1⟩, h.q, h.r.undo hm⟩, hk⟩
theorem Both.dbad {B : Nat} {w0 w : World} {p b q : Nat} {s : Dl} {xs : List Cg} (h : Both B w0 w p b q s xs) (m : Int) (hm : m < 0 ∨ (xs.length : Int) < m) : Calls Try.prog 9 #[.pointer (some ⟨p, 0, none⟩), .int .i64 m] w fun e w' => e = .returned (.int .i64 1) ∧ Below w.heap.size w w' :=
  h.d.bad m (by have := h.r.len; omega)
theorem Both.xbad {B : Nat} {w0 w : World} {p b q : Nat} {s : Dl} {xs : List Cg} (h : Both B w0 w p b q s xs) (m : Int) (hm : m < 0 ∨ (xs.length : Int) < m) : Calls Try.prog 10 #[.pointer (some ⟨q, 0, none⟩), .int .i64 m] w fun e w' => e = .returned (.int .i64 1) ∧ w' = w := by
  obtain ⟨v, hv⟩ := h.x
  exact xundo_bad hv m hm
theorem len_sub {α : Type} [DecidableEq α] : ∀ {P Q : List α}, P.Nodup → (∀ x ∈ P, x ∈ Q) → P.length ≤ Q.length
  | [], _, _, _ => Nat.zero_le _
  | p :: P, Q, hn, hs => by
    have hp := hs p (by simp)
    have ih := len_sub (P := P) (Q := Q.erase p) (List.nodup_cons.1 hn).2 (fun x hx => (List.mem_erase_of_ne (show x ≠ p from fun e => (List.nodup_cons.1 hn).1 (by rw [← e]; exact hx))).2 (hs x (by simp [hx])))
    rw [List.length_erase_of_mem hp] at ih
    have := List.length_pos_of_mem hp
    rw [List.length_cons]
    omega
theorem Rel.lenL {s : Dl} {xs : List Cg} (h : Rel s xs) (hs : DlOk s) : s.L.length ≤ xs.length := by
  have h1 : (s.L.map (·.pl)).Nodup := List.pairwise_map.2 (hs.L.rise.imp fun h => cmp_ne h)
  have h2 := @len_sub Pl (Classical.typeDecidableEq Pl) (s.L.map (·.pl)) (xs.map (·.pl)) h1 (fun x hx => by
    obtain ⟨c, hc, rfl⟩ := List.mem_map.1 hx
    have h3 := foldX_any xs c.pl
    rw [← h.now, (getL_some hs.L.rise).2 ⟨hc, rfl⟩] at h3
    obtain ⟨y, hy, e⟩ := List.any_eq_true.1 h3.symm
    exact List.mem_map.2 ⟨y, hy, plEq_iff.1 e⟩)
  simpa using h2
theorem undoS_len (s : Dl) (m : Nat) : (undoS s m).L.length ≤ s.L.length + s.pus.length := by
  have := undoL_len (s.pus.drop m).reverse s.L
  unfold undoS
  rw [List.length_reverse, List.length_drop] at this
  dsimp only
  omega

end Go.Proofs.Ytmifpeocgikbeab
