/- The contracts of inode.find, Kind, Stat, Size (written by tools/laws/InB_gen.py). -/
import Derived.Test.YtjjhfginmamlkaaGreatInSt
import Derived.Test.YtjjhfginmamlkaaGreatInA
namespace Go.Proofs.YtjjhfginmamlkaaGreat
open Go.RowKit Go.Maps
set_option linter.unusedVariables false
set_option linter.unusedSimpArgs false
set_option maxRecDepth 100000

/-- What find tells: the inode, the error. -/
def fdF (ino : Int) (r : It × Bool × Int) : In4 × Int := if ino = 0 then (in0, 220) else if r.2.2 ≠ 0 then (in0, r.2.2) else if r.2.1 then (⟨r.1.kind, r.1.mode, r.1.links, r.1.size⟩, 0) else (in0, 220)
def fdR (s : Sg) (ino : Int) : In4 × Int := fdF ino (vgR s.l s.d (recP ino))
theorem recP_ok {ino : Int} (h0 : 0 ≤ ino) (h1 : ino ≤ 4294967295) : PlOk (recP ino) := ⟨h0, h1, by simp [recP], by simp [recP], Nat.zero_le _, by simp [recP], by simp [recP]⟩
theorem vgR_len (l : List (ByteArray × ByteArray)) (s : Dl) (q : Pl) : (vgR l s q).1.bytes.length = 32 := by
  unfold vgR
  split
  · exact chR_len _ (stI_ok l _).ch.1 _ _ _
  · exact (stI_ok l q).ch.1
theorem SgAt.get {B : Nat} {w : World} {a : Sa} {vd vr vu : Value} {s : Sg} (h : SgAt B w a vd vr vu s) (q : Pl) (hq : PlOk q) : Calls Tryz.prog 73 #[.pointer (some ⟨a.v, 0, none⟩), plV q] w fun e w' =>
    e = .returned (.tuple #[.agg (itC (vgR s.l s.d q).1), .bool (vgR s.l s.d q).2.1, .int .i64 (vgR s.l s.d q).2.2]) ∧ Below w.heap.size w w' := by
  obtain ⟨ad, n, cap, hS, _⟩ := h.so
  exact vget_any (B := 0) (w0 := w) h.vw ⟨Below.refl _ _, Nat.zero_le _, ⟨vd, h.d, fun _ _ => Nat.zero_le _⟩, Nat.zero_le _, Nat.zero_le _⟩ hS q hq
theorem SgIn.get {B : Nat} {w : World} {a : Sa} {X : List Nat} {s : Sg} (h : SgIn B w a X s) (q : Pl) (hq : PlOk q) : Calls Tryz.prog 73 #[.pointer (some ⟨a.v, 0, none⟩), plV q] w fun e w' =>
    e = .returned (.tuple #[.agg (itC (vgR s.l s.d q).1), .bool (vgR s.l s.d q).2.1, .int .i64 (vgR s.l s.d q).2.2]) ∧ Below w.heap.size w w' := by
  obtain ⟨vd, vr, vu, h, rfl⟩ := h
  exact h.get q hq
theorem SgIn.row {B : Nat} {w : World} {a : Sa} {X : List Nat} {s : Sg} (h : SgIn B w a X s) : w.heap[a.s]? = some (.cells #[.pointer (some ⟨a.v, 0, none⟩), .pointer (some ⟨a.r, 0, none⟩), .pointer (some ⟨a.u, 0, none⟩), alV a.x] 56 (0, 0)) := by
  obtain ⟨vd, vr, vu, h, rfl⟩ := h
  exact h.sr
theorem SgIn.c0 {B : Nat} {w : World} {a : Sa} {X : List Nat} {s : Sg} (h : SgIn B w a X s) : w.cell? ⟨a.s, 0, none⟩ = some (.pointer (some ⟨a.v, 0, none⟩)) := by rw [cell_of_row _ _ _ _ _ (0, 0) h.row]; rfl
theorem SgIn.c1 {B : Nat} {w : World} {a : Sa} {X : List Nat} {s : Sg} (h : SgIn B w a X s) : w.cell? ⟨a.s, 1, none⟩ = some (.pointer (some ⟨a.r, 0, none⟩)) := by rw [cell_of_row _ _ _ _ _ (0, 0) h.row]; rfl
theorem SgIn.c2 {B : Nat} {w : World} {a : Sa} {X : List Nat} {s : Sg} (h : SgIn B w a X s) : w.cell? ⟨a.s, 2, none⟩ = some (.pointer (some ⟨a.u, 0, none⟩)) := by rw [cell_of_row _ _ _ _ _ (0, 0) h.row]; rfl
theorem SgIn.c3 {B : Nat} {w : World} {a : Sa} {X : List Nat} {s : Sg} (h : SgIn B w a X s) : w.cell? ⟨a.s, 3, none⟩ = some (alV a.x) := by rw [cell_of_row _ _ _ _ _ (0, 0) h.row]; rfl

set_option maxHeartbeats 8000000 in
theorem find_in {B : Nat} {w : World} {a : Sa} {X : List Nat} {s : Sg} (h : SgIn B w a X s) (ino : Int) (h0 : 0 ≤ ino) (h1 : ino ≤ 4294967295) : Calls Tryz.prog 43 #[.pointer (some ⟨a.s, 0, none⟩), .int .u32 ino] w fun e w' =>
    e = .returned (.tuple #[inV (fdR s ino).1, .int .i64 (fdR s ino).2]) ∧ Below w.heap.size w w' := by
  have hz := zeroItem
  have len0 := ch_zero.1
  have al : ∀ (A : World) (o : Obj), Below A.heap.size A (A.alloc o) := fun A o => (Below.refl _ A).alloc (Nat.le_refl _) o
  have hb1 := al w (.cells #[.int .i64 0, .int .i64 0, .int .i64 0, .int .i64 0] 89)
  have hr1 : InRow (w.alloc (.cells #[.int .i64 0, .int .i64 0, .int .i64 0, .int .i64 0] 89)) w.heap.size 0 0 0 0 := ⟨heap_alloc_new w _⟩
  obtain ⟨w1, hw1⟩ : ∃ w1, w.alloc (.cells #[.int .i64 0, .int .i64 0, .int .i64 0, .int .i64 0] 89) = w1 := ⟨_, rfl⟩
  rw [hw1] at hb1 hr1
  have h1' := h.below hb1
  have cr : ∀ W, Below w1.heap.size w1 W → Calls Tryz.prog 36 #[.int .u32 ino] W fun e w' => e = .returned (plV (recP ino)) ∧ Below W.heap.size W w' := fun W _ => irec_any W ino
  have cg : ∀ W, Below w1.heap.size w1 W → Calls Tryz.prog 73 #[.pointer (some ⟨a.v, 0, none⟩), plV (recP ino)] W fun e w' =>
    e = .returned (.tuple #[.agg (itC (vgR s.l s.d (recP ino)).1), .bool (vgR s.l s.d (recP ino)).2.1, .int .i64 (vgR s.l s.d (recP ino)).2.2]) ∧ Below W.heap.size W w' := fun W hW => (h1'.below hW).get _ (recP_ok h0 h1)
  have qv : ∀ W, Below w1.heap.size w1 W → W.cell? ⟨a.s, 0, none⟩ = some (.pointer (some ⟨a.v, 0, none⟩)) := fun W hW => (h1'.below hW).c0
  have hlen := vgR_len s.l s.d (recP ino)
  have HF : Hid (fdF ino (vgR s.l s.d (recP ino)) = fdR s ino) := rfl
  generalize fdR s ino = F at *
  generalize vgR s.l s.d (recP ino) = V at *
  obtain ⟨x, is, er⟩ := V
  dsimp only at cg hlen
  have HX : Hid (x.bytes.length = 32) := hlen
  clear hlen h h1'
  by_cases hi : ino = 0
  case pos =>
    subst hi
    have HE : Hid (F = (in0, 220)) := by unfold Hid; rw [← HF.out]; rfl
    have r0 := hr1.cell 0 _ rfl
    have r1 := hr1.cell 1 _ rfl
    have r2 := hr1.cell 2 _ rfl
    have r3 := hr1.cell 3 _ rfl
    have q0 := hr1.fr 0
    have q1 := hr1.fr 1
    have q2 := hr1.fr 2
    have q3 := hr1.fr 3
    clear cr cg qv HF
    go_enter Tryz.func43, Tryz.ntmps43
    go_wp2
    refine ret_in2 rfl w.heap.size 0 0 0 0 rfl _ rfl (InRow.put hr1 _ _ _ _) rfl ⟨by rw [HE.out]; rfl, ?_⟩
    exact (((hb1.setCell (Nat.le_refl _) _).setCell (Nat.le_refl _) _).setCell (Nat.le_refl _) _).setCell (Nat.le_refl _) _
  have hib : (ino == 0) = false := by simpa using hi
  have HF2 : Hid ((if er ≠ 0 then (in0, er) else if is then ((⟨x.kind, x.mode, x.links, x.size⟩ : In4), 0) else (in0, 220)) = F) := by
    have := HF.out; unfold fdF at this; rw [if_neg hi] at this; exact this
  clear HF
  have HF := HF2
  clear HF2 hi
  go_enter Tryz.func43, Tryz.ntmps43
  go_wp2_with fail
  refine wp_region_noPanic ?_
  refine wp_region_held_drew (S := fun W => Below w1.heap.size w1 W) (by kernel_rfl) (Below.refl _ _).drew (fun hHeld => ?_)
  refine wpAnyH_take (i := 0) (v := .pointer (some ⟨a.s, 0, none⟩)) rfl (by kernel_rfl) (by kernel_rfl) (by kernel_rfl) (fun _ _ _ h => h) (Or.inl ⟨by rfl, fun W hSw => by (try dsimp only at hSw); go_simp⟩) (by assumption) ?_
  try simp only [List.getElem_toArray, List.getElem_cons_zero, List.getElem_cons_succ, Act.put, List.setIfInBounds_toArray, List.set_cons_zero, List.set_cons_succ]
  refine wpAnyH_take (i := 1) (v := .pointer (some ⟨a.s, 0, none⟩)) rfl (by kernel_rfl) (by kernel_rfl) (by kernel_rfl) (fun _ _ _ h => h) (Or.inl ⟨by rfl, fun W hSw => by (try dsimp only at hSw); go_simp⟩) (by assumption) ?_
  try simp only [List.getElem_toArray, List.getElem_cons_zero, List.getElem_cons_succ, Act.put, List.setIfInBounds_toArray, List.set_cons_zero, List.set_cons_succ]
  refine wpAnyH_take (i := 2) (v := .pointer (some ⟨a.s, 0, none⟩)) rfl (by kernel_rfl) (by kernel_rfl) (by kernel_rfl) (fun _ _ _ h => h) (Or.inl ⟨by rfl, fun W hSw => by (try dsimp only at hSw); go_simp⟩) (by assumption) ?_
  try simp only [List.getElem_toArray, List.getElem_cons_zero, List.getElem_cons_succ, Act.put, List.setIfInBounds_toArray, List.set_cons_zero, List.set_cons_succ]
  refine wpAnyH_take (i := 3) (v := .pointer (some ⟨a.v, 0, none⟩)) rfl (by kernel_rfl) (by kernel_rfl) (by kernel_rfl) (fun _ _ _ h => h) (Or.inl ⟨by rfl, fun W hSw => by (try dsimp only at hSw); (have z := qv W hSw; go_simp)⟩) (by assumption) ?_
  try simp only [List.getElem_toArray, List.getElem_cons_zero, List.getElem_cons_succ, Act.put, List.setIfInBounds_toArray, List.set_cons_zero, List.set_cons_succ]
  refine wpAnyH_take (i := 4) (v := .int .u32 ino) rfl (by kernel_rfl) (by kernel_rfl) (by kernel_rfl) (fun _ _ _ h => h) (Or.inl ⟨by rfl, fun W hSw => by (try dsimp only at hSw); go_simp⟩) (by assumption) ?_
  try simp only [List.getElem_toArray, List.getElem_cons_zero, List.getElem_cons_succ, Act.put, List.setIfInBounds_toArray, List.set_cons_zero, List.set_cons_succ]
  refine wpAnyH_ready (rs := [5, 11]) (by kernel_rfl) (by simp) ?_
  refine AllReadyH.cons rfl (fun K hK => ?_) (AllReadyH.cons rfl (fun K hK => ?_) AllReadyH.nil)
  · skip
    go_simp
    go_wp2_with (go_at_call 36; refine (cr _ (by assumption)).mono ?_; rintro e w5 ⟨rfl, hb5⟩)
    refine hK.out _ _ (hHeld.trans (hb5.mono hHeld.size)) (fun hHeldA => ?_)
    clear hK K
    try simp only [List.getElem_toArray, List.getElem_cons_zero, List.getElem_cons_succ, Act.put, List.setIfInBounds_toArray, List.set_cons_zero, List.set_cons_succ]
    refine wpAnyH_ready (rs := [6, 11]) (by kernel_rfl) (by simp) ?_
    refine AllReadyH.cons rfl (fun K hK => ?_) (AllReadyH.cons rfl (fun K hK => ?_) AllReadyH.nil)
    · skip
      go_simp
      go_wp2_with (go_at_call 73; refine (cg _ (by assumption)).mono ?_; rintro e w6 ⟨rfl, hb6⟩)
      refine hK.out _ _ (hHeldA.trans (hb6.mono hHeldA.size)) (fun hHeldB => ?_)
      clear hK K
      try simp only [List.getElem_toArray, List.getElem_cons_zero, List.getElem_cons_succ, Act.put, List.setIfInBounds_toArray, List.set_cons_zero, List.set_cons_succ]
      refine wpAnyH_take (i := 7) (v := .tuple #[.agg (itC x), .bool is, .int .i64 er]) rfl (by kernel_rfl) (by kernel_rfl) (by kernel_rfl) (fun _ _ _ h => h) (Or.inl ⟨by rfl, fun W hSw => by (try dsimp only at hSw); go_simp⟩) (by assumption) ?_
      try simp only [List.getElem_toArray, List.getElem_cons_zero, List.getElem_cons_succ, Act.put, List.setIfInBounds_toArray, List.set_cons_zero, List.set_cons_succ]
      refine wpAnyH_take (i := 8) (v := .agg (itC x)) rfl (by kernel_rfl) (by kernel_rfl) (by kernel_rfl) (fun _ _ _ h => h) (Or.inl ⟨by rfl, fun W hSw => by (try dsimp only at hSw); go_simp⟩) (by assumption) ?_
      try simp only [List.getElem_toArray, List.getElem_cons_zero, List.getElem_cons_succ, Act.put, List.setIfInBounds_toArray, List.set_cons_zero, List.set_cons_succ]
      refine wpAnyH_take (i := 9) (v := .bool is) rfl (by kernel_rfl) (by kernel_rfl) (by kernel_rfl) (fun _ _ _ h => h) (Or.inl ⟨by rfl, fun W hSw => by (try dsimp only at hSw); go_simp⟩) (by assumption) ?_
      try simp only [List.getElem_toArray, List.getElem_cons_zero, List.getElem_cons_succ, Act.put, List.setIfInBounds_toArray, List.set_cons_zero, List.set_cons_succ]
      refine wpAnyH_take (i := 10) (v := .int .i64 er) rfl (by kernel_rfl) (by kernel_rfl) (by kernel_rfl) (fun _ _ _ h => h) (Or.inl ⟨by rfl, fun W hSw => by (try dsimp only at hSw); go_simp⟩) (by assumption) ?_
      try simp only [List.getElem_toArray, List.getElem_cons_zero, List.getElem_cons_succ, Act.put, List.setIfInBounds_toArray, List.set_cons_zero, List.set_cons_succ]
      refine wpAnyH_ready (rs := [11]) (by kernel_rfl) (by simp) ?_
      refine AllReadyH.cons rfl (fun K hK => ?_) AllReadyH.nil
      go_simp
      go_wp2
      have hat := ItAt.laid 150 w6 it0
      have hba := al w6 (.cells (itC it0) 150)
      have HGE : Hid (w1.heap.size ≤ w6.heap.size) := hHeldB.size
      obtain ⟨G, hG⟩ : ∃ G, w6.heap.size = G := ⟨_, rfl⟩
      refine hK.out _ _ (hHeldB.trans (hba.mono hHeldB.size)) (fun hHeldC => ?_)
      clear hK K
      obtain ⟨w8, hw8⟩ : ∃ w8, w6.alloc (.cells (itC it0) 150) = w8 := ⟨_, rfl⟩
      rw [hw8] at hat hHeldC ⊢
      rw [hG] at hat HGE ⊢
      try simp only [List.getElem_toArray, List.getElem_cons_zero, List.getElem_cons_succ, Act.put, List.setIfInBounds_toArray, List.set_cons_zero, List.set_cons_succ]
      clear hba hw8 hG
      refine wpAnyH_ready (rs := [12]) (by kernel_rfl) (by simp) ?_
      refine AllReadyH.cons rfl (fun K hK => ?_) AllReadyH.nil
      rw [if_pos (by rfl)]
      refine wp_stI _ _ rfl G x it0 rfl rfl HX.out len0 hat ?_
      refine hK.out _ _ (below_setRow hHeldC HGE.out _) (fun hHeldY => ?_)
      clear hK K
      try simp only [List.getElem_toArray, List.getElem_cons_zero, List.getElem_cons_succ, Act.put, List.setIfInBounds_toArray, List.set_cons_zero, List.set_cons_succ]
      have hx7 := hat.setRow x
      obtain ⟨w7, hw7⟩ : ∃ w7, w8.setRow G (itC x) = w7 := ⟨_, rfl⟩
      rw [hw7] at hx7 hHeldY ⊢
      have hHeldZ := hHeldY
      refine wpAnyH_take (i := 13) (v := .bool is) rfl (by kernel_rfl) (by kernel_rfl) (by kernel_rfl) (fun _ _ _ h => h) (Or.inl ⟨by rfl, fun W hSw => by (try dsimp only at hSw); go_simp⟩) (by assumption) ?_
      try simp only [List.getElem_toArray, List.getElem_cons_zero, List.getElem_cons_succ, Act.put, List.setIfInBounds_toArray, List.set_cons_zero, List.set_cons_succ]
      refine wpAnyH_take (i := 14) (v := .int .i64 er) rfl (by kernel_rfl) (by kernel_rfl) (by kernel_rfl) (fun _ _ _ h => h) (Or.inl ⟨by rfl, fun W hSw => by (try dsimp only at hSw); go_simp⟩) (by assumption) ?_
      try simp only [List.getElem_toArray, List.getElem_cons_zero, List.getElem_cons_succ, Act.put, List.setIfInBounds_toArray, List.set_cons_zero, List.set_cons_succ]
      clear hw7 hat
      refine wpAnyH_done (by kernel_rfl) ?_ _
      refine NoPanic.normal ?_
      have HB7 : Hid (Below w1.heap.size w1 w7) := hHeldZ
      have hres := hr1.below hHeldZ
      have r0 := hres.cell 0 _ rfl
      have r1 := hres.cell 1 _ rfl
      have r2 := hres.cell 2 _ rfl
      have r3 := hres.cell 3 _ rfl
      have q0 := hres.fr 0
      have q1 := hres.fr 1
      have q2 := hres.fr 2
      have q3 := hres.fr 3
      have HRES : Hid (InRow w7 w.heap.size 0 0 0 0) := hres
      have lJ : Hid _ := hx7.loadJ
      have HFB : Hid (∀ k m l s : Int, Below w.heap.size w ((((w7.setCell ⟨w.heap.size, 0, none⟩ (.int .i64 k)).setCell ⟨w.heap.size, 1, none⟩ (.int .i64 m)).setCell ⟨w.heap.size, 2, none⟩ (.int .i64 l)).setCell ⟨w.heap.size, 3, none⟩ (.int .i64 s))) := fun k m l s => ((((hb1.trans (hHeldZ.mono hb1.size)).setCell (Nat.le_refl _) _).setCell (Nat.le_refl _) _).setCell (Nat.le_refl _) _).setCell (Nat.le_refl _) _
      clear cr cg qv hHeldZ hres hx7 hr1
      by_cases he : er = 0
      case neg =>
        have heb : (er != 0) = true := by simpa using he
        have HE : Hid (F = (in0, er)) := by unfold Hid; rw [← HF.out, if_pos he]
        go_wp2
        refine ret_in2 rfl w.heap.size 0 0 0 0 rfl _ rfl (InRow.put HRES.out _ _ _ _) rfl ⟨by rw [HE.out]; rfl, HFB.out _ _ _ _⟩
      subst he
      cases is with
      | false =>
        have HE : Hid (F = (in0, 220)) := by unfold Hid; rw [← HF.out]; rfl
        go_wp2
        refine ret_in2 rfl w.heap.size 0 0 0 0 rfl _ rfl (InRow.put HRES.out _ _ _ _) rfl ⟨by rw [HE.out]; rfl, HFB.out _ _ _ _⟩
      | true =>
        have HE : Hid (F = (⟨x.kind, x.mode, x.links, x.size⟩, 0)) := by unfold Hid; rw [← HF.out]; rfl
        go_wp2_with (refine wpList_loadG rfl 89 _ rfl _ rfl _ lJ.out ?_)
        refine ret_in2 rfl w.heap.size x.kind x.mode x.links x.size rfl _ rfl (InRow.put HRES.out _ _ _ _) rfl ⟨by rw [HE.out]; rfl, HFB.out _ _ _ _⟩
    · skip
      go_simp
      go_wp2
      have hat := ItAt.laid 150 w5 it0
      have hba := al w5 (.cells (itC it0) 150)
      have HGE : Hid (w1.heap.size ≤ w5.heap.size) := hHeldA.size
      obtain ⟨G, hG⟩ : ∃ G, w5.heap.size = G := ⟨_, rfl⟩
      refine hK.out _ _ (hHeldA.trans (hba.mono hHeldA.size)) (fun hHeldC => ?_)
      clear hK K
      obtain ⟨w8, hw8⟩ : ∃ w8, w5.alloc (.cells (itC it0) 150) = w8 := ⟨_, rfl⟩
      rw [hw8] at hat hHeldC ⊢
      rw [hG] at hat HGE ⊢
      try simp only [List.getElem_toArray, List.getElem_cons_zero, List.getElem_cons_succ, Act.put, List.setIfInBounds_toArray, List.set_cons_zero, List.set_cons_succ]
      clear hba hw8 hG
      refine wpAnyH_ready (rs := [6]) (by kernel_rfl) (by simp) ?_
      refine AllReadyH.cons rfl (fun K hK => ?_) AllReadyH.nil
      go_simp
      go_wp2_with (go_at_call 73; refine (cg _ (by assumption)).mono ?_; rintro e w9 ⟨rfl, hb6⟩)
      refine hK.out _ _ (hHeldC.trans (hb6.mono hHeldC.size)) (fun hHeldB => ?_)
      clear hK K
      try simp only [List.getElem_toArray, List.getElem_cons_zero, List.getElem_cons_succ, Act.put, List.setIfInBounds_toArray, List.set_cons_zero, List.set_cons_succ]
      refine wpAnyH_take (i := 7) (v := .tuple #[.agg (itC x), .bool is, .int .i64 er]) rfl (by kernel_rfl) (by kernel_rfl) (by kernel_rfl) (fun _ _ _ h => h) (Or.inl ⟨by rfl, fun W hSw => by (try dsimp only at hSw); go_simp⟩) (by assumption) ?_
      try simp only [List.getElem_toArray, List.getElem_cons_zero, List.getElem_cons_succ, Act.put, List.setIfInBounds_toArray, List.set_cons_zero, List.set_cons_succ]
      refine wpAnyH_take (i := 8) (v := .agg (itC x)) rfl (by kernel_rfl) (by kernel_rfl) (by kernel_rfl) (fun _ _ _ h => h) (Or.inl ⟨by rfl, fun W hSw => by (try dsimp only at hSw); go_simp⟩) (by assumption) ?_
      try simp only [List.getElem_toArray, List.getElem_cons_zero, List.getElem_cons_succ, Act.put, List.setIfInBounds_toArray, List.set_cons_zero, List.set_cons_succ]
      refine wpAnyH_take (i := 9) (v := .bool is) rfl (by kernel_rfl) (by kernel_rfl) (by kernel_rfl) (fun _ _ _ h => h) (Or.inl ⟨by rfl, fun W hSw => by (try dsimp only at hSw); go_simp⟩) (by assumption) ?_
      try simp only [List.getElem_toArray, List.getElem_cons_zero, List.getElem_cons_succ, Act.put, List.setIfInBounds_toArray, List.set_cons_zero, List.set_cons_succ]
      refine wpAnyH_take (i := 10) (v := .int .i64 er) rfl (by kernel_rfl) (by kernel_rfl) (by kernel_rfl) (fun _ _ _ h => h) (Or.inl ⟨by rfl, fun W hSw => by (try dsimp only at hSw); go_simp⟩) (by assumption) ?_
      try simp only [List.getElem_toArray, List.getElem_cons_zero, List.getElem_cons_succ, Act.put, List.setIfInBounds_toArray, List.set_cons_zero, List.set_cons_succ]
      have hat2 := hat.below hb6
      clear hat
      have hat := hat2
      refine wpAnyH_ready (rs := [12]) (by kernel_rfl) (by simp) ?_
      refine AllReadyH.cons rfl (fun K hK => ?_) AllReadyH.nil
      rw [if_pos (by rfl)]
      refine wp_stI _ _ rfl G x it0 rfl rfl HX.out len0 hat ?_
      refine hK.out _ _ (below_setRow hHeldB HGE.out _) (fun hHeldY => ?_)
      clear hK K
      try simp only [List.getElem_toArray, List.getElem_cons_zero, List.getElem_cons_succ, Act.put, List.setIfInBounds_toArray, List.set_cons_zero, List.set_cons_succ]
      have hx7 := hat.setRow x
      obtain ⟨w7, hw7⟩ : ∃ w7, w9.setRow G (itC x) = w7 := ⟨_, rfl⟩
      rw [hw7] at hx7 hHeldY ⊢
      have hHeldZ := hHeldY
      refine wpAnyH_take (i := 13) (v := .bool is) rfl (by kernel_rfl) (by kernel_rfl) (by kernel_rfl) (fun _ _ _ h => h) (Or.inl ⟨by rfl, fun W hSw => by (try dsimp only at hSw); go_simp⟩) (by assumption) ?_
      try simp only [List.getElem_toArray, List.getElem_cons_zero, List.getElem_cons_succ, Act.put, List.setIfInBounds_toArray, List.set_cons_zero, List.set_cons_succ]
      refine wpAnyH_take (i := 14) (v := .int .i64 er) rfl (by kernel_rfl) (by kernel_rfl) (by kernel_rfl) (fun _ _ _ h => h) (Or.inl ⟨by rfl, fun W hSw => by (try dsimp only at hSw); go_simp⟩) (by assumption) ?_
      try simp only [List.getElem_toArray, List.getElem_cons_zero, List.getElem_cons_succ, Act.put, List.setIfInBounds_toArray, List.set_cons_zero, List.set_cons_succ]
      clear hw7 hat
      refine wpAnyH_done (by kernel_rfl) ?_ _
      refine NoPanic.normal ?_
      have HB7 : Hid (Below w1.heap.size w1 w7) := hHeldZ
      have hres := hr1.below hHeldZ
      have r0 := hres.cell 0 _ rfl
      have r1 := hres.cell 1 _ rfl
      have r2 := hres.cell 2 _ rfl
      have r3 := hres.cell 3 _ rfl
      have q0 := hres.fr 0
      have q1 := hres.fr 1
      have q2 := hres.fr 2
      have q3 := hres.fr 3
      have HRES : Hid (InRow w7 w.heap.size 0 0 0 0) := hres
      have lJ : Hid _ := hx7.loadJ
      have HFB : Hid (∀ k m l s : Int, Below w.heap.size w ((((w7.setCell ⟨w.heap.size, 0, none⟩ (.int .i64 k)).setCell ⟨w.heap.size, 1, none⟩ (.int .i64 m)).setCell ⟨w.heap.size, 2, none⟩ (.int .i64 l)).setCell ⟨w.heap.size, 3, none⟩ (.int .i64 s))) := fun k m l s => ((((hb1.trans (hHeldZ.mono hb1.size)).setCell (Nat.le_refl _) _).setCell (Nat.le_refl _) _).setCell (Nat.le_refl _) _).setCell (Nat.le_refl _) _
      clear cr cg qv hHeldZ hres hx7 hr1
      by_cases he : er = 0
      case neg =>
        have heb : (er != 0) = true := by simpa using he
        have HE : Hid (F = (in0, er)) := by unfold Hid; rw [← HF.out, if_pos he]
        go_wp2
        refine ret_in2 rfl w.heap.size 0 0 0 0 rfl _ rfl (InRow.put HRES.out _ _ _ _) rfl ⟨by rw [HE.out]; rfl, HFB.out _ _ _ _⟩
      subst he
      cases is with
      | false =>
        have HE : Hid (F = (in0, 220)) := by unfold Hid; rw [← HF.out]; rfl
        go_wp2
        refine ret_in2 rfl w.heap.size 0 0 0 0 rfl _ rfl (InRow.put HRES.out _ _ _ _) rfl ⟨by rw [HE.out]; rfl, HFB.out _ _ _ _⟩
      | true =>
        have HE : Hid (F = (⟨x.kind, x.mode, x.links, x.size⟩, 0)) := by unfold Hid; rw [← HF.out]; rfl
        go_wp2_with (refine wpList_loadG rfl 89 _ rfl _ rfl _ lJ.out ?_)
        refine ret_in2 rfl w.heap.size x.kind x.mode x.links x.size rfl _ rfl (InRow.put HRES.out _ _ _ _) rfl ⟨by rw [HE.out]; rfl, HFB.out _ _ _ _⟩
  · skip
    go_simp
    go_wp2
    have hat : ItAt 150 (w1.alloc (.cells (itC it0) 150)).drew w1.heap.size it0 := ⟨(ItAt.laid 150 w1 it0).row⟩
    have HGE : Hid (w1.heap.size ≤ w1.heap.size) := Nat.le_refl _
    refine hK.out _ _ (al w1 (.cells (itC it0) 150)).drew (fun hHeldC => ?_)
    clear hK K
    obtain ⟨w8, hw8⟩ : ∃ w8, (w1.alloc (.cells (itC it0) 150)).drew = w8 := ⟨_, rfl⟩
    rw [hw8] at hat hHeldC ⊢
    try simp only [List.getElem_toArray, List.getElem_cons_zero, List.getElem_cons_succ, Act.put, List.setIfInBounds_toArray, List.set_cons_zero, List.set_cons_succ]
    clear hw8
    refine wpAnyH_ready (rs := [5]) (by kernel_rfl) (by simp) ?_
    refine AllReadyH.cons rfl (fun K hK => ?_) AllReadyH.nil
    go_simp
    go_wp2_with (go_at_call 36; refine (cr _ (by assumption)).mono ?_; rintro e w5 ⟨rfl, hb5⟩)
    refine hK.out _ _ (hHeldC.trans (hb5.mono hHeldC.size)) (fun hHeldA => ?_)
    clear hK K
    try simp only [List.getElem_toArray, List.getElem_cons_zero, List.getElem_cons_succ, Act.put, List.setIfInBounds_toArray, List.set_cons_zero, List.set_cons_succ]
    have hat2 := hat.below hb5
    clear hat
    have hat := hat2
    refine wpAnyH_ready (rs := [6]) (by kernel_rfl) (by simp) ?_
    refine AllReadyH.cons rfl (fun K hK => ?_) AllReadyH.nil
    go_simp
    go_wp2_with (go_at_call 73; refine (cg _ (by assumption)).mono ?_; rintro e w9 ⟨rfl, hb6⟩)
    refine hK.out _ _ (hHeldA.trans (hb6.mono hHeldA.size)) (fun hHeldB => ?_)
    clear hK K
    try simp only [List.getElem_toArray, List.getElem_cons_zero, List.getElem_cons_succ, Act.put, List.setIfInBounds_toArray, List.set_cons_zero, List.set_cons_succ]
    refine wpAnyH_take (i := 7) (v := .tuple #[.agg (itC x), .bool is, .int .i64 er]) rfl (by kernel_rfl) (by kernel_rfl) (by kernel_rfl) (fun _ _ _ h => h) (Or.inl ⟨by rfl, fun W hSw => by (try dsimp only at hSw); go_simp⟩) (by assumption) ?_
    try simp only [List.getElem_toArray, List.getElem_cons_zero, List.getElem_cons_succ, Act.put, List.setIfInBounds_toArray, List.set_cons_zero, List.set_cons_succ]
    refine wpAnyH_take (i := 8) (v := .agg (itC x)) rfl (by kernel_rfl) (by kernel_rfl) (by kernel_rfl) (fun _ _ _ h => h) (Or.inl ⟨by rfl, fun W hSw => by (try dsimp only at hSw); go_simp⟩) (by assumption) ?_
    try simp only [List.getElem_toArray, List.getElem_cons_zero, List.getElem_cons_succ, Act.put, List.setIfInBounds_toArray, List.set_cons_zero, List.set_cons_succ]
    refine wpAnyH_take (i := 9) (v := .bool is) rfl (by kernel_rfl) (by kernel_rfl) (by kernel_rfl) (fun _ _ _ h => h) (Or.inl ⟨by rfl, fun W hSw => by (try dsimp only at hSw); go_simp⟩) (by assumption) ?_
    try simp only [List.getElem_toArray, List.getElem_cons_zero, List.getElem_cons_succ, Act.put, List.setIfInBounds_toArray, List.set_cons_zero, List.set_cons_succ]
    refine wpAnyH_take (i := 10) (v := .int .i64 er) rfl (by kernel_rfl) (by kernel_rfl) (by kernel_rfl) (fun _ _ _ h => h) (Or.inl ⟨by rfl, fun W hSw => by (try dsimp only at hSw); go_simp⟩) (by assumption) ?_
    try simp only [List.getElem_toArray, List.getElem_cons_zero, List.getElem_cons_succ, Act.put, List.setIfInBounds_toArray, List.set_cons_zero, List.set_cons_succ]
    have hat2 := hat.below hb6
    clear hat
    have hat := hat2
    refine wpAnyH_ready (rs := [12]) (by kernel_rfl) (by simp) ?_
    refine AllReadyH.cons rfl (fun K hK => ?_) AllReadyH.nil
    rw [if_pos (by rfl)]
    refine wp_stI _ _ rfl w1.heap.size x it0 rfl rfl HX.out len0 hat ?_
    refine hK.out _ _ (below_setRow hHeldB HGE.out _) (fun hHeldY => ?_)
    clear hK K
    try simp only [List.getElem_toArray, List.getElem_cons_zero, List.getElem_cons_succ, Act.put, List.setIfInBounds_toArray, List.set_cons_zero, List.set_cons_succ]
    have hx7 := hat.setRow x
    obtain ⟨w7, hw7⟩ : ∃ w7, w9.setRow w1.heap.size (itC x) = w7 := ⟨_, rfl⟩
    rw [hw7] at hx7 hHeldY ⊢
    have hHeldZ := hHeldY
    refine wpAnyH_take (i := 13) (v := .bool is) rfl (by kernel_rfl) (by kernel_rfl) (by kernel_rfl) (fun _ _ _ h => h) (Or.inl ⟨by rfl, fun W hSw => by (try dsimp only at hSw); go_simp⟩) (by assumption) ?_
    try simp only [List.getElem_toArray, List.getElem_cons_zero, List.getElem_cons_succ, Act.put, List.setIfInBounds_toArray, List.set_cons_zero, List.set_cons_succ]
    refine wpAnyH_take (i := 14) (v := .int .i64 er) rfl (by kernel_rfl) (by kernel_rfl) (by kernel_rfl) (fun _ _ _ h => h) (Or.inl ⟨by rfl, fun W hSw => by (try dsimp only at hSw); go_simp⟩) (by assumption) ?_
    try simp only [List.getElem_toArray, List.getElem_cons_zero, List.getElem_cons_succ, Act.put, List.setIfInBounds_toArray, List.set_cons_zero, List.set_cons_succ]
    clear hw7 hat
    refine wpAnyH_done (by kernel_rfl) ?_ _
    refine NoPanic.normal ?_
    have HB7 : Hid (Below w1.heap.size w1 w7) := hHeldZ
    have hres := hr1.below hHeldZ
    have r0 := hres.cell 0 _ rfl
    have r1 := hres.cell 1 _ rfl
    have r2 := hres.cell 2 _ rfl
    have r3 := hres.cell 3 _ rfl
    have q0 := hres.fr 0
    have q1 := hres.fr 1
    have q2 := hres.fr 2
    have q3 := hres.fr 3
    have HRES : Hid (InRow w7 w.heap.size 0 0 0 0) := hres
    have lJ : Hid _ := hx7.loadJ
    have HFB : Hid (∀ k m l s : Int, Below w.heap.size w ((((w7.setCell ⟨w.heap.size, 0, none⟩ (.int .i64 k)).setCell ⟨w.heap.size, 1, none⟩ (.int .i64 m)).setCell ⟨w.heap.size, 2, none⟩ (.int .i64 l)).setCell ⟨w.heap.size, 3, none⟩ (.int .i64 s))) := fun k m l s => ((((hb1.trans (hHeldZ.mono hb1.size)).setCell (Nat.le_refl _) _).setCell (Nat.le_refl _) _).setCell (Nat.le_refl _) _).setCell (Nat.le_refl _) _
    clear cr cg qv hHeldZ hres hx7 hr1
    by_cases he : er = 0
    case neg =>
      have heb : (er != 0) = true := by simpa using he
      have HE : Hid (F = (in0, er)) := by unfold Hid; rw [← HF.out, if_pos he]
      go_wp2
      refine ret_in2 rfl w.heap.size 0 0 0 0 rfl _ rfl (InRow.put HRES.out _ _ _ _) rfl ⟨by rw [HE.out]; rfl, HFB.out _ _ _ _⟩
    subst he
    cases is with
    | false =>
      have HE : Hid (F = (in0, 220)) := by unfold Hid; rw [← HF.out]; rfl
      go_wp2
      refine ret_in2 rfl w.heap.size 0 0 0 0 rfl _ rfl (InRow.put HRES.out _ _ _ _) rfl ⟨by rw [HE.out]; rfl, HFB.out _ _ _ _⟩
    | true =>
      have HE : Hid (F = (⟨x.kind, x.mode, x.links, x.size⟩, 0)) := by unfold Hid; rw [← HF.out]; rfl
      go_wp2_with (refine wpList_loadG rfl 89 _ rfl _ rfl _ lJ.out ?_)
      refine ret_in2 rfl w.heap.size x.kind x.mode x.links x.size rfl _ rfl (InRow.put HRES.out _ _ _ _) rfl ⟨by rw [HE.out]; rfl, HFB.out _ _ _ _⟩

set_option maxHeartbeats 2000000 in
theorem kind_in {B : Nat} {w : World} {a : Sa} {X : List Nat} {s : Sg} (h : SgIn B w a X s) (ino : Int) (h0 : 0 ≤ ino) (h1 : ino ≤ 4294967295) : Calls Tryz.prog 66 #[.pointer (some ⟨a.s, 0, none⟩), .int .u32 ino] w fun e w' =>
    e = .returned (.tuple #[.int .i64 (fdR s ino).1.k, .int .i64 (fdR s ino).2]) ∧ Below w.heap.size w w' := by
  have cf := find_in h ino h0 h1
  generalize fdR s ino = F at *
  obtain ⟨⟨fk, fm, fl, fz⟩, fe⟩ := F
  unfold inV at cf
  dsimp only at cf ⊢
  clear h
  go_enter Tryz.func66, Tryz.ntmps66
  go_wp2_with fail
  refine cf.mono ?_
  rintro e w1 ⟨rfl, hb1⟩
  have hb2 := thenB hb1 (bel1 w1 (.cells #[.int .i64 fk, .int .i64 fm, .int .i64 fl, .int .i64 fz] 89))
  clear cf
  go_wp2
  go_ret2
  exact ⟨rfl, hb2⟩

/-! ### Touches of a sight -/

theorem rdKs_lit (w : World) (ks : List Int) : RdKs (w.alloc (.cells (ks.map (Value.int .i64)).toArray 3)) (.slice (some ⟨w.heap.size, 0, none⟩) ks.length ks.length) ks :=
  ⟨_, _, rfl, Nat.le_refl _, fun _ => ⟨w.heap.size, 0, _, _, rfl, heap_alloc_new _ _, fun i k hk => by simp [hk]⟩⟩

theorem SgIn.touchR {B : Nat} {w : World} {a : Sa} {X : List Nat} {s : Sg} (h : SgIn B w a X s) (ino : Int) (h0 : 0 ≤ ino) (h1 : ino ≤ 4294967295) (ad : Option Addr) (n c : Nat) (ks : List Int) (hr : RdKs w (.slice ad n c) ks) (hks : ∀ k ∈ ks, 0 ≤ k ∧ k ≤ 1000) (hn : n ≤ 100) (hL : s.R.length ≤ 18000) :
    Calls Tryz.prog 44 #[.pointer (some ⟨a.r, 0, none⟩), .int .u32 ino, .slice ad n c] w fun e w' => e = .returned (.tuple #[]) ∧ SgOut B w a X { s with R := addK s.R ino ks } w' := by
  obtain ⟨vd, vr, vu, h, rfl⟩ := h
  refine (touch_any h.r ino h0 h1 ad n c ks hr hks hn hL).mono ?_
  rintro e w' ⟨rfl, v', h2, h3⟩
  exact ⟨rfl, h.read h2 h3⟩
theorem SgIn.touchU {B : Nat} {w : World} {a : Sa} {X : List Nat} {s : Sg} (h : SgIn B w a X s) (ino : Int) (h0 : 0 ≤ ino) (h1 : ino ≤ 4294967295) (ad : Option Addr) (n c : Nat) (ks : List Int) (hr : RdKs w (.slice ad n c) ks) (hks : ∀ k ∈ ks, 0 ≤ k ∧ k ≤ 1000) (hn : n ≤ 100) (hL : s.U.length ≤ 18000) :
    Calls Tryz.prog 44 #[.pointer (some ⟨a.u, 0, none⟩), .int .u32 ino, .slice ad n c] w fun e w' => e = .returned (.tuple #[]) ∧ SgOut B w a X { s with U := addK s.U ino ks } w' := by
  obtain ⟨vd, vr, vu, h, rfl⟩ := h
  refine (touch_any h.u ino h0 h1 ad n c ks hr hks hn hL).mono ?_
  rintro e w' ⟨rfl, v', h2, h3⟩
  exact ⟨rfl, h.wrote h2 h3⟩
theorem SgIn.put {B : Nat} {w : World} {a : Sa} {X : List Nat} {s : Sg} (h : SgIn B w a X s) (c : Cg) (hc : CgOk c) (hL : s.d.L.length ≤ 5000) (hP : s.d.pus.length ≤ 5000) :
    Calls Tryz.prog 35 #[.pointer (some ⟨a.v, 0, none⟩), .agg (cgC c)] w fun e w' => e = .returned (.int .i64 (putX s.d c).2) ∧ SgOut B w a X { s with d := putS s.d c } w' := by
  obtain ⟨vd, vr, vu, h, rfl⟩ := h
  refine (vput_q h.vw h.d c hc hL hP).mono ?_
  rintro e w' ⟨rfl, v', h2, h3⟩
  exact ⟨rfl, h.put h2 h3⟩
theorem InRow.sole {w w' : World} {X : List Nat} {g : Nat} {k m l s : Int} (h : InRow w g k m l s) (hs : Sole X w w') (hg : g ∉ X) : InRow w' g k m l s := ⟨hs.row h.row hg⟩

/-! ### Stat, Size -/

def statR (s : Sg) (ino : Int) : Sg × In4 × Int := if (fdR s ino).2 ≠ 0 then (s, in0, (fdR s ino).2) else ({ s with R := addK s.R ino [1, 2, 3] }, (fdR s ino).1, 0)

end Go.Proofs.YtjjhfginmamlkaaGreat
