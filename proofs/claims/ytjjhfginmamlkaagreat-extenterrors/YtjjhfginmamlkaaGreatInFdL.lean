/- Over a store that may fail: the contract of inode.find (written by tools/laws/InL_gen.py). -/
import Derived.Test.YtjjhfginmamlkaaGreatInStL
import Derived.Test.YtjjhfginmamlkaaGreatS1
namespace Go.Proofs.YtjjhfginmamlkaaGreat.L
open Go.RowKit Go.Maps
set_option linter.unusedVariables false
set_option linter.unusedSimpArgs false
set_option maxRecDepth 100000

def fdR (s : Sg) (ino : Int) : In4 × Int := fdF ino (vgV s.l s.lf s.d (recP ino))
/-- A sight behind one more look for an inode. -/
def fdS (s : Sg) (ino : Int) : Sg := if ino = 0 then s else { s with lf := vgF s.lf s.d (recP ino) }
theorem vgV_len (l : List (ByteArray × ByteArray)) (f : Int) (s : Dl) (q : Pl) : (vgV l f s q).1.bytes.length = 32 := by
  unfold vgV
  split
  · exact chR_len _ (stV_ok l f _).ch.1 _ _ _
  · exact (stV_ok l f q).ch.1
theorem SgAt.asked {B : Nat} {w w' : World} {a : Sa} {vd vr vu : Value} {s : Sg} (h : SgAt B w a vd vr vu s) {ad : Option Addr} {n cap : Nat} {f' : Int} (hq : ∀ q, 0 < n → ad = some q → q.block < B) (hL : LOut w a.g ad n cap s.l f' w') : SgOut B w a (mine a vd vr vu) { s with lf := f' } w' := by
  obtain ⟨_, _, _, hS, _⟩ := h.so
  have hg : a.g ∈ mine a vd vr vu := mine_iff.2 (by simp)
  have oth : ∀ i, i < w.heap.size → i ≠ a.g → w'.heap[i]? = w.heap[i]? := fun i hi hn => hL.sole.block i hi (by simpa using hn)
  have ne : ∀ {i : Nat} {cs : Array Value} {T : TypeId} {fr : Nat × Nat}, w.heap[i]? = some (.cells cs T fr) → T ≠ 65 → w'.heap[i]? = w.heap[i]? := fun hi ht => oth _ (lt_of_row hi) (ne_of_type hi hS.row ht)
  have mp : ∀ {i : Nat} {es : Array MapEntry} {cl : Nat}, w.heap[i]? = some (.map es cl) → w'.heap[i]? = w.heap[i]? := fun {i es cl} hi => oth _ (lt_of_row hi) (fun e => by rw [e, hS.row] at hi; cases hi)
  have ks : ∀ {p b : Nat} {v : Value} {L : List Tc}, SetAt w p b v L → SetAt w' p b v L := fun {p b v L} hs' => hs'.keep hL.sole.size (fun i hi e => by
    rcases e with rfl | rfl | e
    · exact ne hs'.row (by decide)
    · obtain ⟨x, cl, e⟩ := hs'.sp.isMap; exact mp e
    · obtain ⟨cs, e'⟩ := own_row hs'.own e; exact ne e' (by decide))
  refine ⟨mine a vd vr vu, ⟨vd, vr, vu, ⟨(ne h.sr (by decide)).trans h.sr, ⟨(ne h.vw.row (by decide)).trans h.vw.row⟩, ⟨ad, n, cap, hL.so, hq⟩,
    ⟨(ne h.d.row (by decide)).trans h.d.row, h.d.mp.keep (by obtain ⟨x, cl, e⟩ := h.d.mp.isMap; exact mp e), own_keep h.d.pus hL.sole.size (fun q hq hl => by obtain ⟨cs, e⟩ := own_row h.d.pus hq; exact ne e (by decide)), h.d.ok⟩,
    ks h.r, ks h.u, (ne h.x (by decide)).trans h.x, h.n0, h.n1, h.ru, h.rub, h.brb, h.bub, h.vv, h.ge, Nat.le_trans h.le hL.sole.size⟩, rfl⟩, hL.sole.mono (by intro k hk; rw [List.mem_singleton] at hk; subst hk; exact hg), fun k hk => .inl hk⟩
theorem SgIn.get {B : Nat} {w : World} {a : Sa} {X : List Nat} {s : Sg} (h : SgIn B w a X s) (q : Pl) (hq : PlOk q) : Calls Tryz.prog 73 #[.pointer (some ⟨a.v, 0, none⟩), plV q] w fun e w' =>
    e = .returned (.tuple #[.agg (itC (vgV s.l s.lf s.d q).1), .bool (vgV s.l s.lf s.d q).2.1, .int .i64 (vgV s.l s.lf s.d q).2.2]) ∧ SgOut B w a X { s with lf := vgF s.lf s.d q } w' := by
  obtain ⟨vd, vr, vu, h, rfl⟩ := h
  obtain ⟨ad, n, cap, hS, hb⟩ := h.so
  refine (vget_l (B := 0) (w0 := w) h.vw ⟨Below.refl _ _, Nat.zero_le _, ⟨vd, h.d, fun _ _ => Nat.zero_le _⟩, Nat.zero_le _, Nat.zero_le _⟩ hS q hq).mono ?_
  rintro e w' ⟨rfl, hL⟩
  exact ⟨rfl, h.asked hb hL⟩
theorem SgIn.row {B : Nat} {w : World} {a : Sa} {X : List Nat} {s : Sg} (h : SgIn B w a X s) : w.heap[a.s]? = some (.cells #[.pointer (some ⟨a.v, 0, none⟩), .pointer (some ⟨a.r, 0, none⟩), .pointer (some ⟨a.u, 0, none⟩), alV a.x] 56 (0, 0)) := by
  obtain ⟨vd, vr, vu, h, rfl⟩ := h
  exact h.sr
theorem SgIn.not_sight {B : Nat} {w : World} {a : Sa} {X : List Nat} {s : Sg} (h : SgIn B w a X s) : a.s ∉ X := by
  obtain ⟨vd, vr, vu, h, rfl⟩ := h
  exact h.other h.sr (by decide) (by decide) (by decide) (by decide) (by decide) (by decide)
theorem SgIn.c0 {B : Nat} {w : World} {a : Sa} {X : List Nat} {s : Sg} (h : SgIn B w a X s) : w.cell? ⟨a.s, 0, none⟩ = some (.pointer (some ⟨a.v, 0, none⟩)) := by rw [cell_of_row _ _ _ _ _ (0, 0) h.row]; rfl
theorem SgIn.c1 {B : Nat} {w : World} {a : Sa} {X : List Nat} {s : Sg} (h : SgIn B w a X s) : w.cell? ⟨a.s, 1, none⟩ = some (.pointer (some ⟨a.r, 0, none⟩)) := by rw [cell_of_row _ _ _ _ _ (0, 0) h.row]; rfl
theorem SgIn.c2 {B : Nat} {w : World} {a : Sa} {X : List Nat} {s : Sg} (h : SgIn B w a X s) : w.cell? ⟨a.s, 2, none⟩ = some (.pointer (some ⟨a.u, 0, none⟩)) := by rw [cell_of_row _ _ _ _ _ (0, 0) h.row]; rfl
theorem SgIn.c3 {B : Nat} {w : World} {a : Sa} {X : List Nat} {s : Sg} (h : SgIn B w a X s) : w.cell? ⟨a.s, 3, none⟩ = some (alV a.x) := by rw [cell_of_row _ _ _ _ _ (0, 0) h.row]; rfl
theorem SgOut.sole {B : Nat} {w w' : World} {a : Sa} {X : List Nat} {s : Sg} (h : SgOut B w a X s w') : Sole X w w' := by
  obtain ⟨X', _, h2, _⟩ := h
  exact h2

set_option maxHeartbeats 8000000 in
theorem find_in {B : Nat} {w : World} {a : Sa} {X : List Nat} {s : Sg} (h : SgIn B w a X s) (ino : Int) (h0 : 0 ≤ ino) (h1 : ino ≤ 4294967295) : Calls Tryz.prog 43 #[.pointer (some ⟨a.s, 0, none⟩), .int .u32 ino] w fun e w' =>
    e = .returned (.tuple #[inV (fdR s ino).1, .int .i64 (fdR s ino).2]) ∧ SgOut B w a X (fdS s ino) w' := by
  have hz := zeroItem
  have len0 := ch_zero.1
  have al : ∀ (A : World) (o : Obj), Below A.heap.size A (A.alloc o) := fun A o => (Below.refl _ A).alloc (Nat.le_refl _) o
  have hb1 := al w (.cells #[.int .i64 0, .int .i64 0, .int .i64 0, .int .i64 0] 89)
  have hr1 : InRow (w.alloc (.cells #[.int .i64 0, .int .i64 0, .int .i64 0, .int .i64 0] 89)) w.heap.size 0 0 0 0 := ⟨heap_alloc_new w _⟩
  obtain ⟨w1, hw1⟩ : ∃ w1, w.alloc (.cells #[.int .i64 0, .int .i64 0, .int .i64 0, .int .i64 0] 89) = w1 := ⟨_, rfl⟩
  rw [hw1] at hb1 hr1
  have h1' := h.below hb1
  have HXW : Hid (∀ k ∈ X, k < w.heap.size) := h.lt
  have HBW : Hid (B ≤ w.heap.size) := h.lts.2.2.2
  have HW1 : Hid (w.heap.size ≤ w1.heap.size) := hb1.size
  have hin0 := h1'
  have hin := h1'.drew
  have hbl := hb1.drew
  have HH : Hid (SgIn B w a X s) := h
  have cr : ∀ W, Calls Tryz.prog 36 #[.int .u32 ino] W fun e w' => e = .returned (plV (recP ino)) ∧ Below W.heap.size W w' := fun W => irec_any W ino
  have cg : ∀ W, SgIn B W a X s → Calls Tryz.prog 73 #[.pointer (some ⟨a.v, 0, none⟩), plV (recP ino)] W fun e w' =>
    e = .returned (.tuple #[.agg (itC (vgV s.l s.lf s.d (recP ino)).1), .bool (vgV s.l s.lf s.d (recP ino)).2.1, .int .i64 (vgV s.l s.lf s.d (recP ino)).2.2]) ∧ SgOut B W a X { s with lf := vgF s.lf s.d (recP ino) } w' := fun W hW => hW.get _ (recP_ok h0 h1)
  have qv : ∀ W, Sole X w1 W → W.cell? ⟨a.s, 0, none⟩ = some (.pointer (some ⟨a.v, 0, none⟩)) := fun W hW => by
    have hr := hW.row hin0.row (hin0.not_sight)
    rw [cell_of_row _ _ _ _ _ (0, 0) hr]; rfl
  have hlen := vgV_len s.l s.lf s.d (recP ino)
  have HF : Hid (fdF ino (vgV s.l s.lf s.d (recP ino)) = fdR s ino) := rfl
  have HS1 : Hid (fdS s ino = if ino = 0 then s else { s with lf := vgF s.lf s.d (recP ino) }) := rfl
  obtain ⟨S1, hS1⟩ : ∃ S1, fdS s ino = S1 := ⟨_, rfl⟩
  rw [hS1] at HS1 ⊢
  clear hS1
  generalize fdR s ino = F at *
  generalize vgV s.l s.lf s.d (recP ino) = V at *
  obtain ⟨x, is, er⟩ := V
  dsimp only at cg hlen
  have HX : Hid (x.bytes.length = 32) := hlen
  clear hlen h h1'
  by_cases hi : ino = 0
  case pos =>
    subst hi
    have HE : Hid (F = (in0, 220)) := by unfold Hid; rw [← HF.out]; rfl
    have r0 := hr1.cell 0 _ rfl
    have r1 := hr1.cell 1 _ rfl
    have r2 := hr1.cell 2 _ rfl
    have r3 := hr1.cell 3 _ rfl
    have q0 := hr1.fr 0
    have q1 := hr1.fr 1
    have q2 := hr1.fr 2
    have q3 := hr1.fr 3
    have HSE : Hid (S1 = s) := by unfold Hid; rw [HS1.out]; rfl
    clear cr cg qv HF hin hin0 hbl
    go_enter Tryz.func43, Tryz.ntmps43
    go_wp2
    refine ret_in2 rfl w.heap.size 0 0 0 0 rfl _ rfl (InRow.put hr1 _ _ _ _) rfl ⟨by rw [HE.out]; rfl, ?_⟩
    rw [HSE.out]
    exact HH.out.out ((((hb1.setCell (Nat.le_refl _) _).setCell (Nat.le_refl _) _).setCell (Nat.le_refl _) _).setCell (Nat.le_refl _) _)
  have hib : (ino == 0) = false := by simpa using hi
  have HF2 : Hid ((if er ≠ 0 then (in0, er) else if is then ((⟨x.kind, x.mode, x.links, x.size⟩ : In4), 0) else (in0, 220)) = F) := by
    have := HF.out; unfold fdF at this; rw [if_neg hi] at this; exact this
  clear HF
  have HF := HF2
  have HSE : Hid (S1 = { s with lf := vgF s.lf s.d (recP ino) }) := by unfold Hid; rw [HS1.out, if_neg hi]
  have cg2 := cg
  rw [← HSE.out] at cg2
  clear cg
  have cg := cg2
  clear HF2 hi cg2
  go_enter Tryz.func43, Tryz.ntmps43
  go_wp2_with fail
  refine wp_region_noPanic ?_
  refine wp_region_held_drew (S := fun W => Sole X w1 W) (by kernel_rfl) (Sole.drew _ _) (fun hHeld => ?_)
  refine wpAnyH_take (i := 0) (v := .pointer (some ⟨a.s, 0, none⟩)) rfl (by kernel_rfl) (by kernel_rfl) (by kernel_rfl) (fun _ _ _ h => h) (Or.inl ⟨by rfl, fun W hSw => by (try dsimp only at hSw); go_simp⟩) (by assumption) ?_
  try simp only [List.getElem_toArray, List.getElem_cons_zero, List.getElem_cons_succ, Act.put, List.setIfInBounds_toArray, List.set_cons_zero, List.set_cons_succ]
  refine wpAnyH_take (i := 1) (v := .pointer (some ⟨a.s, 0, none⟩)) rfl (by kernel_rfl) (by kernel_rfl) (by kernel_rfl) (fun _ _ _ h => h) (Or.inl ⟨by rfl, fun W hSw => by (try dsimp only at hSw); go_simp⟩) (by assumption) ?_
  try simp only [List.getElem_toArray, List.getElem_cons_zero, List.getElem_cons_succ, Act.put, List.setIfInBounds_toArray, List.set_cons_zero, List.set_cons_succ]
  refine wpAnyH_take (i := 2) (v := .pointer (some ⟨a.s, 0, none⟩)) rfl (by kernel_rfl) (by kernel_rfl) (by kernel_rfl) (fun _ _ _ h => h) (Or.inl ⟨by rfl, fun W hSw => by (try dsimp only at hSw); go_simp⟩) (by assumption) ?_
  try simp only [List.getElem_toArray, List.getElem_cons_zero, List.getElem_cons_succ, Act.put, List.setIfInBounds_toArray, List.set_cons_zero, List.set_cons_succ]
  refine wpAnyH_take (i := 3) (v := .pointer (some ⟨a.v, 0, none⟩)) rfl (by kernel_rfl) (by kernel_rfl) (by kernel_rfl) (fun _ _ _ h => h) (Or.inl ⟨by rfl, fun W hSw => by (try dsimp only at hSw); (have z := qv W hSw; go_simp)⟩) (by assumption) ?_
  try simp only [List.getElem_toArray, List.getElem_cons_zero, List.getElem_cons_succ, Act.put, List.setIfInBounds_toArray, List.set_cons_zero, List.set_cons_succ]
  refine wpAnyH_take (i := 4) (v := .int .u32 ino) rfl (by kernel_rfl) (by kernel_rfl) (by kernel_rfl) (fun _ _ _ h => h) (Or.inl ⟨by rfl, fun W hSw => by (try dsimp only at hSw); go_simp⟩) (by assumption) ?_
  try simp only [List.getElem_toArray, List.getElem_cons_zero, List.getElem_cons_succ, Act.put, List.setIfInBounds_toArray, List.set_cons_zero, List.set_cons_succ]
  refine wpAnyH_ready (rs := [5, 11]) (by kernel_rfl) (by simp) ?_
  refine AllReadyH.cons rfl (fun K hK => ?_) (AllReadyH.cons rfl (fun K hK => ?_) AllReadyH.nil)
  · skip
    go_simp
    go_wp2_with (go_at_call 36; refine (cr _).mono ?_; rintro e w5 ⟨rfl, hb5⟩)
    have hbl5 := hbl.trans (hb5.mono hbl.size)
    have hin5 := hin.below hb5
    clear hbl hin
    have hbl := hbl5
    have hin := hin5
    clear hbl5 hin5
    refine hK.out _ _ (hHeld.trans (Sole.of_below hb5 _)) (fun hHeldA => ?_)
    clear hK K
    try simp only [List.getElem_toArray, List.getElem_cons_zero, List.getElem_cons_succ, Act.put, List.setIfInBounds_toArray, List.set_cons_zero, List.set_cons_succ]
    refine wpAnyH_ready (rs := [6, 11]) (by kernel_rfl) (by simp) ?_
    refine AllReadyH.cons rfl (fun K hK => ?_) (AllReadyH.cons rfl (fun K hK => ?_) AllReadyH.nil)
    · skip
      go_simp
      go_wp2_with (go_at_call 73; refine (cg _ hin).mono ?_; rintro e w6 ⟨rfl, hb6⟩)
      have hO := SgOut.pre hbl hb6
      clear hbl hin
      refine hK.out _ _ (hHeldA.trans hb6.sole) (fun hHeldB => ?_)
      clear hK K
      try simp only [List.getElem_toArray, List.getElem_cons_zero, List.getElem_cons_succ, Act.put, List.setIfInBounds_toArray, List.set_cons_zero, List.set_cons_succ]
      refine wpAnyH_take (i := 7) (v := .tuple #[.agg (itC x), .bool is, .int .i64 er]) rfl (by kernel_rfl) (by kernel_rfl) (by kernel_rfl) (fun _ _ _ h => h) (Or.inl ⟨by rfl, fun W hSw => by (try dsimp only at hSw); go_simp⟩) (by assumption) ?_
      try simp only [List.getElem_toArray, List.getElem_cons_zero, List.getElem_cons_succ, Act.put, List.setIfInBounds_toArray, List.set_cons_zero, List.set_cons_succ]
      refine wpAnyH_take (i := 8) (v := .agg (itC x)) rfl (by kernel_rfl) (by kernel_rfl) (by kernel_rfl) (fun _ _ _ h => h) (Or.inl ⟨by rfl, fun W hSw => by (try dsimp only at hSw); go_simp⟩) (by assumption) ?_
      try simp only [List.getElem_toArray, List.getElem_cons_zero, List.getElem_cons_succ, Act.put, List.setIfInBounds_toArray, List.set_cons_zero, List.set_cons_succ]
      refine wpAnyH_take (i := 9) (v := .bool is) rfl (by kernel_rfl) (by kernel_rfl) (by kernel_rfl) (fun _ _ _ h => h) (Or.inl ⟨by rfl, fun W hSw => by (try dsimp only at hSw); go_simp⟩) (by assumption) ?_
      try simp only [List.getElem_toArray, List.getElem_cons_zero, List.getElem_cons_succ, Act.put, List.setIfInBounds_toArray, List.set_cons_zero, List.set_cons_succ]
      refine wpAnyH_take (i := 10) (v := .int .i64 er) rfl (by kernel_rfl) (by kernel_rfl) (by kernel_rfl) (fun _ _ _ h => h) (Or.inl ⟨by rfl, fun W hSw => by (try dsimp only at hSw); go_simp⟩) (by assumption) ?_
      try simp only [List.getElem_toArray, List.getElem_cons_zero, List.getElem_cons_succ, Act.put, List.setIfInBounds_toArray, List.set_cons_zero, List.set_cons_succ]
      refine wpAnyH_ready (rs := [11]) (by kernel_rfl) (by simp) ?_
      refine AllReadyH.cons rfl (fun K hK => ?_) AllReadyH.nil
      go_simp
      go_wp2
      have hat := ItAt.laid 150 w6 it0
      have hba := al w6 (.cells (itC it0) 150)
      have HGE : Hid (w1.heap.size ≤ w6.heap.size) := hHeldB.size
      obtain ⟨G, hG⟩ : ∃ G, w6.heap.size = G := ⟨_, rfl⟩
      first | (have hO2 := hO.post hba; clear hO; have hO := hO2; clear hO2) | (have hbl5 := hbl.trans (hba.mono hbl.size); have hin5 := hin.below hba; clear hbl hin; have hbl := hbl5; have hin := hin5; clear hbl5 hin5)
      refine hK.out _ _ (hHeldB.trans (Sole.of_below hba _)) (fun hHeldC => ?_)
      clear hK K
      obtain ⟨w8, hw8⟩ : ∃ w8, w6.alloc (.cells (itC it0) 150) = w8 := ⟨_, rfl⟩
      rw [hw8] at hat hHeldC ⊢
      first | rw [hw8] at hO | rw [hw8] at hbl hin
      rw [hG] at hat HGE ⊢
      try simp only [List.getElem_toArray, List.getElem_cons_zero, List.getElem_cons_succ, Act.put, List.setIfInBounds_toArray, List.set_cons_zero, List.set_cons_succ]
      clear hba hw8 hG
      refine wpAnyH_ready (rs := [12]) (by kernel_rfl) (by simp) ?_
      refine AllReadyH.cons rfl (fun K hK => ?_) AllReadyH.nil
      rw [if_pos (by rfl)]
      refine wp_stI _ _ rfl G x it0 rfl rfl HX.out len0 hat ?_
      have hO7 := hO.finT HBW.out (Nat.le_trans HW1.out HGE.out) hat.row (by decide) (by decide) (by decide) (by decide) (by decide) (by decide) (by decide) (by decide) (sole_setRow _ G (itC x))
      refine hK.out _ _ (hHeldC.after (sole_setRow _ _ _) (fun k hk => .inr (by rw [List.mem_singleton] at hk; have := HGE.out; omega))) (fun hHeldY => ?_)
      clear hK K
      try simp only [List.getElem_toArray, List.getElem_cons_zero, List.getElem_cons_succ, Act.put, List.setIfInBounds_toArray, List.set_cons_zero, List.set_cons_succ]
      have hx7 := hat.setRow x
      obtain ⟨w7, hw7⟩ : ∃ w7, w8.setRow G (itC x) = w7 := ⟨_, rfl⟩
      rw [hw7] at hx7 hHeldY hO7 ⊢
      have hHeldZ := hHeldY
      refine wpAnyH_take (i := 13) (v := .bool is) rfl (by kernel_rfl) (by kernel_rfl) (by kernel_rfl) (fun _ _ _ h => h) (Or.inl ⟨by rfl, fun W hSw => by (try dsimp only at hSw); go_simp⟩) (by assumption) ?_
      try simp only [List.getElem_toArray, List.getElem_cons_zero, List.getElem_cons_succ, Act.put, List.setIfInBounds_toArray, List.set_cons_zero, List.set_cons_succ]
      refine wpAnyH_take (i := 14) (v := .int .i64 er) rfl (by kernel_rfl) (by kernel_rfl) (by kernel_rfl) (fun _ _ _ h => h) (Or.inl ⟨by rfl, fun W hSw => by (try dsimp only at hSw); go_simp⟩) (by assumption) ?_
      try simp only [List.getElem_toArray, List.getElem_cons_zero, List.getElem_cons_succ, Act.put, List.setIfInBounds_toArray, List.set_cons_zero, List.set_cons_succ]
      clear hw7 hat
      refine wpAnyH_done (by kernel_rfl) ?_ _
      refine NoPanic.normal ?_
      have hres := hr1.sole hHeldZ (fun e => by have := HXW.out _ e; omega)
      have HO7 : Hid (SgOut B w a X S1 w7) := hO7
      have r0 := hres.cell 0 _ rfl
      have r1 := hres.cell 1 _ rfl
      have r2 := hres.cell 2 _ rfl
      have r3 := hres.cell 3 _ rfl
      have q0 := hres.fr 0
      have q1 := hres.fr 1
      have q2 := hres.fr 2
      have q3 := hres.fr 3
      have HRES : Hid (InRow w7 w.heap.size 0 0 0 0) := hres
      have lJ : Hid _ := hx7.loadJ
      have HFB : Hid (∀ k m l s : Int, SgOut B w a X S1 ((((w7.setCell ⟨w.heap.size, 0, none⟩ (.int .i64 k)).setCell ⟨w.heap.size, 1, none⟩ (.int .i64 m)).setCell ⟨w.heap.size, 2, none⟩ (.int .i64 l)).setCell ⟨w.heap.size, 3, none⟩ (.int .i64 s))) := fun k m l s => HO7.out.finI HBW.out (Nat.le_refl _) HRES.out (sole4 _ _ _ _ _ _)
      clear cr cg qv hHeldZ hres hx7 hr1 hO7
      by_cases he : er = 0
      case neg =>
        have heb : (er != 0) = true := by simpa using he
        have HE : Hid (F = (in0, er)) := by unfold Hid; rw [← HF.out, if_pos he]
        go_wp2
        refine ret_in2 rfl w.heap.size 0 0 0 0 rfl _ rfl (InRow.put HRES.out _ _ _ _) rfl ⟨by rw [HE.out]; rfl, HFB.out _ _ _ _⟩
      subst he
      cases is with
      | false =>
        have HE : Hid (F = (in0, 220)) := by unfold Hid; rw [← HF.out]; rfl
        go_wp2
        refine ret_in2 rfl w.heap.size 0 0 0 0 rfl _ rfl (InRow.put HRES.out _ _ _ _) rfl ⟨by rw [HE.out]; rfl, HFB.out _ _ _ _⟩
      | true =>
        have HE : Hid (F = (⟨x.kind, x.mode, x.links, x.size⟩, 0)) := by unfold Hid; rw [← HF.out]; rfl
        go_wp2_with (refine wpList_loadG rfl 89 _ rfl _ rfl _ lJ.out ?_)
        refine ret_in2 rfl w.heap.size x.kind x.mode x.links x.size rfl _ rfl (InRow.put HRES.out _ _ _ _) rfl ⟨by rw [HE.out]; rfl, HFB.out _ _ _ _⟩
    · skip
      go_simp
      go_wp2
      have hat := ItAt.laid 150 w5 it0
      have hba := al w5 (.cells (itC it0) 150)
      have HGE : Hid (w1.heap.size ≤ w5.heap.size) := hHeldA.size
      obtain ⟨G, hG⟩ : ∃ G, w5.heap.size = G := ⟨_, rfl⟩
      first | (have hO2 := hO.post hba; clear hO; have hO := hO2; clear hO2) | (have hbl5 := hbl.trans (hba.mono hbl.size); have hin5 := hin.below hba; clear hbl hin; have hbl := hbl5; have hin := hin5; clear hbl5 hin5)
      refine hK.out _ _ (hHeldA.trans (Sole.of_below hba _)) (fun hHeldC => ?_)
      clear hK K
      obtain ⟨w8, hw8⟩ : ∃ w8, w5.alloc (.cells (itC it0) 150) = w8 := ⟨_, rfl⟩
      rw [hw8] at hat hHeldC ⊢
      first | rw [hw8] at hO | rw [hw8] at hbl hin
      rw [hG] at hat HGE ⊢
      try simp only [List.getElem_toArray, List.getElem_cons_zero, List.getElem_cons_succ, Act.put, List.setIfInBounds_toArray, List.set_cons_zero, List.set_cons_succ]
      clear hba hw8 hG
      refine wpAnyH_ready (rs := [6]) (by kernel_rfl) (by simp) ?_
      refine AllReadyH.cons rfl (fun K hK => ?_) AllReadyH.nil
      go_simp
      go_wp2_with (go_at_call 73; refine (cg _ hin).mono ?_; rintro e w9 ⟨rfl, hb6⟩)
      have hO := SgOut.pre hbl hb6
      clear hbl hin
      refine hK.out _ _ (hHeldC.trans hb6.sole) (fun hHeldB => ?_)
      clear hK K
      try simp only [List.getElem_toArray, List.getElem_cons_zero, List.getElem_cons_succ, Act.put, List.setIfInBounds_toArray, List.set_cons_zero, List.set_cons_succ]
      refine wpAnyH_take (i := 7) (v := .tuple #[.agg (itC x), .bool is, .int .i64 er]) rfl (by kernel_rfl) (by kernel_rfl) (by kernel_rfl) (fun _ _ _ h => h) (Or.inl ⟨by rfl, fun W hSw => by (try dsimp only at hSw); go_simp⟩) (by assumption) ?_
      try simp only [List.getElem_toArray, List.getElem_cons_zero, List.getElem_cons_succ, Act.put, List.setIfInBounds_toArray, List.set_cons_zero, List.set_cons_succ]
      refine wpAnyH_take (i := 8) (v := .agg (itC x)) rfl (by kernel_rfl) (by kernel_rfl) (by kernel_rfl) (fun _ _ _ h => h) (Or.inl ⟨by rfl, fun W hSw => by (try dsimp only at hSw); go_simp⟩) (by assumption) ?_
      try simp only [List.getElem_toArray, List.getElem_cons_zero, List.getElem_cons_succ, Act.put, List.setIfInBounds_toArray, List.set_cons_zero, List.set_cons_succ]
      refine wpAnyH_take (i := 9) (v := .bool is) rfl (by kernel_rfl) (by kernel_rfl) (by kernel_rfl) (fun _ _ _ h => h) (Or.inl ⟨by rfl, fun W hSw => by (try dsimp only at hSw); go_simp⟩) (by assumption) ?_
      try simp only [List.getElem_toArray, List.getElem_cons_zero, List.getElem_cons_succ, Act.put, List.setIfInBounds_toArray, List.set_cons_zero, List.set_cons_succ]
      refine wpAnyH_take (i := 10) (v := .int .i64 er) rfl (by kernel_rfl) (by kernel_rfl) (by kernel_rfl) (fun _ _ _ h => h) (Or.inl ⟨by rfl, fun W hSw => by (try dsimp only at hSw); go_simp⟩) (by assumption) ?_
      try simp only [List.getElem_toArray, List.getElem_cons_zero, List.getElem_cons_succ, Act.put, List.setIfInBounds_toArray, List.set_cons_zero, List.set_cons_succ]
      have hat2 : ItAt 150 _ _ it0 := ⟨(hb6.sole.block _ (lt_of_row hat.row) (fun e => by have := HXW.out _ e; have := HGE.out; have := HW1.out; omega)).trans hat.row⟩
      clear hat
      have hat := hat2
      refine wpAnyH_ready (rs := [12]) (by kernel_rfl) (by simp) ?_
      refine AllReadyH.cons rfl (fun K hK => ?_) AllReadyH.nil
      rw [if_pos (by rfl)]
      refine wp_stI _ _ rfl G x it0 rfl rfl HX.out len0 hat ?_
      have hO7 := hO.finT HBW.out (Nat.le_trans HW1.out HGE.out) hat.row (by decide) (by decide) (by decide) (by decide) (by decide) (by decide) (by decide) (by decide) (sole_setRow _ G (itC x))
      refine hK.out _ _ (hHeldB.after (sole_setRow _ _ _) (fun k hk => .inr (by rw [List.mem_singleton] at hk; have := HGE.out; omega))) (fun hHeldY => ?_)
      clear hK K
      try simp only [List.getElem_toArray, List.getElem_cons_zero, List.getElem_cons_succ, Act.put, List.setIfInBounds_toArray, List.set_cons_zero, List.set_cons_succ]
      have hx7 := hat.setRow x
      obtain ⟨w7, hw7⟩ : ∃ w7, w9.setRow G (itC x) = w7 := ⟨_, rfl⟩
      rw [hw7] at hx7 hHeldY hO7 ⊢
      have hHeldZ := hHeldY
      refine wpAnyH_take (i := 13) (v := .bool is) rfl (by kernel_rfl) (by kernel_rfl) (by kernel_rfl) (fun _ _ _ h => h) (Or.inl ⟨by rfl, fun W hSw => by (try dsimp only at hSw); go_simp⟩) (by assumption) ?_
      try simp only [List.getElem_toArray, List.getElem_cons_zero, List.getElem_cons_succ, Act.put, List.setIfInBounds_toArray, List.set_cons_zero, List.set_cons_succ]
      refine wpAnyH_take (i := 14) (v := .int .i64 er) rfl (by kernel_rfl) (by kernel_rfl) (by kernel_rfl) (fun _ _ _ h => h) (Or.inl ⟨by rfl, fun W hSw => by (try dsimp only at hSw); go_simp⟩) (by assumption) ?_
      try simp only [List.getElem_toArray, List.getElem_cons_zero, List.getElem_cons_succ, Act.put, List.setIfInBounds_toArray, List.set_cons_zero, List.set_cons_succ]
      clear hw7 hat
      refine wpAnyH_done (by kernel_rfl) ?_ _
      refine NoPanic.normal ?_
      have hres := hr1.sole hHeldZ (fun e => by have := HXW.out _ e; omega)
      have HO7 : Hid (SgOut B w a X S1 w7) := hO7
      have r0 := hres.cell 0 _ rfl
      have r1 := hres.cell 1 _ rfl
      have r2 := hres.cell 2 _ rfl
      have r3 := hres.cell 3 _ rfl
      have q0 := hres.fr 0
      have q1 := hres.fr 1
      have q2 := hres.fr 2
      have q3 := hres.fr 3
      have HRES : Hid (InRow w7 w.heap.size 0 0 0 0) := hres
      have lJ : Hid _ := hx7.loadJ
      have HFB : Hid (∀ k m l s : Int, SgOut B w a X S1 ((((w7.setCell ⟨w.heap.size, 0, none⟩ (.int .i64 k)).setCell ⟨w.heap.size, 1, none⟩ (.int .i64 m)).setCell ⟨w.heap.size, 2, none⟩ (.int .i64 l)).setCell ⟨w.heap.size, 3, none⟩ (.int .i64 s))) := fun k m l s => HO7.out.finI HBW.out (Nat.le_refl _) HRES.out (sole4 _ _ _ _ _ _)
      clear cr cg qv hHeldZ hres hx7 hr1 hO7
      by_cases he : er = 0
      case neg =>
        have heb : (er != 0) = true := by simpa using he
        have HE : Hid (F = (in0, er)) := by unfold Hid; rw [← HF.out, if_pos he]
        go_wp2
        refine ret_in2 rfl w.heap.size 0 0 0 0 rfl _ rfl (InRow.put HRES.out _ _ _ _) rfl ⟨by rw [HE.out]; rfl, HFB.out _ _ _ _⟩
      subst he
      cases is with
      | false =>
        have HE : Hid (F = (in0, 220)) := by unfold Hid; rw [← HF.out]; rfl
        go_wp2
        refine ret_in2 rfl w.heap.size 0 0 0 0 rfl _ rfl (InRow.put HRES.out _ _ _ _) rfl ⟨by rw [HE.out]; rfl, HFB.out _ _ _ _⟩
      | true =>
        have HE : Hid (F = (⟨x.kind, x.mode, x.links, x.size⟩, 0)) := by unfold Hid; rw [← HF.out]; rfl
        go_wp2_with (refine wpList_loadG rfl 89 _ rfl _ rfl _ lJ.out ?_)
        refine ret_in2 rfl w.heap.size x.kind x.mode x.links x.size rfl _ rfl (InRow.put HRES.out _ _ _ _) rfl ⟨by rw [HE.out]; rfl, HFB.out _ _ _ _⟩
  · skip
    go_simp
    go_wp2
    have hat : ItAt 150 (w1.alloc (.cells (itC it0) 150)).drew w1.heap.size it0 := ⟨(ItAt.laid 150 w1 it0).row⟩
    have HGE : Hid (w1.heap.size ≤ w1.heap.size) := Nat.le_refl _
    have hbl5 := (hb1.trans ((al w1 (.cells (itC it0) 150)).mono hb1.size)).drew
    have hin5 := (hin0.below (al w1 (.cells (itC it0) 150))).drew
    clear hbl hin
    have hbl := hbl5
    have hin := hin5
    clear hbl5 hin5
    refine hK.out _ _ (Sole.of_below (al w1 (.cells (itC it0) 150)).drew _) (fun hHeldC => ?_)
    clear hK K
    obtain ⟨w8, hw8⟩ : ∃ w8, (w1.alloc (.cells (itC it0) 150)).drew = w8 := ⟨_, rfl⟩
    rw [hw8] at hat hHeldC hbl hin ⊢
    try simp only [List.getElem_toArray, List.getElem_cons_zero, List.getElem_cons_succ, Act.put, List.setIfInBounds_toArray, List.set_cons_zero, List.set_cons_succ]
    clear hw8
    refine wpAnyH_ready (rs := [5]) (by kernel_rfl) (by simp) ?_
    refine AllReadyH.cons rfl (fun K hK => ?_) AllReadyH.nil
    go_simp
    go_wp2_with (go_at_call 36; refine (cr _).mono ?_; rintro e w5 ⟨rfl, hb5⟩)
    have hbl5 := hbl.trans (hb5.mono hbl.size)
    have hin5 := hin.below hb5
    clear hbl hin
    have hbl := hbl5
    have hin := hin5
    clear hbl5 hin5
    refine hK.out _ _ (hHeldC.trans (Sole.of_below hb5 _)) (fun hHeldA => ?_)
    clear hK K
    try simp only [List.getElem_toArray, List.getElem_cons_zero, List.getElem_cons_succ, Act.put, List.setIfInBounds_toArray, List.set_cons_zero, List.set_cons_succ]
    have hat2 := hat.below hb5
    clear hat
    have hat := hat2
    refine wpAnyH_ready (rs := [6]) (by kernel_rfl) (by simp) ?_
    refine AllReadyH.cons rfl (fun K hK => ?_) AllReadyH.nil
    go_simp
    go_wp2_with (go_at_call 73; refine (cg _ hin).mono ?_; rintro e w9 ⟨rfl, hb6⟩)
    have hO := SgOut.pre hbl hb6
    clear hbl hin
    refine hK.out _ _ (hHeldA.trans hb6.sole) (fun hHeldB => ?_)
    clear hK K
    try simp only [List.getElem_toArray, List.getElem_cons_zero, List.getElem_cons_succ, Act.put, List.setIfInBounds_toArray, List.set_cons_zero, List.set_cons_succ]
    refine wpAnyH_take (i := 7) (v := .tuple #[.agg (itC x), .bool is, .int .i64 er]) rfl (by kernel_rfl) (by kernel_rfl) (by kernel_rfl) (fun _ _ _ h => h) (Or.inl ⟨by rfl, fun W hSw => by (try dsimp only at hSw); go_simp⟩) (by assumption) ?_
    try simp only [List.getElem_toArray, List.getElem_cons_zero, List.getElem_cons_succ, Act.put, List.setIfInBounds_toArray, List.set_cons_zero, List.set_cons_succ]
    refine wpAnyH_take (i := 8) (v := .agg (itC x)) rfl (by kernel_rfl) (by kernel_rfl) (by kernel_rfl) (fun _ _ _ h => h) (Or.inl ⟨by rfl, fun W hSw => by (try dsimp only at hSw); go_simp⟩) (by assumption) ?_
    try simp only [List.getElem_toArray, List.getElem_cons_zero, List.getElem_cons_succ, Act.put, List.setIfInBounds_toArray, List.set_cons_zero, List.set_cons_succ]
    refine wpAnyH_take (i := 9) (v := .bool is) rfl (by kernel_rfl) (by kernel_rfl) (by kernel_rfl) (fun _ _ _ h => h) (Or.inl ⟨by rfl, fun W hSw => by (try dsimp only at hSw); go_simp⟩) (by assumption) ?_
    try simp only [List.getElem_toArray, List.getElem_cons_zero, List.getElem_cons_succ, Act.put, List.setIfInBounds_toArray, List.set_cons_zero, List.set_cons_succ]
    refine wpAnyH_take (i := 10) (v := .int .i64 er) rfl (by kernel_rfl) (by kernel_rfl) (by kernel_rfl) (fun _ _ _ h => h) (Or.inl ⟨by rfl, fun W hSw => by (try dsimp only at hSw); go_simp⟩) (by assumption) ?_
    try simp only [List.getElem_toArray, List.getElem_cons_zero, List.getElem_cons_succ, Act.put, List.setIfInBounds_toArray, List.set_cons_zero, List.set_cons_succ]
    have hat2 : ItAt 150 _ _ it0 := ⟨(hb6.sole.block _ (lt_of_row hat.row) (fun e => by have := HXW.out _ e; have := HGE.out; have := HW1.out; omega)).trans hat.row⟩
    clear hat
    have hat := hat2
    refine wpAnyH_ready (rs := [12]) (by kernel_rfl) (by simp) ?_
    refine AllReadyH.cons rfl (fun K hK => ?_) AllReadyH.nil
    rw [if_pos (by rfl)]
    refine wp_stI _ _ rfl w1.heap.size x it0 rfl rfl HX.out len0 hat ?_
    have hO7 := hO.finT HBW.out (Nat.le_trans HW1.out HGE.out) hat.row (by decide) (by decide) (by decide) (by decide) (by decide) (by decide) (by decide) (by decide) (sole_setRow _ w1.heap.size (itC x))
    refine hK.out _ _ (hHeldB.after (sole_setRow _ _ _) (fun k hk => .inr (by rw [List.mem_singleton] at hk; have := HGE.out; omega))) (fun hHeldY => ?_)
    clear hK K
    try simp only [List.getElem_toArray, List.getElem_cons_zero, List.getElem_cons_succ, Act.put, List.setIfInBounds_toArray, List.set_cons_zero, List.set_cons_succ]
    have hx7 := hat.setRow x
    obtain ⟨w7, hw7⟩ : ∃ w7, w9.setRow w1.heap.size (itC x) = w7 := ⟨_, rfl⟩
    rw [hw7] at hx7 hHeldY hO7 ⊢
    have hHeldZ := hHeldY
    refine wpAnyH_take (i := 13) (v := .bool is) rfl (by kernel_rfl) (by kernel_rfl) (by kernel_rfl) (fun _ _ _ h => h) (Or.inl ⟨by rfl, fun W hSw => by (try dsimp only at hSw); go_simp⟩) (by assumption) ?_
    try simp only [List.getElem_toArray, List.getElem_cons_zero, List.getElem_cons_succ, Act.put, List.setIfInBounds_toArray, List.set_cons_zero, List.set_cons_succ]
    refine wpAnyH_take (i := 14) (v := .int .i64 er) rfl (by kernel_rfl) (by kernel_rfl) (by kernel_rfl) (fun _ _ _ h => h) (Or.inl ⟨by rfl, fun W hSw => by (try dsimp only at hSw); go_simp⟩) (by assumption) ?_
    try simp only [List.getElem_toArray, List.getElem_cons_zero, List.getElem_cons_succ, Act.put, List.setIfInBounds_toArray, List.set_cons_zero, List.set_cons_succ]
    clear hw7 hat
    refine wpAnyH_done (by kernel_rfl) ?_ _
    refine NoPanic.normal ?_
    have hres := hr1.sole hHeldZ (fun e => by have := HXW.out _ e; omega)
    have HO7 : Hid (SgOut B w a X S1 w7) := hO7
    have r0 := hres.cell 0 _ rfl
    have r1 := hres.cell 1 _ rfl
    have r2 := hres.cell 2 _ rfl
    have r3 := hres.cell 3 _ rfl
    have q0 := hres.fr 0
    have q1 := hres.fr 1
    have q2 := hres.fr 2
    have q3 := hres.fr 3
    have HRES : Hid (InRow w7 w.heap.size 0 0 0 0) := hres
    have lJ : Hid _ := hx7.loadJ
    have HFB : Hid (∀ k m l s : Int, SgOut B w a X S1 ((((w7.setCell ⟨w.heap.size, 0, none⟩ (.int .i64 k)).setCell ⟨w.heap.size, 1, none⟩ (.int .i64 m)).setCell ⟨w.heap.size, 2, none⟩ (.int .i64 l)).setCell ⟨w.heap.size, 3, none⟩ (.int .i64 s))) := fun k m l s => HO7.out.finI HBW.out (Nat.le_refl _) HRES.out (sole4 _ _ _ _ _ _)
    clear cr cg qv hHeldZ hres hx7 hr1 hO7
    by_cases he : er = 0
    case neg =>
      have heb : (er != 0) = true := by simpa using he
      have HE : Hid (F = (in0, er)) := by unfold Hid; rw [← HF.out, if_pos he]
      go_wp2
      refine ret_in2 rfl w.heap.size 0 0 0 0 rfl _ rfl (InRow.put HRES.out _ _ _ _) rfl ⟨by rw [HE.out]; rfl, HFB.out _ _ _ _⟩
    subst he
    cases is with
    | false =>
      have HE : Hid (F = (in0, 220)) := by unfold Hid; rw [← HF.out]; rfl
      go_wp2
      refine ret_in2 rfl w.heap.size 0 0 0 0 rfl _ rfl (InRow.put HRES.out _ _ _ _) rfl ⟨by rw [HE.out]; rfl, HFB.out _ _ _ _⟩
    | true =>
      have HE : Hid (F = (⟨x.kind, x.mode, x.links, x.size⟩, 0)) := by unfold Hid; rw [← HF.out]; rfl
      go_wp2_with (refine wpList_loadG rfl 89 _ rfl _ rfl _ lJ.out ?_)
      refine ret_in2 rfl w.heap.size x.kind x.mode x.links x.size rfl _ rfl (InRow.put HRES.out _ _ _ _) rfl ⟨by rw [HE.out]; rfl, HFB.out _ _ _ _⟩

end Go.Proofs.YtjjhfginmamlkaaGreat.L
