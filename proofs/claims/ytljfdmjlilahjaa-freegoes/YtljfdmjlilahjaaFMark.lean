/- The contracts of free's marked and Sweep. -/
import Derived.Test.YtljfdmjlilahjaaFSmall
import Derived.Test.YtljfdmjlilahjaaFLists
import Derived.OwnWalk
import Derived.Laws.MakeOwn
namespace Go.Proofs.Ytljfdmjlilahjaa
open Go.RowKit
set_option linter.unusedVariables false
set_option linter.unusedSimpArgs false
set_option maxRecDepth 4000

theorem Try.infoB : (Try.prog.info? 4).map (fun i => (i.zero, i.size, i.bytes)) = some (some (.bool false), 1, 1) := by kernel_rfl

theorem make_bools (w : World) (L : Int) (n : Nat) (hL : L = (n : Int)) (hn : n ≤ 140737488355328) :
    (Instr.makeSlice 63 (.int .i64 L) (.int .i64 L)).run Try.prog w = .ok (.slice (some ⟨w.heap.size, 0, none⟩) n n) (w.alloc (.cells (List.replicate n (Value.bool false)).toArray 4)) := by
  subst hL
  obtain ⟨i, hi, hz0, hz1, hz2⟩ := info_parts Try.infoB
  have h := run_make (P := Try.prog) w 63 4 i (.bool false) Try.underlying63 hi hz0 .i64 .i64 n n (by omega) (by omega) (by rw [hz2]; omega) (by omega)
  rw [h, hz1, Int.toNat_natCast, Nat.mul_one]
  congr 2
  congr 1
  apply Array.ext'
  exact toList_madeCells_one (.bool false) n

/-- The slice value 'v' reads as the numbers 'l'. -/
def RdI (w : World) (v : Value) (l : List Int) : Prop :=
  ∃ a cap, v = .slice a l.length cap ∧ l.length ≤ cap ∧ cap ≤ maxLen ∧ (0 < l.length → ∃ b off, a = some ⟨b, off, none⟩ ∧ b < w.heap.size ∧ ∀ (i : Nat) (x : Int), l[i]? = some x → w.cell? ⟨b, off + i, none⟩ = some (.int .i64 x))

theorem RdI.below {w w' : World} {v : Value} {l : List Int} (h : RdI w v l) (hb : Below w.heap.size w w') : RdI w' v l := by
  obtain ⟨a, cap, rfl, h1, h2, h3⟩ := h
  refine ⟨a, cap, rfl, h1, h2, fun hp => ?_⟩
  obtain ⟨b, off, rfl, hlt, hc⟩ := h3 hp
  exact ⟨b, off, rfl, Nat.lt_of_lt_of_le hlt hb.size, fun i x hi => (hb.cell (p := ⟨b, off + i, none⟩) hlt).trans (hc i x hi)⟩

def markL (s : Fr) (l : List Int) : List Bool := (List.range s.ks.length).map (fun j => decide ((((s.lo + j : Nat) : Int)) ∈ l))

theorem markL_len (s : Fr) (l : List Int) : (markL s l).length = s.ks.length := by simp [markL]

theorem takeI_next {l : List Int} {k : Nat} {x : Int} (h : l[k]? = some x) : l.take (k + 1) = l.take k ++ [x] := by
  rw [List.take_add_one, h]; rfl

theorem mark_out {s : Fr} {l : List Int} {x : Int} (h : ¬ (s.lo ≤ x ∧ x < s.lo + s.ks.length)) : markL s (l ++ [x]) = markL s l := by
  unfold markL
  apply List.map_congr_left
  intro j hj
  have hj' := List.mem_range.1 hj
  have : ¬ (((s.lo + j : Nat) : Int)) = x := by omega
  refine decide_eq_decide.2 ?_
  rw [List.mem_append, List.mem_singleton]
  exact ⟨fun h => h.resolve_right this, Or.inl⟩

theorem markL_get {s : Fr} {l : List Int} {i : Nat} (h : i < (markL s l).length) : (markL s l)[i] = decide (((s.lo + i : Nat) : Int) ∈ l) := by
  have e : (markL s l)[i]? = some (decide (((s.lo + i : Nat) : Int) ∈ l)) := by
    have h' : i < s.ks.length := by rw [markL_len] at h; exact h
    unfold markL
    rw [List.getElem?_map, List.getElem?_range h']
    rfl
  rw [List.getElem?_eq_getElem h] at e
  exact Option.some.inj e

theorem mark_in {s : Fr} {l : List Int} {j : Nat} (h : j < s.ks.length) : markL s (l ++ [((s.lo + j : Nat) : Int)]) = (markL s l).set j true := by
  apply List.ext_getElem
  · simp [markL]
  · intro i h1 h2
    rw [List.getElem_set]
    by_cases e : j = i
    · subst e
      rw [if_pos rfl, markL_get]
      exact decide_eq_true (by rw [List.mem_append, List.mem_singleton]; exact .inr rfl)
    · have : ¬ (((s.lo + i : Nat) : Int)) = ((s.lo + j : Nat) : Int) := by omega
      rw [if_neg e, markL_get, markL_get]
      refine decide_eq_decide.2 ?_
      rw [List.mem_append, List.mem_singleton]
      exact ⟨fun h => h.resolve_right this, Or.inl⟩

theorem bools_at {W : World} {g j : Nat} {bs : List Bool} (hg : W.heap[g]? = some (.cells (bs.map Value.bool).toArray 4 (0, 0))) (hj : j < bs.length) : W.cell? ⟨g, j, none⟩ = some (.bool (bs.getD j false)) ∧ W.frozen? ⟨g, j, none⟩ = false := by
  refine ⟨?_, frozen_of_row W g j _ 4 hg⟩
  rw [cell_of_row _ _ j _ 4 (0, 0) hg, List.getElem?_toArray, List.getElem?_map, List.getD_eq_getElem?_getD, List.getElem?_eq_getElem hj]
  rfl

theorem bools_set {W : World} {g j : Nat} {bs : List Bool} (hg : W.heap[g]? = some (.cells (bs.map Value.bool).toArray 4 (0, 0))) (b : Bool) : (W.setCell ⟨g, j, none⟩ (.bool b)).heap[g]? = some (.cells ((bs.set j b).map Value.bool).toArray 4 (0, 0)) := by
  rw [heap_setCell_same W g j _ 4 _ hg]
  congr 2
  apply Array.ext'
  rw [Array.toList_setIfInBounds, List.map_set]

set_option maxHeartbeats 4000000 in
theorem marked_any {w : World} {p h : Nat} {s : Fr} (H : PAt w p h s) (hk : FrOk s) (v : Value) (l : List Int) (hr : RdI w v l) :
    Calls Try.prog 30 #[ptr p, v] w fun e w' => e = .returned (.slice (some ⟨w.heap.size, 0, none⟩) s.ks.length s.ks.length) ∧ w'.heap[w.heap.size]? = some (.cells ((markL s l).map Value.bool).toArray 4 (0, 0)) ∧ Below w.heap.size w w' := by
  obtain ⟨cap, c0, c1, h1, h2, hp, hh, hne, hc⟩ := FrAt.opened H
  obtain ⟨a, lc, rfl, g1, g2, g3⟩ := hr
  unfold maxLen at g2
  have hm := hk.most
  have hlk := fun W (hW : Below w.heap.size w W) x => lacks_any (FrAt.below H hW) hk x
  have hmk := make_bools w (s.ks.length : Int) s.ks.length rfl (by omega)
  have hmo := fun i x (hx : l[i]? = some x) => mark_out (s := s) (l := l.take i) (x := x)
  have hmi := fun i j (hj : j < s.ks.length) => mark_in (s := s) (l := l.take i) hj
  have hml := fun i => markL_len s (l.take i)
  have hM0 : (List.replicate s.ks.length (Value.bool false)).toArray = ((markL s []).map Value.bool).toArray := by
    congr 1
    apply List.ext_getElem
    · simp [markL]
    · intro i h1 h2; simp [markL]
  rw [hM0] at hmk
  clear hM0 hc H hk
  unfold ptr lacksB at *
  have hB0 : Below w.heap.size w (w.alloc (.cells ((markL s []).map Value.bool).toArray 4)) := (Below.refl _ w).alloc (Nat.le_refl _) _
  have hg0 := heap_alloc_new w (.cells ((markL s []).map Value.bool).toArray 4)
  generalize hn : s.ks.length = n at *
  generalize hlo : s.lo = lo at *
  go_enter Try.func30, Try.ntmps30
  go_wp2
  generalize w.alloc (.cells ((markL s []).map Value.bool).toArray 4) = W0 at *
  clear hmk
  go_loopw [7, 16] (fun x t wr => ∃ i : Nat, i ≤ l.length ∧ t = .int .i64 i ∧ wr.heap[w.heap.size]? = some (.cells ((markL s (l.take i)).map Value.bool).toArray 4 (0, 0)) ∧ Below w.heap.size w wr) (fun _ t _ => l.length - (intOf t).toNat)
  case atStart => exact ⟨0, Nat.zero_le _, rfl, hg0, hB0⟩
  case round =>
    clear hg0 hB0
    obtain ⟨i, hi, rfl, hg, HB⟩ := hrel
    obtain ⟨wA, hA⟩ : ∃ wA, wA = wr := ⟨_, rfl⟩
    subst hA
    by_cases hlt : i < l.length
    · have hltI : (i : Int) < l.length := by omega
      obtain ⟨b, off, rfl, hb, hcs⟩ := g3 (by omega)
      have hx : l[i]? = some l[i] := List.getElem?_eq_getElem hlt
      have hcx := (HB.cell (p := ⟨b, off + i, none⟩) hb).trans (hcs i _ hx)
      have hl1 := hlk wA HB l[i]
      have hout := hmo i _ hx
      have hin := hmi i
      have hT := takeI_next hx
      have hln := hml i
      generalize l[i] = x at *
      have hgA : w.heap.size < wA.heap.size := (Array.getElem?_eq_some_iff.1 hg).1
      clear hcs g3 hlk hmo hmi hml
      go_wp2_with fail
      refine hl1.mono ?_
      clear hl1
      rintro e w5 ⟨rfl, hb5⟩
      have hg5 := (hb5.block _ hgA).trans hg
      have HB5 := HB.trans (hb5.mono HB.size)
      have x0 := (HB5.cell (p := ⟨p, 0, none⟩) hp).trans c0
      by_cases hd : (lo : Int) ≤ x ∧ x < lo + n
      · rw [decide_eq_true hd]
        obtain ⟨j, rfl⟩ : ∃ j : Nat, x = ((lo + j : Nat) : Int) := ⟨(x - lo).toNat, by omega⟩
        have hjn : j < n := by omega
        obtain ⟨hcj, hfj⟩ := bools_at hg5 (j := j) (by omega)
        have HG : Hid ((w5.setCell ⟨w.heap.size, j, none⟩ (.bool true)).heap[w.heap.size]? = some (.cells ((markL s (l.take (i + 1))).map Value.bool).toArray 4 (0, 0))) := by
          unfold Hid
          rw [hT, hin j hjn]
          exact bools_set hg5 true
        generalize (markL s (l.take i)).getD j false = B at *
        have hjI : (j : Int) < n := by omega
        clear hg5 hg hout hin hT hln c0 c1 hd
        go_wp2_with fail
        go_roundw
        case rel => exact ⟨i + 1, by omega, by go_num, HG.out, HB5.setCell (p := ⟨w.heap.size, j, none⟩) (Nat.le_refl _) _⟩
        case measure => simp [intOf]; omega
      · rw [decide_eq_false hd]
        have HG : Hid (w5.heap[w.heap.size]? = some (.cells ((markL s (l.take (i + 1))).map Value.bool).toArray 4 (0, 0))) := by
          unfold Hid
          rw [hT, hout hd]
          exact hg5
        clear hg5 hg hout hin hT hln c0 c1 hd
        go_wp2_with fail
        go_roundw
        case rel => exact ⟨i + 1, by omega, by go_num, HG.out, HB5⟩
        case measure => simp [intOf]; omega
    · have hltI : ¬ (i : Int) < l.length := by omega
      rw [List.take_of_length_le (by omega)] at hg
      clear g3 hlk hmo hmi hml
      go_wp2
      go_ret
      exact ⟨rfl, hg, HB⟩

/-- What a Sweep makes of the first j, and how many it frees. -/
def sweepK (s : Fr) (l : List Int) : Nat → List Nat
  | 0 => s.ks
  | j + 1 => if s.ks.getD j 0 = 3 ∧ ¬ ((s.lo + j : Nat) : Int) ∈ l then (sweepK s l j).set j 1 else sweepK s l j
def sweepN (s : Fr) (l : List Int) : Nat → Nat
  | 0 => 0
  | j + 1 => if s.ks.getD j 0 = 3 ∧ ¬ ((s.lo + j : Nat) : Int) ∈ l then sweepN s l j + 1 else sweepN s l j

theorem sweepK_len (s : Fr) (l : List Int) : ∀ j, (sweepK s l j).length = s.ks.length
  | 0 => rfl
  | j + 1 => by
    unfold sweepK
    split
    · rw [List.length_set]; exact sweepK_len s l j
    · exact sweepK_len s l j

theorem sweepK_ge (s : Fr) (l : List Int) : ∀ j i, j ≤ i → (sweepK s l j)[i]? = s.ks[i]?
  | 0, i, _ => rfl
  | j + 1, i, h => by
    unfold sweepK
    split
    · rw [List.getElem?_set_ne (by omega)]; exact sweepK_ge s l j i (by omega)
    · exact sweepK_ge s l j i (by omega)

theorem sweepN_le (s : Fr) (l : List Int) : ∀ j, sweepN s l j ≤ j
  | 0 => Nat.le_refl _
  | j + 1 => by
    have := sweepN_le s l j
    unfold sweepN
    split <;> omega

def sweepF (s : Fr) (l : List Int) : Fr := ⟨s.lo, sweepK s l s.ks.length⟩
def swept (s : Fr) (l : List Int) : Nat := sweepN s l s.ks.length

set_option maxHeartbeats 4000000 in
theorem sweep_any {w : World} {p h : Nat} {s : Fr} (H : PAt w p h s) (hk : FrOk s) (v : Value) (l : List Int) (hr : RdI w v l) :
    Calls Try.prog 16 #[ptr p, v] w fun e w' => e = .returned (.int .i64 (swept s l)) ∧ PAt w' p h (sweepF s l) ∧ Sole [h] w w' := by
  have hmk := marked_any H hk v l hr
  have hm := hk.most
  have hsl := sweepK_len s l
  have hsg := sweepK_ge s l
  have hsn := sweepN_le s l
  have hml := markL_len s l
  have hmg : ∀ j, j < s.ks.length → (markL s l).getD j false = decide (((s.lo + j : Nat) : Int) ∈ l) := fun j hj => by
    have hj' : j < (markL s l).length := by omega
    rw [List.getD_eq_getElem?_getD, List.getElem?_eq_getElem hj']
    exact markL_get hj'
  have hk1 : ∀ j, s.ks.getD j 0 = 3 ∧ ¬ ((s.lo + j : Nat) : Int) ∈ l → sweepK s l (j + 1) = (sweepK s l j).set j 1 ∧ sweepN s l (j + 1) = sweepN s l j + 1 := fun j hj => ⟨if_pos hj, if_pos hj⟩
  have hk2 : ∀ j, ¬ (s.ks.getD j 0 = 3 ∧ ¬ ((s.lo + j : Nat) : Int) ∈ l) → sweepK s l (j + 1) = sweepK s l j ∧ sweepN s l (j + 1) = sweepN s l j := fun j hj => ⟨if_neg hj, if_neg hj⟩
  have hk0 : sweepK s l 0 = s.ks ∧ sweepN s l 0 = 0 := ⟨rfl, rfl⟩
  unfold ptr sweepF swept at *
  generalize sweepK s l = SK at *
  generalize sweepN s l = SN at *
  generalize markL s l = ML at *
  obtain ⟨lo, ks⟩ := s
  dsimp only at *
  go_enter Try.func16, Try.ntmps16
  go_wp2_with fail
  refine hmk.mono ?_
  clear hmk
  rintro e w1 ⟨rfl, hgm, hb1⟩
  have H1 : PAt w1 p h ⟨lo, ks⟩ := FrAt.below H hb1
  have hhw : h < w.heap.size := by obtain ⟨_, _, _, _, _, _, hh, _⟩ := FrAt.opened H; exact hh
  have hzm : w.heap.size < w1.heap.size := (Array.getElem?_eq_some_iff.1 hgm).1
  obtain ⟨cap, c0, c1, h1, h2, hp, hh, hne, hc⟩ := FrAt.opened H1
  dsimp only at c0 c1 h1 hc
  have hget : ∀ j, j < ks.length → ks[j]? = some (ks.getD j 0) := fun j hj => by rw [List.getElem?_eq_getElem hj, List.getD_eq_getElem?_getD, List.getElem?_eq_getElem hj]; rfl
  have H1' : PAt w1 p h ⟨lo, SK 0⟩ := by rw [hk0.1]; exact H1
  generalize hn : ks.length = n at *
  clear H H1 hc
  go_wp2_with fail
  go_loopw [6, 7, 8, 17] (fun ct i k t wr => ∃ j : Nat, j ≤ n ∧ t = .int .i64 j ∧ ct = .int .i64 (SN j) ∧ Hid (PAt wr p h ⟨lo, SK j⟩) ∧ Sole [h] w1 wr) (fun _ _ _ t _ => n - (intOf t).toNat)
  case atStart => exact ⟨0, Nat.zero_le _, rfl, by rw [hk0.2]; rfl, H1', Sole.refl _ _⟩
  case round =>
    clear H1' c0
    obtain ⟨j, hj, rfl, rfl, HP, HS⟩ := hrel
    by_cases hlt : j < n
    · have hltI : (j : Int) < n := by omega
      obtain ⟨cap', d0, d1, e1, e2, dp, dh, dne, dc⟩ := FrAt.opened HP.out
      dsimp only at d0 d1 e1 dc
      rw [hsl j] at d1 e1
      obtain ⟨hcj, hfj⟩ := dc j _ ((hsg j j (Nat.le_refl _)).trans (hget j hlt))
      have hgw := (HS.block w.heap.size hzm (by simp; omega)).trans hgm
      obtain ⟨hbj, _⟩ := bools_at hgw (j := j) (by omega)
      rw [hmg j hlt] at hbj
      have HP1 : Hid (PAt (wr.setCell ⟨h, j, none⟩ (.int .i64 1)) p h ⟨lo, (SK j).set j 1⟩) := FrAt.put HP.out j 1
      have q1 := hk1 j
      have q2 := hk2 j
      have q3 := hsn j
      have hcw : wr.cell? ⟨p, 1, none⟩ = some (.slice (some ⟨h, 0, none⟩) n cap) := (World.cell?_of_block (a := ⟨p, 1, none⟩) (HS.block p hp (by simpa using hne))).trans c1
      have hcc : cap' = cap := by rw [d1] at hcw; simpa using hcw
      subst hcc
      clear dc hget hsl hsg hmg hk1 hk2 hgw hgm hcw
      by_cases h3 : ks.getD j 0 = 3
      · rw [h3] at hcj
        by_cases hin : ((lo + j : Nat) : Int) ∈ l
        · rw [decide_eq_true hin] at hbj
          obtain ⟨r1, r2⟩ := q2 (fun hq => hq.2 hin)
          have R1 : Hid (SK (j + 1) = SK j) := r1
          have R2 : Hid (SN (j + 1) = SN j) := r2
          clear q1 q2 r1 r2 hin h3 HP1
          go_wp2_with fail
          go_roundw
          case rel => exact ⟨j + 1, by omega, by go_num, by rw [R2.out], by rw [R1.out]; exact HP, HS⟩
          case measure => simp [intOf]; omega
        · rw [decide_eq_false hin] at hbj
          obtain ⟨r1, r2⟩ := q1 ⟨h3, hin⟩
          have R1 : Hid (SK (j + 1) = (SK j).set j 1) := r1
          have R2 : Hid (SN (j + 1) = SN j + 1) := r2
          clear q1 q2 r1 r2 hin h3
          generalize SN j = C at *
          go_wp2_with fail
          go_roundw
          case rel => exact ⟨j + 1, by omega, by go_num, by rw [R2.out]; go_num, by rw [R1.out]; exact HP1, HS.trans (Sole.setCell _ _ (by simp))⟩
          case measure => simp [intOf]; omega
      · obtain ⟨r1, r2⟩ := q2 (fun hq => h3 hq.1)
        have R1 : Hid (SK (j + 1) = SK j) := r1
        have R2 : Hid (SN (j + 1) = SN j) := r2
        have h3I : ¬ ((ks.getD j 0 : Nat) : Int) = 3 := by omega
        generalize ks.getD j 0 = K at *
        clear q1 q2 r1 r2 h3 HP1
        go_wp2_with fail
        go_roundw
        case rel => exact ⟨j + 1, by omega, by go_num, by rw [R2.out], by rw [R1.out]; exact HP, HS⟩
        case measure => simp [intOf]; omega
    · obtain rfl : j = n := by omega
      have hltI : ¬ (j : Int) < j := by omega
      have HF : Hid (Sole [h] w wr) := (Sole.of_below hb1 [h]).trans HS
      clear hget hsl hsg hmg hk1 hk2 hsn
      go_wp2
      go_ret
      exact ⟨rfl, HP.out, HF.out⟩

end Go.Proofs.Ytljfdmjlilahjaa
