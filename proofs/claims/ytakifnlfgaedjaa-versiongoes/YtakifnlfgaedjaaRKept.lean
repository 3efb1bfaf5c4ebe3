/- The contract of the document's Kept. -/
import Derived.Test.YtakifnlfgaedjaaRBase
namespace Go.Proofs.Ytakifnlfgaedjaa
open Go.RowKit Go.Sort
set_option linter.unusedVariables false
set_option linter.unusedSimpArgs false
set_option maxRecDepth 4000

def openL (l : List Sf) : List Sf := l.filter (fun y => !decide (y.id = 0))
def allL (root : Int) (l : List Sf) : List Int := root :: (openL l).map (·.root)

def InnerOk (A out : List Int) (j : Nat) (best : Int) (any : Bool) : Prop :=
  (any = true → best ∈ A ∧ (∀ u ∈ out, u < best) ∧ ∀ v ∈ A.take j, (∀ u ∈ out, u < v) → best ≤ v) ∧ (any = false → ∀ v ∈ A.take j, ¬ ∀ u ∈ out, u < v)
theorem take_mem {A : List Int} {j : Nat} {y v : Int} (hy : A[j]? = some y) (h : v ∈ A.take (j + 1)) : v ∈ A.take j ∨ v = y := by
  rw [List.take_add_one, hy] at h
  simpa using h
theorem inner_take {A out : List Int} {j : Nat} {best y : Int} {any : Bool} (h : InnerOk A out j best any) (hy : A[j]? = some y) (hgt : ∀ u ∈ out, u < y) (hlt : any = true → y < best) : InnerOk A out (j + 1) y true := by
  refine ⟨fun _ => ⟨List.mem_of_getElem? hy, hgt, fun v hv hg => ?_⟩, fun e => by cases e⟩
  rcases take_mem hy hv with hv | rfl
  · cases any with
    | true => have := (h.1 rfl).2.2 v hv hg; have := hlt rfl; omega
    | false => exact absurd hg (h.2 rfl v hv)
  · exact Int.le_refl _
theorem inner_skip {A out : List Int} {j : Nat} {best y : Int} {any : Bool} (h : InnerOk A out j best any) (hy : A[j]? = some y) (hn : (¬ ∀ u ∈ out, u < y) ∨ (any = true ∧ ¬ y < best)) : InnerOk A out (j + 1) best any := by
  refine ⟨fun e => ⟨(h.1 e).1, (h.1 e).2.1, fun v hv hg => ?_⟩, fun e v hv hg => ?_⟩
  · rcases take_mem hy hv with hv | rfl
    · exact (h.1 e).2.2 v hv hg
    · rcases hn with hn | hn
      · exact absurd hg hn
      · omega
  · rcases take_mem hy hv with hv | rfl
    · exact h.2 e v hv hg
    · rcases hn with hn | hn
      · exact hn hg
      · rw [e] at hn; cases hn.1

structure OutOk (A out : List Int) : Prop where
  rise : out.Pairwise (· < ·)
  sub : ∀ v ∈ out, v ∈ A
  all : ∀ v ∈ A, v ∈ out ∨ ∀ u ∈ out, u < v
theorem out_add {A out : List Int} {best : Int} (h : OutOk A out) (hi : InnerOk A out A.length best true) : OutOk A (out ++ [best]) := by
  obtain ⟨h1, h2, h3⟩ := hi.1 rfl
  rw [List.take_length] at h3
  refine ⟨?_, fun v hv => ?_, fun v hv => ?_⟩
  · rw [List.pairwise_append]
    exact ⟨h.rise, List.pairwise_singleton _ _, fun a ha b hb => by simp only [List.mem_singleton] at hb; subst hb; exact h2 a ha⟩
  · rcases List.mem_append.1 hv with hv | hv
    · exact h.sub v hv
    · simp only [List.mem_singleton] at hv; subst hv; exact h1
  · rcases h.all v hv with hv' | hg
    · exact .inl (List.mem_append_left _ hv')
    · have := h3 v hv hg
      by_cases e : v = best
      · exact .inl (by simp [e])
      · refine .inr (fun u hu => ?_)
        rcases List.mem_append.1 hu with hu | hu
        · exact hg u hu
        · simp only [List.mem_singleton] at hu; omega
theorem rise_len : ∀ (l m : List Int), l.Pairwise (· < ·) → (∀ v ∈ l, v ∈ m) → l.length ≤ m.length
  | [], m, _, _ => Nat.zero_le _
  | x :: l, m, h, hs => by
    obtain ⟨h1, h2⟩ := List.pairwise_cons.1 h
    have hx := hs x List.mem_cons_self
    have := rise_len l (m.erase x) h2 (fun v hv => by
      have : v ≠ x := by have := h1 v hv; omega
      exact (List.mem_erase_of_ne this).2 (hs v (List.mem_cons_of_mem _ hv)))
    rw [List.length_erase_of_mem hx] at this
    have hp := List.length_pos_of_mem hx
    simp only [List.length_cons]
    omega
theorem last_gt {out : List Int} {q : Nat} {last y : Int} (h : out.Pairwise (· < ·)) (hl : out.length = q + 1) (hq : out[q]? = some last) : (∀ u ∈ out, u < y) ↔ last < y := by
  constructor
  · exact fun hh => hh last (List.mem_of_getElem? hq)
  · intro hh u hu
    obtain ⟨i, hi⟩ := List.mem_iff_getElem?.1 hu
    obtain ⟨hi1, hi2⟩ := List.getElem?_eq_some_iff.1 hi
    obtain ⟨hq1, hq2⟩ := List.getElem?_eq_some_iff.1 hq
    by_cases e : i = q
    · subst e; rw [hi] at hq; cases hq; exact hh
    · have := List.pairwise_iff_getElem.1 h i q hi1 hq1 (by omega)
      omega
theorem own_u {B n c : Nat} {w : World} {a : Option Addr} {L : List Int} (h : w.ownsRow B 22 1 (.slice a n c) n (u32C L)) (hn : L.length = n) (h0 : 0 < n) : ∃ g, a = some ⟨g, 0, none⟩ ∧ B ≤ g ∧ g < w.heap.size ∧ HoldU w g L.toArray ∧ ∀ i v, L[i]? = some v → w.cell? ⟨g, i, none⟩ = some (.int .u32 v) := by
  have h1 := h
  obtain ⟨_, ⟨e, h2⟩ | ⟨g, cap, cur, e, h3, h4, _⟩⟩ := h
  · omega
  · simp only [Value.slice.injEq, true_and] at e
    obtain ⟨rfl, rfl⟩ := e
    refine ⟨g, rfl, h3, (Array.getElem?_eq_some_iff.1 h4).1, own_hold h1 hn.symm, fun i v hv => ?_⟩
    have hi := (List.getElem?_eq_some_iff.1 hv).1
    rw [World.ownsRow.cellAt h1 i (by omega)]
    unfold u32C
    rw [List.getElem?_map, hv]
    rfl
def slLen (v : Value) : Nat := match v with
  | .slice _ n _ => n
  | _ => 0

structure KeptX (root : Int) (l : List Sf) (out : List Int) : Prop where
  rise : out.Pairwise (· < ·)
  mem : ∀ v, v ∈ out ↔ v ∈ allL root l

set_option maxRecDepth 10000 in
set_option maxHeartbeats 8000000 in
theorem rkept_any {B : Nat} {w : World} {p : Nat} {vp vl : Value} {x : Rf} (h : RfAt B w p vp vl x) (hln : x.l.length ≤ 1000) : Calls Try.prog 28 #[ptrR p] w fun e w' => ∃ (g cap : Nat) (out : List Int), e = .returned (.slice (some ⟨g, 0, none⟩) out.length cap) ∧ out.length ≤ cap ∧ cap ≤ maxLen ∧ w.heap.size ≤ g ∧ HoldU w' g out.toArray ∧ KeptX x.root x.l out ∧ Below w.heap.size w w' := by
  obtain ⟨iU, hiU, hy0, hy1, hy2⟩ := info_parts Try.infoU
  obtain ⟨root, ver, first, base, pl, l⟩ := x
  obtain ⟨a, c, rfl⟩ := own_shape h.ol
  dsimp only at *
  have H : Hid (RfAt B w p vp (.slice a l.length c) ⟨root, ver, first, base, pl, l⟩) := h
  have hp := h.lt
  have c0 : w.cell? ⟨p, 0, none⟩ = some (.int .u32 root) := h.cell 0 _ rfl
  obtain ⟨n, hn⟩ : ∃ n, l.length = n := ⟨_, rfl⟩
  have HN : Hid (l.length = n) := hn
  obtain ⟨hc1, hc2⟩ := own_cap h.ol
  unfold maxLen at hc2
  (try dsimp only at hc1)
  rw [hn] at hln hc1
  obtain ⟨wA, hwA⟩ : ∃ wA, w.alloc (.cells #[.int .u32 root] 22) = wA := ⟨_, rfl⟩
  have hBA : Below w.heap.size w wA := by rw [← hwA]; exact (Below.refl _ w).alloc (Nat.le_refl _) _
  have c5 : wA.cell? ⟨p, 5, none⟩ = some (.slice a n c) := (hBA.cell (p := ⟨p, 5, none⟩) hp).trans (by rw [← hn]; exact h.cell 5 _ rfl)
  have hOA : wA.ownsRow w.heap.size 22 1 (.slice (some ⟨w.heap.size, 0, none⟩) 1 1) 1 (u32C [root]) := by rw [← hwA]; exact World.ownsRow_lit w #[.int .u32 root] 1 (Nat.le_refl _) (by decide) rfl
  have HOA : Hid _ := hOA
  have HBA : Hid (Below w.heap.size w wA) := hBA
  clear h hn hBA hOA
  unfold ptrR
  go_enter Try.func28, Try.ntmps28
  go_wp2
  go_loopw [3, 5, 21] (fun s3 _ t wr => ∃ (j m : Nat) (a3 : Option Addr) (c3 : Nat), j ≤ n ∧ t = .int .i64 j ∧ s3 = .slice a3 m c3 ∧ m ≤ j + 1 ∧ Hid ((allL root (l.take j)).length = m) ∧ Hid (wr.ownsRow w.heap.size 22 1 (.slice a3 m c3) m (u32C (allL root (l.take j)))) ∧ Hid (Below w.heap.size w wr)) (fun _ _ t _ => n - (intOf t).toNat)
  case atStart => exact ⟨0, 1, _, _, Nat.zero_le _, rfl, rfl, Nat.le_refl _, rfl, HOA, HBA⟩
  case round =>
    clear HOA HBA c5 c0 hwA
    obtain ⟨j, m, a3, c3, hj, rfl, rfl, hmj, HM, HO, HB⟩ := hrel
    by_cases hjn : j < n
    · have hjI : (j : Int) < n := by omega
      obtain ⟨g, cap, hv, hcl, hcm, _, hgl, hcell⟩ := own_gs (C := sfC) (n := 3) (fun _ => rfl) (H.out.below HB.out).ol (by have := HN.out; show 0 < l.length; omega)
      (try dsimp only at hv)
      simp only [Value.slice.injEq, true_and] at hv
      obtain ⟨rfl, rfl⟩ := hv
      obtain ⟨y, hy⟩ : ∃ y, l[j]? = some y := ⟨_, List.getElem?_eq_getElem (by have := HN.out; omega)⟩
      have htk : l.take (j + 1) = l.take j ++ [y] := by rw [List.take_add_one, hy]; rfl
      obtain ⟨yi, yr, yv⟩ := y
      obtain ⟨ti, hti⟩ : ∃ ti : Int, (yi : Int) = ti := ⟨_, rfl⟩
      have HTI : Hid ((yi : Int) = ti) := hti
      have d0 : wr.cell? ⟨g, j * 3, none⟩ = some (.int .i64 ti) := by rw [← hti]; exact hcell j _ hy 0 _ rfl
      clear hti
      have d1 : wr.cell? ⟨g, j * 3 + 1, none⟩ = some (.int .u32 yr) := hcell j _ hy 1 _ rfl
      have d2 : wr.cell? ⟨g, j * 3 + 2, none⟩ = some (.int .u64 yv) := hcell j _ hy 2 _ rfl
      obtain ⟨w1, hw1⟩ : ∃ w1, wr.alloc (.cells #[.int .i64 ti, .int .u32 yr, .int .u64 yv] 66) = w1 := ⟨_, rfl⟩
      have hB1 : Below wr.heap.size wr w1 := by rw [← hw1]; exact (Below.refl _ wr).alloc (Nat.le_refl _) _
      have hg1 : w1.heap[wr.heap.size]? = some (.cells #[.int .i64 ti, .int .u32 yr, .int .u64 yv] 66 (0, 0)) := by rw [← hw1]; exact heap_alloc_new wr _
      have e0 : w1.cell? ⟨wr.heap.size, 0, none⟩ = some (.int .i64 ti) := by rw [cell_of_row _ _ 0 _ _ (0, 0) hg1]; rfl
      have e1 : w1.cell? ⟨wr.heap.size, 1, none⟩ = some (.int .u32 yr) := by rw [cell_of_row _ _ 1 _ _ (0, 0) hg1]; rfl
      have HB1 : Hid (Below w.heap.size w w1) := thenB HB.out hB1
      have HO1 : Hid (w1.ownsRow w.heap.size 22 1 (.slice a3 m c3) m (u32C (allL root (l.take j)))) := own_below HO.out hB1
      have HTK : Hid _ := htk
      clear hcell hy hg1 hB1 htk
      by_cases hid : ti = 0
      · have hal : allL root (l.take (j + 1)) = allL root (l.take j) := by
          rw [HTK.out]; unfold allL openL
          rw [List.filter_append]
          simp [show yi = 0 from by have := HTI.out; omega]
        have HM2 : Hid ((allL root (l.take (j + 1))).length = m) := by unfold Hid; rw [hal]; exact HM.out
        have HO2 : Hid (w1.ownsRow w.heap.size 22 1 (.slice a3 m c3) m (u32C (allL root (l.take (j + 1))))) := by unfold Hid; rw [hal]; exact HO1.out
        clear hal
        subst hid
        go_wp2
        go_roundw
        case rel => exact ⟨j + 1, m, a3, c3, by omega, by go_num, rfl, by omega, HM2, HO2, HB1⟩
        case measure => simp [intOf]; omega
      · have hal : allL root (l.take (j + 1)) = allL root (l.take j) ++ [yr] := by
          rw [HTK.out]; unfold allL openL
          rw [List.filter_append]
          simp [show ¬ yi = 0 from by have := HTI.out; omega]
        obtain ⟨w2, hw2⟩ : ∃ w2, w1.alloc (.cells #[.int .u32 yr] 22) = w2 := ⟨_, rfl⟩
        have hB2 : Below w1.heap.size w1 w2 := by rw [← hw2]; exact (Below.refl _ w1).alloc (Nat.le_refl _) _
        have hg2 : w2.heap[w1.heap.size]? = some (.cells #[.int .u32 yr] 22 (0, 0)) := by rw [← hw2]; exact heap_alloc_new w1 _
        have hz0 := HB1.out.size
        have hz1 := hB2.size
        obtain ⟨v4, w4, hrun, h4o, h4g, _, h4a⟩ := run_append_own_at (P := Try.prog) w2 w.heap.size 49 49 22 iU _ 1 4 Try.underlying49 hiU hy0 hy1 hy2 rfl (by decide) (.slice a3 m c3) m (u32C (allL root (l.take j))) (own_below HO1.out hB2) ⟨w1.heap.size, 0, none⟩ 1 1 [.int .u32 yr] rfl (rowAdd hg2) (by simp [Value.oneCell']) (by unfold maxLen; omega) (by omega) (by omega)
        obtain ⟨a4, c4, rfl⟩ := own_shape h4o
        have HM2 : Hid ((allL root (l.take (j + 1))).length = m + 1) := by unfold Hid; rw [hal, List.length_append, HM.out]; rfl
        have HO2 : Hid (w4.ownsRow w.heap.size 22 1 (.slice a4 (m + 1) c4) (m + 1) (u32C (allL root (l.take (j + 1))))) := by unfold Hid; rw [hal]; simpa [u32C] using h4o
        have HB4 : Hid (Below w.heap.size w w4) := by
          refine (thenB HB1.out hB2).trans ⟨h4g.os, h4g.tape, h4g.output, h4g.size, fun k hk => h4g.block k (by omega) (fun e => ?_)⟩
          have := (World.ownsRow.lt HO1.out k e.symm).1
          omega
        clear hal h4o h4g h4a hg2 hB2 hz0 hz1
        go_wp2_with (at_builtin; refine wpList_plain rfl (fun K hK => ?_); refine wp_app _ _ 49 rfl _ _ rfl rfl hrun ?_; refine hK _ _ ?_; clear hK)
        go_roundw
        case rel => exact ⟨j + 1, m + 1, a4, c4, by omega, by go_num, rfl, by omega, HM2, HO2, HB4⟩
        case measure => simp [intOf]; omega
    · have hjI : ¬ (j : Int) < n := by omega
      obtain ⟨wv, hwv⟩ : ∃ wv, wv = wr := ⟨_, rfl⟩
      subst hwv
      have hT : l.take j = l := List.take_of_length_le (by have := HN.out; omega)
      rw [hT] at HM HO
      obtain ⟨A, hA⟩ : ∃ A, allL root l = A := ⟨_, rfl⟩
      rw [hA] at HM HO
      have HA : Hid (allL root l = A) := hA
      have hm1 : m ≤ 1001 := by omega
      have hm0 : 0 < m := by have := HM.out; rw [← hA] at this; unfold allL at this; simp at this; omega
      obtain ⟨g3, rfl, hg3b, hg3l, hg3h, hcA⟩ := own_u HO.out HM.out hm0
      have hc3 := own_cap HO.out
      have hc31 := hc3.1
      have hc32 := hc3.2
      unfold maxLen at hc32
      have HCA : Hid _ := hcA
      have HG3 : Hid (w.heap.size ≤ g3 ∧ g3 < wv.heap.size) := ⟨hg3b, hg3l⟩
      have HO0 : Hid (wv.ownsRow wv.heap.size 22 1 (.slice none 0 0) 0 (u32C [])) := World.ownsRow_nil _ _ _ _
      clear hT hA hcA hg3h hc3 HO hg3b hg3l
      go_wp2
      go_loopw [6, 7, 8, 10] (fun s6 _ _ _ wr => ∃ (m6 : Nat) (a6 : Option Addr) (c6 : Nat) (out : List Int), s6 = .slice a6 m6 c6 ∧ m6 ≤ m ∧ Hid (out.length = m6) ∧ Hid (wr.ownsRow wv.heap.size 22 1 (.slice a6 m6 c6) m6 (u32C out)) ∧ Hid (OutOk A out) ∧ Hid (Below wv.heap.size wv wr)) (fun s6 _ _ _ _ => m + 1 - slLen s6)
      case atStart => exact ⟨0, none, 0, [], rfl, Nat.zero_le _, rfl, HO0, ⟨List.Pairwise.nil, (fun v hv => by cases hv), fun v hv => .inr (fun u hu => by cases hu)⟩, Below.refl _ _⟩
      case round =>
        clear HO0
        obtain ⟨m6, a6, c6, out, rfl, hm6, HM6, HO6, HOK, HB6⟩ := hrel
        obtain ⟨wo, hwo⟩ : ∃ wo, wo = wr := ⟨_, rfl⟩
        subst hwo
        have h6 := own_cap HO6.out
        have h61 := h6.1
        have h62 := h6.2
        unfold maxLen at h62
        have HIN0 : Hid (InnerOk A out 0 0 false) := ⟨(fun e => by cases e), (fun _ v hv => by simp at hv)⟩
        clear h6
        go_wp2
        go_loopw [7, 8, 10, 36] (fun s7 s8 _ t wr => ∃ (j : Nat) (best : Int) (any : Bool), j ≤ m ∧ t = .int .i64 j ∧ s7 = .int .u32 best ∧ s8 = .bool any ∧ wr = wo ∧ Hid (InnerOk A out j best any)) (fun _ _ _ t _ => m - (intOf t).toNat)
        case atStart => exact ⟨0, 0, false, Nat.zero_le _, rfl, rfl, rfl, rfl, HIN0⟩
        case round =>
          clear HIN0
          obtain ⟨j, best, any, hj, rfl, rfl, rfl, rfl, HIN⟩ := hrel
          by_cases hjn : j < m
          · have hjI : (j : Int) < m := by omega
            obtain ⟨y, hy⟩ : ∃ y, A[j]? = some y := ⟨_, List.getElem?_eq_getElem (by have := HM.out; omega)⟩
            have HYA : Hid (A[j]? = some y) := hy
            have dy : wr.cell? ⟨g3, j, none⟩ = some (.int .u32 y) := (HB6.out.cell (p := ⟨g3, j, none⟩) HG3.out.2).trans (HCA.out j y hy)
            clear hy
            by_cases hm0 : m6 = 0
            · subst hm0
              have hout : out = [] := List.length_eq_zero_iff.1 HM6.out
              have HGT : Hid (∀ u ∈ out, u < y) := by rw [hout]; exact fun u hu => by cases hu
              clear hout
              cases any with
              | false =>
                have HIN2 : Hid (InnerOk A out (j + 1) y true) := inner_take HIN.out HYA.out HGT.out (fun e => by cases e)
                skip
                go_wp2
                go_roundw
                case rel => exact ⟨j + 1, y, true, by omega, by go_num, rfl, rfl, trivial, HIN2⟩
                case measure => simp [intOf]; omega
              | true =>
                by_cases hlt : y < best
                · have HIN2 : Hid (InnerOk A out (j + 1) y true) := inner_take HIN.out HYA.out HGT.out (fun _ => hlt)
                  skip
                  go_wp2
                  go_roundw
                  case rel => exact ⟨j + 1, y, true, by omega, by go_num, rfl, rfl, trivial, HIN2⟩
                  case measure => simp [intOf]; omega
                · have HIN2 : Hid (InnerOk A out (j + 1) best true) := inner_skip HIN.out HYA.out (.inr ⟨rfl, hlt⟩)
                  skip
                  go_wp2
                  go_roundw
                  case rel => exact ⟨j + 1, best, true, by omega, by go_num, rfl, rfl, trivial, HIN2⟩
                  case measure => simp [intOf]; omega
            · obtain ⟨q, hq⟩ : ∃ q, m6 = q + 1 := ⟨m6 - 1, by omega⟩
              subst hq
              obtain ⟨g6, rfl, _, _, _, hc6⟩ := own_u HO6.out HM6.out (by omega)
              obtain ⟨last, hl⟩ : ∃ last, out[q]? = some last := ⟨_, List.getElem?_eq_getElem (by have := HM6.out; omega)⟩
              have dl := hc6 q last hl
              have HGT : Hid ((∀ u ∈ out, u < y) ↔ last < y) := last_gt HOK.out.rise HM6.out hl
              have hwq : IntKind.i64.wrap ((q : Int) + 1 - 1) = (q : Int) := by rw [show (q : Int) + 1 - 1 = q from by omega]; exact Go.IntWalk.i64_in _ (by omega)
              have hwq2 : IntKind.i64.wrap (q : Int) = (q : Int) := Go.IntWalk.i64_in _ (by omega)
              have hq0 : ¬ (q : Int) + 1 = 0 := by omega
              have hq1 : (q : Int) < (q : Int) + 1 := by omega
              clear hc6 hl
              by_cases hgt : last < y
              · have HGT2 : Hid (∀ u ∈ out, u < y) := HGT.out.2 hgt
                clear HGT
                cases any with
                | false =>
                  have HIN2 : Hid (InnerOk A out (j + 1) y true) := inner_take HIN.out HYA.out HGT2.out (fun e => by cases e)
                  skip
                  go_wp2
                  go_roundw
                  case rel => exact ⟨j + 1, y, true, by omega, by go_num, rfl, rfl, trivial, HIN2⟩
                  case measure => simp [intOf]; omega
                | true =>
                  by_cases hlt : y < best
                  · have HIN2 : Hid (InnerOk A out (j + 1) y true) := inner_take HIN.out HYA.out HGT2.out (fun _ => hlt)
                    skip
                    go_wp2
                    go_roundw
                    case rel => exact ⟨j + 1, y, true, by omega, by go_num, rfl, rfl, trivial, HIN2⟩
                    case measure => simp [intOf]; omega
                  · have HIN2 : Hid (InnerOk A out (j + 1) best true) := inner_skip HIN.out HYA.out (.inr ⟨rfl, hlt⟩)
                    skip
                    go_wp2
                    go_roundw
                    case rel => exact ⟨j + 1, best, true, by omega, by go_num, rfl, rfl, trivial, HIN2⟩
                    case measure => simp [intOf]; omega
              · have HNG : Hid (¬ ∀ u ∈ out, u < y) := fun hh => hgt (HGT.out.1 hh)
                clear HGT
                have HIN2 : Hid (InnerOk A out (j + 1) best any) := inner_skip HIN.out HYA.out (.inl HNG.out)
                skip
                go_wp2
                go_roundw
                case rel => exact ⟨j + 1, best, any, by omega, by go_num, rfl, rfl, trivial, HIN2⟩
                case measure => simp [intOf]; omega
          · have hjI : ¬ (j : Int) < m := by omega
            have hjm : j = A.length := by have := HM.out; omega
            have HJM : Hid _ := hjm
            clear hjm
            cases any with
            | false =>
              have hk : ∀ v, v ∈ out ↔ v ∈ A := fun v => ⟨HOK.out.sub v, fun hv => by
                rcases HOK.out.all v hv with h1 | h1
                · exact h1
                · refine absurd h1 (HIN.out.2 rfl v ?_)
                  rw [HJM.out, List.take_length]
                  exact hv⟩
              have hroot : root ∈ out := (hk root).2 (by rw [← HA.out]; unfold allL; exact List.mem_cons_self)
              have hpos : 0 < m6 := by have := List.length_pos_of_mem hroot; have := HM6.out; omega
              obtain ⟨g6, rfl, hg6b, _, hh6, _⟩ := own_u HO6.out HM6.out hpos
              have HK : Hid (KeptX root l out) := ⟨HOK.out.rise, fun v => by rw [HA.out]; exact hk v⟩
              have HH6 : Hid (HoldU wr g6 out.toArray) := hh6
              have HGB : Hid (wv.heap.size ≤ g6) := hg6b
              have hc6 := own_cap HO6.out
              have HC6 : Hid _ := hc6
              clear hk hroot hh6 hg6b hc6
              go_wp2
              go_ret
              refine ⟨g6, c6, out, by rw [HM6.out]; rfl, by rw [HM6.out]; exact HC6.out.1, HC6.out.2, Nat.le_trans HB.out.size HGB.out, HH6.out, HK.out, thenB HB.out HB6.out⟩
            | true =>
              have hadd := HIN.out
              rw [HJM.out] at hadd
              have hok2 := out_add HOK.out hadd
              have hl2 := rise_len _ _ hok2.rise hok2.sub
              rw [List.length_append, HM6.out, HM.out] at hl2
              have hl3 : m6 + 1 ≤ m := hl2
              have HOK2 : Hid (OutOk A (out ++ [best])) := hok2
              clear hadd hok2 hl2
              obtain ⟨w2, hw2⟩ : ∃ w2, wr.alloc (.cells #[.int .u32 best] 22) = w2 := ⟨_, rfl⟩
              have hB2 : Below wr.heap.size wr w2 := by rw [← hw2]; exact (Below.refl _ wr).alloc (Nat.le_refl _) _
              have hg2 : w2.heap[wr.heap.size]? = some (.cells #[.int .u32 best] 22 (0, 0)) := by rw [← hw2]; exact heap_alloc_new wr _
              have hz0 := HB6.out.size
              have hz1 := hB2.size
              obtain ⟨v4, w4, hrun, h4o, h4g, _, h4a⟩ := run_append_own_at (P := Try.prog) w2 wv.heap.size 49 49 22 iU _ 1 4 Try.underlying49 hiU hy0 hy1 hy2 rfl (by decide) (.slice a6 m6 c6) m6 (u32C out) (own_below HO6.out hB2) ⟨wr.heap.size, 0, none⟩ 1 1 [.int .u32 best] rfl (rowAdd hg2) (by simp [Value.oneCell']) (by unfold maxLen; omega) (by omega) (by omega)
              obtain ⟨a4, c4, rfl⟩ := own_shape h4o
              have HM2 : Hid ((out ++ [best]).length = m6 + 1) := by unfold Hid; rw [List.length_append, HM6.out]; rfl
              have HO2 : Hid (w4.ownsRow wv.heap.size 22 1 (.slice a4 (m6 + 1) c4) (m6 + 1) (u32C (out ++ [best]))) := by unfold Hid; simpa [u32C] using h4o
              have HB4 : Hid (Below wv.heap.size wv w4) := by
                refine (thenB HB6.out hB2).trans ⟨h4g.os, h4g.tape, h4g.output, h4g.size, fun k hk => h4g.block k (by omega) (fun e => ?_)⟩
                have := (World.ownsRow.lt HO6.out k e.symm).1
                omega
              clear h4o h4g h4a hg2 hB2 hz0 hz1
              go_wp2_with (at_builtin; refine wpList_plain rfl (fun K hK => ?_); refine wp_app _ _ 49 rfl _ _ rfl rfl hrun ?_; refine hK _ _ ?_; clear hK)
              go_roundw
              case rel => exact ⟨m6 + 1, a4, c4, out ++ [best], rfl, hl3, HM2, HO2, HOK2, HB4⟩
              case measure => simp [slLen]; omega

end Go.Proofs.Ytakifnlfgaedjaa
