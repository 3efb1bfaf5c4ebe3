/- The contract of place.keyOf. -/
import Derived.Test.YtmbiapobibfbaaaPSmall
namespace Go.Proofs.Ytmbiapobibfbaaa
open Go.RowKit
set_option linter.unusedVariables false

/-- A key's bytes. -/
def keyL (i k : Int) (rest : List Int) : List Int := fixB i.toNat 4 ++ (k % 256) :: (rest ++ List.replicate (9 - rest.length) 0)

theorem keyL_length (i k : Int) (rest : List Int) (h : rest.length ≤ 9) : (keyL i k rest).length = 14 := by
  unfold keyL
  rw [List.length_append, fixB_length, List.length_cons, List.length_append, List.length_replicate]
  omega

theorem keyL_byt (i k : Int) (rest : List Int) (h : Byt rest) : Byt (keyL i k rest) := by
  unfold keyL
  refine (fixB_byt _ _).append ?_
  intro x hx
  rcases List.mem_cons.1 hx with rfl | hx
  · omega
  · rcases List.mem_append.1 hx with hx | hx
    · exact h x hx
    · rw [List.eq_of_mem_replicate hx]; omega

/-- 'copy' into a row of bytes that is known whole, the world behind it as a letter. -/
theorem copy_new {w : World} {g o dLen dCap : Nat} {cur : List Int} (hg : w.heap[g]? = some (.cells (cur.map (Value.int .u8)).toArray 5 (0, 0))) {v : Value} {xs : List Int} (hr : Rd w v xs) (hle : xs.length ≤ dLen) (hfit : o + xs.length ≤ cur.length) :
    ∃ w', (Builtin.copy_ #[43, 43] 3 #[.slice (some ⟨g, o, none⟩) dLen dCap, v]).run Try.prog w = .ok (goInt xs.length) w' ∧
      w'.heap[g]? = some (.cells ((cur.take o ++ xs ++ cur.drop (o + xs.length)).map (Value.int .u8)).toArray 5 (0, 0)) ∧ (∀ B w0, Below B w0 w → B ≤ g → Below B w0 w') := by
  refine ⟨_, copy_rd w g o dLen dCap _ 5 hg v xs hr hle (by simpa using hfit), ?_, fun B w0 hb hB => below_setRow hb hB _⟩
  rw [setRow_heap w g _ _ 5 (0, 0) hg]
  congr 3
  simp

theorem keyL_row (A rest : List Int) (h : A.length = 4) (hr : rest.length ≤ 9) (z : Int) :
    (((List.replicate 14 (0 : Int)).take 0 ++ A ++ (List.replicate 14 0).drop (0 + A.length)).set 4 z).take 5 ++ rest ++ (((List.replicate 14 (0 : Int)).take 0 ++ A ++ (List.replicate 14 0).drop (0 + A.length)).set 4 z).drop (5 + rest.length) = A ++ z :: (rest ++ List.replicate (9 - rest.length) 0) := by
  match A, h with
  | [a, b, c, d], _ =>
    simp [List.replicate, List.drop]
    rw [show 5 + rest.length = rest.length + 1 + 1 + 1 + 1 + 1 from by omega]
    simp only [List.drop_succ_cons]
    have := List.drop_replicate (i := rest.length) (n := 9) (a := (0 : Int))
    simpa [List.replicate] using this

set_option maxHeartbeats 1000000 in
theorem keyOf_any (w : World) (i k : Int) (v : Value) (rest : List Int) (h0 : 0 ≤ i) (h1 : i ≤ 4294967295) (hr : Rd w v rest) (hy : Byt rest) (hl : rest.length ≤ 9) :
    Calls Try.prog 22 #[.int .u32 i, .int .i64 k, v] w fun e w' => e = .returned (.string (strOfNums (keyL i k rest))) ∧ Below w.heap.size w w' := by
  have hmk := make_bytes w 14 14 rfl (by omega)
  obtain ⟨wa, hwa⟩ : ∃ wa, wa = w.alloc (.cells (List.replicate 14 (Value.int .u8 0)).toArray 5) := ⟨_, rfl⟩
  rw [← hwa] at hmk
  have hba : Below w.heap.size w wa := by rw [hwa]; exact (Below.refl _ _).alloc (Nat.le_refl _) _
  have hga : wa.heap[w.heap.size]? = some (.cells ((List.replicate 14 (0 : Int)).map (Value.int .u8)).toArray 5 (0, 0)) := by rw [hwa, List.map_replicate]; exact heap_alloc_new w _
  have hgl : w.heap.size < wa.heap.size := (Array.getElem?_eq_some_iff.1 hga).1
  clear hwa
  go_enter Try.func22, Try.ntmps22
  go_wp2_with fail
  refine (fixed4_any wa i h0 h1).mono ?_
  rintro e w2 ⟨v2, rfl, ho2, hb2⟩
  have hg2 := (hb2.block _ hgl).trans hga
  obtain ⟨w3, hcp, hg3, hk3⟩ := copy_new (o := 0) (dLen := 14) (dCap := 14) hg2 ho2.rd (by rw [fixB_length]; omega) (by rw [fixB_length]; simp)
  have hb3 : Below w.heap.size w w3 := hk3 _ _ (thenB hba hb2) (Nat.le_refl _)
  have hlen3 : ((List.replicate 14 (0 : Int)).take 0 ++ fixB i.toNat 4 ++ (List.replicate 14 0).drop (0 + (fixB i.toNat 4).length)).length = 14 := by simp [fixB_length]
  obtain ⟨C3, hC3⟩ : ∃ C3, C3 = (List.replicate 14 (0 : Int)).take 0 ++ fixB i.toNat 4 ++ (List.replicate 14 0).drop (0 + (fixB i.toNat 4).length) := ⟨_, rfl⟩
  rw [← hC3] at hg3 hlen3
  have c4 := row_cell (j := 4) hg3 (by omega)
  have f4 : w3.frozen? ⟨w.heap.size, 4, none⟩ = false := by simp [World.frozen?, hg3]
  have hg4 := row_set (j := 4) hg3 (k % 256)
  have hb4 : Below w.heap.size w (w3.setCell ⟨w.heap.size, 4, none⟩ (.int .u8 (k % 256))) := hb3.setCell (Nat.le_refl _) _
  obtain ⟨w5, hcp5, hg5, hk5⟩ := copy_new (o := 5) (dLen := 9) (dCap := 9) hg4 (hr.below hb4) hl (by simp; omega)
  have hb5 : Below w.heap.size w w5 := hk5 _ _ hb4 (Nat.le_refl _)
  rw [hC3, keyL_row _ _ (fixB_length _ _) hl] at hg5
  have hrd : Rd w5 (.slice (some ⟨w.heap.size, 0, none⟩) 14 14) (keyL i k rest) := by
    refine ⟨_, 14, by rw [keyL_length i k rest hl], by rw [keyL_length i k rest hl]; omega, by unfold maxLen; omega, (by intro e; cases e), fun _ => ⟨_, _, rfl, (Array.getElem?_eq_some_iff.1 hg5).1, fun j hj => ?_⟩⟩
    rw [Nat.zero_add]
    exact row_cell hg5 hj
  have hcv := hrd.conv
  clear hmk hga hr hy hba hg2 hg3 hk3 hb3 hg4 hb4 hg5 hk5 hrd hb2 ho2 hC3
  go_wp2
  go_ret
  exact ⟨rfl, hb5⟩

end Go.Proofs.Ytmbiapobibfbaaa
