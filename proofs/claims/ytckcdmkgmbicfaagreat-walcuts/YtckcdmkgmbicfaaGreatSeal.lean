/- The contract of codec.Seal. -/
import Derived.Test.YtckcdmkgmbicfaaGreatSumBytes
namespace Go.Proofs.YtckcdmkgmbicfaaGreat
open Go.RowKit
set_option linter.unusedVariables false
set_option maxRecDepth 4000

set_option maxHeartbeats 400000 in
theorem sealI_any (w : World) (v : Value) (xs : List Int) (h : Rd w v xs) (hy : Byt xs) (hn : xs.length ≤ 140737488351232) : Calls Tryz.prog 81 #[v] w fun e w' => ∃ u, e = .returned u ∧ OwnI w' w.heap.size u (xs ++ sealB xs) ∧ Below w.heap.size w w' := by
  obtain ⟨a, cap, rfl, hcap, hm, hnn, hne⟩ := h
  have hr : Rd w (.slice a xs.length cap) xs := ⟨a, cap, rfl, hcap, hm, hnn, hne⟩
  clear hnn hne
  unfold maxLen at hm
  go_enter Tryz.func81, Tryz.ntmps81
  go_wp2_with fail
  refine (sumBytes_any _ _ _ hr hy).mono ?_
  rintro e w1 ⟨rfl, hb1⟩
  have hM1 : ((sealB xs).map (Value.int .u8)).toArray.all (·.oneCell') = true := Array.all_eq_true_iff_forall_mem.2 (fun u hu => ints_oneCell .u8 (sealB xs) u (by simpa using hu))
  have hMs : ((sealB xs).map (Value.int .u8)).toArray.size = 4 := by simp [sealB_length]
  have hst := run_storeCells_new (P := Tryz.prog) w1 169 #[Value.int .u8 0, Value.int .u8 0, Value.int .u8 0, Value.int .u8 0] ((sealB xs).map (Value.int .u8)).toArray (by rw [hMs]; kernel_rfl) hMs.symm hM1
  have hmk := fun W => make_bytes W ((xs.length : Int) + 4) (xs.length + 4) (by omega) (by omega)
  generalize hMe : ((sealB xs).map (Value.int .u8)).toArray = M at *
  have HE : Hid _ := hMe
  clear hMe hM1
  obtain ⟨R1, hR1⟩ : ∃ R1, R1 = xs.map (Value.int .u8) ++ List.replicate 4 (Value.int .u8 0) := ⟨_, rfl⟩
  have hcp : (Builtin.copy_ #[80, 80] 3 #[.slice (some ⟨w1.heap.size + 1, 0, none⟩) (xs.length + 4) (xs.length + 4), .slice a xs.length cap]).run Tryz.prog ((w1.alloc (.cells M 169)).alloc (.cells (Array.replicate (xs.length + 4) (Value.int .u8 0)) 5)) =
      .ok (goInt xs.length) ((w1.alloc (.cells M 169)).alloc (.cells R1.toArray 5)) := by
    have hg := heap_alloc2_new w1 (.cells M 169) (.cells (Array.replicate (xs.length + 4) (Value.int .u8 0)) 5)
    have hb : Below w.heap.size w ((w1.alloc (.cells M 169)).alloc (.cells (Array.replicate (xs.length + 4) (Value.int .u8 0)) 5)) := (hb1.alloc hb1.size _).alloc (by have := hb1.size; simp; omega) _
    rw [copy_rd _ _ 0 _ _ _ 5 hg _ xs (hr.below hb) (by omega) (by simp)]
    have hs : (w1.alloc (.cells M 169)).heap.size = w1.heap.size + 1 := by simp
    rw [← hs, World.setRow_alloc_new, hR1]
    congr 4
    simp
  have H5 : Hid _ := heap_alloc2_new w1 (.cells M 169) (.cells R1.toArray 5)
  have hg0 := heap_alloc2_old w1 (.cells M 169) (.cells R1.toArray 5)
  have hbW : Below (w1.heap.size + 1) (w1.alloc (.cells M 169)) ((w1.alloc (.cells M 169)).alloc (.cells R1.toArray 5)) := (Below.refl _ _).alloc (by simp) _
  have HR : Hid _ := hR1
  clear hR1
  go_wp2_with fail
  have hsrc : ∀ j u, ((sealB xs).map (Value.int .u8))[j]? = some u → ((w1.alloc (.cells M 169)).alloc (.cells R1.toArray 5)).cell? ((⟨w1.heap.size, 0, none⟩ : Addr).add j) = some u := by
    intro j u hj
    have hadd : (⟨w1.heap.size, 0, none⟩ : Addr).add j = ⟨w1.heap.size, j, none⟩ := by unfold Addr.add; split <;> simp_all
    rw [hadd, cell_of_row _ _ j _ 169 (0, 0) hg0, ← HE.out]
    simpa using hj
  have HS : Hid _ := hsrc
  clear hsrc hst hmk hcp hg0 hMs
  generalize hWe : (w1.alloc (.cells M 169)).alloc (.cells R1.toArray 5) = W at *
  clear hWe
  have hlR : R1.length = xs.length + 4 := by rw [HR.out]; simp
  have hls : ((sealB xs).map (Value.int .u8)).length = 4 := by simp [sealB_length]
  have h4 : xs.length + ((sealB xs).map (Value.int .u8)).length ≤ R1.length := by rw [hlR, hls]; exact Nat.le_refl _
  have h6 : ((sealB xs).map (Value.int .u8)).length = Nat.min 4 4 := hls
  have hbase := hb1.size
  have HB : Hid _ := hb1
  clear hb1 hlR hls
  have hle4 : (xs.length : Int) ≤ (xs.length : Int) + 4 := by omega
  go_region_law (refine step_copy_splice rfl (.tmp 17) (.tmp 18) 80 80 rfl 5 Tryz.underlying80 (by kernel_rfl) (some ⟨w1.heap.size + 1, xs.length, none⟩) (some ⟨w1.heap.size, 0, none⟩) 4 4 4 4 (by simp [Act.eval, Act.put]) (by simp [Act.eval, Act.put]) (w1.heap.size + 1) xs.length R1 5 (show W.drew.heap[w1.heap.size + 1]? = _ from H5.out) ((sealB xs).map (Value.int .u8)) h6 (fun _ => ⟨rfl, _, rfl, fun j u hj => (show W.drew.cell? _ = _ from HS.out j u hj)⟩) h4 (ints_oneCell _ _) (w1.heap.size + 1) _ hbW.drew (Nat.le_refl _) ?_; intro w4 hg4 hb4)
  go_wp2
  go_ret
  have hsp : splice R1 xs.length ((sealB xs).map (Value.int .u8)) = (xs ++ sealB xs).map (Value.int .u8) := by
    have hl : (xs.map (Value.int .u8)).length = xs.length := by simp
    unfold splice
    rw [HR.out, List.map_append, List.take_append_of_le_length (by omega), List.take_of_length_le (by omega), List.drop_of_length_le (by simp [sealB_length]), List.append_nil]
  have hlen : (xs ++ sealB xs).length = xs.length + 4 := by rw [List.length_append, sealB_length]
  rw [hsp] at hg4
  refine ⟨.slice (some ⟨w1.heap.size + 1, 0, none⟩) (xs.length + 4) (xs.length + 4), rfl, .inr ⟨w1.heap.size + 1, xs ++ sealB xs, by rw [hlen], by omega, hg4.out, by rw [hlen]; unfold maxLen; omega, hy.append (sealB_byt xs), Nat.le_refl _, List.take_of_length_le (Nat.le_refl _)⟩, ?_⟩
  exact (HB.out.alloc hbase _).trans (hb4.mono (by omega))

theorem seal_any (w : World) (v : Value) (xs : List Int) (h : Rd w v xs) (hy : Byt xs) (hn : xs.length ≤ 140737488351232) : Calls Tryz.prog 81 #[v] w fun e w' => ∃ u, e = .returned u ∧ Own w' w.heap.size u (xs ++ sealB xs) ∧ Below w.heap.size w w' :=
  (sealI_any w v xs h hy hn).mono fun e w' ⟨u, h1, h2, h3⟩ => ⟨u, h1, h2.own, h3⟩

end Go.Proofs.YtckcdmkgmbicfaaGreat
