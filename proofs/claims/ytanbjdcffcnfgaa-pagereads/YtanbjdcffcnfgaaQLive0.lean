/- What the chapter's examples lean on, in plain words. -/
import Derived.Test.YtanbjdcffcnfgaaQDecode3
namespace Go.Proofs.Ytanbjdcffcnfgaa
open Go.RowKit
set_option linter.unusedVariables false
set_option maxRecDepth 4000

def keyS (c : Int) : ByteArray := strOfNums (c :: List.replicate 13 0)
def liveN : Nd := ⟨false, [], [keyS 98, keyS 100], [5, 6, 7]⟩
theorem live_ok : nodeOk liveN = true := by kernel_rfl
theorem live_ndok : NdOk liveN := by
  intro k hk
  simp only [liveN, List.mem_cons, List.not_mem_nil, or_false] at hk
  omega
theorem live_a : childN liveN (keyS 97) = 0 := by kernel_rfl
theorem live_b : childN liveN (keyS 98) = 1 := by kernel_rfl
theorem live_e : childN liveN (keyS 101) = 2 := by kernel_rfl
theorem live_bad : nodeE ⟨false, [], [], [5]⟩ = 50 := by kernel_rfl
def liveH : Hd := ⟨0, 0, 0, 7, 0, 0⟩
theorem live_hdok : HdOk liveH := by constructor <;> decide
theorem live_hd : strOfNums ((headBlock liveH).take 8) = ⟨#[97, 114, 109, 111, 105, 114, 101, 49]⟩ := by kernel_rfl
theorem live_35 : (headBlock liveH).getD 35 0 = 7 := by kernel_rfl

/-- Noughts alone. -/
def zs (n r : Nat) : Nat := (List.replicate n (0 : Int)).foldl (fun r c => byteS r c.toNat) r
theorem zs_add (a b r : Nat) : zs (a + b) r = zs b (zs a r) := by
  unfold zs
  rw [← List.replicate_append_replicate, List.foldl_append]

theorem zs_0 : zs 32 4294967295 = 1970194773 := by kernel_rfl
theorem zs_1 : zs 32 1970194773 = 4231468184 := by kernel_rfl
theorem zs_2 : zs 32 4231468184 = 2920151892 := by kernel_rfl
theorem zs_3 : zs 32 2920151892 = 4158167844 := by kernel_rfl
theorem zs_4 : zs 32 4158167844 = 475290725 := by kernel_rfl
theorem zs_5 : zs 32 475290725 = 2345306063 := by kernel_rfl
theorem zs_6 : zs 32 2345306063 = 3070562025 := by kernel_rfl
theorem zs_7 : zs 32 3070562025 = 1200442991 := by kernel_rfl
theorem zs_8 : zs 32 1200442991 = 3226162417 := by kernel_rfl
theorem zs_9 : zs 32 3226162417 = 64332339 := by kernel_rfl
theorem zs_10 : zs 32 64332339 = 3784981021 := by kernel_rfl
theorem zs_11 : zs 32 3784981021 = 1158271177 := by kernel_rfl
theorem zs_12 : zs 32 1158271177 = 3710003176 := by kernel_rfl
theorem zs_13 : zs 32 3710003176 = 3425213895 := by kernel_rfl
theorem zs_14 : zs 32 3425213895 = 6515133 := by kernel_rfl
theorem zs_15 : zs 28 6515133 = 329799228 := by kernel_rfl
theorem zs_all : zs 508 4294967295 = 329799228 := by
  rw [show 508 = 32 + 476 from rfl, zs_add, zs_0]
  rw [show 476 = 32 + 444 from rfl, zs_add, zs_1]
  rw [show 444 = 32 + 412 from rfl, zs_add, zs_2]
  rw [show 412 = 32 + 380 from rfl, zs_add, zs_3]
  rw [show 380 = 32 + 348 from rfl, zs_add, zs_4]
  rw [show 348 = 32 + 316 from rfl, zs_add, zs_5]
  rw [show 316 = 32 + 284 from rfl, zs_add, zs_6]
  rw [show 284 = 32 + 252 from rfl, zs_add, zs_7]
  rw [show 252 = 32 + 220 from rfl, zs_add, zs_8]
  rw [show 220 = 32 + 188 from rfl, zs_add, zs_9]
  rw [show 188 = 32 + 156 from rfl, zs_add, zs_10]
  rw [show 156 = 32 + 124 from rfl, zs_add, zs_11]
  rw [show 124 = 32 + 92 from rfl, zs_add, zs_12]
  rw [show 92 = 32 + 60 from rfl, zs_add, zs_13]
  rw [show 60 = 32 + 28 from rfl, zs_add, zs_14]
  exact zs_15
theorem live_sum : sumS (List.replicate 508 (0 : Int)) = 3965168067 := by
  unfold sumS
  rw [show regS (List.replicate 508 (0 : Int)) = zs 508 4294967295 from rfl, zs_all]
  rfl
theorem live_zero : ndE (List.replicate 512 (0 : Int)) = 12 := by
  have hb : bodyB (List.replicate 512 (0 : Int)) = List.replicate 508 0 := by
    unfold bodyB
    rw [List.length_replicate, List.take_replicate]
    rfl
  have ht : tailB (List.replicate 512 (0 : Int)) = List.replicate 4 0 := by
    unfold tailB
    rw [List.length_replicate, List.drop_replicate]
  have hu : unE (List.replicate 512 (0 : Int)) = 12 := by
    unfold unE
    rw [List.length_replicate, if_neg (by decide), hb, ht, if_neg]
    unfold sealB
    rw [live_sum]
    decide
  have ho : opE (List.replicate 512 (0 : Int)) = 12 := by
    unfold opE
    rw [List.length_replicate, if_pos rfl, hu]
  unfold ndE
  rw [if_neg (by rw [ho]; decide), ho]

end Go.Proofs.Ytanbjdcffcnfgaa
