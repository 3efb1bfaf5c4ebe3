/- The contract of the document's Join. -/
import Derived.Test.YtjlglnhmkheidaaGreatCgRef
namespace Go.Proofs.YtjlglnhmkheidaaGreat
open Go.RowKit
set_option linter.unusedVariables false
set_option linter.unusedSimpArgs false
set_option maxRecDepth 100000

theorem ckE_is {c : Cg} : ckE c = if ckOk c then 0 else 1 := rfl
theorem ckE_t {c : Cg} (h : ckOk c = true) : ckE c = 0 := by unfold ckE; rw [h]; rfl
theorem ckE_f {c : Cg} (h : ckOk c = false) : ckE c = 1 := by unfold ckE; rw [h]; rfl
theorem ck_gone {c : Cg} (h : ckOk c = true) (hg : c.gone = true) : c = goneC c.pl := by
  have e := ckE_gone (ckOk_pl h) hg
  rw [ckE_t h] at e
  split at e
  · rename_i k; exact cgEq_iff.1 k
  · cases e
theorem ck_rec {c : Cg} (h : ckOk c = true) (hg : c.gone = false) (hk : c.pl.part = 1) : recOk c = true := by
  have e := ckE_rec (ckOk_pl h) hg hk
  rw [ckE_t h] at e
  split at e
  · rename_i k; exact k
  · cases e
theorem ck_fresh {c : Cg} (h : ckOk c = true) (hg : c.gone = false) (hk : c.pl.part = 1) (hf : c.fresh = true) : c.fields = 0 := by
  have e := ck_rec h hg hk
  rw [recOk_f hf] at e
  rw [Bool.and_eq_true] at e
  have := cgEq_iff.1 e.1
  rw [this]; rfl
theorem ck_fields {c : Cg} (h : ckOk c = true) (hg : c.gone = false) (hk : c.pl.part = 1) (hf : c.fresh = false) : c.fields ≠ 0 := by
  have e := ck_rec h hg hk
  rw [recOk_n hf] at e
  intro h0
  rw [fieldsOk_lo (by omega)] at e
  cases e
theorem ck_ent {c : Cg} (h : ckOk c = true) (hg : c.gone = false) (hk : c.pl.part = 2) : c.fields = 0 ∧ c.fresh = false := by
  have e := ckE_ent (ckOk_pl h) hg hk
  rw [ckE_t h] at e
  split at e
  · rename_i k
    unfold entOk at k
    rw [Bool.and_eq_true] at k
    have := cgEq_iff.1 k.1
    rw [this]; exact ⟨rfl, rfl⟩
  · cases e
theorem ck_dat {c : Cg} (h : ckOk c = true) (hg : c.gone = false) (hk : c.pl.part = 3) : c = dataC c.pl (trimP c.pt) := by
  have e := ckE_dat (ckOk_pl h) hg (by omega) (by omega)
  rw [ckE_t h] at e
  split at e
  · rename_i k; exact cgEq_iff.1 k
  · cases e
def joA (a b : Cg) : Cg := { a with pt := joinP a.pt b.pt }
theorem joA_is {a b : Cg} (ha : ckOk a = true) (hb : ckOk b = true) (ga : a.gone = false) (gb : b.gone = false) (hp : a.pl = b.pl) (hk : b.pl.part = 3) : joA a b = joC a b := by
  have ea := ck_dat ha ga (by rw [hp]; exact hk)
  have eb := ck_dat hb gb hk
  unfold joA joC
  obtain ⟨p, g, f, n, k, m, l, s, t, q⟩ := a
  obtain ⟨p', g', f', n', k', m', l', s', t', q'⟩ := b
  simp only [dataC, Cg.mk.injEq, true_and] at ea eb
  obtain ⟨a1, a2, a3, a4, a5, a6, a7, a8, _⟩ := ea
  obtain ⟨b1, b2, b3, b4, b5, b6, b7, b8, _⟩ := eb
  dsimp only at hp
  subst a1 a2 a3 a4 a5 a6 a7 a8 b1 b2 b3 b4 b5 b6 b7 b8
  simp [hp]
theorem ck_recJ {a b : Cg} (ha : ckOk a = true) (ga : a.gone = false) (hk : a.pl.part = 1) : ckE (recJ a b) = if recOk (recJ a b) then 0 else 1 := by
  have e1 : (recJ a b).pl = a.pl := by unfold recJ recI; split <;> rfl
  have e2 : (recJ a b).gone = a.gone := by unfold recJ recI; split <;> rfl
  exact ckE_rec (by rw [e1]; exact ckOk_pl ha) (by rw [e2]; exact ga) (by rw [e1]; exact hk)

set_option maxHeartbeats 4000000 in
theorem rj_a (w : World) (a b : Cg) (ha : CgOk a) (hb : CgOk b) (hka : ckOk a = false) : Calls Tryz.prog 57 #[.agg (cgC a), .agg (cgC b)] w fun e w' => e = .returned (.tuple #[.agg (cgC (joinX a b).1), .int .i64 (joinX a b).2]) ∧ Below w.heap.size w w' := by
  have HA : Hid (a.pt.bytes.length = 32) := ha.pt.ch.1
  have HB : Hid (b.pt.bytes.length = 32) := hb.pt.ch.1
  have hz := zeroCg
  have hS := two_laid w a b
  obtain ⟨w1, hw1⟩ : ∃ w1, (((w.alloc (.cells (cgC a) 56)).alloc (.cells (cgC b) 56)).alloc (.cells (cgC cg0) 56)) = w1 := ⟨_, rfl⟩
  rw [hw1] at hS
  have hla : Hid _ := hS.a.load HA.out
  have HX : Hid (joinX a b = (cg0, 1)) := by unfold Hid joinX; rw [hka]; rfl
  go_enter Tryz.func57, Tryz.ntmps57
  go_wp2_with (refine wpList_loadG rfl 56 _ rfl _ rfl _ hla.out ?_)
  refine (rck_any _ a ha).mono ?_
  rintro e w2 ⟨rfl, hb2⟩
  rw [ckE_f hka]
  have hS2 := hS.below hb2
  go_wp2_with (first
    | (refine wpList_buildBy rfl 56 _ rfl _ rfl [] (by kernel_rfl) _ built_cg0 ?_)
    | (refine wpList_storeG rfl _ _ rfl (w.heap.size + 1 + 1) cg0 cg0 rfl rfl len0 len0 hS2.r ?_))
  exact ret_cg2 rfl (w.heap.size + 1 + 1) cg0 len0 rfl _ rfl (hS2.setR cg0).r rfl ⟨by rw [HX.out]; rfl, (hS2.setR cg0).bel⟩

set_option maxHeartbeats 4000000 in
theorem rj_b (w : World) (a b : Cg) (ha : CgOk a) (hb : CgOk b) (hka : ckOk a = true) (hkb : ckOk b = false) : Calls Tryz.prog 57 #[.agg (cgC a), .agg (cgC b)] w fun e w' => e = .returned (.tuple #[.agg (cgC (joinX a b).1), .int .i64 (joinX a b).2]) ∧ Below w.heap.size w w' := by
  have HA : Hid (a.pt.bytes.length = 32) := ha.pt.ch.1
  have HB : Hid (b.pt.bytes.length = 32) := hb.pt.ch.1
  have hz := zeroCg
  have hS := two_laid w a b
  obtain ⟨w1, hw1⟩ : ∃ w1, (((w.alloc (.cells (cgC a) 56)).alloc (.cells (cgC b) 56)).alloc (.cells (cgC cg0) 56)) = w1 := ⟨_, rfl⟩
  rw [hw1] at hS
  have hla : Hid _ := hS.a.load HA.out
  have HX : Hid (joinX a b = (cg0, 1)) := by unfold Hid joinX; rw [hka, hkb]; rfl
  go_enter Tryz.func57, Tryz.ntmps57
  go_wp2_with (refine wpList_loadG rfl 56 _ rfl _ rfl _ hla.out ?_)
  refine (rck_any _ a ha).mono ?_
  rintro e w2 ⟨rfl, hb2⟩
  rw [ckE_t hka]
  have hS2 := hS.below hb2
  have hlb2 : Hid _ := hS2.b.load HB.out
  go_wp2_with (refine wpList_loadG rfl 56 _ rfl _ rfl _ hlb2.out ?_)
  refine (rck_any _ b hb).mono ?_
  rintro e w3 ⟨rfl, hb3⟩
  rw [ckE_f hkb]
  have hS3 := hS2.below hb3
  go_wp2_with (first
    | (refine wpList_buildBy rfl 56 _ rfl _ rfl [] (by kernel_rfl) _ built_cg0 ?_)
    | (refine wpList_storeG rfl _ _ rfl (w.heap.size + 1 + 1) cg0 cg0 rfl rfl len0 len0 hS3.r ?_))
  exact ret_cg2 rfl (w.heap.size + 1 + 1) cg0 len0 rfl _ rfl (hS3.setR cg0).r rfl ⟨by rw [HX.out]; rfl, (hS3.setR cg0).bel⟩

set_option maxHeartbeats 4000000 in
theorem rj_p (w : World) (a b : Cg) (ha : CgOk a) (hb : CgOk b) (hka : ckOk a = true) (hkb : ckOk b = true) (hpp : plEq a.pl b.pl = false) : Calls Tryz.prog 57 #[.agg (cgC a), .agg (cgC b)] w fun e w' => e = .returned (.tuple #[.agg (cgC (joinX a b).1), .int .i64 (joinX a b).2]) ∧ Below w.heap.size w w' := by
  have HA : Hid (a.pt.bytes.length = 32) := ha.pt.ch.1
  have HB : Hid (b.pt.bytes.length = 32) := hb.pt.ch.1
  have hz := zeroCg
  have hS := two_laid w a b
  obtain ⟨w1, hw1⟩ : ∃ w1, (((w.alloc (.cells (cgC a) 56)).alloc (.cells (cgC b) 56)).alloc (.cells (cgC cg0) 56)) = w1 := ⟨_, rfl⟩
  rw [hw1] at hS
  have hla : Hid _ := hS.a.load HA.out
  have HX : Hid (joinX a b = (cg0, 1)) := by unfold Hid joinX; rw [hka, hkb, hpp]; rfl
  go_enter Tryz.func57, Tryz.ntmps57
  go_wp2_with (refine wpList_loadG rfl 56 _ rfl _ rfl _ hla.out ?_)
  refine (rck_any _ a ha).mono ?_
  rintro e w2 ⟨rfl, hb2⟩
  rw [ckE_t hka]
  have hS2 := hS.below hb2
  have hlb2 : Hid _ := hS2.b.load HB.out
  go_wp2_with (refine wpList_loadG rfl 56 _ rfl _ rfl _ hlb2.out ?_)
  refine (rck_any _ b hb).mono ?_
  rintro e w3 ⟨rfl, hb3⟩
  rw [ckE_t hkb]
  have hS3 := hS2.below hb3
  have hpa3 : Hid ((Instr.loadAt 26 (.pointer (some ⟨w.heap.size, 0, none⟩))).run Tryz.prog w3 = .ok (.agg #[.int .u32 a.pl.ino, .int .i64 a.pl.part, .string a.pl.name, .int .u32 a.pl.chunk]) w3) := hS3.a.loadP
  have hpb3 : Hid ((Instr.loadAt 26 (.pointer (some ⟨w.heap.size + 1, 0, none⟩))).run Tryz.prog w3 = .ok (.agg #[.int .u32 b.pl.ino, .int .i64 b.pl.part, .string b.pl.name, .int .u32 b.pl.chunk]) w3) := hS3.b.loadP
  have heq : ∀ W, (binOp .neq 26 (.agg #[.int .u32 a.pl.ino, .int .i64 a.pl.part, .string a.pl.name, .int .u32 a.pl.chunk]) (.agg #[.int .u32 b.pl.ino, .int .i64 b.pl.part, .string b.pl.name, .int .u32 b.pl.chunk])).run Tryz.prog W = .ok (.bool (!plEq a.pl b.pl)) W := fun W => neq_places W a.pl b.pl
  rw [hpp] at heq
  go_wp2_with (first
    | (refine wpList_loadG rfl 26 _ rfl _ rfl _ hpa3.out ?_) | (refine wpList_loadG rfl 26 _ rfl _ rfl _ hpb3.out ?_)
    | (refine wpList_buildBy rfl 56 _ rfl _ rfl [] (by kernel_rfl) _ built_cg0 ?_)
    | (refine wpList_storeG rfl _ _ rfl (w.heap.size + 1 + 1) cg0 cg0 rfl rfl len0 len0 hS3.r ?_))
  exact ret_cg2 rfl (w.heap.size + 1 + 1) cg0 len0 rfl _ rfl (hS3.setR cg0).r rfl ⟨by rw [HX.out]; rfl, (hS3.setR cg0).bel⟩

set_option maxHeartbeats 4000000 in
theorem rj_gone (w : World) (a b : Cg) (ha : CgOk a) (hb : CgOk b) (hka : ckOk a = true) (hkb : ckOk b = true) (hpp : plEq a.pl b.pl = true) (hg : b.gone = true) : Calls Tryz.prog 57 #[.agg (cgC a), .agg (cgC b)] w fun e w' => e = .returned (.tuple #[.agg (cgC (joinX a b).1), .int .i64 (joinX a b).2]) ∧ Below w.heap.size w w' := by
  have HA : Hid (a.pt.bytes.length = 32) := ha.pt.ch.1
  have HB : Hid (b.pt.bytes.length = 32) := hb.pt.ch.1
  have hz := zeroCg
  have hS := two_laid w a b
  obtain ⟨w1, hw1⟩ : ∃ w1, (((w.alloc (.cells (cgC a) 56)).alloc (.cells (cgC b) 56)).alloc (.cells (cgC cg0) 56)) = w1 := ⟨_, rfl⟩
  rw [hw1] at hS
  have hla : Hid _ := hS.a.load HA.out
  have HX : Hid (joinX a b = (b, 0)) := by unfold Hid joinX; rw [hka, hkb, hpp]; simp only [if_true]; rw [hg]; rfl
  go_enter Tryz.func57, Tryz.ntmps57
  go_wp2_with (refine wpList_loadG rfl 56 _ rfl _ rfl _ hla.out ?_)
  refine (rck_any _ a ha).mono ?_
  rintro e w2 ⟨rfl, hb2⟩
  rw [ckE_t hka]
  have hS2 := hS.below hb2
  have hlb2 : Hid _ := hS2.b.load HB.out
  go_wp2_with (refine wpList_loadG rfl 56 _ rfl _ rfl _ hlb2.out ?_)
  refine (rck_any _ b hb).mono ?_
  rintro e w3 ⟨rfl, hb3⟩
  rw [ckE_t hkb]
  have hS3 := hS2.below hb3
  have hpa3 : Hid ((Instr.loadAt 26 (.pointer (some ⟨w.heap.size, 0, none⟩))).run Tryz.prog w3 = .ok (.agg #[.int .u32 a.pl.ino, .int .i64 a.pl.part, .string a.pl.name, .int .u32 a.pl.chunk]) w3) := hS3.a.loadP
  have hpb3 : Hid ((Instr.loadAt 26 (.pointer (some ⟨w.heap.size + 1, 0, none⟩))).run Tryz.prog w3 = .ok (.agg #[.int .u32 b.pl.ino, .int .i64 b.pl.part, .string b.pl.name, .int .u32 b.pl.chunk]) w3) := hS3.b.loadP
  have heq : ∀ W, (binOp .neq 26 (.agg #[.int .u32 a.pl.ino, .int .i64 a.pl.part, .string a.pl.name, .int .u32 a.pl.chunk]) (.agg #[.int .u32 b.pl.ino, .int .i64 b.pl.part, .string b.pl.name, .int .u32 b.pl.chunk])).run Tryz.prog W = .ok (.bool (!plEq a.pl b.pl)) W := fun W => neq_places W a.pl b.pl
  rw [hpp] at heq
  have a4 := hS3.a.c4
  have b4 := hS3.b.c4
  have b5 := hS3.b.c5
  have b6 := hS3.b.c6
  have b1 := hS3.b.c1
  have hlb3 : Hid _ := hS3.b.load HB.out
  rw [hg] at b4
  have e6 : b.fields = 0 := by rw [ck_gone hkb hg]; rfl
  rw [e6] at b6
  cases ga : a.gone
  · rw [ga] at a4
    go_wp2_with (first
      | (refine wpList_loadG rfl 26 _ rfl _ rfl _ hpa3.out ?_) | (refine wpList_loadG rfl 26 _ rfl _ rfl _ hpb3.out ?_)
      | (refine wpList_loadG rfl 56 _ rfl _ rfl _ hlb3.out ?_)
      | (refine wpList_storeG rfl _ _ rfl (w.heap.size + 1 + 1) b cg0 rfl rfl HB.out len0 hS3.r ?_))
    exact ret_cg2 rfl (w.heap.size + 1 + 1) b HB.out rfl _ rfl (hS3.setR b).r rfl ⟨by rw [HX.out]; rfl, (hS3.setR b).bel⟩
  · rw [ga] at a4
    go_wp2_with (first
      | (refine wpList_loadG rfl 26 _ rfl _ rfl _ hpa3.out ?_) | (refine wpList_loadG rfl 26 _ rfl _ rfl _ hpb3.out ?_)
      | (refine wpList_loadG rfl 56 _ rfl _ rfl _ hlb3.out ?_)
      | (refine wpList_storeG rfl _ _ rfl (w.heap.size + 1 + 1) b cg0 rfl rfl HB.out len0 hS3.r ?_))
    exact ret_cg2 rfl (w.heap.size + 1 + 1) b HB.out rfl _ rfl (hS3.setR b).r rfl ⟨by rw [HX.out]; rfl, (hS3.setR b).bel⟩

set_option maxHeartbeats 4000000 in
theorem rj_fresh (w : World) (a b : Cg) (ha : CgOk a) (hb : CgOk b) (hka : ckOk a = true) (hkb : ckOk b = true) (hpp : plEq a.pl b.pl = true) (hg : b.gone = false) (hk : b.pl.part = 1) (hf : b.fresh = true) : Calls Tryz.prog 57 #[.agg (cgC a), .agg (cgC b)] w fun e w' => e = .returned (.tuple #[.agg (cgC (joinX a b).1), .int .i64 (joinX a b).2]) ∧ Below w.heap.size w w' := by
  have HA : Hid (a.pt.bytes.length = 32) := ha.pt.ch.1
  have HB : Hid (b.pt.bytes.length = 32) := hb.pt.ch.1
  have hz := zeroCg
  have hS := two_laid w a b
  obtain ⟨w1, hw1⟩ : ∃ w1, (((w.alloc (.cells (cgC a) 56)).alloc (.cells (cgC b) 56)).alloc (.cells (cgC cg0) 56)) = w1 := ⟨_, rfl⟩
  rw [hw1] at hS
  have hla : Hid _ := hS.a.load HA.out
  have HX : Hid (joinX a b = (b, 0)) := by unfold Hid joinX; rw [hka, hkb, hpp]; simp only [if_true]; rw [hg, hk]; unfold jRX; rw [hf]; rfl
  go_enter Tryz.func57, Tryz.ntmps57
  go_wp2_with (refine wpList_loadG rfl 56 _ rfl _ rfl _ hla.out ?_)
  refine (rck_any _ a ha).mono ?_
  rintro e w2 ⟨rfl, hb2⟩
  rw [ckE_t hka]
  have hS2 := hS.below hb2
  have hlb2 : Hid _ := hS2.b.load HB.out
  go_wp2_with (refine wpList_loadG rfl 56 _ rfl _ rfl _ hlb2.out ?_)
  refine (rck_any _ b hb).mono ?_
  rintro e w3 ⟨rfl, hb3⟩
  rw [ckE_t hkb]
  have hS3 := hS2.below hb3
  have hpa3 : Hid ((Instr.loadAt 26 (.pointer (some ⟨w.heap.size, 0, none⟩))).run Tryz.prog w3 = .ok (.agg #[.int .u32 a.pl.ino, .int .i64 a.pl.part, .string a.pl.name, .int .u32 a.pl.chunk]) w3) := hS3.a.loadP
  have hpb3 : Hid ((Instr.loadAt 26 (.pointer (some ⟨w.heap.size + 1, 0, none⟩))).run Tryz.prog w3 = .ok (.agg #[.int .u32 b.pl.ino, .int .i64 b.pl.part, .string b.pl.name, .int .u32 b.pl.chunk]) w3) := hS3.b.loadP
  have heq : ∀ W, (binOp .neq 26 (.agg #[.int .u32 a.pl.ino, .int .i64 a.pl.part, .string a.pl.name, .int .u32 a.pl.chunk]) (.agg #[.int .u32 b.pl.ino, .int .i64 b.pl.part, .string b.pl.name, .int .u32 b.pl.chunk])).run Tryz.prog W = .ok (.bool (!plEq a.pl b.pl)) W := fun W => neq_places W a.pl b.pl
  rw [hpp] at heq
  have a4 := hS3.a.c4
  have b4 := hS3.b.c4
  have b5 := hS3.b.c5
  have b6 := hS3.b.c6
  have b1 := hS3.b.c1
  have hlb3 : Hid _ := hS3.b.load HB.out
  rw [hg] at b4
  rw [hf] at b5
  rw [ck_fresh hkb hg hk hf] at b6
  clear hk
  cases ga : a.gone
  · rw [ga] at a4
    go_wp2_with (first
      | (refine wpList_loadG rfl 26 _ rfl _ rfl _ hpa3.out ?_) | (refine wpList_loadG rfl 26 _ rfl _ rfl _ hpb3.out ?_)
      | (refine wpList_loadG rfl 56 _ rfl _ rfl _ hlb3.out ?_)
      | (refine wpList_storeG rfl _ _ rfl (w.heap.size + 1 + 1) b cg0 rfl rfl HB.out len0 hS3.r ?_))
    exact ret_cg2 rfl (w.heap.size + 1 + 1) b HB.out rfl _ rfl (hS3.setR b).r rfl ⟨by rw [HX.out]; rfl, (hS3.setR b).bel⟩
  · rw [ga] at a4
    go_wp2_with (first
      | (refine wpList_loadG rfl 26 _ rfl _ rfl _ hpa3.out ?_) | (refine wpList_loadG rfl 26 _ rfl _ rfl _ hpb3.out ?_)
      | (refine wpList_loadG rfl 56 _ rfl _ rfl _ hlb3.out ?_)
      | (refine wpList_storeG rfl _ _ rfl (w.heap.size + 1 + 1) b cg0 rfl rfl HB.out len0 hS3.r ?_))
    exact ret_cg2 rfl (w.heap.size + 1 + 1) b HB.out rfl _ rfl (hS3.setR b).r rfl ⟨by rw [HX.out]; rfl, (hS3.setR b).bel⟩

set_option maxHeartbeats 4000000 in
theorem rj_ent (w : World) (a b : Cg) (ha : CgOk a) (hb : CgOk b) (hka : ckOk a = true) (hkb : ckOk b = true) (hpp : plEq a.pl b.pl = true) (hg : b.gone = false) (hk : b.pl.part = 2) : Calls Tryz.prog 57 #[.agg (cgC a), .agg (cgC b)] w fun e w' => e = .returned (.tuple #[.agg (cgC (joinX a b).1), .int .i64 (joinX a b).2]) ∧ Below w.heap.size w w' := by
  have HA : Hid (a.pt.bytes.length = 32) := ha.pt.ch.1
  have HB : Hid (b.pt.bytes.length = 32) := hb.pt.ch.1
  have hz := zeroCg
  have hS := two_laid w a b
  obtain ⟨w1, hw1⟩ : ∃ w1, (((w.alloc (.cells (cgC a) 56)).alloc (.cells (cgC b) 56)).alloc (.cells (cgC cg0) 56)) = w1 := ⟨_, rfl⟩
  rw [hw1] at hS
  have hla : Hid _ := hS.a.load HA.out
  have HX : Hid (joinX a b = (b, 0)) := by unfold Hid joinX; rw [hka, hkb, hpp]; simp only [if_true]; rw [hg, hk]; rfl
  go_enter Tryz.func57, Tryz.ntmps57
  go_wp2_with (refine wpList_loadG rfl 56 _ rfl _ rfl _ hla.out ?_)
  refine (rck_any _ a ha).mono ?_
  rintro e w2 ⟨rfl, hb2⟩
  rw [ckE_t hka]
  have hS2 := hS.below hb2
  have hlb2 : Hid _ := hS2.b.load HB.out
  go_wp2_with (refine wpList_loadG rfl 56 _ rfl _ rfl _ hlb2.out ?_)
  refine (rck_any _ b hb).mono ?_
  rintro e w3 ⟨rfl, hb3⟩
  rw [ckE_t hkb]
  have hS3 := hS2.below hb3
  have hpa3 : Hid ((Instr.loadAt 26 (.pointer (some ⟨w.heap.size, 0, none⟩))).run Tryz.prog w3 = .ok (.agg #[.int .u32 a.pl.ino, .int .i64 a.pl.part, .string a.pl.name, .int .u32 a.pl.chunk]) w3) := hS3.a.loadP
  have hpb3 : Hid ((Instr.loadAt 26 (.pointer (some ⟨w.heap.size + 1, 0, none⟩))).run Tryz.prog w3 = .ok (.agg #[.int .u32 b.pl.ino, .int .i64 b.pl.part, .string b.pl.name, .int .u32 b.pl.chunk]) w3) := hS3.b.loadP
  have heq : ∀ W, (binOp .neq 26 (.agg #[.int .u32 a.pl.ino, .int .i64 a.pl.part, .string a.pl.name, .int .u32 a.pl.chunk]) (.agg #[.int .u32 b.pl.ino, .int .i64 b.pl.part, .string b.pl.name, .int .u32 b.pl.chunk])).run Tryz.prog W = .ok (.bool (!plEq a.pl b.pl)) W := fun W => neq_places W a.pl b.pl
  rw [hpp] at heq
  have a4 := hS3.a.c4
  have b4 := hS3.b.c4
  have b5 := hS3.b.c5
  have b6 := hS3.b.c6
  have b1 := hS3.b.c1
  have hlb3 : Hid _ := hS3.b.load HB.out
  rw [hg] at b4
  rw [hk] at b1
  rw [(ck_ent hkb hg hk).1] at b6
  rw [(ck_ent hkb hg hk).2] at b5
  clear hk
  cases ga : a.gone
  · rw [ga] at a4
    go_wp2_with (first
      | (refine wpList_loadG rfl 26 _ rfl _ rfl _ hpa3.out ?_) | (refine wpList_loadG rfl 26 _ rfl _ rfl _ hpb3.out ?_)
      | (refine wpList_loadG rfl 56 _ rfl _ rfl _ hlb3.out ?_)
      | (refine wpList_storeG rfl _ _ rfl (w.heap.size + 1 + 1) b cg0 rfl rfl HB.out len0 hS3.r ?_))
    exact ret_cg2 rfl (w.heap.size + 1 + 1) b HB.out rfl _ rfl (hS3.setR b).r rfl ⟨by rw [HX.out]; rfl, (hS3.setR b).bel⟩
  · rw [ga] at a4
    go_wp2_with (first
      | (refine wpList_loadG rfl 26 _ rfl _ rfl _ hpa3.out ?_) | (refine wpList_loadG rfl 26 _ rfl _ rfl _ hpb3.out ?_)
      | (refine wpList_loadG rfl 56 _ rfl _ rfl _ hlb3.out ?_)
      | (refine wpList_storeG rfl _ _ rfl (w.heap.size + 1 + 1) b cg0 rfl rfl HB.out len0 hS3.r ?_))
    exact ret_cg2 rfl (w.heap.size + 1 + 1) b HB.out rfl _ rfl (hS3.setR b).r rfl ⟨by rw [HX.out]; rfl, (hS3.setR b).bel⟩

set_option maxHeartbeats 4000000 in
theorem rj_fa (w : World) (a b : Cg) (ha : CgOk a) (hb : CgOk b) (hka : ckOk a = true) (hkb : ckOk b = true) (hpp : plEq a.pl b.pl = true) (hg : b.gone = false) (hk : b.pl.part = 1) (hf : b.fresh = false) (ga : a.gone = true) : Calls Tryz.prog 57 #[.agg (cgC a), .agg (cgC b)] w fun e w' => e = .returned (.tuple #[.agg (cgC (joinX a b).1), .int .i64 (joinX a b).2]) ∧ Below w.heap.size w w' := by
  have HA : Hid (a.pt.bytes.length = 32) := ha.pt.ch.1
  have HB : Hid (b.pt.bytes.length = 32) := hb.pt.ch.1
  have hz := zeroCg
  have hS := two_laid w a b
  obtain ⟨w1, hw1⟩ : ∃ w1, (((w.alloc (.cells (cgC a) 56)).alloc (.cells (cgC b) 56)).alloc (.cells (cgC cg0) 56)) = w1 := ⟨_, rfl⟩
  rw [hw1] at hS
  have hla : Hid _ := hS.a.load HA.out
  have HX : Hid (joinX a b = (cg0, 3)) := by unfold Hid joinX; rw [hka, hkb, hpp]; simp only [if_true]; rw [hg, hk]; unfold jRX; rw [hf, ga]; rfl
  go_enter Tryz.func57, Tryz.ntmps57
  go_wp2_with (refine wpList_loadG rfl 56 _ rfl _ rfl _ hla.out ?_)
  refine (rck_any _ a ha).mono ?_
  rintro e w2 ⟨rfl, hb2⟩
  rw [ckE_t hka]
  have hS2 := hS.below hb2
  have hlb2 : Hid _ := hS2.b.load HB.out
  go_wp2_with (refine wpList_loadG rfl 56 _ rfl _ rfl _ hlb2.out ?_)
  refine (rck_any _ b hb).mono ?_
  rintro e w3 ⟨rfl, hb3⟩
  rw [ckE_t hkb]
  have hS3 := hS2.below hb3
  have hpa3 : Hid ((Instr.loadAt 26 (.pointer (some ⟨w.heap.size, 0, none⟩))).run Tryz.prog w3 = .ok (.agg #[.int .u32 a.pl.ino, .int .i64 a.pl.part, .string a.pl.name, .int .u32 a.pl.chunk]) w3) := hS3.a.loadP
  have hpb3 : Hid ((Instr.loadAt 26 (.pointer (some ⟨w.heap.size + 1, 0, none⟩))).run Tryz.prog w3 = .ok (.agg #[.int .u32 b.pl.ino, .int .i64 b.pl.part, .string b.pl.name, .int .u32 b.pl.chunk]) w3) := hS3.b.loadP
  have heq : ∀ W, (binOp .neq 26 (.agg #[.int .u32 a.pl.ino, .int .i64 a.pl.part, .string a.pl.name, .int .u32 a.pl.chunk]) (.agg #[.int .u32 b.pl.ino, .int .i64 b.pl.part, .string b.pl.name, .int .u32 b.pl.chunk])).run Tryz.prog W = .ok (.bool (!plEq a.pl b.pl)) W := fun W => neq_places W a.pl b.pl
  rw [hpp] at heq
  have a4 := hS3.a.c4
  have b4 := hS3.b.c4
  have b5 := hS3.b.c5
  have b6 := hS3.b.c6
  have b1 := hS3.b.c1
  have hlb3 : Hid _ := hS3.b.load HB.out
  rw [ga] at a4
  have h6 := ck_fields hkb hg hk hf
  clear hk
  go_wp2_with (first
    | (refine wpList_loadG rfl 26 _ rfl _ rfl _ hpa3.out ?_) | (refine wpList_loadG rfl 26 _ rfl _ rfl _ hpb3.out ?_)
    | (refine wpList_buildBy rfl 56 _ rfl _ rfl [] (by kernel_rfl) _ built_cg0 ?_)
    | (refine wpList_storeG rfl _ _ rfl (w.heap.size + 1 + 1) cg0 cg0 rfl rfl len0 len0 hS3.r ?_))
  exact ret_cg2 rfl (w.heap.size + 1 + 1) cg0 len0 rfl _ rfl (hS3.setR cg0).r rfl ⟨by rw [HX.out]; rfl, (hS3.setR cg0).bel⟩

set_option maxHeartbeats 4000000 in
theorem rj_fn (w : World) (a b : Cg) (ha : CgOk a) (hb : CgOk b) (hka : ckOk a = true) (hkb : ckOk b = true) (hpp : plEq a.pl b.pl = true) (hg : b.gone = false) (hk : b.pl.part = 1) (hf : b.fresh = false) (ga : a.gone = false) : Calls Tryz.prog 57 #[.agg (cgC a), .agg (cgC b)] w fun e w' => e = .returned (.tuple #[.agg (cgC (joinX a b).1), .int .i64 (joinX a b).2]) ∧ Below w.heap.size w w' := by
  have HA : Hid (a.pt.bytes.length = 32) := ha.pt.ch.1
  have HB : Hid (b.pt.bytes.length = 32) := hb.pt.ch.1
  have hz := zeroCg
  have hS := two_laid w a b
  obtain ⟨w1, hw1⟩ : ∃ w1, (((w.alloc (.cells (cgC a) 56)).alloc (.cells (cgC b) 56)).alloc (.cells (cgC cg0) 56)) = w1 := ⟨_, rfl⟩
  rw [hw1] at hS
  have hla : Hid _ := hS.a.load HA.out
  go_enter Tryz.func57, Tryz.ntmps57
  go_wp2_with (refine wpList_loadG rfl 56 _ rfl _ rfl _ hla.out ?_)
  refine (rck_any _ a ha).mono ?_
  rintro e w2 ⟨rfl, hb2⟩
  rw [ckE_t hka]
  have hS2 := hS.below hb2
  have hlb2 : Hid _ := hS2.b.load HB.out
  go_wp2_with (refine wpList_loadG rfl 56 _ rfl _ rfl _ hlb2.out ?_)
  refine (rck_any _ b hb).mono ?_
  rintro e w3 ⟨rfl, hb3⟩
  rw [ckE_t hkb]
  have hS3 := hS2.below hb3
  have hpa3 : Hid ((Instr.loadAt 26 (.pointer (some ⟨w.heap.size, 0, none⟩))).run Tryz.prog w3 = .ok (.agg #[.int .u32 a.pl.ino, .int .i64 a.pl.part, .string a.pl.name, .int .u32 a.pl.chunk]) w3) := hS3.a.loadP
  have hpb3 : Hid ((Instr.loadAt 26 (.pointer (some ⟨w.heap.size + 1, 0, none⟩))).run Tryz.prog w3 = .ok (.agg #[.int .u32 b.pl.ino, .int .i64 b.pl.part, .string b.pl.name, .int .u32 b.pl.chunk]) w3) := hS3.b.loadP
  have heq : ∀ W, (binOp .neq 26 (.agg #[.int .u32 a.pl.ino, .int .i64 a.pl.part, .string a.pl.name, .int .u32 a.pl.chunk]) (.agg #[.int .u32 b.pl.ino, .int .i64 b.pl.part, .string b.pl.name, .int .u32 b.pl.chunk])).run Tryz.prog W = .ok (.bool (!plEq a.pl b.pl)) W := fun W => neq_places W a.pl b.pl
  rw [hpp] at heq
  have a4 := hS3.a.c4
  have b4 := hS3.b.c4
  have b5 := hS3.b.c5
  have b6 := hS3.b.c6
  have b1 := hS3.b.c1
  have hlb3 : Hid _ := hS3.b.load HB.out
  rw [ga] at a4
  rw [hg] at b4
  rw [hf] at b5
  rw [hk] at b1
  have h6 := ck_fields hkb hg hk hf
  have HK1 : Hid (a.pl.part = 1) := by unfold Hid; rw [plEq_iff.1 hpp]; exact hk
  have HKB : Hid (b.pl.part = 1) := hk
  clear hk
  have hia : Hid _ := hS3.a.loadI
  go_wp2_with (first
    | (refine wpList_loadG rfl 26 _ rfl _ rfl _ hpa3.out ?_) | (refine wpList_loadG rfl 26 _ rfl _ rfl _ hpb3.out ?_)
    | (refine wpList_loadG rfl 42 _ rfl _ rfl _ hia.out ?_)
    | (refine wpList_loadG rfl 56 _ rfl _ rfl _ hlb3.out ?_))
  refine (rwith_any _ a.kind a.mode a.links a.size b).mono ?_
  rintro e w4 ⟨rfl, hb4⟩
  have hS4 := hS3.below hb4
  have hS5 := hS4.setA (recI a b)
  obtain ⟨w5, hw5⟩ : ∃ w5, w4.setRow w.heap.size (cgC (recI a b)) = w5 := ⟨_, rfl⟩
  rw [hw5] at hS5
  have HI : Hid ((recI a b).pt.bytes.length = 32) := HA.out
  have e5 : w5.cell? ⟨w.heap.size, 5, none⟩ = some (.bool a.fresh) := hS5.a.c5
  cases hf2 : a.fresh
  · rw [hf2] at e5
    have e6 : w5.cell? ⟨w.heap.size, 6, none⟩ = some (.int .i64 a.fields) := hS5.a.c6
    have g6 := hS5.b.c6
    have fr6 := hS5.a.frozen 6
    have HJ : Hid (recJ a b = { recI a b with fields := orF a.fields b.fields }) := by unfold Hid recJ; rw [hf2]; rfl
    have hS5' := hS5.setAc 6 (.int .i64 (orF a.fields b.fields)) (recJ a b) (by rw [HJ.out]; rfl)
    obtain ⟨w55, hw55⟩ : ∃ w55, w5.setCell ⟨w.heap.size, 6, none⟩ (.int .i64 (orF a.fields b.fields)) = w55 := ⟨_, rfl⟩
    rw [hw55] at hS5'
    have HK : Hid ((recJ a b).pt.bytes.length = 32) := by unfold Hid; rw [recJ_len]; exact HA.out
    have hl5 : Hid _ := hS5'.a.load HK.out
    have hor : ∀ x y, bits .or .i64 x y = orF x y := fun _ _ => rfl
    go_wp2_with (first
      | (refine wpList_storeAt rfl 42 _ _ rfl w.heap.size 7 4 _ (recI a b) a rfl rfl rfl (by kernel_rfl) (by decide) (by kernel_rfl) HA.out hS4.a rfl ?_; rw [hw5])
      | (refine wpList_loadG rfl 56 _ rfl _ rfl _ hl5.out ?_))
    replace hS5 := hS5'
    refine (rck_any _ (recJ a b) (recJ_ok ha hb)).mono ?_
    rintro e w6 ⟨rfl, hb6⟩
    rw [ck_recJ hka ga HK1.out]
    have hS6 := hS5.below hb6
    have hl6 : Hid _ := hS6.a.load HK.out
    cases hr : recOk (recJ a b)
    · have HX : Hid (joinX a b = (cg0, 1)) := by unfold Hid joinX; rw [hka, hkb, hpp]; simp only [if_true]; rw [hg, HKB.out]; unfold jRX; rw [hf, ga, hr]; rfl
      rw [if_neg (by decide)]
      go_wp2_with (first
        | (refine wpList_buildBy rfl 56 _ rfl _ rfl [] (by kernel_rfl) _ built_cg0 ?_)
        | (refine wpList_storeG rfl _ _ rfl (w.heap.size + 1 + 1) cg0 cg0 rfl rfl len0 len0 hS6.r ?_))
      exact ret_cg2 rfl (w.heap.size + 1 + 1) cg0 len0 rfl _ rfl (hS6.setR cg0).r rfl ⟨by rw [HX.out]; rfl, (hS6.setR cg0).bel⟩
    · have HX : Hid (joinX a b = (recJ a b, 0)) := by unfold Hid joinX; rw [hka, hkb, hpp]; simp only [if_true]; rw [hg, HKB.out]; unfold jRX; rw [hf, ga, hr]; rfl
      rw [if_pos rfl]
      go_wp2_with (first
        | (refine wpList_loadG rfl 56 _ rfl _ rfl _ hl6.out ?_)
        | (refine wpList_storeG rfl _ _ rfl (w.heap.size + 1 + 1) (recJ a b) cg0 rfl rfl HK.out len0 hS6.r ?_))
      exact ret_cg2 rfl (w.heap.size + 1 + 1) (recJ a b) HK.out rfl _ rfl (hS6.setR (recJ a b)).r rfl ⟨by rw [HX.out]; rfl, (hS6.setR (recJ a b)).bel⟩
  · rw [hf2] at e5
    have HJ : Hid (recI a b = recJ a b) := by unfold Hid recJ; rw [hf2]; rfl
    rw [HJ.out] at hS5 hw5 HI
    have HK := HI
    have hl5 : Hid _ := hS5.a.load HK.out
    go_wp2_with (first
      | (refine wpList_storeAt rfl 42 _ _ rfl w.heap.size 7 4 _ (recI a b) a rfl rfl rfl (by kernel_rfl) (by decide) (by kernel_rfl) HA.out hS4.a rfl ?_; rw [HJ.out, hw5])
      | (refine wpList_loadG rfl 56 _ rfl _ rfl _ hl5.out ?_))
    refine (rck_any _ (recJ a b) (recJ_ok ha hb)).mono ?_
    rintro e w6 ⟨rfl, hb6⟩
    rw [ck_recJ hka ga HK1.out]
    have hS6 := hS5.below hb6
    have hl6 : Hid _ := hS6.a.load HK.out
    cases hr : recOk (recJ a b)
    · have HX : Hid (joinX a b = (cg0, 1)) := by unfold Hid joinX; rw [hka, hkb, hpp]; simp only [if_true]; rw [hg, HKB.out]; unfold jRX; rw [hf, ga, hr]; rfl
      rw [if_neg (by decide)]
      go_wp2_with (first
        | (refine wpList_buildBy rfl 56 _ rfl _ rfl [] (by kernel_rfl) _ built_cg0 ?_)
        | (refine wpList_storeG rfl _ _ rfl (w.heap.size + 1 + 1) cg0 cg0 rfl rfl len0 len0 hS6.r ?_))
      exact ret_cg2 rfl (w.heap.size + 1 + 1) cg0 len0 rfl _ rfl (hS6.setR cg0).r rfl ⟨by rw [HX.out]; rfl, (hS6.setR cg0).bel⟩
    · have HX : Hid (joinX a b = (recJ a b, 0)) := by unfold Hid joinX; rw [hka, hkb, hpp]; simp only [if_true]; rw [hg, HKB.out]; unfold jRX; rw [hf, ga, hr]; rfl
      rw [if_pos rfl]
      go_wp2_with (first
        | (refine wpList_loadG rfl 56 _ rfl _ rfl _ hl6.out ?_)
        | (refine wpList_storeG rfl _ _ rfl (w.heap.size + 1 + 1) (recJ a b) cg0 rfl rfl HK.out len0 hS6.r ?_))
      exact ret_cg2 rfl (w.heap.size + 1 + 1) (recJ a b) HK.out rfl _ rfl (hS6.setR (recJ a b)).r rfl ⟨by rw [HX.out]; rfl, (hS6.setR (recJ a b)).bel⟩

set_option maxHeartbeats 4000000 in
theorem rj_dg (w : World) (a b : Cg) (ha : CgOk a) (hb : CgOk b) (hka : ckOk a = true) (hkb : ckOk b = true) (hpp : plEq a.pl b.pl = true) (hg : b.gone = false) (hk : b.pl.part = 3) (ga : a.gone = true) : Calls Tryz.prog 57 #[.agg (cgC a), .agg (cgC b)] w fun e w' => e = .returned (.tuple #[.agg (cgC (joinX a b).1), .int .i64 (joinX a b).2]) ∧ Below w.heap.size w w' := by
  have HA : Hid (a.pt.bytes.length = 32) := ha.pt.ch.1
  have HB : Hid (b.pt.bytes.length = 32) := hb.pt.ch.1
  have hz := zeroCg
  have hS := two_laid w a b
  obtain ⟨w1, hw1⟩ : ∃ w1, (((w.alloc (.cells (cgC a) 56)).alloc (.cells (cgC b) 56)).alloc (.cells (cgC cg0) 56)) = w1 := ⟨_, rfl⟩
  rw [hw1] at hS
  have hla : Hid _ := hS.a.load HA.out
  have HX : Hid (joinX a b = (frP b, 0)) := by unfold Hid joinX; rw [hka, hkb, hpp]; simp only [if_true]; rw [hg, hk]; unfold jDX; rw [ga]; rfl
  go_enter Tryz.func57, Tryz.ntmps57
  go_wp2_with (refine wpList_loadG rfl 56 _ rfl _ rfl _ hla.out ?_)
  refine (rck_any _ a ha).mono ?_
  rintro e w2 ⟨rfl, hb2⟩
  rw [ckE_t hka]
  have hS2 := hS.below hb2
  have hlb2 : Hid _ := hS2.b.load HB.out
  go_wp2_with (refine wpList_loadG rfl 56 _ rfl _ rfl _ hlb2.out ?_)
  refine (rck_any _ b hb).mono ?_
  rintro e w3 ⟨rfl, hb3⟩
  rw [ckE_t hkb]
  have hS3 := hS2.below hb3
  have hpa3 : Hid ((Instr.loadAt 26 (.pointer (some ⟨w.heap.size, 0, none⟩))).run Tryz.prog w3 = .ok (.agg #[.int .u32 a.pl.ino, .int .i64 a.pl.part, .string a.pl.name, .int .u32 a.pl.chunk]) w3) := hS3.a.loadP
  have hpb3 : Hid ((Instr.loadAt 26 (.pointer (some ⟨w.heap.size + 1, 0, none⟩))).run Tryz.prog w3 = .ok (.agg #[.int .u32 b.pl.ino, .int .i64 b.pl.part, .string b.pl.name, .int .u32 b.pl.chunk]) w3) := hS3.b.loadP
  have heq : ∀ W, (binOp .neq 26 (.agg #[.int .u32 a.pl.ino, .int .i64 a.pl.part, .string a.pl.name, .int .u32 a.pl.chunk]) (.agg #[.int .u32 b.pl.ino, .int .i64 b.pl.part, .string b.pl.name, .int .u32 b.pl.chunk])).run Tryz.prog W = .ok (.bool (!plEq a.pl b.pl)) W := fun W => neq_places W a.pl b.pl
  rw [hpp] at heq
  have a4 := hS3.a.c4
  have b4 := hS3.b.c4
  have b5 := hS3.b.c5
  have b6 := hS3.b.c6
  have b1 := hS3.b.c1
  have hlb3 : Hid _ := hS3.b.load HB.out
  rw [hg] at b4
  have ed := ck_dat hkb hg hk
  have e6 : b.fields = 0 := by rw [ed]; rfl
  have e5' : b.fresh = false := by rw [ed]; rfl
  rw [e6] at b6
  rw [e5'] at b5
  rw [hk] at b1
  clear ed
  clear hk
  rw [ga] at a4
  have b12 := hS3.b.c12
  have f12 := hS3.b.frozen 12
  have hS4 := hS3.setBc 12 (.bool true) (frP b) rfl
  have HK : Hid ((frP b).pt.bytes.length = 32) := HB.out
  obtain ⟨w4, hw4⟩ : ∃ w4, w3.setCell ⟨w.heap.size + 1, 12, none⟩ (.bool true) = w4 := ⟨_, rfl⟩
  rw [hw4] at hS4
  have hl4 : Hid _ := hS4.b.load HK.out
  go_wp2_with (first
    | (refine wpList_loadG rfl 26 _ rfl _ rfl _ hpa3.out ?_) | (refine wpList_loadG rfl 26 _ rfl _ rfl _ hpb3.out ?_)
    | (refine wpList_loadG rfl 56 _ rfl _ rfl _ hl4.out ?_)
    | (refine wpList_storeG rfl _ _ rfl (w.heap.size + 1 + 1) (frP b) cg0 rfl rfl HK.out len0 hS4.r ?_))
  exact ret_cg2 rfl (w.heap.size + 1 + 1) (frP b) HK.out rfl _ rfl (hS4.setR (frP b)).r rfl ⟨by rw [HX.out]; rfl, (hS4.setR (frP b)).bel⟩

set_option maxHeartbeats 4000000 in
theorem rj_dn (w : World) (a b : Cg) (ha : CgOk a) (hb : CgOk b) (hka : ckOk a = true) (hkb : ckOk b = true) (hpp : plEq a.pl b.pl = true) (hg : b.gone = false) (hk : b.pl.part = 3) (ga : a.gone = false) : Calls Tryz.prog 57 #[.agg (cgC a), .agg (cgC b)] w fun e w' => e = .returned (.tuple #[.agg (cgC (joinX a b).1), .int .i64 (joinX a b).2]) ∧ Below w.heap.size w w' := by
  have HA : Hid (a.pt.bytes.length = 32) := ha.pt.ch.1
  have HB : Hid (b.pt.bytes.length = 32) := hb.pt.ch.1
  have hz := zeroCg
  have hS := two_laid w a b
  obtain ⟨w1, hw1⟩ : ∃ w1, (((w.alloc (.cells (cgC a) 56)).alloc (.cells (cgC b) 56)).alloc (.cells (cgC cg0) 56)) = w1 := ⟨_, rfl⟩
  rw [hw1] at hS
  have hla : Hid _ := hS.a.load HA.out
  have HX : Hid (joinX a b = (joA a b, 0)) := by unfold Hid; rw [joA_is hka hkb ga hg (plEq_iff.1 hpp) hk]; unfold joinX; rw [hka, hkb, hpp]; simp only [if_true]; rw [hg, hk]; unfold jDX; rw [ga]; rfl
  go_enter Tryz.func57, Tryz.ntmps57
  go_wp2_with (refine wpList_loadG rfl 56 _ rfl _ rfl _ hla.out ?_)
  refine (rck_any _ a ha).mono ?_
  rintro e w2 ⟨rfl, hb2⟩
  rw [ckE_t hka]
  have hS2 := hS.below hb2
  have hlb2 : Hid _ := hS2.b.load HB.out
  go_wp2_with (refine wpList_loadG rfl 56 _ rfl _ rfl _ hlb2.out ?_)
  refine (rck_any _ b hb).mono ?_
  rintro e w3 ⟨rfl, hb3⟩
  rw [ckE_t hkb]
  have hS3 := hS2.below hb3
  have hpa3 : Hid ((Instr.loadAt 26 (.pointer (some ⟨w.heap.size, 0, none⟩))).run Tryz.prog w3 = .ok (.agg #[.int .u32 a.pl.ino, .int .i64 a.pl.part, .string a.pl.name, .int .u32 a.pl.chunk]) w3) := hS3.a.loadP
  have hpb3 : Hid ((Instr.loadAt 26 (.pointer (some ⟨w.heap.size + 1, 0, none⟩))).run Tryz.prog w3 = .ok (.agg #[.int .u32 b.pl.ino, .int .i64 b.pl.part, .string b.pl.name, .int .u32 b.pl.chunk]) w3) := hS3.b.loadP
  have heq : ∀ W, (binOp .neq 26 (.agg #[.int .u32 a.pl.ino, .int .i64 a.pl.part, .string a.pl.name, .int .u32 a.pl.chunk]) (.agg #[.int .u32 b.pl.ino, .int .i64 b.pl.part, .string b.pl.name, .int .u32 b.pl.chunk])).run Tryz.prog W = .ok (.bool (!plEq a.pl b.pl)) W := fun W => neq_places W a.pl b.pl
  rw [hpp] at heq
  have a4 := hS3.a.c4
  have b4 := hS3.b.c4
  have b5 := hS3.b.c5
  have b6 := hS3.b.c6
  have b1 := hS3.b.c1
  have hlb3 : Hid _ := hS3.b.load HB.out
  rw [hg] at b4
  have ed := ck_dat hkb hg hk
  have e6 : b.fields = 0 := by rw [ed]; rfl
  have e5' : b.fresh = false := by rw [ed]; rfl
  rw [e6] at b6
  rw [e5'] at b5
  rw [hk] at b1
  clear ed
  clear hk
  rw [ga] at a4
  have hta : Hid _ := hS3.a.loadT HA.out
  have htb : Hid _ := hS3.b.loadT HB.out
  have hJ := joinP_ok ha.pt hb.pt
  have HJ : Hid ((joinP a.pt b.pt).bytes.length = 32) := hJ.ch.1
  have HK : Hid ((joA a b).pt.bytes.length = 32) := hJ.ch.1
  go_wp2_with (first
    | (refine wpList_loadG rfl 26 _ rfl _ rfl _ hpa3.out ?_) | (refine wpList_loadG rfl 26 _ rfl _ rfl _ hpb3.out ?_)
    | (refine wpList_loadG rfl 54 _ rfl _ rfl _ hta.out ?_)
    | (refine wpList_loadG rfl 54 _ rfl _ rfl _ htb.out ?_))
  refine (rjoin_any _ a.pt b.pt ha.pt hb.pt).mono ?_
  rintro e w4 ⟨rfl, hb4⟩
  have hS4 := hS3.below hb4
  have hS5 := hS4.setA (joA a b)
  obtain ⟨w5, hw5⟩ : ∃ w5, w4.setRow w.heap.size (cgC (joA a b)) = w5 := ⟨_, rfl⟩
  rw [hw5] at hS5
  have hl5 : Hid _ := hS5.a.load HK.out
  go_wp2_with (first
    | (refine wpList_storeAt rfl 54 _ _ rfl w.heap.size 12 34 (ptC (joinP a.pt b.pt)) (joA a b) a rfl rfl (ptC_size HJ.out) size_pt (by decide) (one_pt _) HA.out hS4.a (cgL_pt a (joinP a.pt b.pt) HA.out) ?_; rw [hw5])
    | (refine wpList_loadG rfl 56 _ rfl _ rfl _ hl5.out ?_)
    | (refine wpList_storeG rfl _ _ rfl (w.heap.size + 1 + 1) (joA a b) cg0 rfl rfl HK.out len0 hS5.r ?_))
  exact ret_cg2 rfl (w.heap.size + 1 + 1) (joA a b) HK.out rfl _ rfl (hS5.setR (joA a b)).r rfl ⟨by rw [HX.out]; rfl, (hS5.setR (joA a b)).bel⟩

theorem rj_any (w : World) (a b : Cg) (ha : CgOk a) (hb : CgOk b) : Calls Tryz.prog 57 #[.agg (cgC a), .agg (cgC b)] w fun e w' => e = .returned (.tuple #[.agg (cgC (joinX a b).1), .int .i64 (joinX a b).2]) ∧ Below w.heap.size w w' := by
  cases hka : ckOk a
  · exact rj_a w a b ha hb hka
  cases hkb : ckOk b
  · exact rj_b w a b ha hb hka hkb
  cases hpp : plEq a.pl b.pl
  · exact rj_p w a b ha hb hka hkb hpp
  cases hg : b.gone
  · rcases plOk_part (ckOk_pl hkb) with hk | hk | hk
    · cases hf : b.fresh
      · cases ga : a.gone
        · exact rj_fn w a b ha hb hka hkb hpp hg hk hf ga
        · exact rj_fa w a b ha hb hka hkb hpp hg hk hf ga
      · exact rj_fresh w a b ha hb hka hkb hpp hg hk hf
    · exact rj_ent w a b ha hb hka hkb hpp hg hk
    · cases ga : a.gone
      · exact rj_dn w a b ha hb hka hkb hpp hg hk ga
      · exact rj_dg w a b ha hb hka hkb hpp hg hk ga
  · exact rj_gone w a b ha hb hka hkb hpp hg

end Go.Proofs.YtjlglnhmkheidaaGreat
