/- ExQ, ExT: in one text. -/
import Derived.Test.YtiplhhaehbjghaaGreatXA
import Derived.Test.YtiplhhaehbjghaaGreatExR
namespace Go.Proofs.YtiplhhaehbjghaaGreat
open Go.RowKit
set_option linter.unusedVariables false
set_option maxHeartbeats 32000000
set_option maxRecDepth 100000
set_option linter.unusedSimpArgs false
open Go.RowKit Go.Maps
theorem sizeOf_g {G : Sgt} (g : G.Ok) {B : Nat} {w : World} {a : Sa} {X : List Nat} {s : G.S} {n : Nat} (h : G.In B w a X s) (ino : Int) (h0 : 0 ≤ ino) (h1 : ino ≤ 4294967295) (hk : G.Sk s n) (hn : n ≤ 4000) :
  Calls Tryz.prog 104 #[.pointer (some ⟨a.s, 0, none⟩), .int .u32 ino] w fun e w' =>
  e = .returned (.tuple #[.int .i64 (exSz G s ino).2.1, .int .i64 (exSz G s ino).2.2]) ∧ G.Out B w a X (exSz G s ino).1 w' ∧ 0 ≤ (exSz G s ino).2.1 ∧ (exSz G s ino).2.1 ≤ 512 := by
 have ck := g.kind h ino h0 h1
 have HF : Hid (exSz G s ino = if (G.fd s ino).2 ≠ 0 then (G.fdS s ino, 0, (G.fd s ino).2) else if (G.fd s ino).1.k = 2 then (G.fdS s ino, 0, 193) else G.sz (G.fdS s ino) ino) := rfl
 have HK : Hid (G.Sk (G.fdS s ino) n) := g.skF hk ino
 generalize exSz G s ino = R at *
 generalize G.fdS s ino = S1 at *
 generalize G.fd s ino = F at *
 obtain ⟨⟨fk, fm, fl, fz⟩, fe⟩ := F
 dsimp only at ck HF ⊢
 clear h hk
 go_enter Tryz.func104, Tryz.ntmps104
 go_wp2_with fail
 refine ck.mono ?_
 rintro e w1 ⟨rfl, ho1⟩
 clear ck
 by_cases he : fe = 0
 case neg =>
  have heb : (fe != 0) = true := by simpa using he
  have HE : Hid (R = (S1, 0, fe)) := by unfold Hid; rw [HF.out, if_pos he]
  have HO : Hid (G.Out B w a X S1 w1) := ho1
  clear HF ho1
  go_wp2
  go_ret2
  exact ⟨by rw [HE.out]; first | done | rfl, by rw [HE.out]; exact HO.out, by rw [HE.out]; exact ⟨Int.le_refl _, show (0 : Int) ≤ 512 by decide⟩⟩
 subst he
 by_cases hk2 : fk = 2
 case pos =>
  subst hk2
  have HE : Hid (R = (S1, 0, 193)) := by unfold Hid; rw [HF.out, if_neg (by simp), if_pos rfl]
  have HO : Hid (G.Out B w a X S1 w1) := ho1
  clear HF ho1
  go_wp2
  go_ret2
  exact ⟨by rw [HE.out]; first | done | rfl, by rw [HE.out]; exact HO.out, by rw [HE.out]; exact ⟨Int.le_refl _, show (0 : Int) ≤ 512 by decide⟩⟩
 have hk2b : (fk == 2) = false := by simpa using hk2
 have HE : Hid (R = G.sz S1 ino) := by unfold Hid; rw [HF.out, if_neg (by simp), if_neg hk2]
 obtain ⟨X1, hx1, hx2, hx3⟩ := ho1
 have cs := g.size hx1 ino h0 h1 HK.out hn
 have HB : Hid (0 ≤ (G.sz S1 ino).2.1 ∧ (G.sz S1 ino).2.1 ≤ 512) := g.szb hx1 HK.out ino
 have HX2 : Hid (Sole X w w1) := hx2
 have HX3 : Hid (∀ k ∈ X1, k ∈ X ∨ w.heap.size ≤ k) := hx3
 generalize G.sz S1 ino = Z at *
 obtain ⟨zs, zz, ze⟩ := Z
 dsimp only at cs HB
 clear HF hx1 hx2 hx3 hk2
 go_wp2_with fail
 refine cs.mono ?_
 rintro e w2 ⟨rfl, ho2⟩
 have HO : Hid (G.Out B w a X zs w2) := Sgt.Out.then HX2.out HX3.out ho2
 clear cs ho2
 go_wp2
 go_ret2
 exact ⟨by rw [HE.out]; first | done | rfl, by rw [HE.out]; exact HO.out, by rw [HE.out]; exact HB.out⟩
theorem rd_fi1 (w : World) (f : Int × Int) : RdZ 2 fiE (w.alloc (.cells #[.int .i64 f.1, .int .i64 f.2] 97)) (.slice (some ⟨w.heap.size, 0, none⟩) 1 1) [f] :=
 rdZ_own fi_len (base := w.heap.size) (e := 97) ⟨rfl, .inr ⟨w.heap.size, 1, #[.int .i64 f.1, .int .i64 f.2], rfl, Nat.le_refl _, heap_alloc_new _ _, Nat.le_refl _, by decide, rfl, rfl⟩⟩
theorem setSize_g {G : Sgt} (g : G.Ok) {B : Nat} {w : World} {a : Sa} {X : List Nat} {s : G.S} {n : Nat} (h : G.In B w a X s) (ino : Int) (h0 : 0 ≤ ino) (h1 : ino ≤ 4294967295) (z : Int) (z0 : 0 ≤ z) (z1 : z ≤ 512) (hk : G.Sk s n) (hn : n ≤ 4000) :
  Calls Tryz.prog 107 #[.pointer (some ⟨a.s, 0, none⟩), .int .u32 ino, .int .i64 z] w fun e w' => e = .returned (.int .i64 (G.set s ino [(4, z)]).2) ∧ G.Out B w a X (G.set s ino [(4, z)]).1 w' := by
 have hb1 := bel1 w (.cells #[.int .i64 4, .int .i64 z] 97)
 have hr1 := rd_fi1 w (4, z)
 obtain ⟨w1, hw1⟩ : ∃ w1, w.alloc (.cells #[.int .i64 4, .int .i64 z] 97) = w1 := ⟨_, rfl⟩
 dsimp only at hr1
 rw [hw1] at hb1 hr1
 have hlt := g.lt h
 have cs := g.sets (g.below h hb1) ino h0 h1 w.heap.size 1 1 [(4, z)] hr1 (fun e => by have := hlt _ e; omega) (by decide) (by intro f hf; simp at hf; subst hf; dsimp only; omega) hk hn
 have HB : Hid (Below w.heap.size w w1) := hb1
 generalize G.set s ino [(4, z)] = R at *
 obtain ⟨rs, re⟩ := R
 dsimp only at cs ⊢
 clear h hr1 hb1 hlt
 go_enter Tryz.func107, Tryz.ntmps107
 go_wp2_with fail
 refine cs.mono ?_
 rintro e w2 ⟨rfl, ho2⟩
 have HO : Hid (G.Out B w a X rs w2) := Sgt.Out.pre HB.out ho2
 clear cs ho2
 go_wp2
 go_ret
 exact ⟨rfl, HO.out⟩
theorem touch_g {w : World} {p : Nat} {R : Ending → World → Prop} (ino lo hi : Int) (c : Calls Tryz.prog 137 #[.pointer (some ⟨p, 0, none⟩), .agg (tcC (tcB ino lo hi))] w fun e w' => e = .returned (.int .i64 (tckE (tcB ino lo hi))) ∧ R (.returned (.tuple #[])) w') :
  Calls Tryz.prog 106 #[.pointer (some ⟨p, 0, none⟩), .int .u32 ino, .int .i64 lo, .int .i64 hi] w R := by
 generalize tckE (tcB ino lo hi) = E at *
 unfold tcC tcB at c
 dsimp only at c
 go_enter Tryz.func106, Tryz.ntmps106
 go_wp2_with fail
 refine c.mono ?_
 rintro e w1 ⟨rfl, ho⟩
 have HO : Hid _ := ho
 clear c ho
 go_wp2
 go_end0
 exact HO.out
open Go.RowKit Go.Maps
theorem read_g {G : Sgt} (g : G.Ok) {B : Nat} {w : World} {a : Sa} {X : List Nat} {s : G.S} {N : Nat} (h : G.In B w a X s) (ino : Int) (h0 : 0 ≤ ino) (h1 : ino ≤ 4294967295) (off n : Int) (ho0 : -9223372036854775808 ≤ off) (ho1 : off ≤ 9223372036854775807) (hk : G.Sk s N) (hN : N ≤ 3800) :
  Calls Tryz.prog 54 #[.pointer (some ⟨a.s, 0, none⟩), .int .u32 ino, .int .i64 off, .int .i64 n] w fun e w' =>
  e = .returned (.tuple #[.string (exRd G s ino off n).2.1, .int .i64 (exRd G s ino off n).2.2]) ∧ G.Out B w a X (exRd G s ino off n).1 w' := by
 obtain ⟨R, hR⟩ : ∃ R, exRd G s ino off n = R := ⟨_, rfl⟩
 rw [hR]
 have HF : Hid ((if off < 0 ∨ n < 0 ∨ 64 < n then (s, ⟨#[]⟩, 1) else exRd1 G ino off n (exSz G s ino)) = R) := hR
 have HO : Hid (G.Out B w a X s w) := g.out h (Below.refl _ _)
 have cs := sizeOf_g g h ino h0 h1 hk (by omega)
 have HK : Hid (G.Sk (exSz G s ino).1 (N + 1)) := exSz_sk g hk ino
 have HN : Hid (N ≤ 3800) := hN
 generalize exSz G s ino = Z at *
 obtain ⟨S1, z, e1⟩ := Z
 dsimp only at cs HK
 clear h hk hR
 by_cases c1 : off < 0
 case pos =>
  have HE : Hid (R = (s, ⟨#[]⟩, 1)) := by have := HF.out; rw [if_pos (.inl c1)] at this; exact this.symm
  clear HF cs
  go_enter Tryz.func54, Tryz.ntmps54
  go_wp2
  go_ret2
  exact ⟨by rw [HE.out]; first | done | rfl, by rw [HE.out]; exact HO.out⟩
 by_cases c2 : n < 0
 case pos =>
  have HE : Hid (R = (s, ⟨#[]⟩, 1)) := by have := HF.out; rw [if_pos (.inr (.inl c2))] at this; exact this.symm
  clear HF cs
  go_enter Tryz.func54, Tryz.ntmps54
  go_wp2
  go_ret2
  exact ⟨by rw [HE.out]; first | done | rfl, by rw [HE.out]; exact HO.out⟩
 by_cases c3 : 64 < n
 case pos =>
  have HE : Hid (R = (s, ⟨#[]⟩, 1)) := by have := HF.out; rw [if_pos (.inr (.inr c3))] at this; exact this.symm
  clear HF cs
  go_enter Tryz.func54, Tryz.ntmps54
  go_wp2
  go_ret2
  exact ⟨by rw [HE.out]; first | done | rfl, by rw [HE.out]; exact HO.out⟩
 have HE0 : Hid (exRd1 G ino off n (S1, z, e1) = R) := by have := HF.out; rw [if_neg (by omega)] at this; exact this
 clear HF HO
 go_enter Tryz.func54, Tryz.ntmps54
 go_wp2_with fail
 refine cs.mono ?_
 rintro e w1 ⟨rfl, ho1, hz0, hz1⟩
 clear cs
 have HO1 : Hid (G.Out B w a X S1 w1) := ho1
 clear ho1
 by_cases he : e1 = 0
 case neg =>
  have heb : (e1 != 0) = true := by simpa using he
  have HE : Hid (R = (S1, ⟨#[]⟩, e1)) := by have := HE0.out; unfold exRd1 at this; rw [if_pos he] at this; exact this.symm
  clear HE0
  go_wp2
  go_ret2
  exact ⟨by rw [HE.out]; first | done | rfl, by rw [HE.out]; exact HO1.out⟩
 subst he
 have HE1 : Hid (exRd2 G ino off (S1, z, 0) (min n (z - off)) = R) := by have := HE0.out; unfold exRd1 at this; rw [if_neg (by simp)] at this; exact this
 clear HE0
 obtain ⟨M, hM⟩ : ∃ M, min n (z - off) = M := ⟨_, rfl⟩
 rw [hM] at HE1
 have hMb : M ≤ 64 ∧ (0 < M → off + M ≤ 512) := by omega
 have hzo : -9223372036854775808 ≤ z - off ∧ z - off ≤ 9223372036854775807 := by omega
 obtain ⟨hzo0, hzo1⟩ := hzo
 obtain ⟨ZO, hZO⟩ : ∃ ZO, z - off = ZO := ⟨_, rfl⟩
 rw [hZO] at hM hzo0 hzo1
 by_cases hm0 : M ≤ 0
 case pos =>
  have HE : Hid (R = (S1, ⟨#[]⟩, 0)) := by have := HE1.out; unfold exRd2 at this; rw [if_pos hm0] at this; exact this.symm
  clear HE1
  by_cases hnz : ZO < n
  rotate_left
  ·obtain rfl : M = n := by omega
   clear hM
   go_wp2
   go_ret2
   exact ⟨by rw [HE.out]; first | done | rfl, by rw [HE.out]; exact HO1.out⟩
  ·obtain rfl : M = ZO := by omega
   clear hM
   go_wp2
   go_ret2
   exact ⟨by rw [HE.out]; first | done | rfl, by rw [HE.out]; exact HO1.out⟩
 have HE2 : Hid (exOut G (exGet G ino (G.rd S1 (tcB ino off (off + M))) (pcsL off.toNat M.toNat)) = R) := by have := HE1.out; unfold exRd2 at this; rw [if_neg hm0] at this; exact this
 obtain ⟨o', rfl⟩ : ∃ o' : Nat, off = (o' : Int) := ⟨off.toNat, by omega⟩
 obtain ⟨m', rfl⟩ : ∃ m' : Nat, M = (m' : Int) := ⟨M.toNat, by omega⟩
 rw [Int.toNat_natCast, Int.toNat_natCast] at HE2
 obtain ⟨X1, hx1, hx2, hx3⟩ := HO1.out
 have HX2 : Hid (Sole X w w1) := hx2
 have HX3 : Hid (∀ k ∈ X1, k ∈ X ∨ w.heap.size ≤ k) := hx3
 have q1 := SRow.c1 (g.srow hx1)
 have ct := touch_g (w := w1) (p := a.r) ino (o' : Int) ((o' : Int) + (m' : Int)) (R := fun e w' => e = .returned (.tuple #[]) ∧ G.Out B w1 a X1 (G.rd S1 (tcB ino o' (o' + m'))) w') ((g.rds hx1 (tcB ino o' (o' + m')) (tcB_ok h0 h1 (by omega) (by omega) (by omega) (by omega)) HK.out (by have := HN.out; omega)).mono (fun e w' h => ⟨h.1, rfl, h.2⟩))
 have HK2 : Hid (G.Sk (G.rd S1 (tcB ino o' (o' + m'))) (N + 2)) := g.skR HK.out _
 generalize G.rd S1 (tcB ino o' (o' + m')) = S2 at *
 have hp0 : ¬ (m' : Int) ≤ 0 := hm0
 have hb512 : (o' : Int) + (m' : Int) ≤ 512 := hMb.2 (by omega)
 have hm64 : (m' : Int) ≤ 64 := hMb.1
 have HNAT : Hid (0 < m' ∧ m' ≤ 64 ∧ o' + m' ≤ 512) := ⟨by omega, by omega, by omega⟩
 clear HE1 HO1 hx1 hx2 hx3 HK hMb hm0
 by_cases hnz : ZO < n
 rotate_left
 ·obtain rfl : (m' : Int) = n := by omega
  clear hM
  go_wp2_with fail
  refine ct.mono ?_
  rintro e w2 ⟨rfl, ho2⟩
  clear ct q1
  have HO2 : Hid (G.Out B w a X S2 w2) := Sgt.Out.then HX2.out HX3.out ho2
  clear ho2 HX2 HX3
  obtain ⟨X2, hx1, hx2, hx3⟩ := HO2.out
  have HX2 : Hid (Sole X w w2) := hx2
  have HX3 : Hid (∀ k ∈ X2, k ∈ X ∨ w.heap.size ≤ k) := hx3
  have cb := bytesOf_g g hx1 ino h0 h1 o' m' HNAT.out.1 HNAT.out.2.1 HNAT.out.2.2 HK2.out (by have := HN.out; omega)
  generalize exOut G (exGet G ino S2 (pcsL o' m')) = T at *
  obtain ⟨S3, out, e3⟩ := T
  dsimp only at cb
  clear hx1 hx2 hx3 HO2
  go_wp2_with fail
  refine cb.mono ?_
  rintro e w3 ⟨rfl, ho3⟩
  clear cb
  have HO3 : Hid (G.Out B w a X S3 w3) := Sgt.Out.then HX2.out HX3.out ho3
  clear ho3
  go_wp2
  go_ret2
  exact ⟨by rw [← HE2.out]; first | done | rfl, by rw [← HE2.out]; exact HO3.out⟩
 ·obtain rfl : (m' : Int) = ZO := by omega
  clear hM
  go_wp2_with fail
  refine ct.mono ?_
  rintro e w2 ⟨rfl, ho2⟩
  clear ct q1
  have HO2 : Hid (G.Out B w a X S2 w2) := Sgt.Out.then HX2.out HX3.out ho2
  clear ho2 HX2 HX3
  obtain ⟨X2, hx1, hx2, hx3⟩ := HO2.out
  have HX2 : Hid (Sole X w w2) := hx2
  have HX3 : Hid (∀ k ∈ X2, k ∈ X ∨ w.heap.size ≤ k) := hx3
  have cb := bytesOf_g g hx1 ino h0 h1 o' m' HNAT.out.1 HNAT.out.2.1 HNAT.out.2.2 HK2.out (by have := HN.out; omega)
  generalize exOut G (exGet G ino S2 (pcsL o' m')) = T at *
  obtain ⟨S3, out, e3⟩ := T
  dsimp only at cb
  clear hx1 hx2 hx3 HO2
  go_wp2_with fail
  refine cb.mono ?_
  rintro e w3 ⟨rfl, ho3⟩
  clear cb
  have HO3 : Hid (G.Out B w a X S3 w3) := Sgt.Out.then HX2.out HX3.out ho3
  clear ho3
  go_wp2
  go_ret2
  exact ⟨by rw [← HE2.out]; first | done | rfl, by rw [← HE2.out]; exact HO3.out⟩
theorem write_g {G : Sgt} (g : G.Ok) {B : Nat} {w : World} {a : Sa} {X : List Nat} {s : G.S} {N : Nat} (h : G.In B w a X s) (ino : Int) (h0 : 0 ≤ ino) (h1 : ino ≤ 4294967295) (off : Int) (data : ByteArray) (hds : data.size ≤ 9223372036854775807) (hk : G.Sk s N) (hN : N ≤ 3800) :
  Calls Tryz.prog 53 #[.pointer (some ⟨a.s, 0, none⟩), .int .u32 ino, .int .i64 off, .string data] w fun e w' =>
  e = .returned (.int .i64 (exWr G s ino off data).2) ∧ G.Out B w a X (exWr G s ino off data).1 w' := by
 obtain ⟨R, hR⟩ : ∃ R, exWr G s ino off data = R := ⟨_, rfl⟩
 rw [hR]
 have HF : Hid ((if off < 0 ∨ 64 < data.size then (s, 1) else exWr1 G ino off data (exSz G s ino)) = R) := hR
 have HO : Hid (G.Out B w a X s w) := g.out h (Below.refl _ _)
 have cs := sizeOf_g g h ino h0 h1 hk (by omega)
 have HK : Hid (G.Sk (exSz G s ino).1 (N + 1)) := exSz_sk g hk ino
 have HN : Hid (N ≤ 3800) := hN
 generalize exSz G s ino = Z at *
 obtain ⟨S1, z, e1⟩ := Z
 dsimp only at cs HK
 clear h hk hR
 by_cases c1 : off < 0
 case pos =>
  have HE : Hid (R = (s, 1)) := by have := HF.out; rw [if_pos (.inl c1)] at this; exact this.symm
  clear HF cs
  go_enter Tryz.func53, Tryz.ntmps53
  go_wp2
  go_ret
  exact ⟨by rw [HE.out]; first | done | rfl, by rw [HE.out]; exact HO.out⟩
 by_cases c2 : 64 < data.size
 case pos =>
  have HE : Hid (R = (s, 1)) := by have := HF.out; rw [if_pos (.inr c2)] at this; exact this.symm
  have c2I : (64 : Int) < (data.size : Int) := by omega
  clear HF cs
  go_enter Tryz.func53, Tryz.ntmps53
  go_wp2
  go_ret
  exact ⟨by rw [HE.out]; first | done | rfl, by rw [HE.out]; exact HO.out⟩
 have c2I : ¬ (64 : Int) < (data.size : Int) := by omega
 have HE0 : Hid (exWr1 G ino off data (S1, z, e1) = R) := by have := HF.out; rw [if_neg (by omega)] at this; exact this
 have HD : Hid (data.size ≤ 64) := by unfold Hid; omega
 clear HF HO
 go_enter Tryz.func53, Tryz.ntmps53
 go_wp2_with fail
 refine cs.mono ?_
 rintro e w1 ⟨rfl, ho1, hz0, hz1⟩
 clear cs
 have HO1 : Hid (G.Out B w a X S1 w1) := ho1
 clear ho1
 by_cases he : e1 = 0
 case neg =>
  have heb : (e1 != 0) = true := by simpa using he
  have HE : Hid (R = (S1, e1)) := by have := HE0.out; unfold exWr1 at this; rw [if_pos he] at this; exact this.symm
  clear HE0
  go_wp2
  go_ret
  exact ⟨by rw [HE.out]; first | done | rfl, by rw [HE.out]; exact HO1.out⟩
 subst he
 by_cases hd : data.size = 0
 case pos =>
  have HE : Hid (R = (S1, 0)) := by have := HE0.out; unfold exWr1 at this; rw [if_neg (by simp), if_pos hd] at this; exact this.symm
  have hdd : data = ByteArray.empty := ByteArray.ext (Array.eq_empty_of_size_eq_zero hd)
  subst hdd
  clear HE0
  go_wp2
  go_ret
  exact ⟨by rw [HE.out]; first | done | rfl, by rw [HE.out]; exact HO1.out⟩
 have hde1 : (data.toList == []) = false := by
  cases hq : data.toList with
  | nil => exfalso; apply hd; have := congrArg List.length hq; rw [ByteArray.toList_eq] at this; simpa using this
  | cons x r => rfl
 have hde2 : data.toList.isEmpty = false := by cases hq : data.toList with
  | nil => rw [hq] at hde1; cases hde1
  | cons x r => rfl
 by_cases hbig : 512 - (data.size : Int) < off
 case pos =>
  have HE : Hid (R = (S1, 180)) := by have := HE0.out; unfold exWr1 at this; rw [if_neg (by simp), if_neg hd, if_pos hbig] at this; exact this.symm
  clear HE0
  go_wp2
  go_ret
  exact ⟨by rw [HE.out]; first | done | rfl, by rw [HE.out]; exact HO1.out⟩
 have HE1 : Hid (exWr2 G ino off (off + data.size) z (exPut G S1 ((pcsL off.toNat data.size).map (layC ino (strB data)))) = R) := by have := HE0.out; unfold exWr1 at this; rw [if_neg (by simp), if_neg hd, if_neg hbig] at this; exact this
 clear HE0
 obtain ⟨o', rfl⟩ : ∃ o' : Nat, off = (o' : Int) := ⟨off.toNat, by omega⟩
 rw [Int.toNat_natCast] at HE1
 obtain ⟨X1, hx1, hx2, hx3⟩ := HO1.out
 have HX2 : Hid (Sole X w w1) := hx2
 have HX3 : Hid (∀ k ∈ X1, k ∈ X ∨ w.heap.size ≤ k) := hx3
 have cl := lay_g g hx1 ino h0 h1 o' data (by omega) HD.out (by omega) HK.out (by have := HN.out; omega)
 have HK2 : Hid (G.Sk (exPut G S1 ((pcsL o' data.size).map (layC ino (strB data)))).1 (N + 65)) := g.skm (exPut_sk g _ HK.out) (by rw [List.length_map]; have := pcsL_len3 (off := o') HD.out; omega)
 generalize exPut G S1 ((pcsL o' data.size).map (layC ino (strB data))) = T at *
 obtain ⟨S2, e2⟩ := T
 dsimp only at cl HK2
 clear hx1 hx2 hx3 HO1 HK
 go_wp2_with fail
 refine cl.mono ?_
 rintro e w2 ⟨rfl, ho2⟩
 clear cl
 have HO2 : Hid (G.Out B w a X S2 w2) := Sgt.Out.then HX2.out HX3.out ho2
 clear ho2 HX2 HX3
 by_cases he2 : e2 = 0
 case neg =>
  have heb : (e2 != 0) = true := by simpa using he2
  have HE : Hid (R = (S2, e2)) := by have := HE1.out; unfold exWr2 at this; rw [if_pos he2] at this; exact this.symm
  clear HE1
  go_wp2
  go_ret
  exact ⟨by rw [HE.out]; first | done | rfl, by rw [HE.out]; exact HO2.out⟩
 subst he2
 have HE2 : Hid (exWr3 G ino (o' + data.size) z (G.wr S2 (tcB ino o' (o' + data.size))) = R) := by have := HE1.out; unfold exWr2 at this; rw [if_neg (by simp)] at this; exact this
 clear HE1
 obtain ⟨X1, hx1, hx2, hx3⟩ := HO2.out
 have HX2 : Hid (Sole X w w2) := hx2
 have HX3 : Hid (∀ k ∈ X1, k ∈ X ∨ w.heap.size ≤ k) := hx3
 have q2 := SRow.c2 (g.srow hx1)
 have hend : (o' : Int) + (data.size : Int) ≤ 512 := by omega
 have ct := touch_g (w := w2) (p := a.u) ino (o' : Int) ((o' : Int) + (data.size : Int)) (R := fun e w' => e = .returned (.tuple #[]) ∧ G.Out B w2 a X1 (G.wr S2 (tcB ino o' (o' + data.size))) w') ((g.wrs hx1 (tcB ino o' (o' + data.size)) (tcB_ok h0 h1 (by omega) (by omega) (by omega) (by omega)) HK2.out (by have := HN.out; omega)).mono (fun e w' h => ⟨h.1, rfl, h.2⟩))
 have HK3 : Hid (G.Sk (G.wr S2 (tcB ino o' (o' + data.size))) (N + 66)) := g.skW HK2.out _
 generalize G.wr S2 (tcB ino o' (o' + data.size)) = S3 at *
 obtain ⟨EN, hEN⟩ : ∃ EN, (o' : Int) + (data.size : Int) = EN := ⟨_, rfl⟩
 have HEN : Hid (0 ≤ EN ∧ EN ≤ 512) := ⟨by omega, by omega⟩
 rw [hEN] at ct HE2
 clear hx1 hx2 hx3 HO2 HK2
 go_wp2_with fail
 try rw [hEN]
 refine ct.mono ?_
 rintro e w3 ⟨rfl, ho3⟩
 clear ct q2 hEN
 have HO3 : Hid (G.Out B w a X S3 w3) := Sgt.Out.then HX2.out HX3.out ho3
 clear ho3 HX2 HX3
 by_cases hle : EN ≤ z
 case pos =>
  have HE : Hid (R = (S3, 0)) := by have := HE2.out; unfold exWr3 at this; rw [if_pos hle] at this; exact this.symm
  clear HE2
  go_wp2
  go_ret
  exact ⟨by rw [HE.out]; first | done | rfl, by rw [HE.out]; exact HO3.out⟩
 have HE : Hid (R = G.set S3 ino [(4, EN)]) := by have := HE2.out; unfold exWr3 at this; rw [if_neg hle] at this; exact this.symm
 clear HE2
 obtain ⟨X1, hx1, hx2, hx3⟩ := HO3.out
 have cz := setSize_g g hx1 ino h0 h1 EN HEN.out.1 HEN.out.2 HK3.out (by have := HN.out; omega)
 have HX2 : Hid (Sole X w w3) := hx2
 have HX3 : Hid (∀ k ∈ X1, k ∈ X ∨ w.heap.size ≤ k) := hx3
 generalize G.set S3 ino [(4, EN)] = T at *
 obtain ⟨S4, e4⟩ := T
 dsimp only at cz
 clear hx1 hx2 hx3 HO3
 go_wp2_with fail
 refine cz.mono ?_
 rintro e w4 ⟨rfl, ho4⟩
 clear cz
 have HO4 : Hid (G.Out B w a X S4 w4) := Sgt.Out.then HX2.out HX3.out ho4
 clear ho4
 go_wp2
 go_ret
 exact ⟨by rw [HE.out]; first | done | rfl, by rw [HE.out]; exact HO4.out⟩
theorem trunc_g {G : Sgt} (g : G.Ok) {B : Nat} {w : World} {a : Sa} {X : List Nat} {s : G.S} {N : Nat} (h : G.In B w a X s) (ino : Int) (h0 : 0 ≤ ino) (h1 : ino ≤ 4294967295) (size : Int) (hk : G.Sk s N) (hN : N ≤ 3800) :
  Calls Tryz.prog 55 #[.pointer (some ⟨a.s, 0, none⟩), .int .u32 ino, .int .i64 size] w fun e w' =>
  e = .returned (.int .i64 (exTr G s ino size).2) ∧ G.Out B w a X (exTr G s ino size).1 w' := by
 obtain ⟨R, hR⟩ : ∃ R, exTr G s ino size = R := ⟨_, rfl⟩
 rw [hR]
 have HE0 : Hid (exTr1 G ino size (exSz G s ino) = R) := hR
 have cs := sizeOf_g g h ino h0 h1 hk (by omega)
 have HK : Hid (G.Sk (exSz G s ino).1 (N + 1)) := exSz_sk g hk ino
 have HN : Hid (N ≤ 3800) := hN
 generalize exSz G s ino = Z at *
 obtain ⟨S1, z, e1⟩ := Z
 dsimp only at cs HK
 clear h hk hR
 go_enter Tryz.func55, Tryz.ntmps55
 go_wp2_with fail
 refine cs.mono ?_
 rintro e w1 ⟨rfl, ho1, hz0, hz1⟩
 clear cs
 have HO1 : Hid (G.Out B w a X S1 w1) := ho1
 clear ho1
 by_cases he : e1 = 0
 case neg =>
  have heb : (e1 != 0) = true := by simpa using he
  have HE : Hid (R = (S1, e1)) := by have := HE0.out; unfold exTr1 at this; rw [if_pos he] at this; exact this.symm
  clear HE0
  go_wp2
  go_ret
  exact ⟨by rw [HE.out]; first | done | rfl, by rw [HE.out]; exact HO1.out⟩
 subst he
 by_cases c1 : size < 0
 case pos =>
  have HE : Hid (R = (S1, 180)) := by have := HE0.out; unfold exTr1 at this; rw [if_neg (by simp), if_pos (.inl c1)] at this; exact this.symm
  clear HE0
  go_wp2
  go_ret
  exact ⟨by rw [HE.out]; first | done | rfl, by rw [HE.out]; exact HO1.out⟩
 by_cases c2 : 512 < size
 case pos =>
  have HE : Hid (R = (S1, 180)) := by have := HE0.out; unfold exTr1 at this; rw [if_neg (by simp), if_pos (.inr c2)] at this; exact this.symm
  clear HE0
  go_wp2
  go_ret
  exact ⟨by rw [HE.out]; first | done | rfl, by rw [HE.out]; exact HO1.out⟩
 by_cases c3 : size = z
 case pos =>
  have HE : Hid (R = (S1, 0)) := by have := HE0.out; unfold exTr1 at this; rw [if_neg (by simp), if_neg (by omega), if_pos c3] at this; exact this.symm
  clear HE0
  subst c3
  go_wp2
  go_ret
  exact ⟨by rw [HE.out]; first | done | rfl, by rw [HE.out]; exact HO1.out⟩
 have c3b : (size == z) = false := by simpa using c3
 by_cases c4 : size < z
 case neg =>
  have HE : Hid (R = G.set S1 ino [(4, size)]) := by have := HE0.out; unfold exTr1 at this; rw [if_neg (by simp), if_neg (by omega), if_neg c3, if_neg c4] at this; exact this.symm
  clear HE0
  obtain ⟨X1, hx1, hx2, hx3⟩ := HO1.out
  have cz := setSize_g g hx1 ino h0 h1 size (by omega) (by omega) HK.out (by have := HN.out; omega)
  have HX2 : Hid (Sole X w w1) := hx2
  have HX3 : Hid (∀ k ∈ X1, k ∈ X ∨ w.heap.size ≤ k) := hx3
  generalize G.set S1 ino [(4, size)] = T at *
  obtain ⟨S4, e4⟩ := T
  dsimp only at cz
  clear hx1 hx2 hx3 HO1
  go_wp2_with fail
  refine cz.mono ?_
  rintro e w4 ⟨rfl, ho4⟩
  clear cz
  have HO4 : Hid (G.Out B w a X S4 w4) := Sgt.Out.then HX2.out HX3.out ho4
  clear ho4
  go_wp2
  go_ret
  exact ⟨by rw [HE.out]; first | done | rfl, by rw [HE.out]; exact HO4.out⟩
 have HE1 : Hid (exTr2 G ino size z (exPut G S1 (wipeC ino size.toNat z.toNat)) = R) := by have := HE0.out; unfold exTr1 at this; rw [if_neg (by simp), if_neg (by omega), if_neg c3, if_pos c4] at this; exact this
 clear HE0
 obtain ⟨lo, rfl⟩ : ∃ lo : Nat, size = (lo : Int) := ⟨size.toNat, by omega⟩
 obtain ⟨hi, rfl⟩ : ∃ hi : Nat, z = (hi : Int) := ⟨z.toNat, by omega⟩
 rw [Int.toNat_natCast, Int.toNat_natCast] at HE1
 obtain ⟨X1, hx1, hx2, hx3⟩ := HO1.out
 have HX2 : Hid (Sole X w w1) := hx2
 have HX3 : Hid (∀ k ∈ X1, k ∈ X ∨ w.heap.size ≤ k) := hx3
 have cl := wipe_g g hx1 ino h0 h1 lo hi (by omega) (by omega) HK.out (by have := HN.out; omega)
 have HK2 : Hid (G.Sk (exPut G S1 (wipeC ino lo hi)).1 (N + 18)) := g.skm (exPut_sk g _ HK.out) (by have := wipe_len (ino := ino) (lo := lo) (hi := hi) (by omega); omega)
 generalize exPut G S1 (wipeC ino lo hi) = T at *
 obtain ⟨S2, e2⟩ := T
 dsimp only at cl HK2
 clear hx1 hx2 hx3 HO1 HK
 go_wp2_with fail
 refine cl.mono ?_
 rintro e w2 ⟨rfl, ho2⟩
 clear cl
 have HO2 : Hid (G.Out B w a X S2 w2) := Sgt.Out.then HX2.out HX3.out ho2
 clear ho2 HX2 HX3
 by_cases he2 : e2 = 0
 case neg =>
  have heb : (e2 != 0) = true := by simpa using he2
  have HE : Hid (R = (S2, e2)) := by have := HE1.out; unfold exTr2 at this; rw [if_pos he2] at this; exact this.symm
  clear HE1
  go_wp2
  go_ret
  exact ⟨by rw [HE.out]; first | done | rfl, by rw [HE.out]; exact HO2.out⟩
 subst he2
 have HE2 : Hid (R = G.set (G.wr S2 (tcB ino lo hi)) ino [(4, (lo : Int))]) := by have := HE1.out; unfold exTr2 at this; rw [if_neg (by simp)] at this; exact this.symm
 clear HE1
 obtain ⟨X1, hx1, hx2, hx3⟩ := HO2.out
 have HX2 : Hid (Sole X w w2) := hx2
 have HX3 : Hid (∀ k ∈ X1, k ∈ X ∨ w.heap.size ≤ k) := hx3
 have q2 := SRow.c2 (g.srow hx1)
 have ct := touch_g (w := w2) (p := a.u) ino (lo : Int) (hi : Int) (R := fun e w' => e = .returned (.tuple #[]) ∧ G.Out B w2 a X1 (G.wr S2 (tcB ino lo hi)) w') ((g.wrs hx1 (tcB ino lo hi) (tcB_ok h0 h1 (by omega) (by omega) (by omega) (by omega)) HK2.out (by have := HN.out; omega)).mono (fun e w' h => ⟨h.1, rfl, h.2⟩))
 have HK3 : Hid (G.Sk (G.wr S2 (tcB ino lo hi)) (N + 19)) := g.skW HK2.out _
 generalize G.wr S2 (tcB ino lo hi) = S3 at *
 clear hx1 hx2 hx3 HO2 HK2
 go_wp2_with fail
 refine ct.mono ?_
 rintro e w3 ⟨rfl, ho3⟩
 clear ct q2
 have HO3 : Hid (G.Out B w a X S3 w3) := Sgt.Out.then HX2.out HX3.out ho3
 clear ho3 HX2 HX3
 obtain ⟨X1, hx1, hx2, hx3⟩ := HO3.out
 have cz := setSize_g g hx1 ino h0 h1 (lo : Int) (by omega) (by omega) HK3.out (by have := HN.out; omega)
 have HX2 : Hid (Sole X w w3) := hx2
 have HX3 : Hid (∀ k ∈ X1, k ∈ X ∨ w.heap.size ≤ k) := hx3
 generalize G.set S3 ino [(4, (lo : Int))] = T at *
 obtain ⟨S4, e4⟩ := T
 dsimp only at cz
 clear hx1 hx2 hx3 HO3
 go_wp2_with fail
 refine cz.mono ?_
 rintro e w4 ⟨rfl, ho4⟩
 clear cz
 have HO4 : Hid (G.Out B w a X S4 w4) := Sgt.Out.then HX2.out HX3.out ho4
 clear ho4
 go_wp2
 go_ret
 exact ⟨by rw [HE2.out]; first | done | rfl, by rw [HE2.out]; exact HO4.out⟩
end Go.Proofs.YtiplhhaehbjghaaGreat
