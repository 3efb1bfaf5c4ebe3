/- The document's file, place; bytes one by one (written by tools/laws/RxR_gen.py). -/
import Derived.Test.YtiplhhaehbjghaaGreatIX
import Derived.Test.YtiplhhaehbjghaaGreatIK
import Derived.Test.YtiplhhaehbjghaaGreatXC
namespace Go.Proofs.YtiplhhaehbjghaaGreat
open Go.RowKit Go.Maps
set_option linter.unusedVariables false
set_option maxHeartbeats 32000000
set_option maxRecDepth 100000
set_option linter.unusedSimpArgs false
theorem xstr_app (A B : List Int) : strOfNums A ++ strOfNums B = strOfNums (A ++ B) := by
 apply ByteArray.ext
 simp [strOfNums, ByteArray.data_append]
def fileE (s : Sg) (ino : Int) : Int := if (fdR s ino).2 ≠ 0 then (fdR s ino).2 else if (fdR s ino).1.k = 1 then 0 else 193
theorem file_x {B : Nat} {w : World} {x : Nat} {X : List Nat} {s : Sg} (h : XsIn B w x X s) (hck : CksOk s.d) (ino : Int) (h0 : 0 ≤ ino) (h1 : ino ≤ 4294967295) : Calls Tryz.prog 110 #[.pointer (some ⟨x, 0, none⟩), .int .u32 ino] w fun e w' =>
  e = .returned (.int .i64 (fileE s ino)) ∧ Below w.heap.size w w' := by
 have cf := kind_x h hck ino h0 h1
 have HF : Hid (fileE s ino = if (fdR s ino).2 ≠ 0 then (fdR s ino).2 else if (fdR s ino).1.k = 1 then 0 else 193) := rfl
 generalize fileE s ino = R at *
 generalize fdR s ino = F at *
 obtain ⟨⟨fk, fm, fl, fz⟩, fe⟩ := F
 dsimp only at cf HF
 clear h
 go_enter Tryz.func110, Tryz.ntmps110
 go_wp2_with fail
 refine cf.mono ?_
 rintro e w1 ⟨rfl, hb1⟩
 have HB : Hid (Below w.heap.size w w1) := hb1
 clear cf hb1
 by_cases he : fe = 0
 ·subst he
  by_cases hk : fk = 1
  ·subst hk
   have HE : Hid (R = 0) := by unfold Hid; rw [HF.out, if_neg (by simp), if_pos rfl]
   clear HF
   go_wp2
   go_ret
   exact ⟨by rw [HE.out]; first | done | rfl, HB.out⟩
  ·have hkb : (fk != 1) = true := by simpa using hk
   have HE : Hid (R = 193) := by unfold Hid; rw [HF.out, if_neg (by simp), if_neg hk]
   clear HF
   go_wp2
   go_ret
   exact ⟨by rw [HE.out]; first | done | rfl, HB.out⟩
 ·have heb : (fe == 0) = false := by simpa using he
  have HE : Hid (R = fe) := by unfold Hid; rw [HF.out, if_pos he]
  clear HF
  go_wp2
  go_ret
  exact ⟨by rw [HE.out]; first | done | rfl, HB.out⟩
theorem rplace_any (w : World) (i : Int) (n : Nat) (hn : n ≤ 2000) : Calls Tryz.prog 112 #[.int .u32 i, .int .i64 (n : Int)] w fun e w' => e = .returned (plV (datP i ((n / 32 : Nat) : Int))) ∧ Below w.heap.size w w' := by
 obtain ⟨c, hc⟩ : ∃ c, n / 32 = c := ⟨_, rfl⟩
 rw [hc]
 have hq : (n : Int) / 32 = (c : Int) := by omega
 have h0 : (0 : Int) ≤ (n : Int) := by omega
 have h1 : (n : Int) ≤ 2000 := by omega
 have h2 : (0 : Int) ≤ (c : Int) := by omega
 have h3 : (c : Int) ≤ 2000 := by omega
 clear hc
 go_enter Tryz.func112, Tryz.ntmps112
 go_wp2
 exact ret_place rfl w.heap.size (datP i c) rfl (heap_alloc_new w _) rfl ⟨rfl, (Below.refl _ _).alloc (Nat.le_refl _) _⟩
theorem exSz_x {s : Sg} (iv : Iv s) (ino : Int) : (fileE s ino ≠ 0 → exSz SgP s ino = (s, 0, fileE s ino)) ∧ (fileE s ino = 0 → exSz SgP s ino = ({ s with R := addK s.R ino [3] }, (fdR s ino).1.s, 0) ∧ sizeR s ino = ({ s with R := addK s.R ino [3] }, (fdR s ino).1.s, 0) ∧ 0 ≤ (fdR s ino).1.s ∧ (fdR s ino).1.s ≤ 512 ∧ ino ≠ 0) := by
 have e0 : exSz SgP s ino = if (fdR s ino).2 ≠ 0 then (s, 0, (fdR s ino).2) else if (fdR s ino).1.k = 2 then (s, 0, 193) else sizeR s ino := rfl
 have e1 : sizeR s ino = if (fdR s ino).2 ≠ 0 then (s, 0, (fdR s ino).2) else ({ s with R := addK s.R ino [3] }, (fdR s ino).1.s, 0) := rfl
 have e2 : fileE s ino = if (fdR s ino).2 ≠ 0 then (fdR s ino).2 else if (fdR s ino).1.k = 1 then 0 else 193 := rfl
 have hz := fd_zero (s := s) (ino := ino)
 have ho := iv.ok ino
 have hbd := fd_bd iv.d iv.c ino
 by_cases he : (fdR s ino).2 = 0
 case neg =>
  rw [if_pos he] at e0 e1 e2
  rw [e0, e2]
  exact ⟨fun _ => rfl, fun h => absurd h he⟩
 rw [if_neg (by simpa using he)] at e0 e1 e2
 obtain ⟨_, h3⟩ := ino_iff.1 (ho he)
 rcases h3 with ⟨hk, _⟩ | ⟨hk, _⟩
 ·rw [if_pos hk] at e2
  rw [if_neg (by omega)] at e0
  rw [e0, e1, e2]
  exact ⟨fun h => absurd rfl h, fun _ => ⟨rfl, rfl, hbd.s0, hbd.s1, hz he⟩⟩
 ·rw [if_neg (by omega)] at e2
  rw [if_pos hk] at e0
  rw [e0, e2]
  exact ⟨fun _ => rfl, fun h => absurd h (by decide)⟩
theorem radd_tcB {L : List Tc} {ino lo hi : Int} (h0 : ino ≠ 0) (h1 : 0 ≤ lo) (h2 : lo < hi) (h3 : hi ≤ 512) : raddL L (tcB ino lo hi) = addL L (tcB ino lo hi) := by
 have hm : mayB (tcB ino lo hi) = true := by
  have e : ByteArray.toList ⟨#[]⟩ = [] := by rw [ByteArray.toList_eq]
  unfold mayB tcB noName
  simp [h0, h1, h2, h3, e]
 unfold addL raddL
 rw [if_pos hm]
theorem readB {B : Nat} {w : World} {x : Nat} {X : List Nat} {s : Sg} (h : XsIn B w x X s) {ino lo hi : Int} (h0 : ino ≠ 0) (h1 : 0 ≤ lo) (h2 : lo < hi) (h3 : hi ≤ 512) (hl : s.R.length ≤ 5000) : Calls Tryz.prog 93 #[.pointer (some ⟨x, 0, none⟩), .agg #[.int .i64 4, .int .u32 ino, .string ⟨#[]⟩, .int .i64 lo, .int .i64 hi]] w fun e w' =>
  e = .returned (.tuple #[]) ∧ XsOut B w x X { s with R := addL s.R (tcB ino lo hi) } w' := by
 have := read_x h (tcB ino lo hi) hl
 rw [radd_tcB h0 h1 h2 h3] at this
 exact this
theorem wroteB {B : Nat} {w : World} {x : Nat} {X : List Nat} {s : Sg} (h : XsIn B w x X s) {ino lo hi : Int} (h0 : ino ≠ 0) (h1 : 0 ≤ lo) (h2 : lo < hi) (h3 : hi ≤ 512) (hl : s.U.length ≤ 5000) : Calls Tryz.prog 96 #[.pointer (some ⟨x, 0, none⟩), .agg #[.int .i64 4, .int .u32 ino, .string ⟨#[]⟩, .int .i64 lo, .int .i64 hi]] w fun e w' =>
  e = .returned (.tuple #[]) ∧ XsOut B w x X { s with U := addL s.U (tcB ino lo hi) } w' := by
 have := wrote_x h (tcB ino lo hi) hl
 rw [radd_tcB h0 h1 h2 h3] at this
 exact this
def bRd (s : Sg) (ino : Int) : Nat → Nat → List Int × Int
 | 0, _ => ([], 0)
 | k + 1, i => if (vgR s.l s.d (datP ino ((i / 32 : Nat) : Int))).2.2 ≠ 0 then ([], (vgR s.l s.d (datP ino ((i / 32 : Nat) : Int))).2.2) else ((vgR s.l s.d (datP ino ((i / 32 : Nat) : Int))).1.bytes.getD (i % 32) 0 :: (bRd s ino k (i + 1)).1, (bRd s ino k (i + 1)).2)
theorem bRd_step (s : Sg) (ino : Int) (k i : Nat) : bRd s ino (k + 1) i = if (vgR s.l s.d (datP ino ((i / 32 : Nat) : Int))).2.2 ≠ 0 then ([], (vgR s.l s.d (datP ino ((i / 32 : Nat) : Int))).2.2) else ((vgR s.l s.d (datP ino ((i / 32 : Nat) : Int))).1.bytes.getD (i % 32) 0 :: (bRd s ino k (i + 1)).1, (bRd s ino k (i + 1)).2) := rfl
theorem bRd_piece (s : Sg) (ino : Int) : ∀ (n k i : Nat), i % 32 + n ≤ 32 → (n = 0 ∨ (vgR s.l s.d (datP ino ((i / 32 : Nat) : Int))).2.2 = 0) →
  bRd s ino (n + k) i = (((vgR s.l s.d (datP ino ((i / 32 : Nat) : Int))).1.bytes.drop (i % 32)).take n ++ (bRd s ino k (i + n)).1, (bRd s ino k (i + n)).2)
 | 0, k, i, _, _ => by rw [Nat.zero_add, List.take_zero, Nat.add_zero]; rfl
 | n + 1, k, i, h, he => by
  have hc : (vgR s.l s.d (datP ino ((i / 32 : Nat) : Int))).2.2 = 0 := he.resolve_left (by omega)
  have hlen := vgR_len s.l s.d (datP ino ((i / 32 : Nat) : Int))
  rw [show n + 1 + k = (n + k) + 1 by omega, bRd_step, if_neg (by simpa using hc)]
  have hd : ((vgR s.l s.d (datP ino ((i / 32 : Nat) : Int))).1.bytes.drop (i % 32)).take (n + 1) = (vgR s.l s.d (datP ino ((i / 32 : Nat) : Int))).1.bytes.getD (i % 32) 0 :: ((vgR s.l s.d (datP ino ((i / 32 : Nat) : Int))).1.bytes.drop (i % 32 + 1)).take n := by
   rw [List.drop_eq_getElem_cons (by omega), List.take_succ_cons, List.getD_eq_getElem?_getD, List.getElem?_eq_getElem (by omega)]
   rfl
  cases n with
  | zero =>
   rw [hd, Nat.zero_add, List.take_zero]
   rfl
  | succ m =>
   have e1 : (i + 1) / 32 = i / 32 := by omega
   have e2 : (i + 1) % 32 = i % 32 + 1 := by omega
   have ih := bRd_piece s ino (m + 1) k (i + 1) (by omega) (.inr (by rw [e1]; exact hc))
   rw [e1, e2] at ih
   rw [ih, hd, show i + 1 + (m + 1) = i + (m + 1 + 1) by omega]
   rfl
theorem bRd_ex (s : Sg) (ino : Int) : ∀ (f o off len : Nat), len ≤ f → (exGet SgP ino s (pcsF f o off len)).1 = s ∧ (exGet SgP ino s (pcsF f o off len)).2.2 = (bRd s ino len off).2 ∧ ((bRd s ino len off).2 = 0 → (exGet SgP ino s (pcsF f o off len)).2.1 = (bRd s ino len off).1)
 | 0, o, off, len, h => by
  have : len = 0 := by omega
  subst this
  exact ⟨rfl, rfl, fun _ => rfl⟩
 | f + 1, o, off, len, h => by
  by_cases h0 : len = 0
  ·subst h0
   have e : pcsF (f + 1) o off 0 = [] := rfl
   rw [e]
   exact ⟨rfl, rfl, fun _ => rfl⟩
  have hp := pcN_pos (off := off) (len := len) (by omega)
  have hl := pcN_le off len
  have h32 : off % 32 + pcN off len ≤ 32 := by unfold pcN; omega
  have e : pcsF (f + 1) o off len = ⟨off / 32, off % 32, o, pcN off len⟩ :: pcsF f (o + pcN off len) (off + pcN off len) (len - pcN off len) := if_neg h0
  obtain ⟨i0, i1, i2⟩ := bRd_ex s ino f (o + pcN off len) (off + pcN off len) (len - pcN off len) (by omega)
  rw [e]
  have e2 : exGet SgP ino s (⟨off / 32, off % 32, o, pcN off len⟩ :: pcsF f (o + pcN off len) (off + pcN off len) (len - pcN off len)) = if (vgR s.l s.d (datP ino ((off / 32 : Nat) : Int))).2.2 ≠ 0 then (s, [], (vgR s.l s.d (datP ino ((off / 32 : Nat) : Int))).2.2) else
   ((exGet SgP ino s (pcsF f (o + pcN off len) (off + pcN off len) (len - pcN off len))).1, ((vgR s.l s.d (datP ino ((off / 32 : Nat) : Int))).1.bytes.drop (off % 32)).take (pcN off len) ++ (exGet SgP ino s (pcsF f (o + pcN off len) (off + pcN off len) (len - pcN off len))).2.1, (exGet SgP ino s (pcsF f (o + pcN off len) (off + pcN off len) (len - pcN off len))).2.2) := rfl
  rw [e2]
  by_cases hc : (vgR s.l s.d (datP ino ((off / 32 : Nat) : Int))).2.2 = 0
  ·rw [if_neg (by simpa using hc)]
   have hb := bRd_piece s ino (pcN off len) (len - pcN off len) off h32 (.inr hc)
   rw [show pcN off len + (len - pcN off len) = len by omega] at hb
   rw [hb]
   exact ⟨i0, i1, fun q => by rw [show (exGet SgP ino s (pcsF f (o + pcN off len) (off + pcN off len) (len - pcN off len))).2.1 = _ from i2 q]⟩
  ·rw [if_pos hc]
   obtain ⟨m, rfl⟩ : ∃ m, len = m + 1 := ⟨len - 1, by omega⟩
   rw [bRd_step, if_pos hc]
   exact ⟨rfl, rfl, fun _ => rfl⟩
end Go.Proofs.YtiplhhaehbjghaaGreat
