/- PhMath, PhRow, PhJoin, PhSplit, PhOut: in one text. -/
import Derived.Test.YtiplhhaehbjghaaGreatQ3
import Derived.Test.YtiplhhaehbjghaaGreatQ15
import Derived.Deep.LoopGhost
import Derived.BigQuiet
import Derived.Deep.QuietTactic
import Derived.Deep.RegionHeld3
namespace Go.Proofs.YtiplhhaehbjghaaGreat
open Go.RowKit
set_option linter.unusedVariables false
set_option linter.unusedSimpArgs false
set_option maxRecDepth 4000

def ofL (l : List UInt8) : ByteArray := ⟨l.toArray⟩
theorem ofL_list (s : ByteArray) : ofL s.data.toList = s := by obtain ⟨d⟩ := s; rfl
theorem size_list (s : ByteArray) : s.size = s.data.toList.length := by rw [Array.length_toList]; rfl
/-- The pieces between strokes. -/
def cutB : List UInt8 → List (List UInt8)
 | [] => [[]]
 | c :: r => if c = 47 then [] :: cutB r else match cutB r with
  | [] => [[c]]
  | h :: t => (c :: h) :: t
theorem cutB_ne (l : List UInt8) : cutB l ≠ [] := by
 cases l with
 | nil => simp [cutB]
 | cons c r => unfold cutB; split; simp; split <;> simp
theorem cut_plain : ∀ {n : List UInt8}, 47 ∉ n → cutB n = [n]
 | [], _ => rfl
 | c :: r, h => by
  have hc : c ≠ 47 := fun e => h (by simp [e])
  have hr : 47 ∉ r := fun e => h (by simp [e])
  unfold cutB
  rw [if_neg hc, cut_plain hr]
theorem cut_app : ∀ {n : List UInt8}, 47 ∉ n → ∀ m, cutB (n ++ 47 :: m) = n :: cutB m
 | [], _, m => by
  show cutB (47 :: m) = _
  rw [cutB, if_pos rfl]
 | c :: r, h, m => by
  have hc : c ≠ 47 := fun e => h (by simp [e])
  have hr : 47 ∉ r := fun e => h (by simp [e])
  show cutB (c :: (r ++ 47 :: m)) = _
  rw [cutB, if_neg hc, cut_app hr]
/-! ### A path -/
def pathN (s : ByteArray) : List ByteArray := (cutB (s.data.toList.drop 1)).map ofL
/-- Whether a text begins as a path does, and is no longer than one. -/
def headOk (s : ByteArray) : Bool := decide (2 ≤ s.size) && decide (s.size ≤ 64) && (s.data.toList.head? == some 47)
def pathE (s : ByteArray) : Int := if s.data.toList = [47] then 0 else if headOk s = true then (if (pathN s).length ≤ 6 then (if (pathN s).all nameOk = true then 0 else 160) else 160) else 160
def pathL (s : ByteArray) : List ByteArray := if pathE s = 0 then (if s.data.toList = [47] then [] else pathN s) else []
def joinE (ns : List ByteArray) : Int := if ns.length ≤ 6 then (if ns.all nameOk = true then 0 else 160) else 160
def parE (s : ByteArray) : Int := if pathE s = 0 ∧ pathL s ≠ [] then 0 else 160
def parL (s : ByteArray) : List ByteArray := if parE s = 0 then (pathL s).dropLast else []
def parN (s : ByteArray) : ByteArray := if parE s = 0 then (pathL s).getLast?.getD ⟨#[]⟩ else ⟨#[]⟩

theorem pathE_or (s : ByteArray) : pathE s = 0 ∨ pathE s = 160 := by
 unfold pathE
 split
 ·exact .inl rfl
 ·split
  ·split
   ·split
    ·exact .inl rfl
    ·exact .inr rfl
   ·exact .inr rfl
  ·exact .inr rfl
theorem path_all {s : ByteArray} (h : pathE s = 0) : (pathL s).length ≤ 6 ∧ (pathL s).all nameOk = true := by
 unfold pathL
 rw [if_pos h]
 split
 ·exact ⟨by simp, rfl⟩
 ·rename_i h1
  unfold pathE at h
  rw [if_neg h1] at h
  split at h
  ·split at h
   ·split at h
    ·exact ⟨‹_›, ‹_›⟩
    ·cases h
   ·cases h
  ·cases h
theorem map_to (ns : List ByteArray) : (ns.map (fun n => n.data.toList)).map ofL = ns := by
 rw [List.map_map]
 have : (ofL ∘ (fun n : ByteArray => n.data.toList)) = id := funext ofL_list
 rw [this, List.map_id]

theorem nmOk_size {n : ByteArray} (h : nameOk n = true) : 1 ≤ n.data.toList.length ∧ n.data.toList.length ≤ 8 := by
 unfold nameOk at h
 simp only [Bool.and_eq_true, decide_eq_true_eq] at h
 rw [size_list] at h
 exact ⟨h.1.1.1.1.1, h.1.1.1.1.2⟩
/-- A path is its parent's names, and its last one. -/
theorem par_split {s : ByteArray} (h : parE s = 0) : pathE s = 0 ∧ parL s ++ [parN s] = pathL s := by
 have hp : pathE s = 0 ∧ pathL s ≠ [] := by
  unfold parE at h
  split at h
  ·assumption
  ·cases h
 refine ⟨hp.1, ?_⟩
 unfold parL parN
 rw [if_pos h, if_pos h]
 have := List.dropLast_concat_getLast hp.2
 rw [List.getLast?_eq_some_getLast hp.2]
 exact this

/-! ### Below -/
def sameP : List ByteArray → List ByteArray → Bool
 | [], _ => true
 | x :: a, y :: b => (x.toList == y.toList) && sameP a b
 | _ :: _, [] => false
/-- Whether b begins with all of a, and has more. -/
def underB (a b : List ByteArray) : Bool := decide (a.length < b.length) && sameP a b
set_option maxRecDepth 100000

def strE (s : ByteArray) : List Value := [.string s]
theorem str_len (x : ByteArray) : (strE x).length = 1 := rfl
theorem str_one (x : ByteArray) : ∀ u ∈ strE x, u.oneCell' = true := fun u hu => by simp [strE] at hu; subst hu; rfl
theorem info_str : (Tryz.prog.info? 9).map (fun i => (i.zero, i.size, i.bytes)) = some (some (.string ⟨#[]⟩), 1, 16) := by kernel_rfl
theorem s_cell {w : World} {a : Option Addr} {n cap : Nat} {l : List ByteArray} (h : RdZ 1 strE w (.slice a n cap) l) {i : Nat} {x : ByteArray} (hx : l[i]? = some x) :
  ∃ b off, a = some ⟨b, off, none⟩ ∧ w.cell? ⟨b, off + i, none⟩ = some (.string x) := by
 obtain ⟨⟨a', c, e, h1, h2, h3⟩, _⟩ := h
 simp only [Value.slice.injEq] at e
 obtain ⟨rfl, rfl, rfl⟩ := e
 obtain ⟨b, off, rfl, hlt, hc⟩ := h3 (by intro e; subst e; simp at hx)
 have := hc i x 0 _ hx rfl
 rw [Nat.mul_one, Nat.add_zero] at this
 exact ⟨b, off, rfl, this⟩

theorem sameP_true : ∀ {a b : List ByteArray}, a.length ≤ b.length → (∀ (i : Nat) (x y : ByteArray), a[i]? = some x → b[i]? = some y → x.toList = y.toList) → sameP a b = true
 | [], _, _, _ => rfl
 | x :: a, [], h, _ => by simp at h
 | x :: a, y :: b, h, hq => by
  unfold sameP
  rw [Bool.and_eq_true, beq_iff_eq]
  exact ⟨hq 0 x y rfl rfl, sameP_true (by simpa using h) (fun i u v hu hv => hq (i + 1) u v (by simpa using hu) (by simpa using hv))⟩
theorem sameP_false : ∀ {a b : List ByteArray} {i : Nat} {x y : ByteArray}, a[i]? = some x → b[i]? = some y → x.toList ≠ y.toList → sameP a b = false
 | [], _, _, _, _, h, _, _ => by simp at h
 | x :: a, [], i, _, _, _, h, _ => by simp at h
 | u :: a, v :: b, 0, x, y, h1, h2, h3 => by
  simp at h1 h2
  subst h1 h2
  unfold sameP
  rw [beq_eq_false_iff_ne.2 h3, Bool.false_and]
 | u :: a, v :: b, i + 1, x, y, h1, h2, h3 => by
  unfold sameP
  rw [sameP_false (by simpa using h1) (by simpa using h2) h3, Bool.and_false]

set_option maxRecDepth 100000

theorem all_next {ns : List ByteArray} {i : Nat} {x : ByteArray} (h : ns[i]? = some x) (hx : nameOk x = true) (hp : (ns.take i).all nameOk = true) : (ns.take (i + 1)).all nameOk = true := by
 rw [take_next h, List.all_append, hp]; simp [hx]
def bytesOf (s : ByteArray) : List UInt8 := s.data.toList
/-- A piece that was begun, ahead of the others. -/
def attach (n : List UInt8) : List (List UInt8) → List (List UInt8)
 | [] => [n]
 | h :: t => (n ++ h) :: t
/-- What is still to be cut. -/
def leftP (bs : List UInt8) (i : Nat) (n : List UInt8) : List (List UInt8) := if i ≤ bs.length then attach n (cutB (bs.drop i)) else []
theorem attach_nil (l : List UInt8) : attach [] (cutB l) = cutB l := by
 cases h : cutB l with
 | nil => exact absurd h (cutB_ne l)
 | cons x t => rfl
theorem left_byte {bs : List UInt8} {i : Nat} {c : UInt8} (h : bs[i]? = some c) (hc : c ≠ 47) (n : List UInt8) : leftP bs i n = leftP bs (i + 1) (n ++ [c]) := by
 have hl := (List.getElem?_eq_some_iff.1 h).1
 unfold leftP
 rw [if_pos (by omega), if_pos (by omega), List.drop_eq_getElem_cons hl, (List.getElem?_eq_some_iff.1 h).2]
 rw [cutB, if_neg hc]
 cases hq : cutB (bs.drop (i + 1)) with
 | nil => exact absurd hq (cutB_ne _)
 | cons x t => simp [attach]
theorem left_stroke {bs : List UInt8} {i : Nat} (h : bs[i]? = some 47) (n : List UInt8) : leftP bs i n = n :: leftP bs (i + 1) [] := by
 have hl := (List.getElem?_eq_some_iff.1 h).1
 unfold leftP
 rw [if_pos (by omega), if_pos (by omega), List.drop_eq_getElem_cons hl, (List.getElem?_eq_some_iff.1 h).2]
 rw [cutB, if_pos rfl, attach_nil]
 simp [attach]
theorem left_end {bs : List UInt8} (n : List UInt8) : leftP bs bs.length n = n :: leftP bs (bs.length + 1) [] := by
 unfold leftP
 rw [if_pos (Nat.le_refl _), if_neg (by omega), List.drop_length]
 simp [cutB, attach]
theorem byte_at (s : ByteArray) (i : Nat) (hi : i < s.size) : (bytesOf s)[i]? = some (s[i]'hi) := by
 unfold bytesOf
 rw [Array.getElem?_toList]
 exact Array.getElem?_eq_getElem hi
theorem ext1 (s : ByteArray) (i : Nat) (hi : i < s.size) : bytesOf (s.extract i (i + 1)) = [s[i]'hi] := by
 have h := byte_at s i hi
 unfold bytesOf at *
 rw [ByteArray.data_extract, Array.toList_extract, List.extract_eq_take_drop]
 have hl := (List.getElem?_eq_some_iff.1 h).1
 rw [List.drop_eq_getElem_cons hl, (List.getElem?_eq_some_iff.1 h).2]
 simp
theorem bytes_app (a b : ByteArray) : bytesOf (a ++ b) = bytesOf a ++ bytesOf b := by
 unfold bytesOf; simp

theorem s_rd {w : World} {q : Nat} {y : ByteArray} (h : w.heap[q]? = some (.cells #[.string y] 9 (0, 0))) : RdZ 1 strE w (.slice (some ⟨q, 0, none⟩) 1 1) [y] := by
 refine ⟨⟨_, 1, rfl, Nat.le_refl _, by unfold maxLen; decide, fun _ => ⟨q, 0, rfl, (Array.getElem?_eq_some_iff.1 h).1, fun i x j u hi hj => ?_⟩⟩, fun c hc => by cases hc⟩
 have hi0 : i = 0 := by
  have := (List.getElem?_eq_some_iff.1 hi).1
  simp at this; omega
 subst hi0
 simp at hi
 subst hi
 rw [cell_of_row _ _ _ _ _ (0, 0) h]
 simpa [strE] using hj
theorem grownP_below {w0 w w' : World} {B : Nat} {v : Value} (hb : Below B w0 w) (hg : w.grownBy w' v.ownBlock) (hv : ∀ g, v.ownBlock = some g → B ≤ g) (hB : B ≤ w.heap.size) : Below B w0 w' :=
 hb.trans ⟨hg.os, hg.tape, hg.output, hg.size, fun k hk => hg.block k (by omega) (fun e => by have := hv k e.symm; omega)⟩

theorem belP (w : World) (o : Obj) : Below w.heap.size w (w.alloc o) := (Below.refl _ _).alloc (Nat.le_refl _) _

/-- What a split tells. -/
def SplitOut (w w' : World) (s : ByteArray) (e : Ending) : Prop := ∃ u, e = .returned (.tuple #[u, .int .i64 (pathE s)]) ∧ w'.ownsRow w.heap.size 9 1 u (pathL s).length ((pathL s).flatMap strE) ∧ Below w.heap.size w w'

set_option maxHeartbeats 8000000 in
theorem rsplit_any (w : World) (s : ByteArray) (hs : s.size ≤ maxLen) : Calls Tryz.prog 26 #[.string s] w fun e w' => SplitOut w w' s e := by
 unfold maxLen at hs
 by_cases h47 : s.toList = [47]
 ·have hd : s.data.toList = [47] := by rw [← ByteArray.toList_eq]; exact h47
  have hE : pathE s = 0 := by unfold pathE; rw [if_pos hd]
  have hL : pathL s = [] := by unfold pathL; rw [if_pos hE, if_pos hd]
  have h47' : (s.toList == [47]) = true := by rw [h47]; rfl
  unfold SplitOut
  rw [hE, hL]
  go_enter Tryz.func26, Tryz.ntmps26
  go_wp2
  go_ret2
  exact ⟨_, rfl, World.ownsRow_nil _ _ _ _, Below.refl _ _⟩
 have hd : s.data.toList ≠ [47] := by rw [← ByteArray.toList_eq]; exact h47
 have h47' : (s.toList == [47]) = false := by rw [beq_eq_false_iff_ne]; exact h47
 have bad : pathE s ≠ 0 → pathE s = 160 ∧ pathL s = [] := fun h => by
  have := (pathE_or s).resolve_left h
  exact ⟨this, by unfold pathL; rw [if_neg h]⟩
 have HBAD : Hid (pathE s ≠ 0 → pathE s = 160 ∧ pathL s = []) := bad
 clear bad
 have fin : ∀ W, pathE s ≠ 0 → Below w.heap.size w W → SplitOut w W s (.returned (.tuple #[.slice none 0 0, .int .i64 160])) := fun W h hW => by
  obtain ⟨h1, h2⟩ := HBAD.out h
  exact ⟨_, by rw [h1], by rw [h2]; exact World.ownsRow_nil _ _ _ _, hW⟩
 have FIN : Hid _ := fin
 clear fin
 have head : headOk s = false → pathE s ≠ 0 := fun h => by unfold pathE; rw [if_neg hd, if_neg (by rw [h]; simp)]; decide
 have HEAD : Hid (headOk s = false → pathE s ≠ 0) := head
 clear head
 by_cases h2 : (s.size : Int) < 2
 ·have hno : pathE s ≠ 0 := HEAD.out (by unfold headOk; rw [decide_eq_false (by omega)]; rfl)
  go_enter Tryz.func26, Tryz.ntmps26
  go_wp2
  go_ret2
  exact FIN.out _ hno (Below.refl _ _)
 by_cases h64 : (s.size : Int) > 64
 ·have hno : pathE s ≠ 0 := HEAD.out (by unfold headOk; rw [decide_eq_false (show ¬ s.size ≤ 64 by omega), Bool.and_false]; rfl)
  go_enter Tryz.func26, Tryz.ntmps26
  go_wp2
  go_ret2
  exact FIN.out _ hno (Below.refl _ _)
 have h0 : 0 < s.size := by omega
 by_cases hc0 : (s[0]'h0).toNat = 47
 ·have hHead : headOk s = true := by
   unfold headOk
   have := byte_at s 0 h0
   unfold bytesOf at this
   rw [show s.data.toList.head? = some (s[0]'h0) by rw [List.head?_eq_getElem?]; exact this, decide_eq_true (show 2 ≤ s.size by omega), decide_eq_true (show s.size ≤ 64 by omega), show s[0]'h0 = 47 from UInt8.toNat_inj.1 hc0]
   rfl
  have hPE : pathE s = if (pathN s).length ≤ 6 then (if (pathN s).all nameOk = true then 0 else 160) else 160 := by
   unfold pathE; rw [if_neg hd, if_pos hHead]
  have HPE : Hid _ := hPE
  have HPL : Hid (pathE s = 0 → pathL s = pathN s) := fun h => by unfold pathL; rw [if_pos h, if_neg hd]
  obtain ⟨iE, hiE, hz0, hz1, hz2⟩ := info_parts info_str
  have HSZ : Hid ((bytesOf s).length = s.size) := by unfold bytesOf; exact (size_list s).symm
  clear hPE hHead hd HEAD
  have hN64 : s.size ≤ 64 := by omega
  go_enter Tryz.func26, Tryz.ntmps26
  go_wp2
  go_loopg [4, 5, 6] (s.size + 1) (fun kx s4 s5 s6 wr => ∃ (i : Nat) (ao : Option Addr) (no co : Nat) (t : ByteArray), s4 = .slice ao no co ∧ s5 = .string t ∧ s6 = .int .i64 i ∧ 1 ≤ i ∧ i ≤ s.size + 1 ∧ s.size + 1 - i ≤ kx ∧ t.size ≤ i ∧ no ≤ i ∧ Hid (∃ O : List ByteArray, Below w.heap.size w wr ∧ OwnL w.heap.size 9 1 strE wr (.slice ao no co) O ∧ cutB ((bytesOf s).drop 1) = O.map bytesOf ++ leftP (bytesOf s) i (bytesOf t) ∧ O.length = no ∧ ∀ x ∈ O, x.size ≤ 100))
  case atStart =>
   refine ⟨1, none, 0, 0, ⟨#[]⟩, rfl, rfl, rfl, Nat.le_refl _, by omega, by omega, Nat.zero_le _, Nat.zero_le _, [], Below.refl _ _, OwnL.nil _ _ _ _ _, ?_, rfl, (fun x hx => by cases hx)⟩
   show _ = leftP (bytesOf s) 1 []
   unfold leftP
   rw [if_pos (by have := HSZ.out; omega), attach_nil]
  case round =>
   obtain ⟨i, ao, no, co, t, rfl, rfl, rfl, hi1, hiN, hkx, hts, hno, HQ⟩ := hrel
   have hib : (i : Int) + 1 ≤ 1001 := by omega
   by_cases hle : i ≤ s.size
   ·have hleI : (i : Int) ≤ (s.size : Int) := by omega
    obtain ⟨O, hO⟩ := HQ.out
    have HQ' : Hid _ := hO
    have hlen : O.length ≤ 1000 := by have := hO.2.2.2.1; omega
    have hbl := belP wr (.cells #[.string t] 9)
    obtain ⟨w5, hw5⟩ : ∃ w5, wr.alloc (.cells #[.string t] 9) = w5 := ⟨_, rfl⟩
    have hrow : w5.heap[wr.heap.size]? = some (.cells #[.string t] 9 (0, 0)) := by rw [← hw5]; exact heap_alloc_new wr _
    have hr5 : RdZ 1 strE w5 (.slice (some ⟨wr.heap.size, 0, none⟩) 1 1) [t] := s_rd hrow
    rw [hw5] at hbl
    have HO5 := OwnL.below hO.2.1 hbl
    have HW5 : Hid (Below w.heap.size w w5) := hO.1.trans (hbl.mono hO.1.size)
    have HS5 : Hid (w.heap.size ≤ w5.heap.size) := HW5.out.size
    have HLQ : Hid _ := hlen
    clear hO hrow hbl hlen
    by_cases hlt : i < s.size
    ·have hltI : (i : Int) < (s.size : Int) := by omega
     have HB : Hid ((bytesOf s)[i]? = some (s[i]'hlt)) := byte_at s i hlt
     by_cases hc : (s[i]'hlt).toNat = 47
     ·have b47 : (((s[i]'hlt).toNat : Int) == 47) = true := by rw [hc]; rfl
      go_wp2_with (refine wpList_append_E str_len str_one Tryz.underlying61 hiE hz0 hz1 hz2 rfl (by decide) (by decide) rfl _ _ rfl w.heap.size _ _ rfl HO5 _ [t] rfl hr5 (by have := HLQ.out; simp only [List.length_singleton]; omega) HS5.out ?_; rintro v7 w7 ho7 hg7)
      have hb7 : Below w.heap.size w w7 := grownP_below HW5.out hg7 (fun g hg => by
       obtain ⟨_, ⟨e, _⟩ | ⟨g', cap, cur, e, h3, _⟩⟩ := HO5
       ·rw [e] at hg; cases hg
       ·rw [e] at hg; cases hg; exact h3) HW5.out.size
      obtain ⟨a7, c7, e7⟩ := row_slice ho7
      have HO7 : Hid (OwnL w.heap.size 9 1 strE w7 v7 (O ++ [t])) := ho7
      have HB7 : Hid (Below w.heap.size w w7) := hb7
      clear ho7 hg7 hb7 HO5 hr5
      subst e7
      try go_wp2
      go_roundg (s.size + 1 - (i + 1))
      case measure => omega
      case rel =>
       refine ⟨i + 1, a7, _, c7, ⟨#[]⟩, rfl, rfl, by rw [show ((i : Int) + 1) = ((i + 1 : Nat) : Int) by omega], by omega, by omega, by omega, by show 0 ≤ _; omega, by have := HQ'.out.2.2.2.1; simp only [List.length_append, List.length_singleton]; omega, O ++ [t], HB7.out, HO7.out, ?_, rfl, (fun x hx => by
        rcases List.mem_append.1 hx with h | h
        ·exact HQ'.out.2.2.2.2 x h
        ·rw [List.mem_singleton.1 h]; omega)⟩
       rw [List.map_append, List.append_assoc, HQ'.out.2.2.1, left_stroke (by rw [HB.out, show s[i]'hlt = 47 from UInt8.toNat_inj.1 hc])]
       rfl
     ·have b47 : (((s[i]'hlt).toNat : Int) == 47) = false := by rw [beq_eq_false_iff_ne]; omega
      have hts' : t.size ≤ 100 := by omega
      have hexs : (s.extract i (i + 1)).size = 1 := by rw [ByteArray.size_extract]; omega
      clear HO5 hr5 HLQ
      go_wp2
      go_roundg (s.size + 1 - (i + 1))
      case measure => omega
      case rel =>
       refine ⟨i + 1, ao, no, co, t ++ s.extract i (i + 1), rfl, rfl, by rw [show ((i : Int) + 1) = ((i + 1 : Nat) : Int) by omega], by omega, by omega, by omega, by rw [ByteArray.size_append, hexs]; omega, by omega, O, HQ'.out.1, HQ'.out.2.1, ?_, HQ'.out.2.2.2.1, HQ'.out.2.2.2.2⟩
       rw [HQ'.out.2.2.1, left_byte HB.out (fun e => hc (by rw [e]; rfl)), bytes_app, ext1 s i hlt]
    ·have hltI : ¬ (i : Int) < (s.size : Int) := by omega
     go_wp2_with (refine wpList_append_E str_len str_one Tryz.underlying61 hiE hz0 hz1 hz2 rfl (by decide) (by decide) rfl _ _ rfl w.heap.size _ _ rfl HO5 _ [t] rfl hr5 (by have := HLQ.out; simp only [List.length_singleton]; omega) HS5.out ?_; rintro v7 w7 ho7 hg7)
     have hb7 : Below w.heap.size w w7 := grownP_below HW5.out hg7 (fun g hg => by
      obtain ⟨_, ⟨e, _⟩ | ⟨g', cap, cur, e, h3, _⟩⟩ := HO5
      ·rw [e] at hg; cases hg
      ·rw [e] at hg; cases hg; exact h3) HW5.out.size
     obtain ⟨a7, c7, e7⟩ := row_slice ho7
     have HO7 : Hid (OwnL w.heap.size 9 1 strE w7 v7 (O ++ [t])) := ho7
     have HB7 : Hid (Below w.heap.size w w7) := hb7
     clear ho7 hg7 hb7 HO5 hr5
     subst e7
     try go_wp2
     go_roundg (s.size + 1 - (i + 1))
     case measure => omega
     case rel =>
      refine ⟨i + 1, a7, _, c7, ⟨#[]⟩, rfl, rfl, by rw [show ((i : Int) + 1) = ((i + 1 : Nat) : Int) by omega], by omega, by omega, by omega, by show 0 ≤ _; omega, by have := HQ'.out.2.2.2.1; simp only [List.length_append, List.length_singleton]; omega, O ++ [t], HB7.out, HO7.out, ?_, rfl, (fun x hx => by
       rcases List.mem_append.1 hx with h | h
       ·exact HQ'.out.2.2.2.2 x h
       ·rw [List.mem_singleton.1 h]; omega)⟩
      have hiN' : i = (bytesOf s).length := by have := HSZ.out; omega
      rw [List.map_append, List.append_assoc, HQ'.out.2.2.1, hiN', left_end]
      rfl
   ·have hleI : ¬ (i : Int) ≤ (s.size : Int) := by omega
    obtain ⟨O, hO⟩ := HQ.out
    have hcut : pathN s = O := by
     unfold pathN
     have h1 := hO.2.2.1
     unfold leftP at h1
     rw [if_neg (by have := HSZ.out; omega), List.append_nil] at h1
     unfold bytesOf at h1
     rw [h1, map_to]
    have HO : Hid (Below w.heap.size w wr ∧ OwnL w.heap.size 9 1 strE wr (.slice ao no co) O ∧ O.length = no ∧ (∀ x ∈ O, x.size ≤ 100) ∧ pathN s = O) := ⟨hO.1, hO.2.1, hO.2.2.2.1, hO.2.2.2.2, hcut⟩
    clear hO HQ hcut
    by_cases h6 : no > 6
    ·have h6I : (no : Int) > 6 := by omega
     have hno' : pathE s ≠ 0 := by rw [HPE.out, HO.out.2.2.2.2, if_neg (by have := HO.out.2.2.1; omega)]; decide
     go_wp2
     go_ret2
     exact FIN.out _ hno' HO.out.1
    ·have h6I : ¬ (no : Int) > 6 := by omega
     have hn6 : no ≤ 6 := by omega
     go_wp2
     go_loopg [56] no (fun ky s56 wq => ∃ k : Nat, s56 = .int .i64 k ∧ k ≤ no ∧ no - k ≤ ky ∧ Hid (wr = wq ∧ (O.take k).all nameOk = true))
     case atStart => exact ⟨0, rfl, Nat.zero_le _, by omega, rfl, rfl⟩
     case round =>
      obtain ⟨k, rfl, hkn, hky, HK⟩ := hrel
      have hwq := HK.out.1
      subst hwq
      by_cases hkl : k < no
      ·obtain ⟨x, hx⟩ : ∃ x, O[k]? = some x := ⟨_, List.getElem?_eq_getElem (by have := HO.out; omega)⟩
       have HX : Hid (O[k]? = some x) := hx
       obtain ⟨b0, o0, e0, d0⟩ := s_cell (a := ao) (n := no) (cap := co) (rdZ_own str_len HO.out.2.1) hx
       subst e0
       have hkI : (k : Int) < (no : Int) := by omega
       have hkb : (k : Int) + 1 ≤ 1001 := by omega
       have hck := refName_any wr x (by have := HO.out.2.2.2.1 x (List.mem_of_getElem? hx); unfold maxLen; omega)
       clear hx
       cases hq : nameOk x with
       | false =>
        rw [nameE_30 hq] at hck
        have hno' : pathE s ≠ 0 := by
         rw [HPE.out, HO.out.2.2.2.2, if_pos (by have := HO.out.2.2.1; omega), if_neg (by
          intro e
          have := List.all_eq_true.1 e x (List.mem_of_getElem? HX.out)
          rw [hq] at this; cases this)]
         decide
        go_wp2_with fail
        refine hck.mono ?_
        rintro e w6 ⟨rfl, rfl⟩
        go_wp2
        go_ret2
        exact FIN.out _ hno' HO.out.1
       | true =>
        rw [nameE_0 hq] at hck
        go_wp2_with fail
        refine hck.mono ?_
        rintro e w6 ⟨rfl, rfl⟩
        clear hck
        go_wp2
        go_roundg (no - (k + 1))
        case measure => omega
        case rel => exact ⟨k + 1, by rw [show ((k : Int) + 1) = ((k + 1 : Nat) : Int) by omega], by omega, by omega, rfl, all_next HX.out hq HK.out.2⟩
      ·obtain rfl : no = k := by omega
       have hall : O.all nameOk = true := by
        have h0 := HK.out.2
        rw [List.take_of_length_le (by have := HO.out; omega)] at h0
        exact h0
       have hE0 : pathE s = 0 := by rw [HPE.out, HO.out.2.2.2.2, if_pos (by have := HO.out.2.2.1; omega), if_pos hall]
       have HE0 : Hid (pathE s = 0) := hE0
       clear hE0
       go_wp2
       go_ret2
       refine ⟨.slice ao no co, by rw [HE0.out]; rfl, ?_, HO.out.1⟩
       rw [HPL.out HE0.out, HO.out.2.2.2.2]
       exact HO.out.2.1
 ·have hno : pathE s ≠ 0 := HEAD.out (by
   unfold headOk
   have := byte_at s 0 h0
   unfold bytesOf at this
   rw [show s.data.toList.head? = some (s[0]'h0) by rw [List.head?_eq_getElem?]; exact this]
   have hne : ((some (s[0]'h0)) == some (47 : UInt8)) = false := by
    rw [beq_eq_false_iff_ne]
    intro e
    simp only [Option.some.injEq] at e
    rw [e] at hc0
    exact hc0 rfl
   rw [hne, Bool.and_false])
  have b47 : (((s[0]'h0).toNat : Int) == 47) = false := by rw [beq_eq_false_iff_ne]; omega
  go_enter Tryz.func26, Tryz.ntmps26
  go_wp2
  go_ret2
  exact FIN.out _ hno (Below.refl _ _)

set_option maxRecDepth 100000

/-- A row of names in a block that lies at or above B. -/
def FrR (B : Nat) (w : World) (a : Option Addr) (n c : Nat) (l : List ByteArray) : Prop :=
 RdZ 1 strE w (.slice a n c) l ∧ (0 < n → ∃ g o cs, a = some ⟨g, o, none⟩ ∧ B ≤ g ∧ w.heap[g]? = some (.cells cs 9 (0, 0)) ∧ o + n ≤ cs.size)
theorem FrR.of_own {B : Nat} {w : World} {a : Option Addr} {n c : Nat} {l : List ByteArray} (h : w.ownsRow B 9 1 (.slice a n c) l.length (l.flatMap strE)) : FrR B w a n c l := by
 refine ⟨rdZ_own str_len h, fun hn => ?_⟩
 obtain ⟨_, ⟨e, _⟩ | ⟨g, cap, cur, e, h1, h2, h3, _, h5, _⟩⟩ := h
 ·cases e; omega
 ·simp only [Value.slice.injEq] at e
  obtain ⟨rfl, rfl, rfl⟩ := e
  exact ⟨g, 0, cur, rfl, h1, h2, by omega⟩
theorem FrR.nil (B : Nat) (w : World) : FrR B w none 0 0 [] := ⟨RdZ.nil _ _ _, fun h => by omega⟩
theorem FrR.below {B : Nat} {w w' : World} {a : Option Addr} {n c : Nat} {l : List ByteArray} (h : FrR B w a n c l) (hb : Below w.heap.size w w') : FrR B w' a n c l := by
 refine ⟨h.1.below hb, fun hn => ?_⟩
 obtain ⟨g, o, cs, h1, h2, h3, h4⟩ := h.2 hn
 exact ⟨g, o, cs, h1, h2, (hb.block g (Array.getElem?_eq_some_iff.1 h3).1).trans h3, h4⟩
theorem FrR.mono {B B' : Nat} {w : World} {a : Option Addr} {n c : Nat} {l : List ByteArray} (h : FrR B w a n c l) (hb : B' ≤ B) : FrR B' w a n c l := ⟨h.1, fun hn => by
 obtain ⟨g, o, cs, h1, h2, h3⟩ := h.2 hn
 exact ⟨g, o, cs, h1, by omega, h3⟩⟩
theorem RdZ.take {α : Type} {k : Nat} {enc : α → List Value} {w : World} {a : Option Addr} {n c : Nat} {l : List α} (h : RdZ k enc w (.slice a n c) l) (m : Nat) (hm : m ≤ n) (hc : a = none → c = 0) : RdZ k enc w (.slice a m c) (l.take m) := by
 obtain ⟨hl, h1, h2⟩ := h.len
 obtain ⟨⟨a', c', e, _, _, h4⟩, h5⟩ := h
 simp only [Value.slice.injEq] at e
 obtain ⟨rfl, _, rfl⟩ := e
 have hdl : (l.take m).length = m := by simp; omega
 refine ⟨⟨_, c, by rw [hdl], by rw [hdl]; omega, h2, fun hne => ?_⟩, fun c' hv => ?_⟩
 ·obtain ⟨b, off, e', hlt, hcell⟩ := h4 (by intro e; subst e; simp at hne)
  refine ⟨b, off, e', hlt, fun t x j u hx hj => ?_⟩
  rw [List.getElem?_take] at hx
  by_cases ht : t < m
  ·rw [if_pos ht] at hx; exact hcell t x j u hx hj
  ·rw [if_neg ht] at hx; cases hx
 ·simp only [Value.slice.injEq] at hv
  obtain ⟨rfl, _, rfl⟩ := hv
  exact hc rfl

/-- What the program's Split tells. -/
def SpOut (w w' : World) (s : ByteArray) (e : Ending) : Prop := ∃ a n c, e = .returned (.tuple #[.slice a n c, .int .i64 (pathE s)]) ∧ FrR w.heap.size w' a n c (pathL s) ∧ Below w.heap.size w w'
def ParOut (w w' : World) (s : ByteArray) (e : Ending) : Prop := ∃ a n c, e = .returned (.tuple #[.slice a n c, .string (parN s), .int .i64 (parE s)]) ∧ FrR w.heap.size w' a n c (parL s) ∧ Below w.heap.size w w'
theorem par_bad {w w' : World} {s : ByteArray} (h : ¬ (pathE s = 0 ∧ pathL s ≠ [])) (hb : Below w.heap.size w w') : ParOut w w' s (.returned (.tuple #[.slice none 0 0, .string ⟨#[]⟩, .int .i64 160])) := by
 have e : parE s = 160 := by unfold parE; rw [if_neg h]
 have e0 : ¬ (160 : Int) = 0 := by decide
 refine ⟨none, 0, 0, ?_, ?_, hb⟩
 ·unfold parN; rw [e, if_neg e0]
 ·unfold parL; rw [e, if_neg e0]; exact FrR.nil _ _
theorem par_good {w w' : World} {s : ByteArray} {g o n c : Nat} {cs : Array Value} {x : ByteArray} (hE : pathE s = 0) (h : RdZ 1 strE w' (.slice (some ⟨g, o, none⟩) (n + 1) c) (pathL s)) (hx : (pathL s)[n]? = some x) (hg : w.heap.size ≤ g) (hc : w'.heap[g]? = some (.cells cs 9 (0, 0))) (hcs : o + (n + 1) ≤ cs.size) (hb : Below w.heap.size w w') :
  ParOut w w' s (.returned (.tuple #[.slice (some ⟨g, o, none⟩) n c, .string x, .int .i64 0])) := by
 have hl := h.len.1
 have e : parE s = 0 := by unfold parE; rw [if_pos ⟨hE, fun e => by rw [e] at hl; simp at hl⟩]
 have eL : parL s = (pathL s).take n := by
  unfold parL; rw [if_pos e, List.dropLast_eq_take, hl]; rfl
 have eN : parN s = x := by
  unfold parN; rw [if_pos e, List.getLast?_eq_getElem?, hl]
  show ((pathL s)[n]?).getD _ = x
  rw [hx]; rfl
 refine ⟨some ⟨g, o, none⟩, n, c, by rw [e, eN], ⟨?_, fun _ => ⟨g, o, cs, rfl, hg, hc, by omega⟩⟩, hb⟩
 rw [eL]
 exact RdZ.take h n (by omega) (fun e => by cases e)

theorem par_goes {w w1 w' : World} {s : ByteArray} {g o n c : Nat} {x : ByteArray} (hE : pathE s = 0) (hf : FrR w.heap.size w1 (some ⟨g, o, none⟩) (n + 1) c (pathL s)) (hx : (pathL s)[n]? = some x) (hb : Below w.heap.size w w1) (hq : Below w1.heap.size w1 w') :
  ParOut w w' s (.returned (.tuple #[.slice (some ⟨g, o, none⟩) n c, .string x, .int .i64 0])) := by
 have hf' := hf.below hq
 obtain ⟨g', o', cs, e, h1, h2, h3⟩ := hf'.2 (by omega)
 cases e
 exact par_good hE hf'.1 hx h1 h2 h3 (hb.trans (hq.mono hb.size))

end Go.Proofs.YtiplhhaehbjghaaGreat
